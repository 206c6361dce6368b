/- SealBack and what its arguments are. -/
import Derived.Test.YtddalnmoahpljaaLaw5Back
import Derived.Test.YtddalnmoahpljaaRecArg

