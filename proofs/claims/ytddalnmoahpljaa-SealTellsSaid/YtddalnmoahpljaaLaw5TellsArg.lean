/- SealTells and what its arguments are. -/
import Derived.Test.YtddalnmoahpljaaLaw5Tells
import Derived.Test.YtddalnmoahpljaaRecArg

