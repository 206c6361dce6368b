/- SealTorn and what its arguments are. -/
import Derived.Test.YtddalnmoahpljaaLaw5Torn
import Derived.Test.YtddalnmoahpljaaRecArg

