/- SealTurns and what its arguments are. -/
import Derived.Test.YtddalnmoahpljaaLaw5Turns
import Derived.Test.YtddalnmoahpljaaRecArg

