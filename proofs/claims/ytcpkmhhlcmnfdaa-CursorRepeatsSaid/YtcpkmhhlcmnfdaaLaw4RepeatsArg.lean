/- CursorRepeats: what its statement is made of. -/
import Derived.Test.YtcpkmhhlcmnfdaaDevCu4
import Derived.Test.YtcpkmhhlcmnfdaaRowsArg
import Derived.Test.YtcpkmhhlcmnfdaaLaw4Repeats

