/- Layer 15's laws, and what the frames open. -/
import Derived.Test.YtigkomioegkdeaaLaw15Learns
import Derived.Test.YtigkomioegkdeaaLaw15Plays
import Derived.Test.YtigkomioegkdeaaAct3Arg
import Derived.Test.YtigkomioegkdeaaRowsArg
namespace Go.Proofs.Ytigkomioegkdeaa
end Go.Proofs.Ytigkomioegkdeaa

