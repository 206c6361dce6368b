/- Layer 7's laws over the developers' package press. -/
import Derived.Test.YtbbdiphicckpiaaLaw7Arg
import Derived.Test.YtbbdiphicckpiaaPressC
namespace Go.Proofs.Ytbbdiphicckpiaa
theorem press_all : PressC := pressC
end Go.Proofs.Ytbbdiphicckpiaa

