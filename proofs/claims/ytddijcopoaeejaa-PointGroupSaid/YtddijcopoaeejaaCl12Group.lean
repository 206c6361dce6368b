/- The walk of layer 12's law, over the landed package. -/
import Derived.Test.YtddijcopoaeejaaLaw12Group
import Derived.Test.YtddijcopoaeejaaPointE
import Derived.Test.YtddijcopoaeejaaGbyt
namespace Go.Proofs.Ytddijcopoaeejaa
end Go.Proofs.Ytddijcopoaeejaa

