/- The walk of layer 13's law, over the landed package. -/
import Derived.Test.YtfejabfmhddepaaLaw13Two
import Derived.Test.YtfejabfmhddepaaMultD
import Derived.Test.YtfejabfmhddepaaGbyt
namespace Go.Proofs.Ytfejabfmhddepaa
end Go.Proofs.Ytfejabfmhddepaa

