/- The laws of layer 10 over the landed packages. -/
import Derived.Test.YtjekeblcppkghaaLaw10Arg
import Derived.Test.YtjekeblcppkghaaFe10
import Derived.Test.YtjekeblcppkghaaGpow2
namespace Go.Proofs.Ytjekeblcppkghaa
end Go.Proofs.Ytjekeblcppkghaa

