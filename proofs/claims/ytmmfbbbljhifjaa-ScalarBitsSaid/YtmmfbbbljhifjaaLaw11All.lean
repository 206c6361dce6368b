/- Layer 11: its laws and the landed package's contracts. -/
import Derived.Test.YtmmfbbbljhifjaaLaw11Arg
import Derived.Test.YtmmfbbbljhifjaaScE
namespace Go.Proofs.Ytmmfbbbljhifjaa
end Go.Proofs.Ytmmfbbbljhifjaa

