/- The contract of bootjacklaw2.do at its seventh kind, Peek. Written by wip/tools/mk_peek2.py. -/
import Derived.Test.YtmhcogpjgllgjaaLaw2Do
import Derived.Test.YtmhcogpjgllgjaaGbase
namespace Go.Proofs.Ytmhcogpjgllgjaa
open Go.RowKit
set_option linter.unusedVariables false

end Go.Proofs.Ytmhcogpjgllgjaa

