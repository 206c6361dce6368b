/- The contract of bootjacklaw2.Few; do, whatever the kind. -/
import Derived.Test.YtmhcogpjgllgjaaLaw2Peek
import Derived.Test.YtmhcogpjgllgjaaActs
namespace Go.Proofs.Ytmhcogpjgllgjaa
open Go.RowKit
set_option linter.unusedVariables false

end Go.Proofs.Ytmhcogpjgllgjaa

