/- AttrAt and Kind of schemas in the document's package, as contracts. -/
import Derived.Test.YtfjnphiegoogoaaSchC
namespace Go.Proofs.Ytfjnphiegoogoaa
open Go.ChangeShapes Go.WideShapes Go.ChangeAt Go.RowKit
set_option linter.unusedVariables false
set_option linter.unusedSimpArgs false

end Go.Proofs.Ytfjnphiegoogoaa
