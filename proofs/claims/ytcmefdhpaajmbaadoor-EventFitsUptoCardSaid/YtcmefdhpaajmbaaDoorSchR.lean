/- AttrAt and Kind of schemas in the document's package, as contracts. -/
import Derived.Test.YtcmefdhpaajmbaaDoorSchC
namespace Go.Proofs.YtcmefdhpaajmbaaDoor
open Go.ChangeShapes Go.WideShapes Go.ChangeAt Go.RowKit
set_option linter.unusedVariables false
set_option linter.unusedSimpArgs false

end Go.Proofs.YtcmefdhpaajmbaaDoor
