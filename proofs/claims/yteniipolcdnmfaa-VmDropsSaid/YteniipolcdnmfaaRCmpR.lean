/- What 'compare' answers of two reals in the document's package, and of any two clean values of one kind. -/
import Derived.Test.YteniipolcdnmfaaRCmp
namespace Go.Proofs.Yteniipolcdnmfaa
open Go.ChangeShapes Go.WideShapes Go.ChangeAt Go.RowKit Go.Fl
set_option linter.unusedVariables false
set_option linter.unusedSimpArgs false

end Go.Proofs.Yteniipolcdnmfaa
