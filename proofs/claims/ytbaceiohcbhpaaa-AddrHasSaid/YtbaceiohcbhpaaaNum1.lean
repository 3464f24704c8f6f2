import Derived.Test.YtbaceiohcbhpaaaProg
import Derived.Test.YtbaceiohcbhpaaaKit1
import Derived.Test.YtbaceiohcbhpaaaNumMath
namespace Go.Proofs.Ytbaceiohcbhpaaa
set_option linter.unusedVariables false
set_option linter.unusedSimpArgs false
set_option maxRecDepth 100000
open Go.RowKit

end Go.Proofs.Ytbaceiohcbhpaaa
