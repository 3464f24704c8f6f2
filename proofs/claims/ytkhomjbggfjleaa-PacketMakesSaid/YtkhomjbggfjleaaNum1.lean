import Derived.Test.YtkhomjbggfjleaaProg
import Derived.Test.YtkhomjbggfjleaaKit1
import Derived.Test.YtkhomjbggfjleaaNumMath
namespace Go.Proofs.Ytkhomjbggfjleaa
set_option linter.unusedVariables false
set_option linter.unusedSimpArgs false
set_option maxRecDepth 100000
open Go.RowKit

end Go.Proofs.Ytkhomjbggfjleaa
