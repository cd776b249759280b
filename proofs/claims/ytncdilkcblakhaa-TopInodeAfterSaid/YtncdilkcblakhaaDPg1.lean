import Derived.Test.YtncdilkcblakhaaDSbM
namespace Go.Proofs.Ytncdilkcblakhaa.Dv
open Go Go.RowKit
set_option linter.unusedVariables false
def pg (z : Int) : By := List.replicate 32 z
end Go.Proofs.Ytncdilkcblakhaa.Dv
