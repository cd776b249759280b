import Derived.Test.YtncdilkcblakhaaDCs1
import Derived.Test.YtncdilkcblakhaaDCt1
import Derived.Test.YtncdilkcblakhaaDRdM
import Derived.Test.YtncdilkcblakhaaDMkM
import Derived.Deep.DeepCutAuto
import Derived.Test.YtncdilkcblakhaaDLo1
namespace Go.Proofs.Ytncdilkcblakhaa.Dv
open Go Go.RowKit
set_option linter.unusedVariables false
theorem RdT.below {w w' : World} {A : Option Addr} {L : List Bool} (h : RdT w A L) (hb : Below w.heap.size w w') : RdT w' A L := fun hn => by
  obtain ⟨b, off, e, hl, hc⟩ := h hn
  exact ⟨b, off, e, Nat.lt_of_lt_of_le hl hb.size, fun k hk => (hb.cell (p := ⟨b, _, none⟩) hl).trans (hc k hk)⟩
theorem los_at1 {ca : List Ca} {qu : List Rq} {k m : Nat} (hk : k < ca.length) : cAt (losK ca qu m) k = cAt ca k := by
  unfold cAt losK
  rw [List.getD_eq_getElem?_getD, List.getD_eq_getElem?_getD, List.getElem?_append_left hk]
theorem q_ok {D : Dev} (h : chk D = 0) {i : Nat} (hi : i < D.qu.length) : reqE D.bl.length (qAt D.qu i).2.1 (qAt D.qu i).2.2.1 (qAt D.qu i).2.2.2.length = 0 := by
  have h5 := firstBad_zero (chk_zero h).2.2.2.2 i hi
  by_cases c : rqE D.bl.length (qAt D.qu i) = 0
  · exact c
  · unfold q1E at h5; rw [if_neg c] at h5; exact absurd h5 c
end Go.Proofs.Ytncdilkcblakhaa.Dv
