import Derived.Test.YtdpdlbonlpdkjabOwn
import Derived.Test.YtdpdlbonlpdkjabLEdits
import Derived.Test.YtdpdlbonlpdkjabLOperations
import Derived.Laws.Rows
namespace Go.Proofs.Ytdpdlbonlpdkjab.Iv
open Go Go.RowKit
set_option linter.unusedVariables false
/-- A slice of the call's own, from block base on, with cells for n intervals. -/
def Room (base : Nat) (w : World) (A : Option Addr) (n : Nat) : Prop := n ≠ 0 → ∃ (g : Nat) (cur : Array Value), A = some ⟨g, 0, none⟩ ∧ base ≤ g ∧ w.heap[g]? = some (.cells cur 30 (0, 0)) ∧ 2 * n ≤ cur.size
theorem Room.below {B n : Nat} {w w' : World} {A : Option Addr} (h : Room B w A n) (hb : Below w.heap.size w w') : Room B w' A n := fun hn => by
  obtain ⟨g, cur, e, hg, hh, ht⟩ := h hn
  have hlt : g < w.heap.size := by
    rcases Nat.lt_or_ge g w.heap.size with h1 | h1
    · exact h1
    · rw [Array.getElem?_eq_none h1] at hh; cases hh
  exact ⟨g, cur, e, hg, (hb.block g hlt).trans hh, ht⟩
theorem Room.mono {B B' n : Nat} {w : World} {A : Option Addr} (h : Room B w A n) (hB : B' ≤ B) : Room B' w A n := fun hn => by
  obtain ⟨g, cur, e, hg, r⟩ := h hn
  exact ⟨g, cur, e, Nat.le_trans hB hg, r⟩
theorem Room.set {B n : Nat} {w : World} {A : Option Addr} (h : Room B w A n) {b i : Nat} (v : Value) : Room B (w.setCell ⟨b, i, none⟩ v) A n := fun hn => by
  obtain ⟨g, cur, e, hg, hh, ht⟩ := h hn
  by_cases hgb : g = b
  · subst hgb
    exact ⟨g, _, e, hg, heap_setCell_same w g i cur 30 v hh, by simpa using ht⟩
  · exact ⟨g, cur, e, hg, (heap_setCell_other w ⟨b, i, none⟩ g v hgb).trans hh, ht⟩
theorem Room.of_mine {B : Nat} {w : World} {A : Option Addr} {L : IL} (h : MineI B w A L) : Room B w A L.length := fun hn => by
  obtain ⟨g, cur, e, hg, hh, ht⟩ := h (fun e => hn (by rw [e]; rfl))
  refine ⟨g, cur, e, hg, hh, ?_⟩
  have := congrArg List.length ht
  rw [List.length_take, List.length_map, edges_length] at this
  simp at this
  omega
/-- what a call that makes a list leaves -/
def KeepR (w : World) (e : Ending) (w' : World) : Prop := ∃ (A' : Option Addr) (n c' : Nat) (er : Int), e = .returned (.tuple #[.slice A' n c', .int .i64 er]) ∧ n ≤ 2000 ∧ Room w.heap.size w' A' n ∧ Below w.heap.size w w'
theorem keep_ok {spec : Int → Bool} {w : World} {e : Ending} {w' : World} (k : SetOk spec w e w') : KeepR w e w' := by
  obtain ⟨A', c', R, rfl, _, _, hl, hmine, hb⟩ := k
  exact ⟨A', _, c', 0, rfl, hl, Room.of_mine hmine, hb⟩
theorem keep_err {er : Int} {w : World} {e : Ending} {w' : World} (k : SetErr er w e w') : KeepR w e w' := ⟨none, 0, 0, er, k.1, by omega, fun h => absurd rfl h, k.2⟩
theorem union_keep (A B : Option Addr) (L M : IL) (c d : Nat) (W : World) (k1 : Iv W A L) (k2 : Iv W B M) (hn : L.length ≤ 12) (hm : M.length ≤ 12) : Calls Try.prog 17 #[.slice A L.length c, .slice B M.length d] W (KeepR W) := by
  by_cases h : bothI L M = 0
  · obtain ⟨h1, h2⟩ := bothI_ok h
    exact (union_ok A B L M c d W k1 k2 (by omega) (by omega) h1 h2).mono fun e w' k => keep_ok k
  · exact (union_err A B L M c d _ W k1 k2 (by omega) (by omega) rfl h).mono fun e w' k => keep_err k
theorem inter_keep (A B : Option Addr) (L M : IL) (c d : Nat) (W : World) (k1 : Iv W A L) (k2 : Iv W B M) (hn : L.length ≤ 12) (hm : M.length ≤ 12) : Calls Try.prog 18 #[.slice A L.length c, .slice B M.length d] W (KeepR W) := by
  by_cases h : bothI L M = 0
  · obtain ⟨h1, h2⟩ := bothI_ok h
    exact (inter_ok A B L M c d W k1 k2 (by omega) (by omega) h1 h2).mono fun e w' k => keep_ok k
  · exact (inter_err A B L M c d _ W k1 k2 (by omega) (by omega) rfl h).mono fun e w' k => keep_err k
theorem subtract_keep (A B : Option Addr) (L M : IL) (c d : Nat) (W : World) (k1 : Iv W A L) (k2 : Iv W B M) (hn : L.length ≤ 12) (hm : M.length ≤ 12) : Calls Try.prog 19 #[.slice A L.length c, .slice B M.length d] W (KeepR W) := by
  by_cases h : bothI L M = 0
  · obtain ⟨h1, h2⟩ := bothI_ok h
    exact (subtract_ok A B L M c d W k1 k2 (by omega) (by omega) h1 h2).mono fun e w' k => keep_ok k
  · exact (subtract_err A B L M c d _ W k1 k2 (by omega) (by omega) rfl h).mono fun e w' k => keep_err k
theorem add_keep (A : Option Addr) (L : IL) (c : Nat) (f t : Int) (W : World) (k1 : Iv W A L) (hn : L.length ≤ 12) : Calls Try.prog 24 #[.slice A L.length c, .agg #[.int .i64 f, .int .i64 t]] W (KeepR W) := by
  by_cases h : oneE L f t = 0
  · obtain ⟨h1, h2⟩ := oneE_ok h
    exact (add_ok A L c f t W k1 (by omega) h1 h2).mono fun e w' k => keep_ok k
  · exact (add_err A L c f t _ W k1 (by omega) (oneE_no h)).mono fun e w' k => keep_err k
theorem remove_keep (A : Option Addr) (L : IL) (c : Nat) (f t : Int) (W : World) (k1 : Iv W A L) (hn : L.length ≤ 12) : Calls Try.prog 25 #[.slice A L.length c, .agg #[.int .i64 f, .int .i64 t]] W (KeepR W) := by
  by_cases h : oneE L f t = 0
  · obtain ⟨h1, h2⟩ := oneE_ok h
    exact (remove_ok A L c f t W k1 (by omega) h1 h2).mono fun e w' k => keep_ok k
  · exact (remove_err A L c f t _ W k1 (by omega) (oneE_no h)).mono fun e w' k => keep_err k
theorem gaps_keep (A : Option Addr) (L : IL) (c : Nat) (f t : Int) (W : World) (k1 : Iv W A L) (hn : L.length ≤ 12) : Calls Try.prog 28 #[.slice A L.length c, .int .i64 f, .int .i64 t] W (KeepR W) := by
  by_cases h : oneE L f t = 0
  · obtain ⟨h1, h2⟩ := oneE_ok h
    exact (gaps_ok A L c f t W k1 (by omega) h1 h2).mono fun e w' k => keep_ok k
  · exact (gaps_err A L c f t _ W k1 (by omega) (oneE_no h)).mono fun e w' k => keep_err k
end Go.Proofs.Ytdpdlbonlpdkjab.Iv
