import Derived.Test.YtiopfeleaifpbabW7
import Derived.Test.YtiopfeleaifpbabAw
import Derived.Laws.CopyOwn
namespace Go.Proofs.Ytiopfeleaifpbab.Bd
open Go Go.RowKit
set_option linter.unusedVariables false
theorem alw_ctx {l : Is} {m : Mk} {o c d : Int} (h : alwP l m o c) (h0 : 0 ≤ c) (hcd : c ≤ d) (h2 : d ≤ 2) : alwP l m o d := by
  obtain ⟨hf, hv, ho, h4, hj⟩ := h
  have hok : okM m := by
    rcases Decidable.em (okM m) with h | h
    · exact h
    · unfold flM at hf; rw [if_neg h] at hf; omega
  have hlo := hok.1.1
  unfold inC at hlo
  have hle : 0 ≤ flM m d ∧ flM m d ≤ flM m c := by
    unfold flM
    rw [if_pos hok, if_pos hok]
    rcases (show c = 0 ∨ c = 1 ∨ c = 2 by omega) with rfl | rfl | rfl <;> rcases (show d = 0 ∨ d = 1 ∨ d = 2 by omega) with rfl | rfl | rfl <;> simp <;> omega
  refine ⟨hle.1, hv, ho, h4, fun j h1 h3 => Int.le_trans ?_ (hj j h1 h3)⟩
  exact Int.ediv_le_ediv (by have := (pw_le (k := j) (by omega)).1; omega) hle.2
theorem abN_mono {l r : Is} (h : ∀ j, j < 5 → l.getD j 0 ≤ r.getD j 0) (o : Nat) : ∀ n, n ≤ 5 → abN l o n ≤ abN r o n
  | 0, _ => Int.le_refl _
  | k + 1, hk => by
    have ih := abN_mono h o k (by omega)
    have e1 : abN l o (k + 1) = abN l o k + if o ≤ k then l.getD k 0 * 2 ^ k else 0 := rfl
    have e2 : abN r o (k + 1) = abN r o k + if o ≤ k then r.getD k 0 * 2 ^ k else 0 := rfl
    have h1 : l.getD k 0 * 2 ^ k ≤ r.getD k 0 * 2 ^ k := Int.mul_le_mul_of_nonneg_right (h k (by omega)) (by have := (pw_le (k := k) (by omega)).1; omega)
    rw [e1, e2]
    split <;> omega
theorem alw_more {l r : Is} {m : Mk} {o c : Int} (h : alwP l m o c) (hr : valL r) (hle : ∀ j, j < 5 → l.getD j 0 ≤ r.getD j 0) : alwP r m o c := by
  obtain ⟨hf, hv, ho, h4, hj⟩ := h
  refine ⟨hf, hr, ho, h4, fun j h1 h3 => ?_⟩
  have h5 := hj j h1 h3
  have h6 := abN_mono hle j 5 (Nat.le_refl _)
  unfold ab at h5 ⊢
  omega
/-- the first five numbers -/
def pd (l : Is) : Is := [l.getD 0 0, l.getD 1 0, l.getD 2 0, l.getD 3 0, l.getD 4 0]
theorem pd_len (l : Is) : (pd l).length = 5 := rfl
theorem pd_at (l : Is) {j : Nat} (h : j < 5) : (pd l).getD j 0 = l.getD j 0 := by
  rcases (show j = 0 ∨ j = 1 ∨ j = 2 ∨ j = 3 ∨ j = 4 by omega) with rfl | rfl | rfl | rfl | rfl <;> rfl
def zrow : List Value := [ic 0, ic 0, ic 0, ic 0, ic 0]
theorem pad_eq : ∀ l : Is, (l.take 5).map ic ++ zrow.drop ((l.take 5).map ic).length = (pd l).map ic
  | [] => rfl
  | [a] => rfl
  | [a, b] => rfl
  | [a, b, c] => rfl
  | [a, b, c, d] => rfl
  | a :: b :: c :: d :: e :: t => by simp [pd, zrow]
/-- a row of numbers in a block of its own -/
def RI (w : World) (g : Nat) (q : Is) : Prop := Box w g 3 (q.map ic).toArray
theorem RI.bi {w : World} {g : Nat} {q : Is} (h : RI w g q) : Bi w (some ⟨g, 0, none⟩) q := fun _ => ⟨g, 0, rfl, h.lt, fun k hk => by
  rw [Nat.zero_add, Box.cell h k]
  simp [List.getElem?_eq_getElem hk, ic]⟩
theorem RI.at_ {w : World} {g : Nat} {q : Is} (h : RI w g q) {k : Nat} (hk : k < q.length) : w.cell? ⟨g, k, none⟩ = some (.int .i64 (q.getD k 0)) := by
  rw [Box.cell h k]
  simp [List.getElem?_eq_getElem hk, ic]
theorem RI.below {w w' : World} {g : Nat} {q : Is} (h : RI w g q) (hb : Below w.heap.size w w') : RI w' g q := Box.below h hb
theorem RI.put {w : World} {g : Nat} {q : Is} (h : RI w g q) (k : Nat) (z : Int) : RI (w.setCell ⟨g, k, none⟩ (.int .i64 z)) g (q.set k z) := by
  have := Box.put h k (.int .i64 z)
  unfold RI
  rw [List.map_set]
  show Box _ g 3 ((List.map ic q).set k (.int .i64 z)).toArray
  simpa using this
theorem valL_pd {l : Is} (h : valL l) : valL (pd l) := fun j h5 _ => by rw [pd_at l h5]; exact h.at_ h5
theorem valL_set {l : Is} (h : valL l) {k : Nat} (hk : k < 5) (hlt : l.getD k 0 < 4096) : valL ((pd l).set k (l.getD k 0 + 1)) ∧ ∀ j, j < 5 → l.getD j 0 ≤ ((pd l).set k (l.getD k 0 + 1)).getD j 0 := by
  have key : ∀ j, j < 5 → ((pd l).set k (l.getD k 0 + 1)).getD j 0 = if j = k then l.getD k 0 + 1 else l.getD j 0 := by
    intro j hj
    rw [List.getD_eq_getElem?_getD, List.getElem?_set]
    by_cases e : k = j
    · subst e
      rw [if_pos rfl, if_pos rfl, if_pos (show k < (pd l).length from hk)]; rfl
    · rw [if_neg e, if_neg (fun x => e x.symm), ← List.getD_eq_getElem?_getD, pd_at l hj]
  constructor
  · intro j h5 _
    rw [key j h5]
    have := h.at_ hk
    have h2 := h.at_ h5
    unfold inC at this h2 ⊢
    split <;> omega
  · intro j hj
    rw [key j hj]
    split
    · rename_i e; subst e; omega
    · exact Int.le_refl _
theorem info3 : (Try.prog.info? 3).map (fun i => (i.zero, i.size, i.bytes)) = some (some (.int .i64 0), 1, 8) := by kernel_rfl
theorem made5 : madeCells #[.int .i64 0] 5 = #[.int .i64 0, .int .i64 0, .int .i64 0, .int .i64 0, .int .i64 0] := by kernel_rfl
theorem make5 (w : World) : (Instr.makeSlice 33 (.int .i64 5) (.int .i64 5)).run Try.prog w = .ok (.slice (some ⟨w.heap.size, 0, none⟩) 5 5) (w.alloc (.cells #[.int .i64 0, .int .i64 0, .int .i64 0, .int .i64 0, .int .i64 0] 3)) := by
  have h := run_make_row' (P := Try.prog) 33 3 (.int .i64 0) 8 Try.underlying33 info3 rfl .i64 .i64 5 (by omega) (by omega) w
  rw [made5] at h
  exact h
theorem size3 : (Try.prog.info? 3).map (·.size) = some 1 := by kernel_rfl
theorem bi_news {w w' : World} {a : Addr} {l : Is} (h : Bi w (some a) l) (hb : Below w.heap.size w w') (n : Nat) : ∀ j u, ((l.take n).map ic)[j]? = some u → w'.cell? (a.add j) = some u := by
  intro j u hu
  rw [List.getElem?_map, List.getElem?_take] at hu
  split at hu
  · rename_i hj
    have hlt : j < l.length := by
      rcases Nat.lt_or_ge j l.length with h1 | h1
      · exact h1
      · rw [List.getElem?_eq_none h1] at hu; cases hu
    obtain ⟨b, off, e, hl, hc⟩ := h (by rintro rfl; simp at hlt)
    injection e with e
    subst e
    have ea : (⟨b, off, none⟩ : Addr).add j = ⟨b, off + j, none⟩ := by unfold Addr.add; by_cases h : j = 0 <;> simp [h]
    rw [ea, hb.cell (p := ⟨b, off + j, none⟩) hl, hc j hlt, ← hu, List.getElem?_eq_getElem hlt, List.getD_eq_getElem?_getD, List.getElem?_eq_getElem hlt]
    rfl
  · cases hu
end Go.Proofs.Ytiopfeleaifpbab.Bd
