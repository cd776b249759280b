import Derived.Test.YtimclgmajhhheaaG16
namespace Go.Proofs.Ytimclgmajhhheaa.Gr
open Go Go.RowKit Ac
set_option linter.unusedVariables false
set_option linter.unusedSimpArgs false
theorem sh_le {a : A4} {L : List A5} {n m : Int} (h1 : stp L (tot a) (pth L a.ac) = -1) (h2 : a.ke ≤ n) (h3 : tot a ≤ m) : (shS a L n m).c ≤ 0 := by
  unfold shS
  rw [if_neg (by omega), if_neg (by omega), if_neg (by omega)]
  show (0 : Int) ≤ 0
  omega
structure Le (A B : List A5) : Prop where
  len : A.length = B.length
  pa : ∀ k, k < A.length → pa A k = pa B k
  mx : ∀ k, k < A.length → mx A k = mx B k
  us : ∀ k, k < A.length → us A k ≤ us B k
theorem stp_le {A B : List A5} (h : Le A B) {t : Int} : ∀ {l : Is}, (∀ x ∈ l, 0 ≤ x ∧ x < A.length) → stp B t l = -1 → stp A t l = -1
  | [], _, _ => rfl
  | x :: l, hx, e => by
    have hx0 := hx x (List.mem_cons_self ..)
    have e2 : (if t > mx B x.toNat - us B x.toNat then x else stp B t l) = -1 := e
    show (if t > mx A x.toNat - us A x.toNat then x else stp A t l) = -1
    have hlt : x.toNat < A.length := by omega
    have u := h.us _ hlt
    have v := h.mx _ hlt
    by_cases c : t > mx B x.toNat - us B x.toNat
    · rw [if_pos c] at e2; omega
    · rw [if_neg c] at e2
      rw [if_neg (by omega)]
      exact stp_le h (fun y hy => hx y (List.mem_cons_of_mem _ hy)) e2
theorem pth_le {A B : List A5} (h : Le A B) (V : Vd B) {a : Int} (ha : a < B.length) : pth A a = pth B a := upF_par V.tr (fun k hk => h.pa k (by rw [h.len]; exact hk)) 9 a ha
theorem le_add {A B : List A5} (h : Le A B) (V : Vd B) {a t : Int} (ha : a < B.length) : Le (adL A a t) (adL B a t) := by
  refine ⟨by rw [adL_len, adL_len, h.len], fun k hk => ?_, fun k hk => ?_, fun k hk => ?_⟩ <;> rw [adL_len] at hk
  · rw [adL_pa hk, adL_pa (by rw [← h.len]; exact hk)]; exact h.pa k hk
  · rw [adL_mx hk, adL_mx (by rw [← h.len]; exact hk)]; exact h.mx k hk
  · rw [adL_us hk, adL_us (by rw [← h.len]; exact hk)]
    have u := h.us k hk
    have e : ip A a k = ip B a k := by unfold ip; rw [pth_le h V ha]
    rw [e]; omega
theorem le_up {A : List A5} {a t : Int} (ht : 0 ≤ t) : Le A (adL A a t) := by
  refine ⟨by rw [adL_len], fun k hk => ?_, fun k hk => ?_, fun k hk => ?_⟩
  · rw [adL_pa hk]
  · rw [adL_mx hk]
  · rw [adL_us hk]
    unfold ip
    split <;> omega
theorem Le.trans {A B C : List A5} (h : Le A B) (g : Le B C) : Le A C :=
  ⟨h.len.trans g.len, fun k hk => (h.pa k hk).trans (g.pa k (by rw [← h.len]; exact hk)), fun k hk => (h.mx k hk).trans (g.mx k (by rw [← h.len]; exact hk)), fun k hk => Int.le_trans (h.us k hk) (g.us k (by rw [← h.len]; exact hk))⟩
theorem tot_nn {a : A4} (ok : okQ a) : 0 ≤ tot a := by
  have i1 := ok.2.2.1
  have i2 := ok.2.2.2
  unfold inr at i1 i2
  unfold tot
  omega
theorem le_sv {Q : List A4} {L : List A5} (ok : aok Q) : ∀ i, i ≤ Q.length → Le L (svL Q L i)
  | 0, _ => ⟨rfl, fun _ _ => rfl, fun _ _ => rfl, fun _ _ => Int.le_refl _⟩
  | i + 1, h => (le_sv ok i (by omega)).trans (le_up (tot_nn (ok i (by omega))))
/-- what is granted is a beginning -/
theorem sv_ge {Q : List A4} {L : List A5} {n m : Int} {k : Nat} (hk : k ≤ Q.length) (g : ∀ j, j < k → gr Q L n m j) : k ≤ svK Q L n m := by
  rcases Nat.lt_or_ge (svK Q L n m) k with h | h
  · exact absurd (g _ h) ((svK_all Q L n m).2.2 (by omega))
  · exact h
theorem more_sup {Q : List A4} {L : List A5} {n m n2 m2 : Int} (h : svE Q L = 0) (hn : n ≤ n2) (hm : m ≤ m2) : svK Q L n m ≤ svK Q L n2 m2 := by
  obtain ⟨g, hle, _⟩ := svK_all Q L n m
  refine sv_ge hle (fun j hj => ?_)
  have i := sk_in (sk_all h j (by omega) (fun i hi => g i (by omega))) ((ckQ_ok (sv_ok h).1).1 j (by omega)) ((sv_ok h).2.2 j (by omega)) (g j hj)
  exact sh_le i.1 (by omega) (by omega)
theorem more_drop {Q : List A4} {L : List A5} {n m : Int} (h : svE Q L = 0) (i : Nat) : ∀ j, i + j ≤ svK Q L n m → Le (svL (Q.drop i) L j) (svL Q L (i + j)) ∧ sumK (Q.drop i) j ≤ sumK Q (i + j) ∧ sumT (Q.drop i) j ≤ sumT Q (i + j) ∧ ∀ j', j' < j → gr (Q.drop i) L n m j'
  | 0, hj => by
    obtain ⟨g, hle, _⟩ := svK_all Q L n m
    have ok := (ckQ_ok (sv_ok h).1).1
    have b := sum_bd ok i (by omega)
    exact ⟨le_sv ok i (by omega), by show (0 : Int) ≤ sumK Q i; omega, by show (0 : Int) ≤ sumT Q i; omega, fun _ h => by omega⟩
  | j + 1, hj => by
    obtain ⟨g, hle, _⟩ := svK_all Q L n m
    obtain ⟨e, a, b, c⟩ := more_drop (n := n) (m := m) h i j (by omega)
    have ok := (ckQ_ok (sv_ok h).1).1 (i + j) (by omega)
    have hac := (sv_ok h).2.2 (i + j) (by omega)
    have S := sk_all (n := n) (m := m) h (i + j) (by omega) (fun x hx => g x (by omega))
    have y := sk_in S ok hac (g _ (by omega))
    have hac2 : (qAt Q (i + j)).ac < (svL Q L (i + j)).length := by rw [S.len]; exact hac
    have ep := pth_le e S.vd hac2
    have eK : sumK Q (i + (j + 1)) = sumK Q (i + j) + (qAt Q (i + j)).ke := rfl
    have eT : sumT Q (i + (j + 1)) = sumT Q (i + j) + tot (qAt Q (i + j)) := rfl
    have eK' : sumK (Q.drop i) (j + 1) = sumK (Q.drop i) j + (qAt (Q.drop i) j).ke := rfl
    have eT' : sumT (Q.drop i) (j + 1) = sumT (Q.drop i) j + tot (qAt (Q.drop i) j) := rfl
    rw [qAt_drop] at eK' eT'
    refine ⟨?_, by omega, by omega, fun j' hj' => ?_⟩
    · show Le (adL (svL (Q.drop i) L j) (qAt (Q.drop i) j).ac (tot (qAt (Q.drop i) j))) (adL (svL Q L (i + j)) (qAt Q (i + j)).ac (tot (qAt Q (i + j))))
      rw [qAt_drop]
      exact le_add e S.vd hac2
    · by_cases ej : j' = j
      · subst ej
        unfold gr svS
        rw [qAt_drop]
        refine sh_le (stp_le e (fun x hx => ?_) ?_) (by omega) (by omega)
        · rw [ep] at hx
          have := pth_ge S.vd ok.2.1 hac2 x hx
          rw [e.len]; exact this
        · rw [ep]; exact y.1
      · exact c j' (by omega)
theorem more_cut {Q : List A4} {L : List A5} {n m : Int} (h : svE Q L = 0) {i : Nat} (hi : i < svK Q L n m) : svK Q L n m - i ≤ svK (Q.drop i) L n m := by
  have d := more_drop (n := n) (m := m) h i (svK Q L n m - i) (by omega)
  have hle := (svK_all Q L n m).2.1
  exact sv_ge (by rw [List.length_drop]; omega) d.2.2.2
end Go.Proofs.Ytimclgmajhhheaa.Gr
