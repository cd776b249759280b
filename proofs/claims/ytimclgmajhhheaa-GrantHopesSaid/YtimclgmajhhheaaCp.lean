import Derived.Test.YtimclgmajhhheaaIn
namespace Go.Proofs.Ytimclgmajhhheaa.Ac
open Go Go.RowKit
set_option linter.unusedVariables false
set_option linter.unusedSimpArgs false
theorem row_set {base n size : Nat} {t : TypeId} {g c : Nat} {xs : List Value} {w : World} (h : w.ownsRow base t size (.slice (some ⟨g, 0, none⟩) n c) n xs) (z : Nat) (u : Value) : (w.setCell ⟨g, z, none⟩ u).ownsRow base t size (.slice (some ⟨g, 0, none⟩) n c) n (xs.set z u) := by
  obtain ⟨hl, ⟨e, _⟩ | ⟨g', cap, cur, e, hgb, hh, h1, h2, h3, h4⟩⟩ := h
  · cases e
  · injection e with e1 _ e2
    injection e1 with e1; injection e1 with e1
    subst e1 e2
    refine ⟨by simpa using hl, .inr ⟨g, c, _, rfl, hgb, Box.put hh z u, h1, h2, by simpa using h3, ?_⟩⟩
    rw [← h4]
    simp [List.take_set]
theorem own_row0 (w : World) : (w.alloc (.cells #[] 55)).ownsRow w.heap.size 55 5 (.slice (some ⟨w.heap.size, 0, none⟩) 0 0) 0 [] :=
  World.ownsRow_made w #[] 0 (Nat.le_refl _) (Nat.zero_le _) (by simp)
theorem as_news {w : World} {a : Addr} {L : List A5} (hr : As w (some a) L) (j : Nat) (u : Value) (hu : (acs L)[j]? = some u) : w.cell? (a.add j) = some u := by
  have hj : j < L.length * 5 := by
    rcases Nat.lt_or_ge j (L.length * 5) with h | h
    · exact h
    · rw [List.getElem?_eq_none (by rw [acs_length]; exact h)] at hu; cases hu
  obtain ⟨b, off, e, hb, hc⟩ := hr (by rintro rfl; simp at hj)
  injection e with e
  subst e
  have c := hc (j / 5) (by omega) (j % 5) (by omega)
  have t := acs_at (L := L) (k := j / 5) (by omega) (j % 5) (by omega)
  have ej : j / 5 * 5 + j % 5 = j := by omega
  have hadd : (⟨b, off, none⟩ : Addr).add j = ⟨b, off + j, none⟩ := by unfold Addr.add; split <;> simp_all
  rw [ej] at t
  rw [Nat.add_assoc, ej] at c
  rw [hadd, c, ← t]
  exact hu
/-- what a call that answers accounts leaves -/
def LR (L : List A5) (B : Nat) (e : Ending) (w' w : World) : Prop := ∃ A c, e = .returned (.slice A L.length c) ∧ OwA B w' (.slice A L.length c) L ∧ Below B w w'
set_option maxHeartbeats 2000000 in
theorem clone_any (A : Option Addr) (L : List A5) (cp : Nat) (w : World) (hr : As w A L) (hn : L.length ≤ 1000) (h1 : 1 ≤ L.length) :
    Calls Try.prog 79 #[.slice A L.length cp] w fun e w' => LR L w.heap.size e w' w := by
  obtain ⟨b, off, hA, _⟩ := hr (by rintro rfl; simp at h1)
  subst hA
  obtain ⟨i0, hi0, hz0, hz1, hz2⟩ := info_parts info55
  have HR := hide (hr.below (bal (brefl _) (.cells #[] 55)))
  clear hr
  unfold LR
  have q22 : ∀ (w : World) (a : Option Addr) (n c n' c' : Nat), (binOp .eql 35 (.slice a n c) (.slice none n' c')).run Try.prog w = .ok (.bool a.isNone) w := fun w a n c n' c' => Lib.run_eql_slice_nil w _ _ a n c n' c' Try.underlying35
  go_enter Try.func79, Try.ntmps79
  go_wp2_with (at_builtin; refine wpList_append_own _ rfl (.tmp 5) (.tmp 6) _ rfl w.heap.size 55 i0 _ 5 40 Try.underlying35 hi0 hz0 hz1 hz2 rfl (by omega) (.slice (some ⟨w.heap.size, 0, none⟩) 0 0) 0 [] rfl (own_row0 w) ⟨b, off, none⟩ L.length cp (acs L) rfl (acs_length L) (fun j u hu => as_news HR.out j u hu) (acs_one _) (by simp only [maxLen]; omega) (by omega) (by simp) ?_; intro v1 w1 hown1 hg1 hat1; obtain ⟨A1, n1, rfl, _⟩ := row_form hown1; have HB := hide (show Below w.heap.size w w1 from (bal (brefl w) _).trans (below_grown (B := 0) (own_row0 w) hg1 (by simp))); have HM := hide hown1; clear hown1 hg1 hat1)
  go_wp2
  go_ret
  rw [Nat.zero_add, List.nil_append] at HM
  exact ⟨A1, n1, rfl, HM.out, HB.out⟩
theorem take_snoc (L : List A5) {k : Nat} (h : k < L.length) : L.take (k + 1) = L.take k ++ [aAt L k] := by
  rw [List.take_succ_eq_append_getElem h, aAt_get h]
theorem cell5_new (w : World) (a : A5) : ∀ j u, (acC a)[j]? = some u → (w.alloc (.cells #[ic a.pa, ic a.us, ic a.mn, ic a.lo, ic a.mx] 55)).cell? ((⟨w.heap.size, 0, none⟩ : Addr).add j) = some u := by
  intro j u hu
  have hj : j < 5 := by
    rcases Nat.lt_or_ge j 5 with h | h
    · exact h
    · rw [List.getElem?_eq_none (by simpa [acC] using h)] at hu; cases hu
  have hadd : (⟨w.heap.size, 0, none⟩ : Addr).add j = ⟨w.heap.size, j, none⟩ := by unfold Addr.add; split <;> simp_all
  rw [hadd, Box.cell (Box.new w 55 #[ic a.pa, ic a.us, ic a.mn, ic a.lo, ic a.mx]) j, ← hu]
  rcases (show j = 0 ∨ j = 1 ∨ j = 2 ∨ j = 3 ∨ j = 4 by omega) with rfl | rfl | rfl | rfl | rfl <;> rfl
set_option maxRecDepth 100000 in
set_option maxHeartbeats 4000000 in
theorem copy_any (A : Option Addr) (L : List A5) (cp : Nat) (w : World) (hr : As w A L) (hn : L.length ≤ 1000) :
    Calls Try.prog 81 #[.slice A L.length cp] w fun e w' => LR L w.heap.size e w' w := by
  obtain ⟨i0, hi0, hz0, hz1, hz2⟩ := info_parts info55
  have HR := hide hr
  obtain ⟨B, hB⟩ : ∃ B, B = w.heap.size := ⟨_, rfl⟩
  rw [← hB]
  have HB := hide hB
  have K := hide (show Below B w w by rw [hB]; exact brefl w)
  clear hr hB
  unfold LR
  go_enter Try.func81, Try.ntmps81
  go_wp2
  go_loopw [3, 4] (fun a b wr => ∃ k : Nat, k ≤ L.length ∧ b = .int .i64 k ∧ Hid (OwA B wr a (L.take k)) ∧ Hid (Below B w wr)) (fun a b _ => L.length - (intOf b).toNat)
  case atStart => exact ⟨0, by omega, rfl, hide (by rw [List.take_zero]; exact owa_nil _ _), K⟩
  case round =>
    clear K
    obtain ⟨k, hk, rfl, O, K⟩ := hrel
    obtain ⟨A1, cap1, ev, hcp1⟩ := row_form O.out
    subst ev
    clear hcp1
    by_cases hlt : k < L.length
    · have hl2 : (k : Int) < (L.length : Int) := by omega
      have hk0 : (0 : Int) ≤ (k : Int) := by omega
      obtain ⟨b, off, rfl, hbl, y0, y1, y2, y3, y4⟩ := HR.out.cells (show Below w.heap.size w wr by rw [← HB.out]; exact K.out) hlt
      have EH := hide (take_snoc L hlt)
      unfold pa at y0; unfold us at y1; unfold mn at y2; unfold lo at y3; unfold mx at y4
      have hlk : (L.take k).length = k := by rw [List.length_take]; omega
      have hlk1 : (L.take (k + 1)).length = k + 1 := by rw [List.length_take]; omega
      have HLK1 := hide hlk1
      unfold OwA at O
      rw [hlk] at O ⊢
      generalize aAt L k = a at *
      obtain ⟨p, u, m, l, x⟩ := a
      simp only at y0 y1 y2 y3 y4
      have M := bal (brefl wr) (.cells #[.int .i64 p, .int .i64 u, .int .i64 m, .int .i64 l, .int .i64 x] 55)
      have OA := hide (row_below O.out M)
      have NB := hide (cell5_new wr ⟨p, u, m, l, x⟩)
      unfold acC ic at NB
      simp only at NB
      have SA0 : B ≤ wr.heap.size := by have := K.out.size; rw [HB.out]; exact (HB.out ▸ this)
      have SA := hide (show B ≤ (wr.alloc (.cells #[.int .i64 p, .int .i64 u, .int .i64 m, .int .i64 l, .int .i64 x] 55)).heap.size by rw [alloc_size']; omega)
      have KA := hide (K.out.trans (M.mono SA0))
      have HK := hide hlk
      clear M O K SA0 hlk hlk1
      go_upto_region 4 with (at_builtin; refine wpList_append_own_at _ rfl (.tmp 11) (.tmp 16) 35 rfl B 55 i0 _ 5 40 Try.underlying35 hi0 hz0 hz1 hz2 rfl (by omega) (.slice A1 k cap1) k (acs (L.take k)) rfl OA.out ⟨wr.heap.size, 0, none⟩ 1 1 [.int .i64 p, .int .i64 u, .int .i64 m, .int .i64 l, .int .i64 x] rfl rfl NB.out (by intro u hu; simp only [List.mem_cons, List.not_mem_nil, or_false] at hu; rcases hu with rfl | rfl | rfl | rfl | rfl <;> rfl) (by simp only [maxLen]; omega) (by omega) SA.out ?_; intro v4 w4 hown4 hg4 _ hat4; obtain ⟨A4, cp4, ev4, _⟩ := row_form hown4; subst ev4)
      have O := hide (show OwA B w4 (.slice A4 (k + 1) cp4) (L.take (k + 1)) by
        unfold OwA
        rw [HLK1.out, EH.out, acs_append]
        exact hown4)
      have B4 := below_grown (B := 0) OA.out hg4 SA.out
      have K := hide (KA.out.trans B4)
      clear B4 hown4 hg4 hat4 OA NB SA KA y0 y1 y2 y3 y4 EH
      go_wp2
      go_roundw
      case rel => exact ⟨k + 1, by omega, by go_num, O, K⟩
      case measure => simp [intOf]; omega
    · obtain rfl : k = L.length := by omega
      rw [List.take_length] at O ⊢
      go_wp2
      go_ret
      exact ⟨A1, cap1, rfl, O.out, K.out⟩
-- WHAT IS ADDED ON A PATH
/-- n is added to the usages of the accounts Q -/
def adQ (L : List A5) (n : Int) (Q : Is) : List A5 := (List.range L.length).map fun k => ⟨pa L k, us L k + n * (if (k : Int) ∈ Q then 1 else 0), mn L k, lo L k, mx L k⟩
theorem adQ_path (L : List A5) (n a : Int) : adQ L n (pth L a) = adL L a n := rfl
theorem adQ_len (L : List A5) (n : Int) (Q : Is) : (adQ L n Q).length = L.length := by unfold adQ; simp
theorem adQ_at {L : List A5} {n : Int} {Q : Is} {k : Nat} (h : k < L.length) : aAt (adQ L n Q) k = ⟨pa L k, us L k + n * (if (k : Int) ∈ Q then 1 else 0), mn L k, lo L k, mx L k⟩ := by
  unfold aAt adQ
  rw [List.getD_eq_getElem?_getD, List.getElem?_map, List.getElem?_range h]
  rfl
theorem ext5 {L M : List A5} (hl : L.length = M.length) (h : ∀ k, k < L.length → aAt L k = aAt M k) : L = M :=
  List.ext_getElem hl fun i h1 h2 => by rw [← aAt_get h1, ← aAt_get h2]; exact h i h1
theorem adQ_nil (L : List A5) (n : Int) : adQ L n [] = L := ext5 (adQ_len _ _ _) fun k hk => by
  rw [adQ_len] at hk
  rw [adQ_at hk, if_neg (by simp), Int.mul_zero, Int.add_zero]
  rfl
/-- the usage of account k is set -/
def suL (M : List A5) (k : Nat) (z : Int) : List A5 := M.set k ⟨pa M k, z, mn M k, lo M k, mx M k⟩
theorem acs_su : ∀ (M : List A5) (k : Nat) (z : Int), k < M.length → acs (suL M k z) = (acs M).set (k * 5 + 1) (ic z)
  | a :: l, 0, z, _ => rfl
  | a :: l, k + 1, z, h => by
    have ih := acs_su l k z (by simpa using h)
    have e : suL (a :: l) (k + 1) z = a :: suL l k z := rfl
    rw [e, show (k + 1) * 5 + 1 = (k * 5 + 1) + 5 by omega]
    simp only [acs, List.set_cons_succ, ih]
theorem adQ_snoc {L : List A5} {n : Int} {Q : Is} {x : Nat} (hx : x < L.length) (hq : (x : Int) ∉ Q) : adQ L n (Q ++ [(x : Int)]) = suL (adQ L n Q) x (us L x + n) := by
  refine ext5 (by unfold suL; rw [List.length_set, adQ_len, adQ_len]) fun k hk => ?_
  rw [adQ_len] at hk
  rw [adQ_at hk]
  unfold suL
  have e : aAt ((adQ L n Q).set x ⟨pa (adQ L n Q) x, us L x + n, mn (adQ L n Q) x, lo (adQ L n Q) x, mx (adQ L n Q) x⟩) k = if k = x then ⟨pa L x, us L x + n, mn L x, lo L x, mx L x⟩ else aAt (adQ L n Q) k := by
    have e1 : pa (adQ L n Q) x = pa L x := by unfold pa; rw [adQ_at hx]; rfl
    have e2 : mn (adQ L n Q) x = mn L x := by unfold mn; rw [adQ_at hx]; rfl
    have e3 : lo (adQ L n Q) x = lo L x := by unfold lo; rw [adQ_at hx]; rfl
    have e4 : mx (adQ L n Q) x = mx L x := by unfold mx; rw [adQ_at hx]; rfl
    rw [e1, e2, e3, e4]
    unfold aAt
    rw [List.getD_eq_getElem?_getD, List.getElem?_set]
    by_cases c : x = k
    · subst c
      rw [if_pos rfl, if_pos rfl, if_pos (by rw [adQ_len]; exact hx)]; rfl
    · rw [if_neg c, if_neg (fun h => c h.symm)]; rfl
  rw [e]
  by_cases c : k = x
  · subst c
    rw [if_pos rfl, if_pos (by simp), Int.mul_one]
  · rw [if_neg c, adQ_at hk]
    have hc : ¬ (k : Int) = (x : Int) := by omega
    simp [hc]
theorem OwA.su {B c g n : Nat} {w : World} {M : List A5} (h : OwA B w (.slice (some ⟨g, 0, none⟩) n c) M) {k : Nat} (hk : k < M.length) (z : Int) (hn : n = M.length) : OwA B (w.setCell ⟨g, k * 5 + 1, none⟩ (.int .i64 z)) (.slice (some ⟨g, 0, none⟩) n c) (suL M k z) := by
  subst hn
  have e : (suL M k z).length = M.length := by unfold suL; rw [List.length_set]
  unfold OwA at h ⊢
  rw [acs_su M k z hk, e]
  exact row_set h (k * 5 + 1) (ic z)
theorem OwA.form {B c : Nat} {w : World} {A : Option Addr} {M : List A5} (h : OwA B w (.slice A M.length c) M) (h1 : 1 ≤ M.length) : ∃ g, A = some ⟨g, 0, none⟩ ∧ g < w.heap.size ∧ B ≤ g ∧ (∀ k, k < M.length → ∀ j, j < 5 → w.cell? ⟨g, k * 5 + j, none⟩ = (acC (aAt M k))[j]?) ∧ ∀ j, w.frozen? ⟨g, j, none⟩ = false := by
  obtain ⟨g, e, hg, hb, hc, hf⟩ := row_cell h (by omega)
  refine ⟨g, e, hg, hb, fun k hk j hj => ?_, hf⟩
  rw [← acs_at hk j hj]
  rcases hx : (acs M)[k * 5 + j]? with _ | u
  · exfalso
    rw [List.getElem?_eq_none_iff, acs_length] at hx
    omega
  · exact hc _ _ hx
end Go.Proofs.Ytimclgmajhhheaa.Ac
