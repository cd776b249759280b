import Derived.Test.YtimclgmajhhheaaCp
namespace Go.Proofs.Ytimclgmajhhheaa.Ac
open Go Go.RowKit
set_option linter.unusedVariables false
set_option linter.unusedSimpArgs false
theorem take_snocI (P : Is) {k : Nat} (h : k < P.length) : P.take (k + 1) = P.take k ++ [P.getD k 0] := by
  rw [List.take_succ_eq_append_getElem h, List.getD_eq_getElem?_getD, List.getElem?_eq_getElem h]; rfl
theorem nd_take {P : Is} (h : P.Nodup) {k : Nat} (hk : k < P.length) : P.getD k 0 ∉ P.take k := by
  rw [List.getD_eq_getElem?_getD, List.getElem?_eq_getElem hk]
  intro hm
  obtain ⟨j, hj, e⟩ := List.getElem_of_mem hm
  rw [List.length_take] at hj
  rw [List.getElem_take] at e
  exact (List.pairwise_iff_getElem.1 h j k (by omega) hk (by omega)) e
theorem getD_mem {P : Is} {k : Nat} (hk : k < P.length) : P.getD k 0 ∈ P := mem_at.2 ⟨k, hk, rfl⟩
theorem pth_nd {L : List A5} (V : tr L) (h8 : L.length ≤ 8) : ∀ a : Int, -1 ≤ a → a < L.length → (pth L a).Nodup := by
  refine pth_ind V h8 (P := fun a l => l.Nodup) List.nodup_nil (fun a ha ih => ?_)
  have hp := tr_pa V ha
  exact List.nodup_cons.2 ⟨fun h => by have := pth_mem V h8 _ hp.1 (by omega) _ h; omega, ih⟩
/-- a list of accounts of L, each once -/
structure PIn (L : List A5) (P : Is) : Prop where
  nd : P.Nodup
  mem : ∀ x ∈ P, 0 ≤ x ∧ x < L.length
theorem PIn.pth {L : List A5} (V : Vd L) {a : Int} (h0 : 0 ≤ a) (h1 : a < L.length) : PIn L (pth L a) := ⟨pth_nd V.tr V.len.2 a (by omega) h1, fun x hx => by have := pth_mem V.tr V.len.2 a (by omega) h1 x hx; omega⟩
/-- one account of the row is changed -/
theorem ad_round {L : List A5} {P : Is} {n : Int} (hP : PIn L P) {k m : Nat} (hk : k < P.length) (hm : P.getD k 0 = (m : Int)) : m < L.length ∧ adQ L n (P.take (k + 1)) = suL (adQ L n (P.take k)) m (us L m + n) ∧ us (adQ L n (P.take k)) m = us L m := by
  have h1 := hP.mem _ (getD_mem hk)
  have h2 := nd_take hP.nd hk
  rw [hm] at h1 h2
  have hml : m < L.length := by omega
  refine ⟨hml, by rw [take_snocI P hk, hm, adQ_snoc hml h2], ?_⟩
  unfold us
  rw [adQ_at hml, if_neg h2, Int.mul_zero, Int.add_zero]
  rfl
theorem OwA.kp_set {B c g n n2 : Nat} {w : World} {M : List A5} (h : w.ownsRow B 55 5 (.slice (some ⟨g, 0, none⟩) n c) n2 (acs M)) (i : Nat) (u : Value) : Kp 0 55 w (w.setCell ⟨g, i, none⟩ u) := by
  obtain ⟨hl, ⟨e, _⟩ | ⟨g', cap, cur, e, hgb, hh, _⟩⟩ := h
  · cases e
  · injection e with e1 _ e2
    injection e1 with e1; injection e1 with e1
    subst e1
    exact Kp.boxset (cs := cur) hh (Nat.zero_le _) i u
set_option maxRecDepth 100000 in
set_option maxHeartbeats 4000000 in
theorem add_any (A AP : Option Addr) (cp c2 : Nat) (L : List A5) (P : Is) (n : Int) (w : World) (hr : As w A L) (hp : Bi w AP P) (hP : PIn L P) (h1 : 1 ≤ L.length) (h8 : L.length ≤ 8) (h9 : P.length ≤ 1000)
    (hu : ∀ k, k < L.length → inr (us L k)) (hn0 : -1048576 ≤ n) (hn1 : n ≤ 1048576) :
    Calls Try.prog 111 #[.slice A L.length cp, .slice AP P.length c2, .int .i64 n] w fun e w' => LR (adQ L n P) w.heap.size e w' w := by
  have C := hide (clone_any A L cp w hr (by omega) h1)
  unfold LR at C
  have HP := hide hp
  have HI := hide hP
  have HU := hide hu
  clear hr hp hP hu
  obtain ⟨B, hB⟩ : ∃ B, B = w.heap.size := ⟨_, rfl⟩
  rw [← hB] at C ⊢
  have HB := hide hB
  clear hB
  unfold LR
  rw [adQ_len]
  go_enter Try.func111, Try.ntmps111
  go_wp2_with fail
  refine C.out.mono ?_
  rintro e w1 ⟨A1, c1, rfl, hO, hb⟩
  have K0 := hide hb
  obtain ⟨g, rfl, hg, hBg, _, _⟩ := hO.form h1
  have O0 := hide (show OwA B w1 (.slice (some ⟨g, 0, none⟩) L.length c1) (adQ L n (P.take 0)) by rw [List.take_zero, adQ_nil]; exact hO)
  clear hO hb C hg
  go_wp2
  go_loopw [9, 14] (fun _ b wr => ∃ k : Nat, k ≤ P.length ∧ b = .int .i64 k ∧ Hid (OwA B wr (.slice (some ⟨g, 0, none⟩) L.length c1) (adQ L n (P.take k))) ∧ Hid (Below B w wr)) (fun _ b _ => P.length - (intOf b).toNat)
  case atStart => exact ⟨0, Nat.zero_le _, rfl, O0, K0⟩
  case round =>
    clear O0 K0
    obtain ⟨k, hk, rfl, O, K⟩ := hrel
    by_cases hlt : k < P.length
    · have hl2 : (k : Int) < (P.length : Int) := by omega
      have hk0 : (0 : Int) ≤ (k : Int) := by omega
      obtain ⟨b, off, rfl, hbl, p0⟩ := HP.out.cells (show Below w.heap.size w wr by rw [← HB.out]; exact K.out) hlt
      have hmm := HI.out.mem _ (getD_mem hlt)
      obtain ⟨m, hm⟩ : ∃ m : Nat, P.getD k 0 = (m : Int) := ⟨(P.getD k 0).toNat, by omega⟩
      obtain ⟨hml, HS, hus⟩ := ad_round (n := n) HI.out hlt hm
      have HSS := hide HS
      rw [hm] at p0
      obtain ⟨g', eg, hgl, _, hc, hf⟩ := OwA.form (M := adQ L n (P.take k)) (by rw [adQ_len]; exact O.out) (by rw [adQ_len]; exact h1)
      injection eg with eg
      injection eg with eg
      subst eg
      have y1 : wr.cell? ⟨g, m * 5 + 1, none⟩ = some (.int .i64 (us L m)) := by rw [hc m (by rw [adQ_len]; exact hml) 1 (by omega), ← hus]; rfl
      have f1 := hf (m * 5 + 1)
      have hub := HU.out m hml
      unfold inr at hub
      have hml2 : (m : Int) < (L.length : Int) := by omega
      have hm0 : (0 : Int) ≤ (m : Int) := by omega
      have O2 := hide (O.out.su (show m < (adQ L n (P.take k)).length by rw [adQ_len]; exact hml) (us L m + n) (adQ_len L n _).symm)
      rw [← HSS.out] at O2
      have K2 := hide (K.out.setCell (p := ⟨g, m * 5 + 1, none⟩) hBg (.int .i64 (us L m + n)))
      clear HS HSS hc hf hus hmm hm O K
      generalize us L m = u at *
      go_wp2
      go_roundw
      case rel => exact ⟨k + 1, by omega, by go_num, O2, K2⟩
      case measure => simp [intOf]; omega
    · obtain rfl : k = P.length := by omega
      rw [List.take_length] at O
      go_wp2
      go_ret
      exact ⟨_, _, rfl, O.out, K.out⟩
set_option maxRecDepth 100000 in
set_option maxHeartbeats 8000000 in
theorem radd_any (A : Option Addr) (cp : Nat) (L : List A5) (a n : Int) (w : World) (hr : As w A L) (V : Vd L) (h0 : 0 ≤ a) (ha : a < L.length) (hcp : L.length ≤ cp) (hn0 : -1048576 ≤ n) (hn1 : n ≤ 1048576) :
    Calls Try.prog 112 #[.slice A L.length cp, .int .i64 a, .int .i64 n] w fun e w' => LR (adL L a n) w.heap.size e w' w := by
  have C := hide (copy_any A L cp w hr (by have := V.len.2; omega))
  unfold LR at C
  have PT := hide (fun w' (h : Below w.heap.size w w') => rpath_any A cp L a w' (hr.below h) hcp (by have := V.len.2; omega))
  unfold PR at PT
  rw [pR_ok ⟨chE_0 V, h0, ha⟩] at PT
  have HI := hide (PIn.pth V h0 ha)
  have HU := hide (fun k hk => (V.rg k hk).1.1)
  have h1 := V.len.1
  have h8 := V.len.2
  have h9 := (pth_nlen ⟨chE_0 V, h0, ha⟩).2
  rw [← adQ_path]
  generalize pth L a = P at *
  clear hr V hcp
  unfold LR
  rw [adQ_len]
  obtain ⟨B, hB⟩ : ∃ B, B = w.heap.size := ⟨_, rfl⟩
  rw [← hB] at C ⊢
  have HB := hide hB
  clear hB
  go_enter Try.func112, Try.ntmps112
  go_wp2_with fail
  refine C.out.mono ?_
  rintro e w1 ⟨A1, c1, rfl, hO, hb⟩
  have K0 := hide hb
  obtain ⟨g, rfl, hg, hBg, _, _⟩ := hO.form h1
  have O0 := hide (show OwA B w1 (.slice (some ⟨g, 0, none⟩) L.length c1) (adQ L n (P.take 0)) by rw [List.take_zero, adQ_nil]; exact hO)
  clear hO hb C hg
  go_wp2_with fail
  refine (PT.out _ (by rw [← HB.out]; exact K0.out)).mono ?_
  rintro e w2 ⟨AP, c2, rfl, hOP, hb⟩
  have OP0 := hide hOP
  have K1 := hide (K0.out.trans (hb.mono (show B ≤ w1.heap.size by have := K0.out.size; rw [HB.out]; exact (HB.out ▸ this))))
  replace O0 := hide (row_below O0.out hb)
  clear hb PT hOP K0
  go_wp2
  go_loopw [9] (fun b wr => ∃ k : Nat, k ≤ P.length ∧ b = .int .i64 k ∧ Hid (OwA B wr (.slice (some ⟨g, 0, none⟩) L.length c1) (adQ L n (P.take k))) ∧ Hid (OwI w1.heap.size wr (.slice AP P.length c2) P) ∧ Hid (Below B w wr)) (fun b _ => P.length - (intOf b).toNat)
  case atStart => exact ⟨0, Nat.zero_le _, rfl, O0, OP0, K1⟩
  case round =>
    clear O0 K1 OP0
    obtain ⟨k, hk, rfl, O, OP, K⟩ := hrel
    by_cases hlt : k < P.length
    · have hl2 : (k : Int) < (P.length : Int) := by omega
      have hk0 : (0 : Int) ≤ (k : Int) := by omega
      obtain ⟨b, off, rfl, hbl, p0⟩ := (OwI.bi OP.out).cells (brefl wr) hlt
      have hmm := HI.out.mem _ (getD_mem hlt)
      obtain ⟨m, hm⟩ : ∃ m : Nat, P.getD k 0 = (m : Int) := ⟨(P.getD k 0).toNat, by omega⟩
      obtain ⟨hml, HS, hus⟩ := ad_round (n := n) HI.out hlt hm
      have HSS := hide HS
      rw [hm] at p0
      obtain ⟨g', eg, hgl, _, hc, hf⟩ := OwA.form (M := adQ L n (P.take k)) (by rw [adQ_len]; exact O.out) (by rw [adQ_len]; exact h1)
      injection eg with eg
      injection eg with eg
      subst eg
      have y1 : wr.cell? ⟨g, m * 5 + 1, none⟩ = some (.int .i64 (us L m)) := by rw [hc m (by rw [adQ_len]; exact hml) 1 (by omega), ← hus]; rfl
      have f1 := hf (m * 5 + 1)
      have hub := HU.out m hml
      unfold inr at hub
      have hml2 : (m : Int) < (L.length : Int) := by omega
      have hm0 : (0 : Int) ≤ (m : Int) := by omega
      have O2 := hide (O.out.su (show m < (adQ L n (P.take k)).length by rw [adQ_len]; exact hml) (us L m + n) (adQ_len L n _).symm)
      rw [← HSS.out] at O2
      have K2 := hide (K.out.setCell (p := ⟨g, m * 5 + 1, none⟩) hBg (.int .i64 (us L m + n)))
      have OP2 := hide (row_kp OP.out (OwA.kp_set O.out (m * 5 + 1) (.int .i64 (us L m + n))) (by decide))
      clear HS HSS hc hf hus hmm hm O K OP
      generalize us L m = u at *
      go_wp2
      go_region
      have O3 := hide (show OwA B (wr.setCell ⟨g, m * 5 + 1, none⟩ (.int .i64 (u + n))).drew (.slice (some ⟨g, 0, none⟩) L.length c1) (adQ L n (P.take (k + 1))) from O2.out)
      have K3 := hide (show Below B w (wr.setCell ⟨g, m * 5 + 1, none⟩ (.int .i64 (u + n))).drew from below_drewN K2.out 1)
      have OP3 := hide (show OwI w1.heap.size (wr.setCell ⟨g, m * 5 + 1, none⟩ (.int .i64 (u + n))).drew (.slice (some ⟨b, off, none⟩) P.length c2) P from OP2.out)
      clear O2 K2 OP2 y1 f1 p0
      generalize (wr.setCell ⟨g, m * 5 + 1, none⟩ (.int .i64 (u + n))).drew = w3 at *
      go_wp2
      go_roundw
      case rel => exact ⟨k + 1, by omega, by go_num, O3, OP3, K3⟩
      case measure => simp [intOf]; omega
    · obtain rfl : k = P.length := by omega
      rw [List.take_length] at O
      go_wp2
      go_ret
      exact ⟨_, _, rfl, O.out, K.out⟩
end Go.Proofs.Ytimclgmajhhheaa.Ac
