import Derived.Test.YtnegigcjeoenmaaLCr
import Derived.Test.YtnegigcjeoenmaaCm3
namespace Go.Proofs.Ytnegigcjeoenmaa.Dv
open Go Go.RowKit
set_option linter.unusedVariables false
theorem putD_mem {L : List Ca} {b : Int} {x : By} : ∀ c ∈ putD L b x, c ∈ L ∨ c = (b, x) := by
  intro c hc
  unfold putD at hc
  by_cases h : hitP L b = true
  · rw [if_pos h] at hc
    rcases List.mem_or_eq_of_mem_set hc with h | h
    · exact .inl h
    · exact .inr h
  · rw [if_neg h] at hc
    rcases List.mem_append.1 hc with h | h
    · exact .inl (List.mem_of_mem_take h)
    · rcases List.mem_cons.1 h with h | h
      · exact .inr h
      · exact .inl (List.mem_of_mem_drop h)
theorem putD_len {L : List Ca} {b : Int} {x : By} : (putD L b x).length ≤ L.length + 1 := by
  unfold putD
  have := caP_le L b
  split
  · rw [List.length_set]; omega
  · rw [List.length_append, List.length_cons, List.length_take, List.length_drop]; omega
theorem flK_all {C : List Ca} {L : List By} {P : By → Prop} (hL : ∀ b ∈ L, P b) (hC : ∀ c ∈ C, P c.2) : ∀ k, k ≤ C.length → ∀ b ∈ flK C L k, P b
  | 0, _ => hL
  | k + 1, hk => by
    unfold flK
    intro b hb
    rcases List.mem_or_eq_of_mem_set hb with h | h
    · exact flK_all hL hC k (by omega) b h
    · rw [h]; exact hC _ (cAt_mem (by omega))
theorem del_mem {L : List Rq} {p : Nat} : ∀ q ∈ L.take p ++ L.drop (p + 1), q ∈ L := by
  intro q hq
  rcases List.mem_append.1 hq with h | h
  · exact List.mem_of_mem_take h
  · exact List.mem_of_mem_drop h
/-- what a completed request leaves is small -/
theorem sm_cm {D : Dev} {p : Nat} {ok : Bool} (hk : chk D = 0) (hp : p < D.qu.length) : (cmD D p ok).bl.length ≤ 1000 ∧ (cmD D p ok).ca.length ≤ 1001 ∧ (cmD D p ok).qu.length ≤ 1000 ∧ (∀ b ∈ (cmD D p ok).bl, b.length ≤ 1000) ∧ (∀ c ∈ (cmD D p ok).ca, c.2.length ≤ 1000) ∧ ∀ q ∈ (cmD D p ok).qu, q.2.2.2.length ≤ 1000 := by
  have S := sm_ok hk
  have hql := S.qb _ (qAt_mem hp)
  have h0 : (D.qu.take p ++ D.qu.drop (p + 1)).length ≤ 1000 := by have := S.qu; rw [List.length_append, List.length_take, List.length_drop]; omega
  have hq : ∀ q ∈ D.qu.take p ++ D.qu.drop (p + 1), q.2.2.2.length ≤ 1000 := fun q hq => S.qb _ (del_mem q hq)
  have hc1 := S.ca
  cases ok with
  | false => exact ⟨S.bl, by show D.ca.length ≤ 1001; omega, h0, S.bb, S.cb, hq⟩
  | true =>
    show (carD (delD D p) (qAt D.qu p)).bl.length ≤ 1000 ∧ (carD (delD D p) (qAt D.qu p)).ca.length ≤ 1001 ∧ (carD (delD D p) (qAt D.qu p)).qu.length ≤ 1000 ∧ (∀ b ∈ (carD (delD D p) (qAt D.qu p)).bl, b.length ≤ 1000) ∧ (∀ c ∈ (carD (delD D p) (qAt D.qu p)).ca, c.2.length ≤ 1000) ∧ ∀ q ∈ (carD (delD D p) (qAt D.qu p)).qu, q.2.2.2.length ≤ 1000
    unfold carD
    split
    · refine ⟨S.bl, ?_, h0, S.bb, ?_, hq⟩
      · have := putD_len (L := D.ca) (b := (qAt D.qu p).2.2.1) (x := (qAt D.qu p).2.2.2)
        show (putD D.ca _ _).length ≤ 1001; omega
      · intro c hc
        rcases putD_mem c hc with h | h
        · exact S.cb _ h
        · rw [h]; exact hql
    · split
      · refine ⟨?_, by show (0 : Nat) ≤ 1001; omega, h0, ?_, fun c hc => (by cases hc), hq⟩
        · show (flK D.ca D.bl D.ca.length).length ≤ 1000; rw [flK_len]; exact S.bl
        · exact flK_all (P := fun b => b.length ≤ 1000) S.bb S.cb _ (Nat.le_refl _)
      · exact ⟨S.bl, by show D.ca.length ≤ 1001; omega, h0, S.bb, S.cb, hq⟩
theorem lq_cm {D : Dev} {p : Nat} {ok : Bool} (hk : chk D = 0) (hp : p < D.qu.length) : (cmQ D p ok).2.2.2.length ≤ 1000 := by
  have S := sm_ok hk
  have hql := S.qb _ (qAt_mem hp)
  cases ok with
  | false => exact hql
  | true =>
    show (carQ (delD D p) (qAt D.qu p)).2.2.2.length ≤ 1000
    unfold carQ
    split
    · have := (req_len (q_ok hk hp)).2
      exact contD_len (D := D) hk this
    · exact hql
theorem cmE_ok {D : Dev} {p : Int} (h : cmE D p = 0) : chk D = 0 ∧ ∃ n : Nat, p = n ∧ n < D.qu.length := by
  unfold cmE at h
  by_cases e : chk D = 0
  · rw [if_neg (by simpa using e)] at h
    by_cases c : p < 0 ∨ (D.qu.length : Int) ≤ p
    · rw [if_pos c] at h; exact absurd h (by decide)
    · exact ⟨e, p.toNat, by omega, by omega⟩
  · rw [if_pos e] at h; exact absurd h e
theorem big_cm {D : Dev} {p : Int} {ok : Bool} : Big (if cmE D p = 0 then cmD D p.toNat ok else zeroD) ∧ (if cmE D p = 0 then cmQ D p.toNat ok else zeroQ).2.2.2.length ≤ 9223372036854775807 := by
  by_cases e : cmE D p = 0
  · rw [if_pos e, if_pos e]
    obtain ⟨hk, n, rfl, hn⟩ := cmE_ok e
    obtain ⟨b1, b2, b3, b4, b5, b6⟩ := sm_cm (ok := ok) hk hn
    have b7 := lq_cm (ok := ok) hk hn
    rw [Int.toNat_natCast]
    exact ⟨⟨by omega, by omega, by omega, fun b hb => by have := b4 b hb; omega, fun c hc => by have := b5 c hc; omega, fun q hq => by have := b6 q hq; omega⟩, by omega⟩
  · rw [if_neg e, if_neg e]; exact ⟨big_zero, by decide⟩
set_option maxHeartbeats 2000000 in
set_option maxRecDepth 100000 in
theorem law_completes (v : Value) (D : Dev) (p : Int) (ok : Bool) (w : World) (h : DevIn w v D) (hB : Big D) :
    Calls Try.prog 5 #[v, .int .i64 p, .bool ok] w fun e w' => e = .returned (.bool true) ∧ Below w.heap.size w w' := by
  obtain ⟨Ab, cb, Ac, cc, Aq, cq, rfl, h1, h2, h3, rb, rc, rq⟩ := h
  obtain ⟨W0, hW0⟩ : ∃ W0, W0 = w.alloc (.cells #[.int .i64 D.dep, .int .i64 D.nxt, .slice Ab D.bl.length cb, .slice Ac D.ca.length cc, .slice Aq D.qu.length cq] 28) := ⟨_, rfl⟩
  have K0 := hide (show Below w.heap.size w W0 by rw [hW0]; exact bal (brefl w) _)
  have X := hide (show Box W0 w.heap.size 28 #[.int .i64 D.dep, .int .i64 D.nxt, .slice Ab D.bl.length cb, .slice Ac D.ca.length cc, .slice Aq D.qu.length cq] by rw [hW0]; exact Box.new w 28 _)
  have IN := hide (show DevIn w (.agg #[.int .i64 D.dep, .int .i64 D.nxt, .slice Ab D.bl.length cb, .slice Ac D.ca.length cc, .slice Aq D.qu.length cq]) D from ⟨Ab, cb, Ac, cc, Aq, cq, rfl, h1, h2, h3, rb, rc, rq⟩)
  have HW := hide hW0
  clear rb rc rq hW0 h1 h2 h3
  have AW := hide (fun W => awake_any W)
  have IW := fun W (hb : Below W0.heap.size W0 W) => IN.out.below (btrans K0.out hb)
  have FE := hide (fun W (hb : Below W0.heap.size W0 W) => few_any _ D W (IW W hb) hB)
  have S1 := hide (fun W (hb : Below W0.heap.size W0 W) => complete_any _ D p ok W (IW W hb) hB)
  have S2 := hide (fun W (hb : Below W0.heap.size W0 W) => rcomplete_any _ D p ok W (IW W hb) hB)
  have BG := hide (big_cm (D := D) (p := p) (ok := ok))
  unfold FewR at FE
  unfold DqR at S1 S2
  have CE := hide (fun (W : World) (h : Below W0.heap.size W0 W) => box5_cells (W' := W) (X.out.below h))
  clear IW IN
  generalize (if cmE D p = 0 then cmD D p.toNat ok else zeroD) = F at *
  generalize (if cmE D p = 0 then cmQ D p.toNat ok else zeroQ) = fq at *
  obtain ⟨y0, y1, y2, l5⟩ := fq
  simp only at S1 S2 BG
  generalize cmE D p = er at *
  generalize D.dep = dep at *
  generalize D.nxt = nxt at *
  go_enter Try.func5, Try.ntmps5
  go_wp2_with fail
  rw [← HW.out]
  refine (AW.out W0).mono ?_
  rintro e w1 ⟨rfl, hb1⟩
  obtain ⟨x0, x1, x2, x3, x4⟩ := CE.out _ hb1
  go_wp2_with fail
  refine (FE.out _ hb1).mono ?_
  rintro e w2 ⟨q, rfl, hf, hb2⟩
  have K2 := hide (btrans hb1 hb2)
  clear hf hb1 hb2 FE x0 x1 x2 x3 x4
  cases q
  · go_wp2_with fail
    refine (AW.out w2).mono ?_
    rintro e w9 ⟨rfl, hb9⟩
    go_wp2_with fail
    go_ret
    exact ⟨rfl, btrans K0.out (btrans K2.out hb9)⟩
  obtain ⟨x0, x1, x2, x3, x4⟩ := CE.out _ K2.out
  go_wp2_with fail
  refine (S1.out w2 K2.out).mono ?_
  rintro e w3 ⟨v1, u1, rfl, ho1, hu1, hb3⟩
  obtain ⟨vb, vc, vq, rfl, ob, oc, oq⟩ := ho1
  obtain ⟨E1, g1, rfl, _⟩ := ob.form
  obtain ⟨E2, g2, rfl, _⟩ := oc.form
  obtain ⟨E3, g3, rfl, _⟩ := oq.form
  obtain ⟨A5, d5, rfl⟩ := hu1.form
  have M3 := bal (bal (brefl w3) (.cells #[.int .i64 F.dep, .int .i64 F.nxt, .slice E1 F.bl.length g1, .slice E2 F.ca.length g2, .slice E3 F.qu.length g3] 28)) (.cells #[.int .i64 y0, .int .i64 y1, .int .i64 y2, .slice A5 l5.length d5] 39)
  have IN1 := hide ((DevOwn.is (B := w2.heap.size) (w := w3) (D := F) ⟨_, _, _, rfl, ob, oc, oq⟩).below M3)
  have U1 := hide (hu1.is.below M3)
  have B1 := hide ((Box.new w3 28 #[.int .i64 F.dep, .int .i64 F.nxt, .slice E1 F.bl.length g1, .slice E2 F.ca.length g2, .slice E3 F.qu.length g3]).more (.cells #[.int .i64 y0, .int .i64 y1, .int .i64 y2, .slice A5 l5.length d5] 39))
  have P1 := hide (Box.new2 w3 (.cells #[.int .i64 F.dep, .int .i64 F.nxt, .slice E1 F.bl.length g1, .slice E2 F.ca.length g2, .slice E3 F.qu.length g3] 28) 39 #[.int .i64 y0, .int .i64 y1, .int .i64 y2, .slice A5 l5.length d5])
  have K3 := hide (btrans K2.out (btrans hb3 M3))
  clear ob oc oq hu1 hb3 M3 x0 x1 x2 x3 x4
  go_upto_region 4 with fail
  obtain ⟨g, hg⟩ : ∃ g, g = w3.heap.size := ⟨_, rfl⟩
  rw [← hg] at B1 P1 ⊢
  generalize (w3.alloc (.cells #[.int .i64 F.dep, .int .i64 F.nxt, .slice E1 F.bl.length g1, .slice E2 F.ca.length g2, .slice E3 F.qu.length g3] 28)).alloc (.cells #[.int .i64 y0, .int .i64 y1, .int .i64 y2, .slice A5 l5.length d5] 39) = w4 at *
  clear hg S1
  obtain ⟨x0, x1, x2, x3, x4⟩ := CE.out _ K3.out
  go_wp2_with fail
  refine (S2.out w4 K3.out).mono ?_
  rintro e w5 ⟨v1, u1, rfl, ho1, hu1, hb3⟩
  obtain ⟨vb, vc, vq, rfl, ob, oc, oq⟩ := ho1
  obtain ⟨F1, f1, rfl, _⟩ := ob.form
  obtain ⟨F2, f2, rfl, _⟩ := oc.form
  obtain ⟨F3, f3, rfl, _⟩ := oq.form
  obtain ⟨A6, d6, rfl⟩ := hu1.form
  have M5 := bal (bal (brefl w5) (.cells #[.int .i64 F.dep, .int .i64 F.nxt, .slice F1 F.bl.length f1, .slice F2 F.ca.length f2, .slice F3 F.qu.length f3] 28)) (.cells #[.int .i64 y0, .int .i64 y1, .int .i64 y2, .slice A6 l5.length d6] 39)
  have M3 := btrans hb3 M5
  have IN2 := hide ((DevOwn.is (B := w4.heap.size) (w := w5) (D := F) ⟨_, _, _, rfl, ob, oc, oq⟩).below M5)
  have U2 := hide (hu1.is.below M5)
  replace IN1 := hide (IN1.out.below M3)
  replace U1 := hide (U1.out.below M3)
  have B2 := hide ((Box.new w5 28 #[.int .i64 F.dep, .int .i64 F.nxt, .slice F1 F.bl.length f1, .slice F2 F.ca.length f2, .slice F3 F.qu.length f3]).more (.cells #[.int .i64 y0, .int .i64 y1, .int .i64 y2, .slice A6 l5.length d6] 39))
  have P2 := hide (Box.new2 w5 (.cells #[.int .i64 F.dep, .int .i64 F.nxt, .slice F1 F.bl.length f1, .slice F2 F.ca.length f2, .slice F3 F.qu.length f3] 28) 39 #[.int .i64 y0, .int .i64 y1, .int .i64 y2, .slice A6 l5.length d6])
  replace B1 := hide (B1.out.below M3)
  replace P1 := hide (P1.out.below M3)
  have K5 := hide (btrans K3.out M3)
  clear ob oc oq hu1 hb3 M3 M5 x0 x1 x2 x3 x4
  go_upto_region 5 with fail
  obtain ⟨h, hh⟩ : ∃ h, h = w5.heap.size := ⟨_, rfl⟩
  rw [← hh] at B2 P2 ⊢
  generalize (w5.alloc (.cells #[.int .i64 F.dep, .int .i64 F.nxt, .slice F1 F.bl.length f1, .slice F2 F.ca.length f2, .slice F3 F.qu.length f3] 28)).alloc (.cells #[.int .i64 y0, .int .i64 y1, .int .i64 y2, .slice A6 l5.length d6] 39) = w6 at *
  clear hh S2
  obtain ⟨m0, m1, m2, m3⟩ := box4_cells P1.out
  obtain ⟨n0, n1, n2, n3⟩ := box4_cells P2.out
  have SQ := hide (srq y0 y1 y2 _ _ l5 w6 U1.out U2.out BG.out.2)
  go_wp2_with fail
  refine SQ.out.mono ?_
  rintro e w7 ⟨rfl, hb7⟩
  have K7 := hide (btrans K5.out hb7)
  have SD := hide (same_dev _ _ F w7 (IN1.out.below hb7) (IN2.out.below hb7) BG.out.1)
  obtain ⟨x0, x1, x2, x3, x4⟩ := box5_cells (W' := w) (B1.out.below hb7)
  obtain ⟨y0', y1', y2', y3', y4'⟩ := box5_cells (W' := w) (B2.out.below hb7)
  clear hb7 m0 m1 m2 m3 n0 n1 n2 n3
  go_wp2_with fail
  refine SD.out.mono ?_
  rintro e w8 ⟨rfl, hb8⟩
  go_wp2_with fail
  go_ret
  exact ⟨rfl, btrans K0.out (btrans K7.out hb8)⟩
end Go.Proofs.Ytnegigcjeoenmaa.Dv
