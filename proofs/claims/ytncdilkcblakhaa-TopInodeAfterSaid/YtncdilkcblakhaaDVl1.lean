import Derived.Test.YtncdilkcblakhaaDCm2
import Derived.Test.YtncdilkcblakhaaDPg1
namespace Go.Proofs.Ytncdilkcblakhaa.Dv
open Go Go.RowKit
set_option linter.unusedVariables false
theorem q_ok' {D : Dev} (h : chk D = 0) {i : Nat} (hi : i < D.qu.length) : reqE D.bl.length (qAt D.qu i).2.1 (qAt D.qu i).2.2.1 (qAt D.qu i).2.2.2.length = 0 := by
  have h5 := firstBad_zero (chk_zero h).2.2.2.2 i hi
  by_cases c : rqE D.bl.length (qAt D.qu i) = 0
  · exact c
  · unfold q1E at h5; rw [if_neg c] at h5; exact absurd h5 c
theorem caP_lt' : ∀ (L : List Ca) (b : Int) (t : Nat), t < caP L b → (cAt L t).1 < b
  | [], b, t, h => by simp [caP] at h
  | c :: L, b, t, h => by
    unfold caP at h
    by_cases hc : c.1 < b
    · rw [if_pos hc] at h
      cases t with
      | zero => exact hc
      | succ t => exact caP_lt' L b t (by omega)
    · rw [if_neg hc] at h; omega
theorem caP_at' : ∀ (L : List Ca) (b : Int), caP L b < L.length → b ≤ (cAt L (caP L b)).1
  | [], b, h => by simp at h
  | c :: L, b, h => by
    unfold caP at h ⊢
    by_cases hc : c.1 < b
    · rw [if_pos hc] at h ⊢
      exact caP_at' L b (by simpa using h)
    · rw [if_neg hc]; show b ≤ c.1; omega
/-- a valid device -/
structure Vd (D : Dev) : Prop where
  n0 : 0 ≤ D.nxt
  n1 : D.nxt ≤ mx
  d0 : 1 ≤ D.dep
  d1 : D.dep ≤ 16
  b0 : 1 ≤ D.bl.length
  b1 : D.bl.length ≤ 256
  bb : ∀ b ∈ D.bl, b.length = 32
  ck : ∀ c ∈ D.ca, 0 ≤ c.1 ∧ c.1 < D.bl.length
  ca : D.ca.Pairwise (fun a b => a.1 < b.1)
  cb : ∀ c ∈ D.ca, c.2.length = 32
  ql : (D.qu.length : Int) ≤ D.dep
  qr : ∀ q ∈ D.qu, reqE D.bl.length q.2.1 q.2.2.1 q.2.2.2.length = 0
  qi : ∀ q ∈ D.qu, 0 ≤ q.1 ∧ q.1 < D.nxt
  qa : D.qu.Pairwise (fun a b => a.1 < b.1)
theorem asc_seq {f : Nat → Int} {n : Nat} (h : ∀ i, 0 < i → i < n → f (i - 1) < f i) : ∀ s t, s < t → t < n → f s < f t := by
  intro s t hst ht
  induction t with
  | zero => omega
  | succ t ih =>
    have h1 := h (t + 1) (by omega) ht
    rw [Nat.add_sub_cancel] at h1
    by_cases e : s = t
    · subst e; exact h1
    · have := ih (by omega) (by omega); omega
theorem pw_asc {L : List Ca} : L.Pairwise (fun a b => a.1 < b.1) ↔ Asc L := by
  rw [List.pairwise_iff_getElem]
  constructor
  · intro h s t hst ht
    have := h s t (by omega) ht hst
    rw [cAt_get ht, cAt_get (by omega : s < L.length)]; exact this
  · intro h i j hi hj hij
    have := h i j hij hj
    rw [cAt_get hj, cAt_get hi] at this; exact this
theorem vd_of {D : Dev} (h : chk D = 0) : Vd D := by
  obtain ⟨h1, h2, h3, h4, h5⟩ := chk_zero h
  obtain ⟨⟨d1, d2, d3, d4⟩, hb⟩ := nwE_ok h2
  have hk := keys_ok h
  have hc1 : coE D.bl.length D.ca = 0 := by
    by_cases c : coE D.bl.length D.ca = 0
    · exact c
    · unfold caE at h3; rw [if_neg c] at h3; exact absurd h3 c
  have hc2 : cfE D.ca = 0 := by unfold caE at h3; rw [if_pos hc1] at h3; exact h3
  have hq := firstBad_zero h5
  have hqo : ∀ i, i < D.qu.length → 0 ≤ (qAt D.qu i).1 ∧ (qAt D.qu i).1 < D.nxt ∧ (0 < i → (qAt D.qu (i - 1)).1 < (qAt D.qu i).1) := by
    intro i hi
    have := hq i hi
    unfold q1E at this
    have hr : rqE D.bl.length (qAt D.qu i) = 0 := q_ok' h hi
    rw [if_pos hr] at this
    by_cases c : (qAt D.qu i).1 < 0 ∨ D.nxt ≤ (qAt D.qu i).1 ∨ (0 < i ∧ (qAt D.qu i).1 ≤ (qAt D.qu (i - 1)).1)
    · rw [if_pos c] at this; exact absurd this (by decide)
    · exact ⟨by omega, by omega, fun h0 => by omega⟩
  refine ⟨by omega, by omega, d1, d2, d3, d4, blE_len hb, fun c hc => ?_, pw_asc.2 (asc_ok h), fun c hc => ?_, by omega, fun q hm => ?_, fun q hm => ?_, ?_⟩
  · obtain ⟨i, hi, rfl⟩ := List.mem_iff_getElem.1 hc
    have := hk i hi
    rw [cAt_get hi] at this
    exact ⟨this.1, this.2.1⟩
  · obtain ⟨i, hi, rfl⟩ := List.mem_iff_getElem.1 hc
    have := firstBad_zero hc2 i hi
    rw [cAt_get hi] at this
    unfold noP at this
    simpa using this
  · obtain ⟨i, hi, rfl⟩ := List.mem_iff_getElem.1 hm
    have := q_ok' h hi
    rw [qAt_get hi] at this
    exact this
  · obtain ⟨i, hi, rfl⟩ := List.mem_iff_getElem.1 hm
    have := hqo i hi
    rw [qAt_get hi] at this
    exact ⟨this.1, this.2.1⟩
  · rw [List.pairwise_iff_getElem]
    intro i j hi hj hij
    have := asc_seq (f := fun i => (qAt D.qu i).1) (n := D.qu.length) (fun i h0 hi => (hqo i hi).2.2 h0) i j hij hj
    rw [qAt_get hj, qAt_get hi] at this; exact this
theorem chk_of {D : Dev} (v : Vd D) : chk D = 0 := by
  have hb : blE D.bl = 0 := firstBad_none fun i hi => by
    have := v.bb _ (bAt_mem hi)
    unfold noP; simp [this]
  have hn : nwE D.dep D.bl = 0 := by unfold nwE dbE; rw [if_pos (by simpa using ⟨v.d0, v.d1, v.b0, v.b1⟩)]; exact hb
  have ha := pw_asc.1 v.ca
  have hco : coE D.bl.length D.ca = 0 := firstBad_none fun i hi => by
    have h1 := v.ck _ (cAt_mem hi)
    have h2 : 0 < i → (cAt D.ca (i - 1)).1 < (cAt D.ca i).1 := fun h0 => ha (i - 1) i (by omega) hi
    rw [if_neg]
    unfold inB
    intro hbad
    rcases hbad with h | h
    · have := of_decide_eq_false h; omega
    · have := h2 h.1; omega
  have hcf : cfE D.ca = 0 := firstBad_none fun i hi => by
    have := v.cb _ (cAt_mem hi)
    unfold noP; simp [this]
  have hca : caE D.bl.length D.ca = 0 := by unfold caE; rw [if_pos hco]; exact hcf
  have hq : quE D.bl.length D.nxt D.qu = 0 := firstBad_none fun i hi => by
    have h1 := v.qr _ (qAt_mem hi)
    have h2 := v.qi _ (qAt_mem hi)
    have h3 : 0 < i → (qAt D.qu (i - 1)).1 < (qAt D.qu i).1 := fun h0 => by
      have := List.pairwise_iff_getElem.1 v.qa (i - 1) i (by omega) hi (by omega)
      rw [qAt_get hi, qAt_get (by omega : i - 1 < D.qu.length)]; exact this
    unfold q1E
    rw [if_pos (show rqE D.bl.length (qAt D.qu i) = 0 from h1), if_neg (by omega)]
  have := v.n0
  have := v.n1
  have := v.ql
  unfold chk
  rw [if_neg (by omega), if_neg (by simpa using hn), if_neg (by simpa using hca), if_neg (by omega)]
  exact hq
theorem putD_pw {L : List Ca} {b : Int} {x : By} (h : L.Pairwise (fun a b => a.1 < b.1)) : (putD L b x).Pairwise (fun a b => a.1 < b.1) := by
  have ha := pw_asc.1 h
  unfold putD
  by_cases hh : hitP L b = true
  · rw [if_pos hh, pw_asc]
    have hp := hitP_lt hh
    have hc : (cAt L (caP L b)).1 = b := by unfold hitP at hh; exact (of_decide_eq_true hh).2
    have key : ∀ i, i < L.length → (cAt (L.set (caP L b) (b, x)) i).1 = (cAt L i).1 := by
      intro i hi
      rw [cAt_get (by rw [List.length_set]; exact hi), List.getElem_set]
      split
      · rename_i e; subst e; exact hc.symm
      · rw [cAt_get hi]
    intro s t hst ht
    rw [List.length_set] at ht
    rw [key s (by omega), key t ht]
    exact ha s t hst ht
  · rw [if_neg hh, List.pairwise_append]
    have hmiss : caP L b < L.length → b < (cAt L (caP L b)).1 := fun hp => by
      have h1 := caP_at' L b hp
      have h2 : ¬ (cAt L (caP L b)).1 = b := fun e => hh (by unfold hitP; exact decide_eq_true ⟨hp, e⟩)
      omega
    have hlo : ∀ c ∈ L.take (caP L b), c.1 < b := fun c hc => by
      obtain ⟨i, hi, rfl⟩ := List.mem_iff_getElem.1 hc
      rw [List.length_take] at hi
      have := caP_lt' L b i (by omega)
      rw [cAt_get (by omega : i < L.length)] at this
      rw [List.getElem_take]; exact this
    have hhi : ∀ c ∈ L.drop (caP L b), b < c.1 := fun c hc => by
      obtain ⟨i, hi, rfl⟩ := List.mem_iff_getElem.1 hc
      rw [List.length_drop] at hi
      have h1 := hmiss (by omega)
      rw [List.getElem_drop]
      by_cases e : i = 0
      · subst e; simp only [Nat.add_zero]; rw [cAt_get (by omega : caP L b < L.length)] at h1; exact h1
      · have := ha (caP L b) (caP L b + i) (by omega) (by omega)
        rw [cAt_get (by omega : caP L b + i < L.length)] at this
        omega
    refine ⟨h.sublist (List.take_sublist _ _), List.pairwise_cons.2 ⟨hhi, h.sublist (List.drop_sublist _ _)⟩, fun a ha b' hb => ?_⟩
    rcases List.mem_cons.1 hb with e | hb
    · rw [e]; exact hlo a ha
    · have := hlo a ha; have := hhi b' hb; omega
theorem vd_sb {D : Dev} {k b : Int} {l : By} (v : Vd D) (h : sbE D k b l.length = 0) : Vd (sbD D k b l) := by
  unfold sbE at h
  rw [if_neg (by simpa using chk_of v)] at h
  by_cases hr : reqE D.bl.length k b l.length = 0
  · rw [if_neg (by simpa using hr)] at h
    by_cases hn : D.nxt = mx
    · rw [if_pos hn] at h; exact absurd h (by decide)
    · rw [if_neg hn] at h
      by_cases hd : D.dep ≤ D.qu.length
      · rw [if_pos hd] at h; exact absurd h (by decide)
      · have := v.n0
        have := v.n1
        refine ⟨by show 0 ≤ D.nxt + 1; omega, by show D.nxt + 1 ≤ mx; omega, v.d0, v.d1, v.b0, v.b1, v.bb, v.ck, v.ca, v.cb, by show ((D.qu ++ [_]).length : Int) ≤ D.dep; rw [List.length_append, List.length_singleton]; omega, fun q hq => ?_, fun q hq => ?_, ?_⟩
        · rcases List.mem_append.1 hq with h | h
          · exact v.qr q h
          · rw [List.mem_singleton.1 h]; exact hr
        · rcases List.mem_append.1 hq with h | h
          · have := v.qi q h
            exact ⟨this.1, by show q.1 < D.nxt + 1; omega⟩
          · rw [List.mem_singleton.1 h]; exact ⟨v.n0, by show D.nxt < D.nxt + 1; omega⟩
        · show (D.qu ++ [_]).Pairwise _
          rw [List.pairwise_append]
          refine ⟨v.qa, List.pairwise_singleton _ _, fun a ha b hb => ?_⟩
          rw [List.mem_singleton.1 hb]; exact (v.qi a ha).2
  · rw [if_pos hr] at h; exact absurd h hr
theorem vd_del {D : Dev} {p : Nat} (v : Vd D) : Vd (delD D p) := by
  have hs : (D.qu.take p ++ D.qu.drop (p + 1)).Sublist D.qu := by
    have h1 : (D.qu.drop (p + 1)).Sublist (D.qu.drop p) := List.drop_sublist_drop_left D.qu (Nat.le_succ p)
    have := List.Sublist.append (List.Sublist.refl (D.qu.take p)) h1
    rwa [List.take_append_drop] at this
  exact ⟨v.n0, v.n1, v.d0, v.d1, v.b0, v.b1, v.bb, v.ck, v.ca, v.cb, by have := hs.length_le; have := v.ql; show ((D.qu.take p ++ D.qu.drop (p + 1)).length : Int) ≤ D.dep; omega, fun q hq => v.qr q (hs.subset hq), fun q hq => v.qi q (hs.subset hq), v.qa.sublist hs⟩
theorem flK_P {C : List Ca} {L : List By} {P : By → Prop} (hL : ∀ b ∈ L, P b) (hC : ∀ c ∈ C, P c.2) : ∀ k, k ≤ C.length → ∀ b ∈ flK C L k, P b
  | 0, _ => hL
  | k + 1, hk => by
    unfold flK
    intro b hb
    rcases List.mem_or_eq_of_mem_set hb with h | h
    · exact flK_P hL hC k (by omega) b h
    · rw [h]; exact hC _ (cAt_mem (by omega))
theorem putD_in {L : List Ca} {b : Int} {x : By} : ∀ c ∈ putD L b x, c ∈ L ∨ c = (b, x) := by
  intro c hc
  unfold putD at hc
  by_cases h : hitP L b = true
  · rw [if_pos h] at hc
    rcases List.mem_or_eq_of_mem_set hc with h | h
    · exact .inl h
    · exact .inr h
  · rw [if_neg h] at hc
    rcases List.mem_append.1 hc with h | h
    · exact .inl (List.mem_of_mem_take h)
    · rcases List.mem_cons.1 h with h | h
      · exact .inr h
      · exact .inl (List.mem_of_mem_drop h)
theorem req_b {n : Nat} {k b : Int} {len : Nat} (h : reqE n k b len = 0) : 0 ≤ b ∧ b < n := by
  have := (req_len h).2
  unfold inB at this
  simpa using this
theorem req_32 {n : Nat} {b : Int} {len : Nat} (h : reqE n 2 b len = 0) : len = 32 := by
  unfold reqE at h
  by_cases c : len = 32
  · exact c
  · rw [if_neg (by omega)] at h
    split at h
    · exact absurd h (by decide)
    · rw [if_pos (by omega)] at h; exact absurd h (by decide)
theorem vd_car {D : Dev} {q : Rq} (v : Vd D) (h : reqE D.bl.length q.2.1 q.2.2.1 q.2.2.2.length = 0) : Vd (carD D q) := by
  unfold carD
  split
  · rename_i e
    rw [e] at h
    refine ⟨v.n0, v.n1, v.d0, v.d1, v.b0, v.b1, v.bb, fun c hc => ?_, putD_pw v.ca, fun c hc => ?_, v.ql, v.qr, v.qi, v.qa⟩
    · rcases putD_in c hc with hc | hc
      · exact v.ck c hc
      · rw [hc]; exact req_b h
    · rcases putD_in c hc with hc | hc
      · exact v.cb c hc
      · rw [hc]; exact req_32 h
  · split
    · have hl : (flK D.ca D.bl D.ca.length).length = D.bl.length := flK_len _ _ _
      exact ⟨v.n0, v.n1, v.d0, v.d1, by show 1 ≤ (flK D.ca D.bl D.ca.length).length; rw [hl]; exact v.b0, by show (flK D.ca D.bl D.ca.length).length ≤ 256; rw [hl]; exact v.b1, flK_P (P := fun b => b.length = 32) v.bb v.cb _ (Nat.le_refl _), fun c hc => (by cases hc), List.Pairwise.nil, fun c hc => (by cases hc), v.ql, fun q hq => by show reqE (flK D.ca D.bl D.ca.length).length _ _ _ = 0; rw [hl]; exact v.qr q hq, v.qi, v.qa⟩
    · exact v
theorem vd_cm {D : Dev} {p : Nat} {ok : Bool} (v : Vd D) (hp : p < D.qu.length) : Vd (cmD D p ok) := by
  cases ok with
  | false => exact vd_del v
  | true => exact vd_car (vd_del v) (v.qr _ (qAt_mem hp))
/-- a device of four blocks and depth 4, behind at most k submissions -/
structure P4 (D : Dev) (k : Nat) : Prop where
  vd : Vd D
  dep : D.dep = 4
  bl : D.bl.length = 4
  nx : D.nxt ≤ k
theorem sb4 {D : Dev} {k : Nat} {kd b : Int} {len : Nat} (h : P4 D k) (hk : k ≤ 1000) (hr : reqE 4 kd b len = 0) : sbE D kd b len = if D.qu.length < 4 then 0 else 8 := by
  have := h.nx
  have hd := h.dep
  unfold sbE
  rw [if_neg (by simpa using chk_of h.vd), h.bl, if_neg (by simpa using hr), if_neg (by unfold mx; omega)]
  by_cases c : D.qu.length < 4
  · rw [if_pos c, if_neg (by omega)]
  · rw [if_neg c, if_pos (by omega)]
theorem p4_sb {D : Dev} {k : Nat} {kd b : Int} {l : By} (h : P4 D k) (hs : sbE D kd b l.length = 0) : P4 (sbD D kd b l) (k + 1) :=
  ⟨vd_sb h.vd hs, h.dep, h.bl, by have := h.nx; show D.nxt + 1 ≤ _; omega⟩
theorem car_n {D : Dev} {q : Rq} : (carD D q).nxt = D.nxt ∧ (carD D q).dep = D.dep ∧ (carD D q).bl.length = D.bl.length ∧ (carD D q).qu = D.qu := by
  unfold carD
  split
  · exact ⟨rfl, rfl, rfl, rfl⟩
  · split
    · exact ⟨rfl, rfl, flK_len _ _ _, rfl⟩
    · exact ⟨rfl, rfl, rfl, rfl⟩
theorem cm_n {D : Dev} {p : Nat} {ok : Bool} : (cmD D p ok).nxt = D.nxt ∧ (cmD D p ok).dep = D.dep ∧ (cmD D p ok).bl.length = D.bl.length ∧ (cmD D p ok).qu = D.qu.take p ++ D.qu.drop (p + 1) := by
  cases ok with
  | false => exact ⟨rfl, rfl, rfl, rfl⟩
  | true => exact car_n (D := delD D p)
theorem p4_cm {D : Dev} {k p : Nat} {ok : Bool} (h : P4 D k) (hp : p < D.qu.length) : P4 (cmD D p ok) k := by
  obtain ⟨h1, h2, h3, _⟩ := cm_n (D := D) (p := p) (ok := ok)
  exact ⟨vd_cm h.vd hp, h2.trans h.dep, h3.trans h.bl, by rw [h1]; exact h.nx⟩
theorem P4.mono {D : Dev} {k k' : Nat} (h : P4 D k) (hk : k ≤ k') : P4 D k' := ⟨h.vd, h.dep, h.bl, by have := h.nx; omega⟩
theorem r_w {z : Int} (h0 : 0 ≤ z) (h4 : z < 4) : reqE 4 2 z 32 = 0 := by
  unfold reqE inB
  rw [if_neg (by omega), if_neg (by simp; omega), if_neg (by omega)]
theorem r_r {z : Int} (h0 : 0 ≤ z) (h4 : z < 4) : reqE 4 1 z 0 = 0 := by
  unfold reqE inB
  rw [if_neg (by omega), if_neg (by simp; omega), if_neg (by omega)]
theorem r_f : reqE 4 3 0 0 = 0 := by decide
def N4 : Dev := nwD 4 (List.replicate 4 (pg 0))
theorem n4_e : nwE 4 (List.replicate 4 (pg 0)) = 0 := by kernel_rfl
theorem n4_k : chk N4 = 0 := by kernel_rfl
theorem p4_n : P4 N4 0 := ⟨vd_of n4_k, rfl, rfl, by decide⟩
theorem P4.big {D : Dev} {k : Nat} (h : P4 D k) : Big D := by
  have S := sm_ok (chk_of h.vd)
  exact ⟨by have := S.bl; omega, by have := S.ca; omega, by have := S.qu; omega, fun b hb => by have := S.bb b hb; omega, fun b hb => by have := S.cb b hb; omega, fun b hb => by have := S.qb b hb; omega⟩
end Go.Proofs.Ytncdilkcblakhaa.Dv
