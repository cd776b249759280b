import Derived.Test.YtncjicggolmofaaO1
import Derived.Deep.Upon
namespace Go.Proofs.Ytncjicggolmofaa.Sb
open Go Go.RowKit
set_option linter.unusedVariables false
set_option linter.unusedSimpArgs false
set_option maxRecDepth 100000 in
/-- append of one own row of numbers to another, the second maybe empty -/
theorem app_src {ops : Array Oper} {rest : List Oper} {o : Oper} {a : Act} {Q : Exit → Act → World → Prop} (w : World) (hgd : o.guard = none) (s x : Operand) (ho : o.op = .call { callee := .builtin .append, args := #[s, x], argTypes := #[35, 35] })
    (B B2 : Nat) (A1 A2 : Option Addr) (c1 c2 m1 m2 : Nat) (l1 l2 : Is) (hs : a.eval s = .slice A1 m1 c1) (hx : a.eval x = .slice A2 m2 c2) (h1 : w.ownsRow B 3 1 (.slice A1 m1 c1) m1 (l1.map ic)) (h2 : w.ownsRow B2 3 1 (.slice A2 m2 c2) m2 (l2.map ic)) (hl1 : l1.length = m1) (hl2 : l2.length = m2) (hm : m1 + m2 ≤ 1000000) (hbase : B ≤ w.heap.size)
    (h : ∀ A4 c4 w4, w4.ownsRow B 3 1 (.slice A4 (m1 + m2) c4) (m1 + m2) ((l1 ++ l2).map ic) → w.grownBy w4 (Value.slice A1 m1 c1).ownBlock → ((Value.slice A4 (m1 + m2) c4).ownBlock = (Value.slice A1 m1 c1).ownBlock ∨ (Value.slice A4 (m1 + m2) c4).ownBlock = some w.heap.size) → wpList Try.prog ops Q rest (a.put o.dst (.slice A4 (m1 + m2) c4)) w4) :
    wpList Try.prog ops Q (o :: rest) a w := by
  obtain ⟨i0, hi0, hz0, hz1, hz2⟩ := info_parts info3
  have h2' := h2
  obtain ⟨_, ⟨e, hz⟩ | ⟨g, cap, cur, e, _⟩⟩ := h2
  · injection e with e1 e3 e2
    subst e1 e2
    subst hz
    obtain rfl : l2 = [] := List.eq_nil_of_length_eq_zero hl2
    refine wpList_plain hgd fun K hK => ?_
    have hle : m1 ≤ c1 := by obtain ⟨A, c, e, h⟩ := row_form h1; injection e with _ _ e; omega
    have hr := run_append_nothing (P := Try.prog) w 35 35 o.type 3 i0 Try.underlying35 hi0 A1 m1 c1 hle (.slice none 0 0) (Src.ofNil w Try.underlying35 0)
    unfold Oper.wp execOp
    simp only [ho, resolve, invoke, builtin, Sem.run_bind, Sem.run_pure, Result.andThen_ok, List.map_toArray, List.map_cons, List.map_nil, hs, hx, hr]
    exact hK _ _ (h A1 c1 w (by rw [List.append_nil]; exact h1) (World.grownBy.refl _ _) (.inl rfl))
  · injection e with e1 _ e2
    subst e1 e2
    have hc : ∀ j u, (l2.map ic)[j]? = some u → w.cell? ((⟨g, 0, none⟩ : Addr).add j) = some u := fun j u hu => by
      by_cases h0 : m2 = 0
      · subst h0
        obtain rfl : l2 = [] := List.eq_nil_of_length_eq_zero hl2
        cases hu
      · obtain ⟨g', e', _, _, hcell, _⟩ := row_cell h2' h0
        injection e' with e'; injection e' with e'
        subst e'
        rw [addr_add, Nat.zero_add]; exact hcell j u hu
    refine wpList_append_own_at w hgd s x 35 ho B 3 i0 _ 1 8 Try.underlying35 hi0 hz0 hz1 hz2 rfl (by omega) (.slice A1 m1 c1) m1 (l1.map ic) hs h1 ⟨g, 0, none⟩ m2 _ (l2.map ic) hx (by rw [List.length_map, hl2, Nat.mul_one]) hc (ic_one l2) (by simp only [maxLen]; omega) (by omega) hbase ?_
    intro v4 w4 hown4 hg4 _ hat4
    obtain ⟨A4, cp4, ev4, _⟩ := row_form hown4
    subst ev4
    exact h A4 cp4 w4 (by rw [List.map_append]; exact hown4) hg4 hat4
-- WHAT Alloc ANSWERS
/-- one slab more: what lies there, the objects so far, behind the use -/
def alK (n : Nat) (L : List Ca) : Nat → List Ca × Is
  | 0 => (L, [])
  | k + 1 => ((alK n L k).1.set k ((cAt L k).1, uF (cAt L k).1 (cAt L k).2 (n - (alK n L k).2.length)), (alK n L k).2 ++ uO (cAt L k).1 (cAt L k).2 (n - (alK n L k).2.length))
/-- one new frame more -/
def alZ (n m : Nat) (s : List Ca × Is) (f : Int) : List Ca × Is :=
  (s.1.take (caP s.1 f) ++ (f, uF f (List.replicate m false) (n - s.2.length)) :: s.1.drop (caP s.1 f), s.2 ++ uO f (List.replicate m false) (n - s.2.length))
def alR (S : Sc) (n : Int) (fs : Is) : List Ca × Is := (srt fs).foldl (alZ n.toNat S.ob.toNat) (alK n.toNat S.sl S.sl.length)
def alL (S : Sc) (n : Int) (fs : Is) : List Ca := if alE S n fs = 0 then (alR S n fs).1 else []
def alI (S : Sc) (n : Int) (fs : Is) : Is := if alE S n fs = 0 then (alR S n fs).2 else []
def alB (S : Sc) (n : Int) (fs : Is) : Int := if alE S n fs = 0 then S.ob else 0
theorem uO_le (f : Int) (l : By) (n : Nat) : (uO f l n).length ≤ n := by unfold uO; rw [List.length_take]; omega
theorem alK_le (n : Nat) (L : List Ca) : ∀ k, (alK n L k).2.length ≤ n
  | 0 => Nat.zero_le _
  | k + 1 => by
    show ((alK n L k).2 ++ uO _ _ (n - (alK n L k).2.length)).length ≤ n
    rw [List.length_append]
    have := alK_le n L k
    have := uO_le (cAt L k).1 (cAt L k).2 (n - (alK n L k).2.length)
    omega
theorem alZ_le {n m : Nat} {s : List Ca × Is} (f : Int) (h : s.2.length ≤ n) : (alZ n m s f).2.length ≤ n := by
  show (s.2 ++ uO _ _ (n - s.2.length)).length ≤ n
  rw [List.length_append]
  have := uO_le f (List.replicate m false) (n - s.2.length)
  omega
theorem alK_len (n : Nat) (L : List Ca) : ∀ k, (alK n L k).1.length = L.length
  | 0 => rfl
  | k + 1 => by show ((alK n L k).1.set k _).length = _; rw [List.length_set, alK_len n L k]
/-- what is behind k is as it was -/
theorem alK_far (n : Nat) (L : List Ca) : ∀ k j, k ≤ j → cAt (alK n L k).1 j = cAt L j
  | 0, j, _ => rfl
  | k + 1, j, h => by
    show cAt ((alK n L k).1.set k _) j = _
    rw [← alK_far n L k j (by omega)]
    unfold cAt
    rw [List.getD_eq_getElem?_getD, List.getElem?_set_ne (by omega), ← List.getD_eq_getElem?_getD]
/-- the frames are as they were -/
theorem alK_fr (n : Nat) (L : List Ca) : ∀ k j, k ≤ L.length → (cAt (alK n L k).1 j).1 = (cAt L j).1
  | 0, j, _ => rfl
  | k + 1, j, h => by
    show (cAt ((alK n L k).1.set k _) j).1 = _
    unfold cAt
    rw [List.getD_eq_getElem?_getD]
    by_cases e : k = j
    · subst e
      rw [List.getElem?_set_self (by rw [alK_len]; omega)]; rfl
    · rw [List.getElem?_set_ne e, ← List.getD_eq_getElem?_getD]
      exact alK_fr n L k j (by omega)
theorem Asc.fr {L M : List Ca} (h : Asc L) (hl : M.length = L.length) (hf : ∀ j, (cAt M j).1 = (cAt L j).1) : Asc M := fun s t hs ht => by rw [hf, hf]; exact h s t hs (by omega)
theorem feE_ok : ∀ (fs seen : Is), feE seen fs = 0 → (∀ f ∈ fs, (0 ≤ f ∧ f < 256) ∧ f ∉ seen) ∧ fs.Nodup
  | [], _, _ => ⟨fun f h => (by cases h), List.nodup_nil⟩
  | f :: fs, seen, h => by
    unfold feE at h
    by_cases h1 : 0 ≤ f ∧ f < 256
    · rw [if_pos h1] at h
      by_cases h2 : f ∈ seen
      · rw [if_pos h2] at h; omega
      · rw [if_neg h2] at h
        obtain ⟨g1, g2⟩ := feE_ok fs _ h
        refine ⟨fun x hx => ?_, List.nodup_cons.2 ⟨fun q => (g1 f q).2 (by simp), g2⟩⟩
        rcases List.mem_cons.1 hx with rfl | hx
        · exact ⟨h1, h2⟩
        · exact ⟨(g1 x hx).1, fun q => (g1 x hx).2 (by simp [q])⟩
    · rw [if_neg h1] at h; omega
theorem caP_at : ∀ (L : List Ca) (b : Int), caP L b ≤ L.length ∧ (∀ t, t < caP L b → (cAt L t).1 < b) ∧ (caP L b < L.length → ¬ (cAt L (caP L b)).1 < b)
  | [], b => ⟨Nat.le_refl _, fun t h => absurd h (Nat.not_lt_zero _), fun h => absurd h (Nat.not_lt_zero _)⟩
  | c :: L, b => by
    obtain ⟨h1, h2, h3⟩ := caP_at L b
    unfold caP
    by_cases h : c.1 < b
    · rw [if_pos h]
      refine ⟨by simp; omega, fun t ht => ?_, fun ht => ?_⟩
      · cases t with
        | zero => exact h
        | succ t => exact h2 t (by omega)
      · exact h3 (by simpa using ht)
    · rw [if_neg h]
      exact ⟨Nat.zero_le _, fun t ht => absurd ht (Nat.not_lt_zero _), fun _ => h⟩
theorem cAt_ins {L : List Ca} {m : Ca} {i j : Nat} (hi : i ≤ L.length) (hj : j < L.length + 1) : (j = i ∧ cAt (L.take i ++ m :: L.drop i) j = m) ∨ ∃ j', j' < L.length ∧ cAt (L.take i ++ m :: L.drop i) j = cAt L j' ∧ (j < i ∧ j' = j ∨ i < j ∧ j = j' + 1) := by
  have hl : j < (L.take i ++ m :: L.drop i).length := by rw [ins_len]; exact hj
  rw [cAt_get hl]
  rcases ins_at hi hl with ⟨e, eq⟩ | ⟨j', h', eq, c⟩
  · exact .inl ⟨e, eq⟩
  · exact .inr ⟨j', h', by rw [eq, cAt_get h'], c⟩
/-- a frame that is not there, put in its place: in order again -/
theorem Asc.ins {L : List Ca} (h : Asc L) {f : Int} (hf : f ∉ frs L) (l : By) : Asc (L.take (caP L f) ++ (f, l) :: L.drop (caP L f)) := by
  obtain ⟨h1, h2, h3⟩ := caP_at L f
  have h4 : ∀ t, caP L f ≤ t → t < L.length → f < (cAt L t).1 := fun t ht htl => by
    have hne : (cAt L t).1 ≠ f := fun e => hf (by rw [← e]; exact List.mem_map.2 ⟨_, cAt_mem htl, rfl⟩)
    have hge : (cAt L (caP L f)).1 ≤ (cAt L t).1 := by
      rcases Nat.lt_or_ge (caP L f) t with c | c
      · exact Int.le_of_lt (h _ _ c htl)
      · obtain rfl : t = caP L f := by omega
        exact Int.le_refl _
    have := h3 (by omega)
    omega
  intro s t hs ht
  rw [ins_len] at ht
  rcases cAt_ins (m := (f, l)) h1 (show t < L.length + 1 by omega) with ⟨et, eq⟩ | ⟨t', ht', eq, ct⟩
  · rcases cAt_ins (m := (f, l)) h1 (show s < L.length + 1 by omega) with ⟨es, eq2⟩ | ⟨s', hs', eq2, cs⟩
    · omega
    · rw [eq, eq2]; exact h2 s' (by omega)
  · rcases cAt_ins (m := (f, l)) h1 (show s < L.length + 1 by omega) with ⟨es, eq2⟩ | ⟨s', hs', eq2, cs⟩
    · rw [eq, eq2]; exact h4 t' (by omega) ht'
    · rw [eq, eq2]; exact h s' t' (by omega) ht'
theorem frs_ins {L : List Ca} {f x : Int} {l : By} {i : Nat} : x ∈ frs (L.take i ++ (f, l) :: L.drop i) ↔ x = f ∨ x ∈ frs L := by
  unfold frs
  conv => rhs; rw [← List.take_append_drop i L]
  simp only [List.map_append, List.map_cons, List.mem_append, List.mem_cons]
  constructor
  · rintro (h | h | h)
    · exact .inr (.inl h)
    · exact .inl h
    · exact .inr (.inr h)
  · rintro (h | h | h)
    · exact .inr (.inl h)
    · exact .inl h
    · exact .inr (.inr h)
end Go.Proofs.Ytncjicggolmofaa.Sb
