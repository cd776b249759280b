import Derived.Test.YtoogdggiemacjaaV3
namespace Go.Proofs.Ytoogdggiemacjaa.Cw
open Go Go.RowKit
set_option linter.unusedVariables false
set_option linter.unusedSimpArgs false
theorem sAt_ap2 {S : List Sp} {s : Sp} {i : Nat} : sAt (S ++ [s]) i = if i < S.length then sAt S i else if i = S.length then s else (false, []) := by
  unfold sAt
  rw [List.getD_eq_getElem?_getD, List.getD_eq_getElem?_getD]
  by_cases h : i < S.length
  · rw [if_pos h, List.getElem?_append_left h]
  · rw [if_neg h, List.getElem?_append_right (by omega)]
    by_cases e : i = S.length
    · rw [if_pos e, e, Nat.sub_self]; rfl
    · rw [if_neg e, List.getElem?_eq_none (by simp; omega)]; rfl
theorem cnP_idx (k : Nat) (P : List Pg) (n : Nat) (h : ∀ i, i < P.length → (pAt P i).1 = if i < n then (i : Int) else -1) : ∀ j, j ≤ P.length → cnP (k : Int) (P.take j) = if k < n ∧ k < j then 1 else 0
  | 0, _ => by rw [List.take_zero, if_neg (by omega)]; rfl
  | j + 1, hj => by
    have ih := cnP_idx k P n h j (by omega)
    rw [pAt_snoc (by omega), cnP_snoc, ih, h j (by omega)]
    by_cases e1 : j < n
    · rw [if_pos e1]
      by_cases e2 : k = j
      · subst e2; rw [if_neg (by omega), if_pos rfl, if_pos (by omega)]
      · rw [if_neg (show ¬ (j : Int) = (k : Int) by omega)]
        by_cases e3 : k < n ∧ k < j
        · rw [if_pos e3, if_pos (by omega)]
        · rw [if_neg e3, if_neg (by omega)]
    · rw [if_neg e1, if_neg (show ¬ (-1 : Int) = (k : Int) by omega)]
      by_cases e3 : k < n ∧ k < j
      · rw [if_pos e3, if_pos (by omega)]
      · rw [if_neg e3, if_neg (by omega)]
theorem cnS_dead (f : Int) : ∀ S : List Sp, (∀ i, i < S.length → sAt S i = (false, [])) → cnS f S = 0
  | [], _ => rfl
  | a :: l, h => by
    rw [cnS_cons, cnS_dead f l (fun i hi => h (i + 1) (by simpa using hi))]
    have : a = (false, []) := h 0 (by simp)
    rw [this]; rfl
theorem usN_eq : ∀ (F : List Fr) (n : Nat), (∀ k, k < F.length → ((fAt F k).1 ≠ 0 ↔ k < n)) → n ≤ F.length → usN F = n
  | [], n, _, h => by have : n = 0 := by simpa using h
                      subst this; rfl
  | a :: l, 0, h, _ => by
    have ih := usN_eq l 0 (fun k hk => by have := h (k + 1) (by simpa using hk); constructor; exact fun g => absurd (this.1 g) (by omega); exact fun g => absurd g (by omega)) (Nat.zero_le _)
    have ha : a.1 = 0 := by
      by_cases e : a.1 = 0
      · exact e
      · have := (h 0 (by simp)).1 e; omega
    unfold usN at ih ⊢
    rw [List.countP_cons, ih, ha]; rfl
  | a :: l, n + 1, h, hn => by
    have ih := usN_eq l n (fun k hk => by have := h (k + 1) (by simpa using hk); exact ⟨fun g => by have := this.1 g; omega, fun g => this.2 (by omega)⟩) (by simpa using hn)
    have ha : a.1 ≠ 0 := (h 0 (by simp)).2 (by omega)
    unfold usN at ih ⊢
    rw [List.countP_cons, ih, if_pos (by simpa using ha)]
/-- one space that has written n of its L pages, and r dead ones -/
structure Al (M : Cow) (L r n : Nat) : Prop where
  v : chE M = 0
  sz : M.sz = L
  fr : M.fr.length = 2 * L
  cp : M.cp = 0
  ln : M.sp.length = 1 + r
  lv : (sAt M.sp 0).1 = true
  pl : (sAt M.sp 0).2.length = L
  pg : ∀ i, i < L → (pAt (sAt M.sp 0).2 i).1 = if i < n then (i : Int) else -1
  dd : ∀ s, 1 ≤ s → s < 1 + r → sAt M.sp s = (false, [])
theorem Al.cnt {M : Cow} {L r n : Nat} (h : Al M L r n) (hn : n ≤ L) {k : Nat} (hk : k < 2 * L) : (fAt M.fr k).1 = if k < n then 1 else 0 := by
  obtain ⟨z, f, s, a⟩ := chE_zero h.v
  rw [(s k (by rw [h.fr]; exact hk)).1]
  have hc : cnS (k : Int) M.sp = cnP (k : Int) (sAt M.sp 0).2 := by
    have ln := h.ln
    have dd := h.dd
    cases hs : M.sp with
    | nil => rw [hs] at ln; simp at ln; omega
    | cons t l =>
      rw [hs] at ln dd
      rw [cnS_cons, cnS_dead _ l (fun i hi => dd (i + 1) (by omega) (by have : l.length + 1 = 1 + r := ln; omega))]
      rfl
  have := cnP_idx k (sAt M.sp 0).2 n (fun i hi => h.pg i (by rw [← h.pl]; exact hi)) (sAt M.sp 0).2.length (Nat.le_refl _)
  rw [List.take_length] at this
  rw [hc, this]
  by_cases e : k < n
  · rw [if_pos ⟨e, by rw [h.pl]; omega⟩, if_pos e]; rfl
  · rw [if_neg (fun g => e g.1), if_neg e]; rfl
theorem Al.place {M : Cow} {L r n : Nat} (h : Al M L r n) : csE M 0 = 0 ∧ ∀ p : Nat, p < L → cpE M 0 p = 0 := by
  have e : csE M 0 = 0 := by
    unfold csE
    rw [if_neg (fun g => g h.v), if_pos ⟨Int.le_refl _, by have := h.ln; omega, h.lv⟩]
  refine ⟨e, fun p hp => ?_⟩
  unfold cpE
  rw [if_neg (fun g => g e), if_pos ⟨by omega, by rw [h.sz]; omega⟩]
theorem Al.write1 {M : Cow} {L n : Nat} (h : Al M L 0 n) (hn : n < L) (x : Int) : (wrG1 M 0 n x).2 = 0 ∧ Al (wrG1 M 0 n x).1 L 0 (n + 1) := by
  have hp := h.place.2 n hn
  have e1 : wrG1 M 0 n x = wrM M 0 n x := by unfold wrG1; rw [if_neg (fun g => g hp)]; rfl
  have hpn : (pAt (sAt M.sp 0).2 n).1 = -1 := by rw [h.pg n hn, if_neg (by omega)]
  have hi : ¬ inG M 0 n := fun g => by have := g.1; omega
  have hf : frI M.fr = some n := by
    have c := fun k hk => h.cnt (by omega) (k := k) hk
    cases hq : frI M.fr with
    | none => have := frI_none hq n (by rw [h.fr]; omega); rw [c n (by omega), if_neg (by omega)] at this; exact absurd rfl this
    | some k =>
      obtain ⟨k1, k2, k3⟩ := frI_some hq
      rw [h.fr] at k1
      rw [c k k1] at k2
      have : ¬ k < n := fun g => by rw [if_pos g] at k2; cases k2
      have : ¬ n < k := fun g => by have := k3 n g; rw [c n (by omega), if_neg (by omega)] at this; exact this rfl
      have : k = n := by omega
      rw [this]
  have e2 : wrM M 0 n x = ((M.setP 0 n ((n : Int), true)).setF n (1, x), 0) := by
    unfold wrM
    rw [if_neg hi, hf]
    dsimp only
    rw [hpn]
    rfl
  have V := val_write (M := M) (s := 0) (p := n) (x := x) (by rw [e1, e2])
  rw [e1, e2] at V ⊢
  refine ⟨rfl, V.1, V.2.1.trans h.sz, V.2.2.trans h.fr, h.cp, ?_, ?_, ?_, fun i hi => ?_, fun s h1 h2 => by omega⟩
  · show (M.sp.set 0 _).length = _
    rw [List.length_set]; exact h.ln
  · show (sAt (M.sp.set 0 _) 0).1 = _
    rw [sAt_set (by have := h.ln; omega), if_pos rfl]; exact h.lv
  · show (sAt (M.sp.set 0 _) 0).2.length = _
    rw [sAt_set (by have := h.ln; omega), if_pos rfl]
    show ((sAt M.sp 0).2.set n _).length = _
    rw [List.length_set]; exact h.pl
  · show (pAt (sAt (M.sp.set 0 _) 0).2 i).1 = _
    rw [sAt_set (by have := h.ln; omega), if_pos rfl]
    show (pAt ((sAt M.sp 0).2.set n _) i).1 = _
    rw [pAt_set (by rw [h.pl]; exact hn)]
    by_cases e : i = n
    · subst e; rw [if_pos rfl, if_pos (by omega)]
    · rw [if_neg e, h.pg i hi]
      by_cases e2 : i < n
      · rw [if_pos e2, if_pos (by omega)]
      · rw [if_neg e2, if_neg (by omega)]
theorem Al.write2 {M : Cow} {L r : Nat} (h : Al M L r L) {p : Nat} (hp : p < L) (x : Int) : (wrG1 M 0 p x).2 = 0 ∧ Al (wrG1 M 0 p x).1 L r L := by
  have hpl := h.place.2 p hp
  have e1 : wrG1 M 0 p x = wrM M 0 p x := by unfold wrG1; rw [if_neg (fun g => g hpl)]; rfl
  have hpn : (pAt (sAt M.sp 0).2 p).1 = (p : Int) := by rw [h.pg p hp, if_pos hp]
  have hi : inG M 0 p := ⟨by rw [hpn]; omega, by rw [hpn, Int.toNat_natCast, h.cnt (Nat.le_refl _) (by omega), if_pos hp]⟩
  have e2 : wrM M 0 p x = ((M.setP 0 p ((p : Int), true)).setF p (1, x), 0) := by
    unfold wrM
    rw [if_pos hi, hpn, Int.toNat_natCast]
  have V := val_write (M := M) (s := 0) (p := p) (x := x) (by rw [e1, e2])
  rw [e1, e2] at V ⊢
  have h0 : 0 < M.sp.length := by have := h.ln; omega
  refine ⟨rfl, V.1, V.2.1.trans h.sz, V.2.2.trans h.fr, h.cp, ?_, ?_, ?_, fun i hiL => ?_, fun s h1 h2 => ?_⟩
  · show (M.sp.set 0 _).length = _
    rw [List.length_set]; exact h.ln
  · show (sAt (M.sp.set 0 _) 0).1 = _
    rw [sAt_set h0, if_pos rfl]; exact h.lv
  · show (sAt (M.sp.set 0 _) 0).2.length = _
    rw [sAt_set h0, if_pos rfl]
    show ((sAt M.sp 0).2.set p _).length = _
    rw [List.length_set]; exact h.pl
  · show (pAt (sAt (M.sp.set 0 _) 0).2 i).1 = _
    rw [sAt_set h0, if_pos rfl]
    show (pAt ((sAt M.sp 0).2.set p _) i).1 = _
    rw [pAt_set (by rw [h.pl]; exact hp)]
    by_cases e : i = p
    · subst e; rw [if_pos rfl, if_pos hiL]
    · rw [if_neg e, h.pg i hiL]
  · show sAt (M.sp.set 0 _) s = _
    rw [sAt_set h0, if_neg (by omega)]
    exact h.dd s h1 h2
theorem Al.used {M : Cow} {L r : Nat} (h : Al M L r L) : usE M = L := by
  unfold usE
  rw [if_neg (fun g => g h.v), usN_eq M.fr L (fun k hk => ?_) (by rw [h.fr]; omega)]
  rw [h.fr] at hk
  rw [h.cnt (Nat.le_refl _) hk]
  by_cases e : k < L
  · rw [if_pos e]; exact ⟨fun _ => e, fun _ => by decide⟩
  · rw [if_neg e]; exact ⟨fun g => absurd rfl g, fun g => absurd g e⟩
theorem Al.round {M : Cow} {L r : Nat} (h : Al M L r L) (hr : r ≤ 6) : fkG M 0 = ((fkG M 0).1, 1 + (r : Int), 0) ∧ csE (fkG M 0).1 (1 + (r : Int)) = 0 ∧ Al (exG (fkG M 0).1 (1 + (r : Int))) L (r + 1) L := by
  have h0 : 0 < M.sp.length := by have := h.ln; omega
  have hL : M.sz.toNat = (sAt M.sp 0).2.length := by rw [h.sz, h.pl]; omega
  have e1 : fkG M 0 = ((fkS M 0 M.sz.toNat).add (sAt (fkS M 0 M.sz.toNat).sp 0).2, (M.sp.length : Int), 0) := by
    unfold fkG
    rw [if_neg (fun g => g h.place.1), if_neg (by have := h.ln; omega)]
    rfl
  have VF := val_fork h.v h0 h.lv (by have := h.ln; omega)
  rw [hL] at e1 VF
  obtain ⟨f1, f2, _⟩ := fk_val h.v h0 (sAt M.sp 0).2.length (Nat.le_refl _)
  obtain ⟨fa, fb, _⟩ := fk_facts h0 (sAt M.sp 0).2.length
  have hsc := fk_szcp M 0 (sAt M.sp 0).2.length
  rw [List.take_length, List.drop_length, List.append_nil] at f1
  generalize fkS M 0 (sAt M.sp 0).2.length = R at *
  have eP : (sAt R.sp 0).2 = roP (sAt M.sp 0).2 := by rw [f1]
  rw [eP] at e1 VF
  obtain ⟨F, hF⟩ : ∃ F, F = R.add (roP (sAt M.sp 0).2) := ⟨_, rfl⟩
  rw [← hF] at e1 VF
  rw [e1]
  have hsp : ∀ i, i < 1 + r → sAt F.sp i = if i = 0 then (true, roP (sAt M.sp 0).2) else (false, []) := fun i hi => by
    rw [hF]
    show sAt (R.sp ++ [_]) i = _
    rw [sAt_ap2, if_pos (by rw [fa, h.ln]; exact hi)]
    by_cases e : i = 0
    · subst e; rw [if_pos rfl, f1, h.lv]
    · rw [if_neg e, f2 i e]; exact h.dd i (by omega) hi
  have hsn : sAt F.sp (1 + r) = (true, roP (sAt M.sp 0).2) := by
    rw [hF]
    show sAt (R.sp ++ [_]) (1 + r) = _
    rw [sAt_ap2, if_neg (by rw [fa, h.ln]; omega), if_pos (by rw [fa, h.ln])]
  have hln : F.sp.length = 1 + r + 1 := by
    rw [hF]
    show (R.sp ++ [_]).length = _
    rw [List.length_append, fa, h.ln]; rfl
  have hsz : F.sz = L := by rw [hF]; exact hsc.1.trans h.sz
  have hcp : F.cp = 0 := by rw [hF]; exact hsc.2.trans h.cp
  have hfr : F.fr.length = 2 * L := by rw [hF]; exact fb.trans h.fr
  have hcs : csE F (1 + (r : Int)) = 0 := by
    unfold csE
    rw [if_neg (fun g => g VF), if_pos ⟨by omega, by omega, by rw [show (1 + (r : Int)).toNat = 1 + r by omega, hsn]⟩]
  refine ⟨by rw [h.ln]; push_cast; rfl, hcs, ?_⟩
  dsimp only
  have hn : 1 + r < F.sp.length := by omega
  have ee : exG F (1 + (r : Int)) = (exS F (1 + r) F.sz.toNat).kill (1 + r) := by
    unfold exG
    rw [if_neg (fun g => g hcs), show (1 + (r : Int)).toNat = 1 + r by omega]
  have VE := val_exit hcs
  have hes := exit_sz hcs
  have hpl : (sAt F.sp (1 + r)).2.length = F.sz.toNat := by rw [hsn, hsz]; show (roP _).length = _; rw [roP_len, h.pl]; omega
  obtain ⟨x1, x2, x3, x4, x5⟩ := ex_val VF hn F.sz.toNat (by omega)
  obtain ⟨xa, xb, _⟩ := ex_facts hn F.sz.toNat
  have hE : ∀ i, sAt (exG F (1 + (r : Int))).sp i = if i = 1 + r then (false, []) else sAt F.sp i := fun i => by
    rw [ee]
    show sAt ((exS F (1 + r) F.sz.toNat).sp.set (1 + r) (false, [])) i = _
    rw [sAt_set (by rw [xa]; exact hn)]
    by_cases e : i = 1 + r
    · rw [if_pos e, if_pos e]
    · rw [if_neg e, if_neg e, x5 i e]
  have hE0 : sAt (exG F (1 + (r : Int))).sp 0 = (true, roP (sAt M.sp 0).2) := by rw [hE, if_neg (by omega), hsp 0 (by omega), if_pos rfl]
  refine ⟨VE, hes.1.trans hsz, hes.2.trans hfr, ?_, ?_, by rw [hE0], by rw [hE0]; show (roP _).length = _; rw [roP_len]; exact h.pl, fun i hi => ?_, fun s s1 s2 => ?_⟩
  · rw [ee]; exact x4.trans hcp
  · rw [ee]
    show ((exS F (1 + r) F.sz.toNat).sp.set (1 + r) (false, [])).length = _
    rw [List.length_set, xa, hln]; omega
  · rw [hE0]
    show (pAt (roP (sAt M.sp 0).2) i).1 = _
    rw [← h.pg i hi]
    unfold pAt roP
    rw [List.getD_eq_getElem?_getD, List.getD_eq_getElem?_getD, List.getElem?_map, List.getElem?_eq_getElem (by rw [h.pl]; exact hi)]
    rfl
  · rw [hE]
    by_cases e : s = 1 + r
    · rw [if_pos e]
    · rw [if_neg e, hsp s (by omega), if_neg (by omega)]
end Go.Proofs.Ytoogdggiemacjaa.Cw
