import Derived.Test.YtncdilkcblakhaaR1
import Derived.Test.YtncdilkcblakhaaDBaM
namespace Go.Proofs.Ytncdilkcblakhaa.In
open Go Go.RowKit
set_option linter.unusedVariables false
set_option linter.unusedSimpArgs false
theorem size5 : (Try.prog.info? 5).map (·.size) = some 1 := by kernel_rfl
theorem bc_rep (z : Int) (n : Nat) : ∀ v ∈ List.replicate n (bc z), v.oneCell' = true := fun v hv => by
  rw [(List.mem_replicate.1 hv).2]; rfl
theorem rep_at {z : Int} {n j : Nat} {v : Value} (h : (List.replicate n (bc z))[j]? = some v) : j < n ∧ v = bc z := by
  rw [List.getElem?_replicate] at h
  split at h
  · rename_i hj; exact ⟨hj, by injection h with h; exact h.symm⟩
  · cases h
/-- the first p bytes are z -/
def Fil (cur : List Value) (z : Int) (p : Nat) : Prop := 32 ≤ cur.length ∧ ∀ j, j < p → cur[j]? = some (bc z)
theorem Fil.next {cur : List Value} {z : Int} {p q : Nat} (h : Fil cur z p) (hq : p + q ≤ 32) : Fil (splice cur p (List.replicate q (bc z))) z (p + q) := by
  refine ⟨by rw [length_splice _ _ _ (by rw [List.length_replicate]; have := h.1; omega)]; exact h.1, fun j hj => ?_⟩
  unfold splice
  have hl : (cur.take p).length = p := by rw [List.length_take]; have := h.1; omega
  rcases Nat.lt_or_ge j p with hjp | hjp
  · rw [List.getElem?_append_left (by omega), List.getElem?_take_of_lt hjp]
    exact h.2 j hjp
  · rw [List.getElem?_append_right (by omega), hl, List.getElem?_append_left (by rw [List.length_replicate]; omega), List.getElem?_replicate, if_pos (by omega)]
theorem Fil.own {cur : List Value} {z : Int} {w : World} {g : Nat} (h : Fil cur z 32) (hg : w.heap[g]? = some (.cells cur.toArray 5 (0, 0))) : Dv.OwnBy w (.slice (some ⟨g, 0, none⟩) 32 32) (List.replicate 32 z) := by
  refine ⟨some ⟨g, 0, none⟩, 32, by rw [List.length_replicate], by rw [List.length_replicate]; exact Nat.le_refl _, fun _ => ⟨g, 0, cur.toArray, rfl, hg, ?_⟩⟩
  rw [List.map_replicate, List.length_replicate, List.drop_zero]
  apply List.ext_getElem?
  intro j
  rw [List.getElem?_take, List.getElem?_replicate]
  split
  · rename_i hj; exact h.2 j hj
  · rfl
theorem Fil.src {cur : List Value} {z : Int} {w : World} {g p : Nat} (h : Fil cur z p) (hg : w.heap[g]? = some (.cells cur.toArray 5 (0, 0))) : ∀ j v, (List.replicate p (bc z))[j]? = some v → w.cell? ((⟨g, 0, none⟩ : Addr).add j) = some v := fun j v hv => by
  obtain ⟨hj, rfl⟩ := rep_at hv
  have : (⟨g, 0, none⟩ : Addr).add j = ⟨g, j, none⟩ := by
    unfold Addr.add
    by_cases h : j = 0 <;> simp [h]
  rw [this, cell_of_row w g j cur.toArray 5 (0, 0) hg]
  simpa using h.2 j hj
set_option maxRecDepth 100000 in
set_option maxHeartbeats 8000000 in
theorem repeat_any (z : Int) (A : Option Addr) (c : Nat) (w : World) (h : BsB w A [z]) : Calls Try.prog 34 #[.slice A 1 c, .int .i64 32] w fun e w' => (∃ g, e = .returned (.slice (some ⟨g, 0, none⟩) 32 32) ∧ Dv.OwnBy w' (.slice (some ⟨g, 0, none⟩) 32 32) (List.replicate 32 z)) ∧ Below w.heap.size w w' := by
  have CM := hide (fun w => mul_any w)
  obtain ⟨cs, hrun0, hcs, hcm⟩ := makeNZ w 32 (by omega)
  have hrun : (callFunc 53 #[.int .i64 32]).run Try.prog w = .ok (.value (.slice (some ⟨w.heap.size, 0, none⟩) 32 cs.size)) (w.drew.drew.alloc (.cells cs 5)) := hrun0
  clear hrun0
  have HR := hide h
  obtain ⟨b0, o0, rfl, hb0, hc0⟩ := h (by simp)
  have hz0 := hc0 0 (by simp)
  rw [Nat.add_zero] at hz0
  simp only [List.getD_cons_zero] at hz0
  have hcs32 : (32 : Int) ≤ (cs.size : Int) := by omega
  have hcs32n : 32 ≤ cs.size := hcs
  have M := hide (show Below w.heap.size w (w.drew.drew.alloc (.cells cs 5)) from bal (below_drewN (brefl w) 2) _)
  have HX := hide (show (w.drew.drew.alloc (.cells cs 5)).heap[w.heap.size]? = some (.cells cs.toList.toArray 5 (0, 0)) by
    have := heap_alloc_new w.drew.drew (.cells cs 5)
    simpa using this)
  have hl0 := hide (show 32 ≤ cs.toList.length by simpa using hcs)
  have t1 : Int.tdiv 8192 1 = 8192 := by decide
  clear h hc0 hcs
  go_enter Try.func34, Try.ntmps34
  obtain ⟨g, hg⟩ : ∃ g, g = w.heap.size := ⟨_, rfl⟩
  have HG := hide (show w.heap.size ≤ g by omega)
  obtain ⟨w1, hw1⟩ : ∃ w1, w1 = (w.alloc (.cells cs 5)).drew.drew := ⟨_, rfl⟩
  replace M := hide (show Below w.heap.size w w1 by rw [hw1]; exact M.out)
  replace HX := hide (show w1.heap[g]? = some (.cells cs.toList.toArray 5 (0, 0)) by rw [hw1, hg]; exact HX.out)
  have NB := hide (show ∀ j v, ([bc z] : List Value)[j]? = some v → w1.cell? ((⟨b0, o0, none⟩ : Addr).add j) = some v from fun j v hv => by
    match j, hv with
    | 0, hv =>
      injection hv with hv
      subst hv
      show w1.cell? ⟨b0, o0, none⟩ = _
      rw [M.out.cell (p := ⟨b0, o0, none⟩) hb0]
      exact hz0
    | j + 1, hv => simp at hv)
  go_upto_region 17 with (go_at_call 52; refine (CM.out _).mono ?_; rintro e w' ⟨rfl, rfl⟩)
  rw [← hg, ← hw1]
  have HG2 := hide hg
  clear hg hw1
  go_wp2_with (refine wpList_copy_splice rfl (.tmp 58) (.tmp 59) 23 23 rfl 5 Try.underlying23 size5 (some ⟨g, 0, none⟩) (some ⟨b0, o0, none⟩) 32 32 1 c rfl rfl g 0 cs.toList 5 HX.out [bc z] rfl (fun _ => ⟨rfl, ⟨b0, o0, none⟩, rfl, NB.out⟩) (by have := hl0.out; simp only [List.length_cons, List.length_nil]; omega) (by intro v hv; rw [List.mem_singleton.1 hv]; rfl) w.heap.size w M.out HG.out ?_; intro w2 hg2 hb2)
  obtain ⟨cur, hcur⟩ : ∃ cur, cur = splice cs.toList 0 [bc z] := ⟨_, rfl⟩
  rw [← hcur] at hg2
  have FI := hide (show Fil cur z 1 by
    have h0 : Fil cs.toList z 0 := ⟨hl0.out, fun j hj => absurd hj (Nat.not_lt_zero _)⟩
    have := h0.next (q := 1) (by omega)
    rw [hcur]
    exact this)
  have K := hide hb2
  clear hcur hb2 M HX NB hz0 hb0 HR hl0 hrun CM hcm hcs32 hcs32n
  go_loopw [10] (fun a wx => ∃ (p : Nat) (cur : List Value), (p = 1 ∨ p = 2 ∨ p = 4 ∨ p = 8 ∨ p = 16 ∨ p = 32) ∧ a = .int .i64 p ∧ Hid (wx.heap[g]? = some (.cells cur.toArray 5 (0, 0))) ∧ Hid (Fil cur z p) ∧ Hid (Below w.heap.size w wx)) (fun a _ => 32 - (intOf a).toNat)
  case atStart => exact ⟨1, cur, .inl rfl, rfl, hg2, FI, K⟩
  case round =>
    clear hg2 FI K
    obtain ⟨p, cur, hp, rfl, X, FI, K⟩ := hrel
    rcases hp with rfl | rfl | rfl | rfl | rfl | rfl
    · obtain ⟨rp, hrp⟩ : ∃ rp, rp = List.replicate 1 (bc z) := ⟨_, rfl⟩
      have SR := hide (show ∀ j v, rp[j]? = some v → wr.drew.cell? ((⟨g, 0, none⟩ : Addr).add j) = some v by rw [hrp]; exact FI.out.src X.out)
      have X1 := hide (show wr.drew.heap[g]? = some (.cells cur.toArray 5 (0, 0)) from X.out)
      have LN := hide (show rp.length = Nat.min 1 31 by rw [hrp, List.length_replicate]; rfl)
      have FT := hide (show 1 + rp.length ≤ cur.length by rw [hrp, List.length_replicate]; have := FI.out.1; omega)
      have B1 := hide (show ∀ v ∈ rp, v.oneCell' = true by rw [hrp]; exact bc_rep z 1)
      have FI2 := hide (show Fil (splice cur 1 rp) z 2 by rw [hrp]; exact FI.out.next (q := 1) (by omega))
      have K1 := hide (show Below w.heap.size w wr.drew from below_drewN K.out 1)
      have LP := hide (show rp.length = 1 by rw [hrp, List.length_replicate])
      clear hrp X FI K
      go_wp2
      go_region_law (refine step_copy_splice (P := Try.prog) rfl (.tmp 70) (.tmp 73) 23 23 rfl 5 Try.underlying23 size5 (some ⟨g, 1, none⟩) (some ⟨g, 0, none⟩) 31 31 1 32 (by simp [Act.eval, Act.put]) (by simp [Act.eval, Act.put]) g 1 cur 5 X1.out rp LN.out (fun _ => ⟨rfl, ⟨g, 0, none⟩, rfl, SR.out⟩) FT.out B1.out w.heap.size w K1.out HG.out ?_; intro w4 hg4 hb4; rw [LP.out])
      all_goals
        have K2 := hide hb4
        generalize splice cur 1 rp = cur2 at *
        clear hb4 X1 SR LN FT B1 K1
        go_wp2
        go_roundw
        case rel => first | exact ⟨2, cur2, .inr (.inl rfl), rfl, hg4, FI2, K2⟩ | ((repeat apply Exists.intro); exact ⟨⟨2, cur2, .inr (.inl rfl), rfl, hg4, FI2, K2⟩, rfl⟩)
        case measure => exact (show 32 - 2 < 32 - 1 by omega)
    · obtain ⟨rp, hrp⟩ : ∃ rp, rp = List.replicate 2 (bc z) := ⟨_, rfl⟩
      have SR := hide (show ∀ j v, rp[j]? = some v → wr.drew.cell? ((⟨g, 0, none⟩ : Addr).add j) = some v by rw [hrp]; exact FI.out.src X.out)
      have X1 := hide (show wr.drew.heap[g]? = some (.cells cur.toArray 5 (0, 0)) from X.out)
      have LN := hide (show rp.length = Nat.min 2 30 by rw [hrp, List.length_replicate]; rfl)
      have FT := hide (show 2 + rp.length ≤ cur.length by rw [hrp, List.length_replicate]; have := FI.out.1; omega)
      have B1 := hide (show ∀ v ∈ rp, v.oneCell' = true by rw [hrp]; exact bc_rep z 2)
      have FI2 := hide (show Fil (splice cur 2 rp) z 4 by rw [hrp]; exact FI.out.next (q := 2) (by omega))
      have K1 := hide (show Below w.heap.size w wr.drew from below_drewN K.out 1)
      have LP := hide (show rp.length = 2 by rw [hrp, List.length_replicate])
      clear hrp X FI K
      go_wp2
      go_region_law (refine step_copy_splice (P := Try.prog) rfl (.tmp 70) (.tmp 73) 23 23 rfl 5 Try.underlying23 size5 (some ⟨g, 2, none⟩) (some ⟨g, 0, none⟩) 30 30 2 32 (by simp [Act.eval, Act.put]) (by simp [Act.eval, Act.put]) g 2 cur 5 X1.out rp LN.out (fun _ => ⟨rfl, ⟨g, 0, none⟩, rfl, SR.out⟩) FT.out B1.out w.heap.size w K1.out HG.out ?_; intro w4 hg4 hb4; rw [LP.out])
      all_goals
        have K2 := hide hb4
        generalize splice cur 2 rp = cur2 at *
        clear hb4 X1 SR LN FT B1 K1
        go_wp2
        go_roundw
        case rel => first | exact ⟨4, cur2, .inr (.inr (.inl rfl)), rfl, hg4, FI2, K2⟩ | ((repeat apply Exists.intro); exact ⟨⟨4, cur2, .inr (.inr (.inl rfl)), rfl, hg4, FI2, K2⟩, rfl⟩)
        case measure => exact (show 32 - 4 < 32 - 2 by omega)
    · obtain ⟨rp, hrp⟩ : ∃ rp, rp = List.replicate 4 (bc z) := ⟨_, rfl⟩
      have SR := hide (show ∀ j v, rp[j]? = some v → wr.drew.cell? ((⟨g, 0, none⟩ : Addr).add j) = some v by rw [hrp]; exact FI.out.src X.out)
      have X1 := hide (show wr.drew.heap[g]? = some (.cells cur.toArray 5 (0, 0)) from X.out)
      have LN := hide (show rp.length = Nat.min 4 28 by rw [hrp, List.length_replicate]; rfl)
      have FT := hide (show 4 + rp.length ≤ cur.length by rw [hrp, List.length_replicate]; have := FI.out.1; omega)
      have B1 := hide (show ∀ v ∈ rp, v.oneCell' = true by rw [hrp]; exact bc_rep z 4)
      have FI2 := hide (show Fil (splice cur 4 rp) z 8 by rw [hrp]; exact FI.out.next (q := 4) (by omega))
      have K1 := hide (show Below w.heap.size w wr.drew from below_drewN K.out 1)
      have LP := hide (show rp.length = 4 by rw [hrp, List.length_replicate])
      clear hrp X FI K
      go_wp2
      go_region_law (refine step_copy_splice (P := Try.prog) rfl (.tmp 70) (.tmp 73) 23 23 rfl 5 Try.underlying23 size5 (some ⟨g, 4, none⟩) (some ⟨g, 0, none⟩) 28 28 4 32 (by simp [Act.eval, Act.put]) (by simp [Act.eval, Act.put]) g 4 cur 5 X1.out rp LN.out (fun _ => ⟨rfl, ⟨g, 0, none⟩, rfl, SR.out⟩) FT.out B1.out w.heap.size w K1.out HG.out ?_; intro w4 hg4 hb4; rw [LP.out])
      all_goals
        have K2 := hide hb4
        generalize splice cur 4 rp = cur2 at *
        clear hb4 X1 SR LN FT B1 K1
        go_wp2
        go_roundw
        case rel => first | exact ⟨8, cur2, .inr (.inr (.inr (.inl rfl))), rfl, hg4, FI2, K2⟩ | ((repeat apply Exists.intro); exact ⟨⟨8, cur2, .inr (.inr (.inr (.inl rfl))), rfl, hg4, FI2, K2⟩, rfl⟩)
        case measure => exact (show 32 - 8 < 32 - 4 by omega)
    · obtain ⟨rp, hrp⟩ : ∃ rp, rp = List.replicate 8 (bc z) := ⟨_, rfl⟩
      have SR := hide (show ∀ j v, rp[j]? = some v → wr.drew.cell? ((⟨g, 0, none⟩ : Addr).add j) = some v by rw [hrp]; exact FI.out.src X.out)
      have X1 := hide (show wr.drew.heap[g]? = some (.cells cur.toArray 5 (0, 0)) from X.out)
      have LN := hide (show rp.length = Nat.min 8 24 by rw [hrp, List.length_replicate]; rfl)
      have FT := hide (show 8 + rp.length ≤ cur.length by rw [hrp, List.length_replicate]; have := FI.out.1; omega)
      have B1 := hide (show ∀ v ∈ rp, v.oneCell' = true by rw [hrp]; exact bc_rep z 8)
      have FI2 := hide (show Fil (splice cur 8 rp) z 16 by rw [hrp]; exact FI.out.next (q := 8) (by omega))
      have K1 := hide (show Below w.heap.size w wr.drew from below_drewN K.out 1)
      have LP := hide (show rp.length = 8 by rw [hrp, List.length_replicate])
      clear hrp X FI K
      go_wp2
      go_region_law (refine step_copy_splice (P := Try.prog) rfl (.tmp 70) (.tmp 73) 23 23 rfl 5 Try.underlying23 size5 (some ⟨g, 8, none⟩) (some ⟨g, 0, none⟩) 24 24 8 32 (by simp [Act.eval, Act.put]) (by simp [Act.eval, Act.put]) g 8 cur 5 X1.out rp LN.out (fun _ => ⟨rfl, ⟨g, 0, none⟩, rfl, SR.out⟩) FT.out B1.out w.heap.size w K1.out HG.out ?_; intro w4 hg4 hb4; rw [LP.out])
      all_goals
        have K2 := hide hb4
        generalize splice cur 8 rp = cur2 at *
        clear hb4 X1 SR LN FT B1 K1
        go_wp2
        go_roundw
        case rel => first | exact ⟨16, cur2, .inr (.inr (.inr (.inr (.inl rfl)))), rfl, hg4, FI2, K2⟩ | ((repeat apply Exists.intro); exact ⟨⟨16, cur2, .inr (.inr (.inr (.inr (.inl rfl)))), rfl, hg4, FI2, K2⟩, rfl⟩)
        case measure => exact (show 32 - 16 < 32 - 8 by omega)
    · obtain ⟨rp, hrp⟩ : ∃ rp, rp = List.replicate 16 (bc z) := ⟨_, rfl⟩
      have SR := hide (show ∀ j v, rp[j]? = some v → wr.drew.cell? ((⟨g, 0, none⟩ : Addr).add j) = some v by rw [hrp]; exact FI.out.src X.out)
      have X1 := hide (show wr.drew.heap[g]? = some (.cells cur.toArray 5 (0, 0)) from X.out)
      have LN := hide (show rp.length = Nat.min 16 16 by rw [hrp, List.length_replicate]; rfl)
      have FT := hide (show 16 + rp.length ≤ cur.length by rw [hrp, List.length_replicate]; have := FI.out.1; omega)
      have B1 := hide (show ∀ v ∈ rp, v.oneCell' = true by rw [hrp]; exact bc_rep z 16)
      have FI2 := hide (show Fil (splice cur 16 rp) z 32 by rw [hrp]; exact FI.out.next (q := 16) (by omega))
      have K1 := hide (show Below w.heap.size w wr.drew from below_drewN K.out 1)
      have LP := hide (show rp.length = 16 by rw [hrp, List.length_replicate])
      clear hrp X FI K
      go_wp2
      go_region_law (refine step_copy_splice (P := Try.prog) rfl (.tmp 70) (.tmp 73) 23 23 rfl 5 Try.underlying23 size5 (some ⟨g, 16, none⟩) (some ⟨g, 0, none⟩) 16 16 16 32 (by simp [Act.eval, Act.put]) (by simp [Act.eval, Act.put]) g 16 cur 5 X1.out rp LN.out (fun _ => ⟨rfl, ⟨g, 0, none⟩, rfl, SR.out⟩) FT.out B1.out w.heap.size w K1.out HG.out ?_; intro w4 hg4 hb4; rw [LP.out])
      all_goals
        have K2 := hide hb4
        generalize splice cur 16 rp = cur2 at *
        clear hb4 X1 SR LN FT B1 K1
        go_wp2
        go_roundw
        case rel => first | exact ⟨32, cur2, .inr (.inr (.inr (.inr (.inr rfl)))), rfl, hg4, FI2, K2⟩ | ((repeat apply Exists.intro); exact ⟨⟨32, cur2, .inr (.inr (.inr (.inr (.inr rfl)))), rfl, hg4, FI2, K2⟩, rfl⟩)
        case measure => exact (show 32 - 32 < 32 - 16 by omega)
    · go_wp2
      go_ret
      exact ⟨⟨_, rfl, FI.out.own X.out⟩, K.out⟩
end Go.Proofs.Ytncdilkcblakhaa.In
