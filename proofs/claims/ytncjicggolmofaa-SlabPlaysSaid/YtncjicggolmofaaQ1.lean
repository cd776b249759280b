import Derived.Test.YtncjicggolmofaaP1
namespace Go.Proofs.Ytncjicggolmofaa.Sb
open Go Go.RowKit
set_option linter.unusedVariables false
set_option linter.unusedSimpArgs false
theorem made_eq (m : Nat) : madeCells #[.bool false] m = ((List.replicate m false).map bc).toArray := by
  apply Array.ext'
  apply List.ext_getElem
  · simp [madeCells]
  · intro i h1 h2
    simp [madeCells, Nat.mod_one, bc]
theorem makeF (w : World) (m : Nat) (h : m ≤ 1000000) : (Instr.makeSlice 50 (.int .i64 (m : Int)) (.int .i64 (m : Int))).run Try.prog w = .ok (.slice (some ⟨w.heap.size, 0, none⟩) m m) (w.alloc (.cells ((List.replicate m false).map bc).toArray 4)) := by
  have := run_make_row' (P := Try.prog) 50 4 (.bool false) 1 Try.underlying50 info4 rfl .i64 .i64 m (by omega) (by omega) w
  rw [made_eq] at this
  exact this
theorem made_own (w : World) (m B : Nat) (hm : m ≤ 1000) (hB : B ≤ w.heap.size) : (w.alloc (.cells ((List.replicate m false).map bc).toArray 4)).ownsRow B 4 1 (.slice (some ⟨w.heap.size, 0, none⟩) m m) (List.replicate m false).length ((List.replicate m false).map bc) := by
  refine ⟨by simp, .inr ⟨w.heap.size, m, _, by rw [List.length_replicate], hB, heap_alloc_new w _, by simp, by unfold maxLen; omega, by simp, by simp⟩⟩
/-- what Alloc answers -/
def AlR (S : Sc) (n : Int) (fs : Is) (w : World) (e : Ending) (w' : World) : Prop := ∃ v A2 c2, e = .returned (.tuple #[.agg #[.int .i64 (alB S n fs), v], .slice A2 (alI S n fs).length c2, .int .i64 (alE S n fs)]) ∧ OwnD w.heap.size w' v (alL S n fs) ∧ OwI w.heap.size w' (.slice A2 (alI S n fs).length c2) (alI S n fs) ∧ Below w.heap.size w w'
theorem OwnD.nil (B : Nat) (w : World) : OwnD B w (.slice none 0 0) [] := ⟨[], rfl, ⟨rfl, .inl ⟨rfl, rfl⟩⟩, fun j hj => absurd hj (Nat.not_lt_zero _), fun i j hi => absurd hi (Nat.not_lt_zero _)⟩
theorem al_no {S : Sc} {n : Int} {fs : Is} (h : alE S n fs ≠ 0) : alL S n fs = [] ∧ alI S n fs = [] ∧ alB S n fs = 0 := ⟨if_neg h, if_neg h, if_neg h⟩
set_option maxRecDepth 100000 in
set_option maxHeartbeats 8000000 in
theorem alloc_no (A : Option Addr) (cp : Nat) (S : Sc) (n : Int) (Af : Option Addr) (cf : Nat) (fs : Is) (w : World) (hr : RdC w A S.sl) (hn : S.sl.length ≤ 400) (hln : ∀ k, k < S.sl.length → (us S k).length ≤ 1000) (hnr : n ≤ 9223372036854775807 ∧ -9223372036854775808 ≤ n) (hf : Bi w Af fs) (hfl : fs.length ≤ 400) (h0 : alE S n fs ≠ 0) : Calls Try.prog 26 #[.agg #[.int .i64 S.ob, .slice A S.sl.length cp], .int .i64 n, .slice Af fs.length cf] w (AlR S n fs w) := by
  have K := hide (bal (bal (brefl w) (.cells #[.int .i64 S.ob, .slice A S.sl.length cp] 24)) (.cells #[.int .i64 0, .slice none 0 0] 24))
  have CK := hide (fun w' (h : Below w.heap.size w w') => ca_any A cp S n Af cf fs w' (hr.below h) (by omega) hln hnr (hf.below h) (by omega))
  have X := hide ((Box.new w 24 #[.int .i64 S.ob, .slice A S.sl.length cp]).below (bal (brefl _) (.cells #[.int .i64 0, .slice none 0 0] 24)))
  have Y := hide (Box.new (w.alloc (.cells #[.int .i64 S.ob, .slice A S.sl.length cp] 24)) 24 #[.int .i64 0, .slice none 0 0])
  obtain ⟨g3, hg3⟩ : ∃ g, g = w.heap.size := ⟨_, rfl⟩
  obtain ⟨g6, hg6⟩ : ∃ g, g = (w.alloc (.cells #[.int .i64 S.ob, .slice A S.sl.length cp] 24)).heap.size := ⟨_, rfl⟩
  have hg5 : g6 = g3 + 1 := by rw [hg6, hg3, alloc_size']
  have HG3 := hide hg3
  have HG6 := hide hg5
  rw [← hg3] at X
  rw [← hg6] at Y
  clear hg3 hg6 hg5 hr hf
  obtain ⟨e1, e2, e3⟩ := al_no h0
  have hd : (alE S n fs != 0) = true := bne_iff_ne.2 h0
  unfold AlR
  rw [e1, e2, e3]
  clear e1 e2 e3 h0
  generalize alE S n fs = er at *
  go_enter Try.func26, Try.ntmps26
  go_upto_region 1 with fail
  rw [← HG3.out, ← HG6.out]
  generalize (w.alloc (.cells #[.int .i64 S.ob, .slice A S.sl.length cp] 24)).alloc (.cells #[.int .i64 0, .slice none 0 0] 24) = w1 at *
  obtain ⟨x0, x1⟩ : w1.cell? ⟨g3, 0, none⟩ = some (.int .i64 S.ob) ∧ w1.cell? ⟨g3, 1, none⟩ = some (.slice A S.sl.length cp) := ⟨X.out.cell 0, X.out.cell 1⟩
  go_wp2_with fail
  refine (CK.out _ K.out).mono ?_
  rintro e w2 ⟨rfl, hb⟩
  replace K := hide (btrans K.out hb)
  replace Y := hide (Y.out.below hb)
  clear hb x0 x1 CK
  have y0 : w2.cell? ⟨g6, 0, none⟩ = some (.int .i64 0) := Y.out.cell 0
  have y1 : w2.cell? ⟨g6, 1, none⟩ = some (.slice none 0 0) := Y.out.cell 1
  have yf0 := Y.out.frozen 0
  have yf1 := Y.out.frozen 1
  go_wp2
  have E1 := (Y.out.put 0 (.int .i64 0)).put 1 (.slice none 0 0)
  refine ret_s4 (v := .slice none 0 0) (g := g6) (k := 6) (o := 0) (A := none) (n := 0) (c := 0) (er2 := er) (m := 7) (m2 := 8) rfl rfl rfl rfl rfl E1 ?_
  exact ⟨_, none, 0, rfl, OwnD.nil _ _, ow_nil _ _, bset (bset K.out (by show w.heap.size ≤ g6; have h1 := HG3.out; have h2 := HG6.out; omega) _) (by show w.heap.size ≤ g6; have h1 := HG3.out; have h2 := HG6.out; omega) _⟩
/-- what is kept where a row that is one's own is grown -/
theorem kp_own {B n size : Nat} {T : TypeId} {v : Value} {xs : List Value} {w w' : World} (h : w.ownsRow B T size v n xs) (hg : w.grownBy w' v.ownBlock) (hB : B ≤ w.heap.size) : Kp B T w w' := Kp.grown h hg (Nat.le_refl B) hB
theorem uO_32 (f : Int) (l : By) (n : Nat) (h : l.length ≤ 32) : (uO f l n).length ≤ 32 := by
  unfold uO
  rw [List.length_take]
  have := nb_len f l.length l false l.length
  omega
theorem alK_32 (n : Nat) {L : List Ca} (h : ∀ j, j < L.length → (cAt L j).2.length ≤ 32) : ∀ k, k ≤ L.length → (alK n L k).2.length ≤ 32 * k
  | 0, _ => Nat.le_refl _
  | k + 1, hk => by
    show ((alK n L k).2 ++ uO _ _ (n - (alK n L k).2.length)).length ≤ _
    rw [List.length_append]
    have := alK_32 n h k (by omega)
    have := uO_32 (cAt L k).1 (cAt L k).2 (n - (alK n L k).2.length) (h k (by omega))
    omega
theorem alZ_step {N m : Nat} {s0 : List Ca × Is} {zs : Is} {q : Nat} (hq : q < zs.length) : (zs.take (q + 1)).foldl (alZ N m) s0 = alZ N m ((zs.take q).foldl (alZ N m) s0) (zs.getD q 0) := by
  rw [take_snocI hq, List.foldl_append]; rfl
theorem alZ_inv {N m : Nat} {s0 : List Ca × Is} {zs F : Is} (hm : m ≤ 32) (ha : Asc s0.1) (hF : ∀ x, x ∈ frs s0.1 → x ∈ F) (hz : ∀ z, z ∈ zs → z ∉ F) (hn : zs.Nodup) (hN : s0.2.length ≤ N) : ∀ q, q ≤ zs.length →
    Asc ((zs.take q).foldl (alZ N m) s0).1 ∧ ((zs.take q).foldl (alZ N m) s0).1.length = s0.1.length + q ∧ ((zs.take q).foldl (alZ N m) s0).2.length ≤ N ∧ ((zs.take q).foldl (alZ N m) s0).2.length ≤ s0.2.length + 32 * q ∧ (∀ x, x ∈ frs ((zs.take q).foldl (alZ N m) s0).1 → x ∈ F ∨ x ∈ zs.take q)
  | 0, _ => ⟨ha, rfl, hN, Nat.le_refl _, fun x hx => .inl (hF x hx)⟩
  | q + 1, hq => by
    obtain ⟨h1, h2, h3, h4, h5⟩ := alZ_inv hm ha hF hz hn hN q (by omega)
    rw [alZ_step (by omega)]
    have hqz : q < zs.length := by omega
    have hget : zs.getD q 0 = zs[q] := getD_get hqz
    have hnf : zs.getD q 0 ∉ frs ((zs.take q).foldl (alZ N m) s0).1 := fun hx => by
      rcases h5 _ hx with h | h
      · exact hz _ (by rw [hget]; exact List.getElem_mem hqz) h
      · obtain ⟨j, hj, e⟩ := List.mem_iff_getElem.1 h
        rw [List.length_take] at hj
        rw [List.getElem_take, hget] at e
        have := (List.getElem_inj hn).1 e
        omega
    refine ⟨Asc.ins h1 hnf _, ?_, alZ_le _ h3, ?_, fun x hx => ?_⟩
    · show ((_ : List Ca).take _ ++ _ :: _).length = _
      rw [ins_len, h2]; omega
    · show (_ ++ uO _ _ _).length ≤ _
      rw [List.length_append]
      have := uO_32 (zs.getD q 0) (List.replicate m false) (N - ((zs.take q).foldl (alZ N m) s0).2.length) (by rw [List.length_replicate]; exact hm)
      omega
    · rcases frs_ins.1 hx with h | h
      · right; rw [take_snocI hqz, h]; simp
      · rcases h5 x h with h | h
        · exact .inl h
        · right; rw [take_snocI hqz]; exact List.mem_append.2 (.inl h)
theorem srt_mem {l : Is} {x : Int} : x ∈ srt l ↔ x ∈ l := (List.mergeSort_perm l _).mem_iff
theorem srt_nodup {l : Is} (h : l.Nodup) : (srt l).Nodup := ((List.mergeSort_perm l _).nodup_iff).2 h
end Go.Proofs.Ytncjicggolmofaa.Sb
