import Derived.Test.YtiopfeleaifpbabR2
namespace Go.Proofs.Ytiopfeleaifpbab.Bd
open Go Go.RowKit
set_option linter.unusedVariables false
/-- a row of 256 counts -/
def RI (w : World) (g : Nat) (c : Nat → Nat) : Prop := w.rowIs g 3 256 (fun j => .int .i64 ((c j : Nat) : Int))
theorem RI.below {w w' : World} {g : Nat} {c : Nat → Nat} (h : RI w g c) (hb : Below w.heap.size w w') : RI w' g c := h.of_block (hb.block g h.lt)
theorem RI.far {w : World} {g b o : Nat} {c : Nat → Nat} (h : RI w g c) (hne : g ≠ b) (v : Value) : RI (w.setCell ⟨b, o, none⟩ v) g c := h.of_block (heap_setCell_other w ⟨b, o, none⟩ g v hne)
theorem RI.congr {w : World} {g : Nat} {c c' : Nat → Nat} (h : RI w g c) (e : ∀ x, x < 256 → c x = c' x) : RI w g c' := World.rowIs.congr h fun i hi => by rw [e i hi]
theorem RI.put {w : World} {g : Nat} {c c' : Nat → Nat} (h : RI w g c) (f n : Nat) (e : ∀ x, x < 256 → c' x = if x = f then n else c x) : RI (w.setCell ⟨g, f, none⟩ (.int .i64 (n : Int))) g c' := (World.rowIs.set h f (.int .i64 (n : Int))).congr fun i hi => by
  rw [e i hi]
  by_cases hi2 : i = f
  · rw [if_pos hi2, if_pos hi2]
  · rw [if_neg hi2, if_neg hi2]
theorem info3 : (Try.prog.info? 3).map (fun i => (i.zero, i.size, i.bytes)) = some (some (.int .i64 0), 1, 8) := by kernel_rfl
theorem RI.made (w : World) (c : Nat → Nat) (hc : ∀ x, x < 256 → c x = 0) : RI (w.alloc (.cells (madeCells #[.int .i64 0] 256) 3)) w.heap.size c :=
  (World.rowIs_made w (.int .i64 0) 256 3).congr fun i hi => by rw [hc i hi]; rfl
theorem make256 (w : World) : (Instr.makeSlice 33 (.int .i64 256) (.int .i64 256)).run Try.prog w = .ok (.slice (some ⟨w.heap.size, 0, none⟩) 256 256) (w.alloc (.cells (madeCells #[.int .i64 0] 256) 3)) :=
  run_make_row' (P := Try.prog) 33 3 (.int .i64 0) 8 Try.underlying33 info3 rfl .i64 .i64 256 (by omega) (by omega) w
theorem cell_far {w : World} {g f b o : Nat} {v : Value} (h : b ≠ g) : (w.setCell ⟨g, f, none⟩ v).cell? ⟨b, o, none⟩ = w.cell? ⟨b, o, none⟩ := World.cell?_setCell_other w ⟨g, f, none⟩ ⟨b, o, none⟩ v (fun e => h (by injection e with e1; first | exact e1 | exact e1.symm))
/-- a set is answered -/
def ZS (c : Nat → Nat) (w : World) (e : Ending) (w' : World) : Prop := ∃ g, e = .returned (.slice (some ⟨g, 0, none⟩) 256 256) ∧ RI w' g c ∧ w.heap.size ≤ g ∧ Below w.heap.size w w'
set_option maxRecDepth 100000 in
set_option maxHeartbeats 8000000 in
theorem rset_any (p : Pm) (v : Nat → Value) (L : Fl) (w : World) (hp : par p) (hl : Lst p L) (hr : RdZ w v L) : Calls Try.prog 43 #[.agg (znC p v)] w (ZS (fun x => cn L 5 x) w) := by
  unfold ZS
  have X := hide (Box.new w 44 (znC p v))
  have K0 := hide (bal (brefl w) (.cells (znC p v) 44))
  have HR := hide hr
  have HL := hide hl
  have HP := hide hp
  clear hr hl hp
  go_enter Try.func43, Try.ntmps43
  go_upto_region 1 with fail
  obtain ⟨g, hg⟩ : ∃ g, g = w.heap.size := ⟨_, rfl⟩
  obtain ⟨W0, hW0⟩ : ∃ W0, W0 = (w.alloc (.cells (znC p v) 44)) := ⟨_, rfl⟩
  rw [← hg] at X
  rw [← hg, ← hW0]
  rw [← hW0] at X K0
  have HG1 := hide (show W0.heap.size = g + 1 by rw [hW0, alloc_size', hg])
  have HG0 := hide hg
  clear hg hW0
  obtain ⟨zz, hzz⟩ : ∃ zz : Array Value, zz = madeCells #[.int .i64 0] 256 := ⟨_, rfl⟩
  have hmk : ∀ w, (Instr.makeSlice 33 (.int .i64 256) (.int .i64 256)).run Try.prog w = .ok (.slice (some ⟨w.heap.size, 0, none⟩) 256 256) (w.alloc (.cells zz 3)) := fun w => by rw [hzz]; exact make256 w
  have S := hide (show RI (W0.alloc (.cells zz 3)) W0.heap.size (fun x => cn L 0 x) by rw [hzz]; exact RI.made W0 _ (fun x _ => rfl))
  have M := bal (brefl W0) (.cells zz 3)
  replace K0 := hide (btrans K0.out M)
  replace X := hide (X.out.below M)
  clear M hzz
  go_upto_region 2 with fail
  rw [HG1.out] at S ⊢
  generalize W0.alloc (.cells zz 3) = W1 at *
  clear hmk
  go_wp2
  go_loopw [4] (fun a wr => ∃ k : Nat, k ≤ 5 ∧ a = .int .i64 k ∧ Hid (Box wr g 44 (znC p v)) ∧ Hid (RI wr (g + 1) (fun x => cn L k x)) ∧ Hid (Below w.heap.size w wr)) (fun a _ => 5 - (intOf a).toNat)
  case atStart => exact ⟨0, by omega, rfl, X, S, K0⟩
  case round =>
    clear X S K0
    obtain ⟨k, hk, rfl, X, S, K⟩ := hrel
    by_cases h5 : k < 5
    · have hk5 : (k : Int) < 5 := by omega
      have hle : decide ((k : Int) ≤ 4) = true := decide_eq_true (by omega)
      have hwr := wr2 h5
      obtain ⟨A, c, ev, hcap, r⟩ := HR.out k h5
      have R := hide r
      have HV := hide ev
      have LN := hide (lst_len HP.out HL.out h5)
      clear ev r hcap
      obtain ⟨l, hl⟩ : ∃ l, l = L k := ⟨_, rfl⟩
      rw [← hl] at HV R LN
      have H5 := hide h5
      have S2 := hide (show RI wr (g + 1) (fun x => c2 L k 0 x) from S.out.congr fun x _ => (c2_zero L k x).symm)
      have KW := hide K.out
      have XW := hide X.out
      have HLk := hide hl
      have HWR := hide hwr
      clear S hl K X hwr
      go_wp2
      go_loopw [5] (fun a wr => ∃ i : Nat, i ≤ l.length ∧ a = .int .i64 i ∧ Hid (Box wr g 44 (znC p v)) ∧ Hid (RI wr (g + 1) (fun x => c2 L k i x)) ∧ Hid (Below w.heap.size w wr)) (fun a _ => l.length - (intOf a).toNat)
      case atStart => exact ⟨0, Nat.zero_le _, rfl, XW, S2, KW⟩
      case round =>
        clear S2 KW XW
        obtain ⟨i, hi, rfl, X, S, K⟩ := hrel
        have s0 := box_list X.out H5.out
        rw [HV.out] at s0
        have hln := LN.out
        have hwr := HWR.out
        by_cases hlt : i < l.length
        · obtain ⟨b, off, eA, hbl, c0⟩ := R.out.cells K.out hlt
          subst eA
          have hmem : l.getD i 0 ∈ L k := by rw [← HLk.out]; exact getD_mem hlt
          have hblk := HL.out.blk k H5.out _ hmem
          have hbd := blk_bd HP.out hblk
          have hsr := HL.out.srt k H5.out
          rw [← HLk.out] at hsr
          have bp := bw_pos k
          obtain ⟨a, ha⟩ : ∃ a : Nat, l.getD i 0 = (a : Int) := ⟨(l.getD i 0).toNat, by omega⟩
          rw [ha] at c0 hbd
          have S3 := hide (show RI wr (g + 1) (fun x => c3 L k i a a x) from S.out.congr fun x _ => (c3_zero L k i a x).symm)
          have AL := hide (fun x => by have := c3_all (L := L) (k := k) (i := i) H5.out (by rw [← HLk.out]; exact hsr) (by rw [← HLk.out]; exact hlt) (by rw [← HLk.out]; exact hblk.1) x; rwa [← HLk.out, ha] at this)
          rw [ha] at hblk
          have HB2 := hide hblk
          have C0 := hide c0
          have XW := hide X.out
          have KW := hide K.out
          have HBL := hide hbl
          clear S K X hmem hblk hsr ha
          go_wp2
          clear c0 s0
          go_loopw [6] (fun s wr => ∃ f : Nat, a ≤ f ∧ (f : Int) ≤ a + bw k ∧ s = .int .i64 f ∧ Hid (Box wr g 44 (znC p v)) ∧ Hid (RI wr (g + 1) (fun x => c3 L k i a f x)) ∧ Hid (Below w.heap.size w wr) ∧ Hid (wr.cell? ⟨b, off + i, none⟩ = some (.int .i64 a))) (fun s _ => 256 - (intOf s).toNat)
          case atStart => exact ⟨a, Nat.le_refl _, by omega, rfl, XW, S3, KW, C0⟩
          case round =>
            clear S3 KW XW C0
            obtain ⟨f, hf1, hf2, rfl, X, S, K, C0⟩ := hrel
            have hw := HWR.out
            have s0 := box_list X.out H5.out
            rw [HV.out] at s0
            have c0 := C0.out
            by_cases hff : (f : Int) < a + bw k
            · have hf256 : f < 256 := by omega
              have hf256' : (f : Int) < 256 := by omega
              have hdn : dn k f = a := dn_eq H5.out HB2.out.1 (by omega) hff
              have cell := S.out.cell hf256
              have frz := S.out.frozen f
              simp only at cell
              have cl := c3_le L k i a f f
              have S5 := hide (S.out.put f (c3 L k i a f f + 1) (c' := fun x => c3 L k i a ((f : Int) + 1) x) (fun x _ => by
                rw [c3_step hdn x]
                by_cases e : x = f
                · subst e; simp
                · rw [if_neg e, if_neg e]))
              have hkk := H5.out
              generalize hcq : c3 L k i a f f = q at *
              have hq : ((q + 1 : Nat) : Int) = (q : Int) + 1 := by omega
              rw [hq] at S5
              have K5 := hide (K.out.setCell (p := ⟨g + 1, f, none⟩) (show w.heap.size ≤ g + 1 by rw [← HG0.out]; omega) (.int .i64 ((q : Int) + 1)))
              have X5 := hide (X.out.far (show g ≠ g + 1 by omega) (b := g + 1) (i := f) (.int .i64 ((q : Int) + 1)))
              have C5 := hide (show (wr.setCell ⟨g + 1, f, none⟩ (.int .i64 ((q : Int) + 1))).cell? ⟨b, off + i, none⟩ = some (.int .i64 a) from (cell_far (by have := HBL.out; rw [← HG0.out] at this; omega)).trans C0.out)
              clear hcq hdn S K X C0 hq
              go_wp2
              go_roundw
              case rel => exact ⟨f + 1, by omega, by omega, by go_num, X5, S5, K5, C5⟩
              case measure => simp [intOf]; omega
            · have hfe : (f : Int) = a + bw k := by omega
              have S5 := hide (show RI wr (g + 1) (fun x => c2 L k (i + 1) x) from S.out.congr fun x _ => by rw [hfe]; exact AL.out x)
              have hdf : decide ((f : Int) < a + bw k) = false := decide_eq_false hff
              clear hfe S
              go_wp2
              go_roundw
              case rel => exact ⟨i + 1, by omega, by go_num, X, S5, K⟩
              case measure => simp [intOf]; omega
        · obtain rfl : i = l.length := by omega
          have S2 := hide (show RI wr (g + 1) (fun x => cn L (k + 1) x) from S.out.congr fun x _ => by rw [HLk.out]; exact c2_all L k x)
          clear S
          go_wp2
          go_roundw
          case rel => exact ⟨k + 1, by have := H5.out; omega, by go_num, X, S2, K⟩
          case measure => simp [intOf]; have := H5.out; omega
    · obtain rfl : k = 5 := by omega
      go_wp2
      go_ret
      exact ⟨_, rfl, S.out, by rw [← HG0.out]; omega, K.out⟩
end Go.Proofs.Ytiopfeleaifpbab.Bd
