import Derived.Test.YtiopfeleaifpbabEx
import Derived.Test.YtiopfeleaifpbabMath4
namespace Go.Proofs.Ytiopfeleaifpbab.Bd
open Go Go.RowKit
set_option linter.unusedVariables false
/-- a row of 256 bools: which counts are above nought -/
def RB (w : World) (g : Nat) (c : Nat → Nat) : Prop := w.rowIs g 61 256 (fun j => .bool (decide (0 < c j)))
theorem RB.below {w w' : World} {g : Nat} {c : Nat → Nat} (h : RB w g c) (hb : Below w.heap.size w w') : RB w' g c := h.of_block (hb.block g h.lt)
theorem RB.congr {w : World} {g : Nat} {c c' : Nat → Nat} (h : RB w g c) (e : ∀ x, x < 256 → c x = c' x) : RB w g c' := World.rowIs.congr h fun i hi => by rw [e i hi]
theorem RB.on {w : World} {g : Nat} {c c' : Nat → Nat} (h : RB w g c) (f : Nat) (e : ∀ x, x < 256 → c' x = if x = f then c x + 1 else c x) : RB (w.setCell ⟨g, f, none⟩ (.bool true)) g c' := (World.rowIs.set h f (.bool true)).congr fun i hi => by
  rw [e i hi]
  by_cases hi2 : i = f
  · rw [if_pos hi2, if_pos hi2, decide_eq_true (Nat.succ_pos _)]
  · rw [if_neg hi2, if_neg hi2]
theorem info61 : (Try.prog.info? 61).map (fun i => i.zero) = some (some (.agg (Array.replicate 256 (.bool false)))) := by kernel_rfl
theorem zero61 (w : World) : (zeroValue 61).run Try.prog w = .ok (.agg (Array.replicate 256 (.bool false))) w := by
  have h := info61
  rw [Option.map_eq_some_iff] at h
  obtain ⟨i, hi, hz⟩ := h
  simp [zeroValue, typeInfo, hi, hz]
theorem RB.made (w : World) (c : Nat → Nat) (hc : ∀ x, x < 256 → c x = 0) : RB (w.alloc (.cells (Array.replicate 256 (.bool false)) 61)) w.heap.size c := by
  have h := World.rowIs_alloc w (Array.replicate 256 (.bool false)) 61 (fun j => .bool (decide (0 < c j))) (fun i hi => by
    have hi' : i < 256 := by simpa using hi
    rw [Array.getElem?_replicate, if_pos hi', hc i hi']; simp)
  rw [Array.size_replicate] at h
  exact h
set_option maxRecDepth 100000 in
set_option maxHeartbeats 8000000 in
theorem overlap_any (p : Pm) (v : Nat → Value) (L : Fl) (w : World) (hp : par p) (hl : Lst p L) (hr : RdZ w v L) :
    Calls Try.prog 39 #[.agg (znC p v)] w fun e w' => e = .returned (.bool (decide (¬ Dj L))) ∧ Below w.heap.size w w' := by
  have X := hide (Box.new w 44 (znC p v))
  have K0 := hide (bal (brefl w) (.cells (znC p v) 44))
  have HR := hide hr
  have HL := hide hl
  have HP := hide hp
  obtain ⟨res, hres⟩ : ∃ r, r = decide (¬ Dj L) := ⟨_, rfl⟩
  rw [← hres]
  have HRes := hide hres
  clear hr hl hp hres
  go_enter Try.func39, Try.ntmps39
  go_upto_region 1 with fail
  obtain ⟨g, hg⟩ : ∃ g, g = w.heap.size := ⟨_, rfl⟩
  obtain ⟨W0, hW0⟩ : ∃ W0, W0 = (w.alloc (.cells (znC p v) 44)) := ⟨_, rfl⟩
  rw [← hg] at X
  rw [← hg, ← hW0]
  rw [← hW0] at X K0
  clear hg hW0
  obtain ⟨zz, hzz⟩ : ∃ zz : Array Value, zz = Array.replicate 256 (.bool false) := ⟨_, rfl⟩
  have z68 : ∀ w, (zeroValue 61).run Try.prog w = .ok (.agg zz) w := fun w => by rw [hzz]; exact zero61 w
  obtain ⟨gs, hgs⟩ : ∃ g, g = W0.heap.size := ⟨_, rfl⟩
  have S := hide (show RB (W0.alloc (.cells zz 61)) gs (fun x => cn L 0 x) by rw [hzz, hgs]; exact RB.made W0 _ (fun x _ => rfl))
  have M := bal (brefl W0) (.cells zz 61)
  have HG := hide (show w.heap.size ≤ gs by rw [hgs]; exact K0.out.size)
  replace K0 := hide (btrans K0.out M)
  replace X := hide (X.out.below M)
  clear M hzz
  go_upto_region 2 with fail
  rw [← hgs]
  generalize W0.alloc (.cells zz 61) = W1 at *
  clear z68 hgs
  obtain ⟨y0, y1, y2, y3, y4, y5, y6, y7, y8, y9⟩ := box_all X.out
  go_wp2
  clear y0 y1 y2 y3 y4 y5 y6 y7 y8 y9 X
  go_loopw [11] (fun a wr => ∃ k : Nat, k ≤ 5 ∧ a = .int .i64 k ∧ Hid (RB wr gs (fun x => cn L k x)) ∧ Hid (Below w.heap.size w wr) ∧ Hid (∀ x, x < 256 → cn L k x ≤ 1)) (fun a _ => 5 - (intOf a).toNat)
  case atStart => exact ⟨0, by omega, rfl, S, K0, hide (fun x _ => Nat.zero_le _)⟩
  case round =>
    clear S K0
    obtain ⟨k, hk, rfl, S, K, N⟩ := hrel
    by_cases h5 : k < 5
    · have hk5 : (k : Int) < 5 := by omega
      have IX := index_any v h5
      obtain ⟨A, c, ev, hcap, r⟩ := HR.out k h5
      have R := hide r
      have ln := lst_len HP.out HL.out h5
      rw [ev] at IX
      clear ev r hcap
      obtain ⟨l, hl⟩ : ∃ l, l = L k := ⟨_, rfl⟩
      rw [← hl] at IX R ln
      have H5 := hide h5
      have S2 := hide (show RB wr gs (fun x => c2 L k 0 x) from S.out.congr fun x _ => (c2_zero L k x).symm)
      have N2 := hide (show ∀ x, x < 256 → c2 L k 0 x ≤ 1 from fun x hx => by rw [c2_zero]; exact N.out x hx)
      have KW := hide K.out
      have HLk := hide hl
      clear S N hl K
      go_wp2
      clear IX
      go_loopw [17] (fun a wr2 => ∃ i : Nat, i ≤ l.length ∧ a = .int .i64 i ∧ Hid (RB wr2 gs (fun x => c2 L k i x)) ∧ Hid (Below w.heap.size w wr2) ∧ Hid (∀ x, x < 256 → c2 L k i x ≤ 1)) (fun a _ => l.length - (intOf a).toNat)
      case atStart => exact ⟨0, Nat.zero_le _, rfl, S2, KW, N2⟩
      case round =>
        clear S2 KW N2
        obtain ⟨i, hi, rfl, S, K, N⟩ := hrel
        by_cases hlt : i < l.length
        · obtain ⟨b, off, eA, hbl, c0⟩ := R.out.cells K.out hlt
          subst eA
          have hmem : l.getD i 0 ∈ L k := by rw [← HLk.out]; exact getD_mem hlt
          have hblk := HL.out.blk k H5.out _ hmem
          have hbd := blk_bd HP.out hblk
          have hsr := HL.out.srt k H5.out
          rw [← HLk.out] at hsr
          have hw := wr2 H5.out
          have bp := bw_pos k
          obtain ⟨a, ha⟩ : ∃ a : Nat, l.getD i 0 = (a : Int) := ⟨(l.getD i 0).toNat, by omega⟩
          rw [ha] at c0 hbd
          have S3 := hide (show RB wr gs (fun x => c3 L k i a a x) from S.out.congr fun x _ => (c3_zero L k i a x).symm)
          have N3 := hide (show ∀ x, x < 256 → c3 L k i a a x ≤ 1 from fun x hx => by rw [c3_zero]; exact N.out x hx)
          have AL := hide (fun x => by have := c3_all (L := L) (k := k) (i := i) H5.out (by rw [← HLk.out]; exact hsr) (by rw [← HLk.out]; exact hlt) (by rw [← HLk.out]; exact hblk.1) x; rwa [← HLk.out, ha] at this)
          have NT := hide (tk_no hsr hlt)
          rw [ha] at NT hblk
          have HB2 := hide hblk
          have HBD := hide hbd
          have HW := hide hw
          have HA := hide ha
          have KW := hide K.out
          clear S N K hmem hblk hsr ha hw
          go_wp2
          go_loopw [8] (fun s wr => ∃ f : Nat, a ≤ f ∧ (f : Int) ≤ a + bw k ∧ s = .int .i64 f ∧ Hid (RB wr gs (fun x => c3 L k i a f x)) ∧ Hid (Below w.heap.size w wr) ∧ Hid (∀ x, x < 256 → c3 L k i a f x ≤ 1)) (fun s _ => 256 - (intOf s).toNat)
          case atStart => exact ⟨a, Nat.le_refl _, by omega, rfl, S3, KW, N3⟩
          case round =>
            clear S3 KW N3
            obtain ⟨f, hf1, hf2, rfl, S, K, N⟩ := hrel
            have hw := HW.out
            by_cases hff : (f : Int) < a + bw k
            · have hf256 : f < 256 := by omega
              have hf256' : (f : Int) < 256 := by omega
              have hdn : dn k f = a := dn_eq H5.out HB2.out.1 (by omega) hff
              have cell := S.out.cell hf256
              have frz := S.out.frozen f
              simp only at cell
              by_cases hc : 0 < c3 L k i a f f
              · rw [decide_eq_true hc] at cell
                have hcov : cov L k f := by unfold cov; rw [hdn, ← HA.out, ← HLk.out]; exact getD_mem hlt
                have h2 : 0 < cn L k f := by rw [c3_self hdn (by rw [← HLk.out]; exact NT.out)] at hc; exact hc
                have E := hide (show res = true by
                  rw [HRes.out]
                  refine decide_eq_true (fun h => ?_)
                  have h1 := (dj_iff L).1 h f hf256
                  have h3 := cn_mono L f (show k + 1 ≤ 5 from H5.out)
                  rw [cn_one hcov] at h3
                  omega)
                clear hc hcov h2 hdn
                go_wp2
                go_ret
                exact ⟨ret_bool E.out.symm, K.out⟩
              · rw [decide_eq_false hc] at cell
                have hc0 : c3 L k i a f f = 0 := by omega
                have S5 := hide (S.out.on f (c' := fun x => c3 L k i a ((f : Int) + 1) x) (fun x _ => c3_step hdn x))
                have N5 := hide (show ∀ x, x < 256 → c3 L k i a ((f : Int) + 1) x ≤ 1 from fun x hx => by
                  rw [c3_step hdn x]
                  split
                  · rename_i e; subst e; omega
                  · exact N.out x hx)
                have K5 := hide (K.out.setCell (p := ⟨gs, f, none⟩) HG.out (.bool true))
                clear hc hc0 hdn S N K
                go_wp2
                go_roundw
                case rel => exact ⟨f + 1, by omega, by omega, by go_num, S5, K5, N5⟩
                case measure => simp [intOf]; omega
            · have hfe : (f : Int) = a + bw k := by omega
              have S5 := hide (show RB wr gs (fun x => c2 L k (i + 1) x) from S.out.congr fun x _ => by rw [hfe]; exact AL.out x)
              have N5 := hide (show ∀ x, x < 256 → c2 L k (i + 1) x ≤ 1 from fun x hx => by have := N.out x hx; rw [hfe, AL.out] at this; exact this)
              have hdf : decide ((f : Int) < a + bw k) = false := decide_eq_false hff
              clear hfe S N
              go_wp2
              go_roundw
              case rel => exact ⟨i + 1, by omega, by go_num, S5, K, N5⟩
              case measure => simp [intOf]; omega
        · obtain rfl : i = l.length := by omega
          have S2 := hide (show RB wr gs (fun x => cn L (k + 1) x) from S.out.congr fun x _ => by rw [HLk.out]; exact c2_all L k x)
          have N2 := hide (show ∀ x, x < 256 → cn L (k + 1) x ≤ 1 from fun x hx => by have := N.out x hx; rw [HLk.out] at this; rwa [c2_all] at this)
          clear S N
          go_wp2
          go_roundw
          case rel => exact ⟨k + 1, by omega, by go_num, S2, K, N2⟩
          case measure => simp [intOf]; omega
    · obtain rfl : k = 5 := by omega
      have E := hide (show res = false by rw [HRes.out]; exact decide_eq_false (fun h => h ((dj_iff L).2 N.out)))
      go_wp2
      go_ret
      exact ⟨ret_bool E.out.symm, K.out⟩
end Go.Proofs.Ytiopfeleaifpbab.Bd
