import Derived.Test.YtoogdggiemacjaaF2
import Derived.Laws.MakeOwn
namespace Go.Proofs.Ytoogdggiemacjaa.Cw
open Go Go.RowKit
set_option linter.unusedVariables false
set_option linter.unusedSimpArgs false
abbrev Is := List Int
def ic (z : Int) : Value := .int .i64 z
-- A BLOCK OF NUMBERS
def Ik (w : World) (g : Nat) (l : Is) : Prop := Box w g 3 ((l.map ic).toArray)
section
variable {w w' : World} {g : Nat} {l : Is}
theorem Ik.below (h : Ik w g l) (hb : Below w.heap.size w w') : Ik w' g l := Box.below h hb
theorem Ik.put (h : Ik w g l) (i : Nat) (v : Int) : Ik (w.setCell ⟨g, i, none⟩ (.int .i64 v)) g (l.set i v) := by
  have := Box.put h i (ic v)
  unfold Ik
  rw [List.map_set, ← List.setIfInBounds_toArray]
  exact this
theorem Ik.cell (h : Ik w g l) {i : Nat} (hi : i < l.length) : w.cell? ⟨g, i, none⟩ = some (.int .i64 (l.getD i 0)) := by
  rw [Box.cell h i]
  simp [ic, List.getD, List.getElem?_eq_getElem hi]
theorem Ik.frozen (h : Ik w g l) (i : Nat) : w.frozen? ⟨g, i, none⟩ = false := Box.frozen h i
end
theorem made_eq3 (m : Nat) : madeCells #[.int .i64 0] m = ((List.replicate m (0 : Int)).map ic).toArray := by
  apply Array.ext'
  apply List.ext_getElem
  · simp [madeCells]
  · intro i h1 h2
    simp [madeCells, Nat.mod_one, ic]
def zi (m : Nat) : Array Value := ((List.replicate m (0 : Int)).map ic).toArray
theorem makeI (w : World) (m : Nat) (h : m ≤ 1000000) : (Instr.makeSlice 47 (.int .i64 (m : Int)) (.int .i64 (m : Int))).run Try.prog w = .ok (.slice (some ⟨w.heap.size, 0, none⟩) m m) (w.alloc (.cells (zi m) 3)) := by
  have := run_make_row' (P := Try.prog) 47 3 (.int .i64 0) 8 Try.underlying47 info47 rfl .i64 .i64 m (by omega) (by omega) w
  rw [made_eq3] at this
  exact this
/-- the counts of n frames after k spaces and j pages -/
def ctL (n : Nat) (L : List Sp) (k j : Nat) : Is := (List.range n).map fun (f : Nat) => ((cnS (f : Int) (L.take k) + cnP (f : Int) ((sAt L k).2.take j) : Nat) : Int)
theorem ctL_len (n : Nat) (L : List Sp) (k j : Nat) : (ctL n L k j).length = n := by simp [ctL]
theorem ctL_at {n : Nat} (L : List Sp) (k j : Nat) {f : Nat} (h : f < n) : (ctL n L k j).getD f 0 = ((cnS (f : Int) (L.take k) + cnP (f : Int) ((sAt L k).2.take j) : Nat) : Int) := by
  unfold ctL
  rw [List.getD_eq_getElem?_getD, List.getElem?_map, List.getElem?_range h]; rfl
theorem ctL_zero (n : Nat) (L : List Sp) : ctL n L 0 0 = List.replicate n 0 := by
  apply List.ext_getElem
  · simp [ctL_len]
  · intro i h1 h2
    simp [ctL, cnS, cnP]
theorem ctL_space {n : Nat} {L : List Sp} {k : Nat} (h : k < L.length) : ctL n L k (sAt L k).2.length = ctL n L (k + 1) 0 := by
  unfold ctL
  apply List.map_congr_left
  intro f _
  rw [sAt_snoc h, cnS_snoc, List.take_length]
  simp [cnP]
theorem ctL_miss {n : Nat} {L : List Sp} {k j : Nat} (h : j < (sAt L k).2.length) (hf : (pAt (sAt L k).2 j).1 < 0) : ctL n L k (j + 1) = ctL n L k j := by
  unfold ctL
  apply List.map_congr_left
  intro f _
  rw [pAt_snoc h, cnP_snoc, if_neg (by omega)]
  simp
theorem ctL_hit {n : Nat} {L : List Sp} {k j f : Nat} (h : j < (sAt L k).2.length) (hf : (pAt (sAt L k).2 j).1 = (f : Int)) (hn : f < n) : (ctL n L k j).set f ((ctL n L k j).getD f 0 + 1) = ctL n L k (j + 1) := by
  apply List.ext_getElem
  · simp [ctL_len]
  · intro i h1 h2
    rw [List.length_set, ctL_len] at h1
    have e1 : (ctL n L k (j + 1))[i] = (ctL n L k (j + 1)).getD i 0 := by
      rw [List.getD_eq_getElem?_getD, List.getElem?_eq_getElem h2]; rfl
    rw [e1, ctL_at L k (j + 1) h1, pAt_snoc h, cnP_snoc, hf, List.getElem_set]
    split
    · rename_i e
      subst e
      rw [ctL_at L k j h1]
      simp
      omega
    · rename_i e
      have e2 : (ctL n L k j)[i]'(by rw [ctL_len]; exact h1) = (ctL n L k j).getD i 0 := by
        rw [List.getD_eq_getElem?_getD, List.getElem?_eq_getElem (by rw [ctL_len]; exact h1)]; rfl
      rw [e2, ctL_at L k j h1, if_neg (by omega)]
      simp
theorem cnS_le (f : Int) (L : List Sp) (m : Nat) (h : ∀ s ∈ L, s.2.length ≤ m) : cnS f L ≤ L.length * m := by
  unfold cnS
  induction L with
  | nil => simp
  | cons s L ih =>
    have a := cnP_le f s.2
    have b := h s (by simp)
    have c := ih (fun x hx => h x (by simp [hx]))
    simp only [List.map_cons, List.sum_cons, List.length_cons]
    rw [Nat.succ_mul]
    omega
theorem ctL_full {n : Nat} {L : List Sp} {f : Nat} (h : f < n) : (ctL n L L.length 0).getD f 0 = (cnS (f : Int) L : Int) := by
  rw [ctL_at L _ _ h, List.take_length]
  simp [cnP]
theorem free_is (n m : Int) (b : Bool) (h : (n == 0) = b) (w : World) : Calls Try.prog 39 #[.agg #[.int .i64 n, .int .i64 m]] w fun e w' => e = .returned (.bool b) ∧ Below w.heap.size w w' := by
  rw [← h]
  exact free_any n m w
set_option maxRecDepth 100000 in
set_option maxHeartbeats 16000000 in
theorem counted_any (M : Cow) (As Af : Option Addr) (cs cf : Nat) (w : World) (h : CwIn w M As cs Af cf) (hz : szG M) (hf : fmG M) : Calls Try.prog 44 #[.agg (cwA M As cs Af cf)] w fun e w' => e = .returned (.bool (decide (stG M))) ∧ Below w.heap.size w w' := by
  have K := hide (bal (brefl w) (.cells (cwA M As cs Af cf) 28))
  have X := hide (Box.new w 28 (cwA M As cs Af cf))
  have RS := hide h.rs
  have RF := hide h.rf
  have hn : M.fr.length ≤ 256 := hz.2.2.1.2
  have hs8 : M.sp.length ≤ 8 := hz.2.1.2
  have LP := hide (show ∀ k, k < M.sp.length → (sAt M.sp k).2.length ≤ 512 from fun k hk => by
    have h1 := (hf _ (sAt_mem hk)).1
    unfold lnG at h1
    have h2 := hz.1.2
    split at h1
    · omega
    · omega)
  have CB := hide (show ∀ (f : Nat) k, (cnS (f : Int) (M.sp.take k)) ≤ 4096 from fun f k => by
    have h1 := cnS_le (f : Int) (M.sp.take k) 512 (fun s hs => by
      obtain ⟨i, hi, rfl⟩ := List.mem_iff_getElem.1 (List.mem_of_mem_take hs)
      have := LP.out i hi
      rwa [sAt_get hi] at this)
    have h2 : (M.sp.take k).length ≤ 8 := by rw [List.length_take]; omega
    have h3 : (M.sp.take k).length * 512 ≤ 8 * 512 := Nat.mul_le_mul_right _ h2
    omega)
  have HF := hide (show ∀ k, k < M.sp.length → ∀ j, j < (sAt M.sp k).2.length → pgG M.fr.length (pAt (sAt M.sp k).2 j) from fun k hk j hj => (hf _ (sAt_mem hk)).2 _ (pAt_mem hj))
  have MK := fun w => makeI w M.fr.length (by omega)
  have KC := hide (fun W => bal (brefl W) (.cells (zi M.fr.length) 3))
  clear h hz hf
  unfold cwA at K X ⊢
  go_enter Try.func44, Try.ntmps44
  go_upto_region 1 with fail
  obtain ⟨g, hg⟩ : ∃ g, g = w.heap.size := ⟨_, rfl⟩
  rw [← hg] at X ⊢
  clear hg
  obtain ⟨w1, hw1⟩ : ∃ w1, w1 = w.alloc (.cells #[.int .i64 M.sz, .slice As M.sp.length cs, .slice Af M.fr.length cf, .int .i64 M.cp] 28) := ⟨_, rfl⟩
  rw [← hw1] at X K ⊢
  clear hw1
  obtain ⟨x0, x1, x2, x3⟩ := box4 X.out
  go_upto_region 2 with fail
  replace X := hide (X.out.below (KC.out w1))
  have KS0 := hide K.out.size
  replace K := hide (btrans K.out (KC.out w1))
  have C := hide (show Ik (w1.alloc (.cells (zi M.fr.length) 3)) w1.heap.size (ctL M.fr.length M.sp 0 0) by rw [ctL_zero]; exact Box.new w1 3 _)
  obtain ⟨gc, hgc⟩ : ∃ g, g = w1.heap.size := ⟨_, rfl⟩
  have GC := hide (show w.heap.size ≤ gc by rw [hgc]; exact KS0.out)
  rw [← hgc] at C ⊢
  clear hgc x0 x1 x2 x3 MK
  generalize w1.alloc (.cells (zi M.fr.length) 3) = w2 at *
  obtain ⟨x0, x1, x2, x3⟩ := box4 X.out
  have GNE := hide (show g ≠ gc from fun e => by
    have a := X.out
    have b := C.out
    unfold Ik at b
    exact absurd e (a.ne b (by decide)))
  go_wp2
  clear x0 x1 x2 x3
  go_loopw [17] (fun i wr => ∃ k : Nat, k ≤ M.sp.length ∧ i = .int .i64 k ∧ Hid (Below w.heap.size w wr) ∧ Hid (Box wr g 28 #[.int .i64 M.sz, .slice As M.sp.length cs, .slice Af M.fr.length cf, .int .i64 M.cp]) ∧ Hid (Ik wr gc (ctL M.fr.length M.sp k 0))) (fun i _ => M.sp.length - (intOf i).toNat)
  case atStart => exact ⟨0, Nat.zero_le _, rfl, K, X, C⟩
  case round =>
    clear K X C
    obtain ⟨k, hk, rfl, K, X, C⟩ := hrel
    by_cases hlt : k < M.sp.length
    · have hl2 : (k : Int) < (M.sp.length : Int) := by omega
      have hk0 : (0 : Int) ≤ (k : Int) := by omega
      obtain ⟨b, o, v, rfl, hb, y0, y1, Ap, cp, rfl, hcp, hP⟩ := RS.out.cells (brefl w) hlt
      replace y0 := (K.out.cell (p := ⟨b, _, none⟩) hb).trans y0
      replace y1 := (K.out.cell (p := ⟨b, _, none⟩) hb).trans y1
      have HP := hide hP
      have hlp := LP.out k hlt
      have HFk := hide (HF.out k hlt)
      have SPC := hide (ctL_space (n := M.fr.length) hlt)
      have MIS := hide (fun j hj hf => ctL_miss (n := M.fr.length) (L := M.sp) (k := k) (j := j) hj hf)
      have HIT := hide (fun j f hj hf hn => ctL_hit (n := M.fr.length) (L := M.sp) (k := k) (j := j) (f := f) hj hf hn)
      have CA := hide (fun j f (hf : f < M.fr.length) => ctL_at M.sp k j hf)
      obtain ⟨lv, hlv⟩ : ∃ lv, lv = (sAt M.sp k).1 := ⟨_, rfl⟩
      obtain ⟨pgs, hpg⟩ : ∃ pgs, pgs = (sAt M.sp k).2 := ⟨_, rfl⟩
      rw [← hlv] at y0
      rw [← hpg] at y1 HP hlp HFk SPC MIS HIT CA
      clear hP hlv hpg hcp
      have M1 := bal (brefl wr) (.cells #[.bool lv, .slice Ap pgs.length cp] 62)
      have Y := hide (Box.new wr 62 #[.bool lv, .slice Ap pgs.length cp])
      have YG := hide (show w.heap.size ≤ wr.heap.size from K.out.size)
      replace X := hide (X.out.below M1)
      replace C := hide (C.out.below M1)
      replace K := hide (btrans K.out M1)
      clear M1
      go_upto_region 5 with fail
      obtain ⟨g4, hg4⟩ : ∃ g, g = wr.heap.size := ⟨_, rfl⟩
      rw [← hg4] at Y YG ⊢
      clear hg4 y0 y1
      generalize wr.alloc (.cells #[.bool lv, .slice Ap pgs.length cp] 62) = w3 at *
      obtain ⟨y0, y1⟩ := box2 Y.out
      go_wp2
      clear y0 y1 Y
      go_loopw [24] (fun i wq => ∃ j : Nat, j ≤ pgs.length ∧ i = .int .i64 j ∧ Hid (Below w.heap.size w wq) ∧ Hid (Box wq g 28 #[.int .i64 M.sz, .slice (some ⟨b, o, none⟩) M.sp.length cs, .slice Af M.fr.length cf, .int .i64 M.cp]) ∧ Hid (Ik wq gc (ctL M.fr.length M.sp k j))) (fun i _ => pgs.length - (intOf i).toNat)
      case atStart => exact ⟨0, Nat.zero_le _, rfl, K, X, C⟩
      case round =>
        clear K X C
        obtain ⟨j, hj, rfl, K, X, C⟩ := hrel
        by_cases hjl : j < pgs.length
        · have hl3 : (j : Int) < (pgs.length : Int) := by omega
          have hj0 : (0 : Int) ≤ (j : Int) := by omega
          obtain ⟨b2, o2, rfl, hb2, z0, z1⟩ := HP.out.cells K.out hjl
          have PG := hide (HFk.out j hjl)
          replace MIS := hide (MIS.out j hjl)
          replace HIT := hide (fun f => HIT.out j f hjl)
          rcases hpt : pAt pgs j with ⟨f, wv⟩
          rw [hpt] at z0 z1 PG MIS HIT
          simp only at z0 z1 MIS HIT
          clear hpt
          have M2 := bal (brefl wr) (.cells #[.int .i64 f, .bool wv] 64)
          have Z := hide (Box.new wr 64 #[.int .i64 f, .bool wv])
          replace X := hide (X.out.below M2)
          replace C := hide (C.out.below M2)
          replace K := hide (btrans K.out M2)
          clear M2
          go_upto_region 8 with fail
          obtain ⟨g7, hg7⟩ : ∃ g, g = wr.heap.size := ⟨_, rfl⟩
          rw [← hg7] at Z ⊢
          clear hg7 z0 z1
          generalize wr.alloc (.cells #[.int .i64 f, .bool wv] 64) = w5 at *
          obtain ⟨z0, z1⟩ := box2 Z.out
          by_cases h0 : 0 ≤ f
          · have hfn : f < (M.fr.length : Int) := by
              rcases PG.out with h | h
              · injection h with h _; omega
              · exact h.2
            obtain ⟨n, rfl⟩ := Int.eq_ofNat_of_zero_le h0
            have hnn : n < M.fr.length := by omega
            have xx := C.out.cell (i := n) (by rw [ctL_len]; exact hnn)
            have ff := C.out.frozen n
            have hgl := Box.lt C.out
            have bb := CA.out j n hnn
            have cb := CB.out n k
            have cl := cnP_le ((n : Nat) : Int) (pgs.take j)
            rw [List.length_take] at cl
            have HT := hide (HIT.out n rfl hnn)
            obtain ⟨c, hc⟩ : ∃ c, c = (ctL M.fr.length M.sp k j).getD n 0 := ⟨_, rfl⟩
            rw [← hc] at xx bb HT
            clear hc
            have cbd : 0 ≤ c ∧ c ≤ 10000 := by omega
            clear bb cb cl
            have wc : IntKind.i64.wrap (c + 1) = c + 1 := by rw [IntKind.wrap_i64]; omega
            have C2 := hide (C.out.put n (c + 1))
            rw [HT.out] at C2
            have X2 := hide (X.out.far GNE.out (b := gc) (i := n) (.int .i64 (c + 1)))
            have K2 := hide (bset K.out (p := ⟨gc, n, none⟩) GC.out (.int .i64 (c + 1)))
            clear C X K HT
            go_wp2
            go_roundw
            case rel => first | exact ⟨j + 1, by omega, by go_num, K2, X2, C2⟩ | ((repeat apply Exists.intro); exact ⟨⟨j + 1, by omega, by go_num, K2, X2, C2⟩, rfl⟩)
            case measure => simp [intOf]; omega
          · have h0' : ¬ (0 : Int) ≤ f := h0
            replace MIS := hide (MIS.out (by omega))
            rw [← MIS.out] at C
            clear h0
            go_wp2
            go_roundw
            case rel => first | exact ⟨j + 1, by omega, by go_num, K, X, C⟩ | ((repeat apply Exists.intro); exact ⟨⟨j + 1, by omega, by go_num, K, X, C⟩, rfl⟩)
            case measure => simp [intOf]; omega
        · obtain rfl : j = pgs.length := by omega
          rw [SPC.out] at C
          go_wp2
          go_roundw
          case rel => first | exact ⟨k + 1, by omega, by go_num, K, X, C⟩ | ((repeat apply Exists.intro); exact ⟨⟨k + 1, by omega, by go_num, K, X, C⟩, rfl⟩)
          case measure => simp [intOf]; omega
    · obtain rfl : k = M.sp.length := by omega
      have FUL := hide (fun f (hf : f < M.fr.length) => ctL_full (L := M.sp) hf)
      have CT := hide (fun f => CB.out f M.sp.length)
      have CLN := hide (ctL_len M.fr.length M.sp M.sp.length 0)
      obtain ⟨ct, hct⟩ : ∃ ct, ct = ctL M.fr.length M.sp M.sp.length 0 := ⟨_, rfl⟩
      rw [← hct] at C FUL CLN
      clear hct
      obtain ⟨x0, x1, x2, x3⟩ := box4 X.out
      go_wp2
      clear x0 x1 x2 x3
      go_loopw [43] (fun i wq => ∃ f : Nat, f ≤ M.fr.length ∧ i = .int .i64 f ∧ Hid (∀ k, k < f → frG M k) ∧ Hid (Below w.heap.size w wq) ∧ Hid (Box wq g 28 #[.int .i64 M.sz, .slice As M.sp.length cs, .slice Af M.fr.length cf, .int .i64 M.cp]) ∧ Hid (Ik wq gc ct)) (fun i _ => M.fr.length - (intOf i).toNat)
      case atStart => exact ⟨0, Nat.zero_le _, rfl, hide (fun p hp => by omega), K, X, C⟩
      case round =>
        clear K X C
        obtain ⟨i, hi, rfl, N, K, X, C⟩ := hrel
        by_cases hil : i < M.fr.length
        · have hl3 : (i : Int) < (M.fr.length : Int) := by omega
          have hi0 : (0 : Int) ≤ (i : Int) := by omega
          obtain ⟨b2, o2, rfl, hb2, z0, z1⟩ := RF.out.cells K.out hil
          have NG := hide (fun (hg : frG M i) => show ∀ k, k < i + 1 → frG M k from fun k hk => by
            rcases Nat.lt_succ_iff_lt_or_eq.1 hk with h | h
            · exact N.out k h
            · subst h; exact hg)
          have NB := hide (fun (hg : ¬ frG M i) => show decide (stG M) = false from decide_eq_false fun q => hg (q i hil))
          have cv := FUL.out i hil
          have GQ := hide (show frG M i ↔ (fAt M.fr i).1 = ct.getD i 0 ∧ ((fAt M.fr i).1 = 0 → (fAt M.fr i).2 = 0) by rw [cv]; exact Iff.rfl)
          have HC := hide (show ∀ W, Below wr.heap.size wr W → W.cell? ⟨gc, i, none⟩ = some (.int .i64 (ct.getD i 0)) from fun W hW => (C.out.below hW).cell (by rw [CLN.out]; exact hil))
          rcases hft : fAt M.fr i with ⟨cnt, wd⟩
          rw [hft] at z0 z1 GQ
          simp only at z0 z1 GQ
          obtain ⟨cc, hcc⟩ : ∃ c, c = ct.getD i 0 := ⟨_, rfl⟩
          rw [← hcc] at GQ HC
          clear hft N cv hcc
          have M2 := bal (brefl wr) (.cells #[.int .i64 cnt, .int .i64 wd] 53)
          have Z := hide (Box.new wr 53 #[.int .i64 cnt, .int .i64 wd])
          replace X := hide (X.out.below M2)
          replace C := hide (C.out.below M2)
          replace HC := hide (fun W (hW : Below (wr.alloc (.cells #[.int .i64 cnt, .int .i64 wd] 53)).heap.size (wr.alloc (.cells #[.int .i64 cnt, .int .i64 wd] 53)) W) => HC.out W (btrans M2 hW))
          replace K := hide (btrans K.out M2)
          clear M2
          go_upto_region 15 with fail
          obtain ⟨g9, hg9⟩ : ∃ g, g = wr.heap.size := ⟨_, rfl⟩
          rw [← hg9] at Z ⊢
          clear hg9 z0 z1
          generalize wr.alloc (.cells #[.int .i64 cnt, .int .i64 wd] 53) = w3 at *
          by_cases h1 : cnt = cc
          · subst h1
            by_cases h2 : cnt = 0
            · subst h2
              by_cases h3 : wd = 0
              · have PG := hide (GQ.out.2 ⟨rfl, fun _ => h3⟩)
                subst h3
                have CE := hide (show ∀ W, Below w3.heap.size w3 W → W.cell? ⟨g9, 0, none⟩ = some (.int .i64 0) ∧ W.cell? ⟨g9, 1, none⟩ = some (.int .i64 0) ∧ W.cell? ⟨gc, i, none⟩ = some (.int .i64 0) from fun W hW => ⟨(Z.out.below hW).cell 0, (Z.out.below hW).cell 1, (HC.out _ hW)⟩)
                refine wp_region_noPanic ?_
                refine wp_region_held_drew (S := (fun W => W.cell? ⟨g9, 0, none⟩ = some (.int .i64 0) ∧ W.cell? ⟨g9, 1, none⟩ = some (.int .i64 0) ∧ W.cell? ⟨gc, i, none⟩ = some (.int .i64 0))) (by kernel_rfl) ?_ (fun hHeld => ?_)
                · exact CE.out _ (below_drewN (brefl w3) 1)
                have KK := hide (below_drewN (brefl w3) 1)
                change Hid (Below w3.heap.size w3 w3.drew) at KK
                generalize w3.drew = w4 at *
                refine wpAnyH_take (i := 0) (oi := ⟨some 48, _, _, _, _, _⟩) (v := ?_) rfl (by kernel_rfl) (by kernel_rfl) (by kernel_rfl) (fun _ _ _ h => h) (Or.inl ⟨by kernel_rfl, ?_⟩) (by assumption) ?_
                rotate_left 1
                · (intro w hSw; (try dsimp only at hSw); go_simp) <;> (with_reducible rfl)
                (try simp only [Act.put, List.setIfInBounds_toArray, List.set_cons_succ, List.set_cons_zero])
                refine wpAnyH_take (i := 1) (oi := ⟨some 49, _, _, _, _, _⟩) (v := ?_) rfl (by kernel_rfl) (by kernel_rfl) (by kernel_rfl) (fun _ _ _ h => h) (Or.inl ⟨by kernel_rfl, ?_⟩) (by assumption) ?_
                rotate_left 1
                · (intro w hSw; (try dsimp only at hSw); go_simp) <;> (with_reducible rfl)
                (try simp only [Act.put, List.setIfInBounds_toArray, List.set_cons_succ, List.set_cons_zero])
                refine wpAnyH_take (i := 2) (oi := ⟨some 50, _, _, _, _, _⟩) (v := ?_) rfl (by kernel_rfl) (by kernel_rfl) (by kernel_rfl) (fun _ _ _ h => h) (Or.inl ⟨by kernel_rfl, ?_⟩) (by assumption) ?_
                rotate_left 1
                · (intro w hSw; (try dsimp only at hSw); go_simp) <;> (with_reducible rfl)
                (try simp only [Act.put, List.setIfInBounds_toArray, List.set_cons_succ, List.set_cons_zero])
                refine wpAnyH_take (i := 3) (oi := ⟨some 51, _, _, _, _, _⟩) (v := ?_) rfl (by kernel_rfl) (by kernel_rfl) (by kernel_rfl) (fun _ _ _ h => h) (Or.inl ⟨by kernel_rfl, ?_⟩) (by assumption) ?_
                rotate_left 1
                · (intro w hSw; (try dsimp only at hSw); go_simp) <;> (with_reducible rfl)
                (try simp only [Act.put, List.setIfInBounds_toArray, List.set_cons_succ, List.set_cons_zero])
                refine wpAnyH_take (i := 4) (oi := ⟨some 52, _, _, _, _, _⟩) (v := ?_) rfl (by kernel_rfl) (by kernel_rfl) (by kernel_rfl) (fun _ _ _ h => h) (Or.inl ⟨by kernel_rfl, ?_⟩) (by assumption) ?_
                rotate_left 1
                · (intro w hSw; (try dsimp only at hSw); go_simp) <;> (with_reducible rfl)
                (try simp only [Act.put, List.setIfInBounds_toArray, List.set_cons_succ, List.set_cons_zero])
                refine wpAnyH_take (i := 5) (oi := ⟨some 53, _, _, _, _, _⟩) (v := ?_) rfl (by kernel_rfl) (by kernel_rfl) (by kernel_rfl) (fun _ _ _ h => h) (Or.inl ⟨by kernel_rfl, ?_⟩) (by assumption) ?_
                rotate_left 1
                · (intro w hSw; (try dsimp only at hSw); go_simp) <;> (with_reducible rfl)
                (try simp only [Act.put, List.setIfInBounds_toArray, List.set_cons_succ, List.set_cons_zero])
                refine wpAnyH_take (i := 6) (oi := ⟨some 54, _, _, _, _, _⟩) (v := ?_) rfl (by kernel_rfl) (by kernel_rfl) (by kernel_rfl) (fun _ _ _ h => h) (Or.inl ⟨by kernel_rfl, ?_⟩) (by assumption) ?_
                rotate_left 1
                · (intro w hSw; (try dsimp only at hSw); go_simp) <;> (with_reducible rfl)
                (try simp only [Act.put, List.setIfInBounds_toArray, List.set_cons_succ, List.set_cons_zero])
                refine wpAnyH_take (i := 7) (oi := ⟨some 55, _, _, _, _, _⟩) (v := ?_) rfl (by kernel_rfl) (by kernel_rfl) (by kernel_rfl) (fun _ _ _ h => h) (Or.inl ⟨by kernel_rfl, ?_⟩) (by assumption) ?_
                rotate_left 1
                · (intro w hSw; (try dsimp only at hSw); go_simp) <;> (with_reducible rfl)
                (try simp only [Act.put, List.setIfInBounds_toArray, List.set_cons_succ, List.set_cons_zero])
                refine wpAnyH_take (i := 8) (oi := ⟨some 56, _, _, _, _, _⟩) (v := ?_) rfl (by kernel_rfl) (by kernel_rfl) (by kernel_rfl) (fun _ _ _ h => h) (Or.inl ⟨by kernel_rfl, ?_⟩) (by assumption) ?_
                rotate_left 1
                · (intro w hSw; (try dsimp only at hSw); go_simp) <;> (with_reducible rfl)
                (try simp only [Act.put, List.setIfInBounds_toArray, List.set_cons_succ, List.set_cons_zero])
                refine wpAnyH_ready (rs := [9]) (by kernel_rfl) (by simp) ?_
                refine AllReadyH.cons (o := ⟨some 57, _, _, _, _, _⟩) rfl (fun K' hK => ?_) AllReadyH.nil
                go_simp
                refine (free_is _ _ true (by simp [*]) _).mono ?_
                rintro e wn ⟨rfl, hb⟩
                replace KK := hide (btrans KK.out hb)
                clear hb
                refine hK.out _ _ ?_ (fun hHeld => ?_)
                · exact CE.out _ KK.out
                clear hK K'
                (try simp only [Act.put, List.setIfInBounds_toArray, List.set_cons_succ, List.set_cons_zero])
                refine wpAnyH_take (i := 10) (oi := ⟨some 58, _, _, _, _, _⟩) (v := ?_) rfl (by kernel_rfl) (by kernel_rfl) (by kernel_rfl) (fun _ _ _ h => h) (Or.inl ⟨by kernel_rfl, ?_⟩) (by assumption) ?_
                rotate_left 1
                · (intro w hSw; (try dsimp only at hSw); go_simp) <;> (with_reducible rfl)
                (try simp only [Act.put, List.setIfInBounds_toArray, List.set_cons_succ, List.set_cons_zero])
                refine wpAnyH_take (i := 11) (oi := ⟨some 59, _, _, _, _, _⟩) (v := ?_) rfl (by kernel_rfl) (by kernel_rfl) (by kernel_rfl) (fun _ _ _ h => h) (Or.inl ⟨by kernel_rfl, ?_⟩) (by assumption) ?_
                rotate_left 1
                · (intro w hSw; (try dsimp only at hSw); go_simp) <;> (with_reducible rfl)
                (try simp only [Act.put, List.setIfInBounds_toArray, List.set_cons_succ, List.set_cons_zero])
                refine wpAnyH_take (i := 12) (oi := ⟨some 60, _, _, _, _, _⟩) (v := ?_) rfl (by kernel_rfl) (by kernel_rfl) (by kernel_rfl) (fun _ _ _ h => h) (Or.inl ⟨by kernel_rfl, ?_⟩) (by assumption) ?_
                rotate_left 1
                · (intro w hSw; (try dsimp only at hSw); go_simp) <;> (with_reducible rfl)
                (try simp only [Act.put, List.setIfInBounds_toArray, List.set_cons_succ, List.set_cons_zero])
                refine wpAnyH_take (i := 13) (oi := ⟨some 61, _, _, _, _, _⟩) (v := ?_) rfl (by kernel_rfl) (by kernel_rfl) (by kernel_rfl) (fun _ _ _ h => h) (Or.inl ⟨by kernel_rfl, ?_⟩) (by assumption) ?_
                rotate_left 1
                · (intro w hSw; (try dsimp only at hSw); go_simp) <;> (with_reducible rfl)
                (try simp only [Act.put, List.setIfInBounds_toArray, List.set_cons_succ, List.set_cons_zero])
                refine wpAnyH_take (i := 14) (oi := ⟨some 62, _, _, _, _, _⟩) (v := ?_) rfl (by kernel_rfl) (by kernel_rfl) (by kernel_rfl) (fun _ _ _ h => h) (Or.inl ⟨by kernel_rfl, ?_⟩) (by assumption) ?_
                rotate_left 1
                · (intro w hSw; (try dsimp only at hSw); go_simp) <;> (with_reducible rfl)
                (try simp only [Act.put, List.setIfInBounds_toArray, List.set_cons_succ, List.set_cons_zero])
                refine wpAnyH_take (i := 15) (oi := ⟨some 63, _, _, _, _, _⟩) (v := ?_) rfl (by kernel_rfl) (by kernel_rfl) (by kernel_rfl) (fun _ _ _ h => h) (Or.inl ⟨by kernel_rfl, ?_⟩) (by assumption) ?_
                rotate_left 1
                · (intro w hSw; (try dsimp only at hSw); go_simp) <;> (with_reducible rfl)
                (try simp only [Act.put, List.setIfInBounds_toArray, List.set_cons_succ, List.set_cons_zero])
                refine wpAnyH_done (by kernel_rfl) ?_ _
                refine NoPanic.normal ?_
                have X3 := hide (X.out.below KK.out)
                have C3 := hide (C.out.below KK.out)
                have K3 := hide (btrans K.out KK.out)
                clear X C K KK CE HC
                go_wp2
                go_roundw
                case rel => first | exact ⟨i + 1, by omega, by go_num, hide (NG.out PG.out), K3, X3, C3⟩ | ((repeat apply Exists.intro); exact ⟨⟨i + 1, by omega, by go_num, hide (NG.out PG.out), K3, X3, C3⟩, rfl⟩)
                case measure => simp [intOf]; omega
              · have PB := hide (fun q => h3 ((GQ.out.1 q).2 rfl))
                have CE := hide (show ∀ W, Below w3.heap.size w3 W → W.cell? ⟨g9, 0, none⟩ = some (.int .i64 0) ∧ W.cell? ⟨g9, 1, none⟩ = some (.int .i64 wd) ∧ W.cell? ⟨gc, i, none⟩ = some (.int .i64 0) from fun W hW => ⟨(Z.out.below hW).cell 0, (Z.out.below hW).cell 1, (HC.out _ hW)⟩)
                refine wp_region_noPanic ?_
                refine wp_region_held_drew (S := (fun W => W.cell? ⟨g9, 0, none⟩ = some (.int .i64 0) ∧ W.cell? ⟨g9, 1, none⟩ = some (.int .i64 wd) ∧ W.cell? ⟨gc, i, none⟩ = some (.int .i64 0))) (by kernel_rfl) ?_ (fun hHeld => ?_)
                · exact CE.out _ (below_drewN (brefl w3) 1)
                have KK := hide (below_drewN (brefl w3) 1)
                change Hid (Below w3.heap.size w3 w3.drew) at KK
                generalize w3.drew = w4 at *
                refine wpAnyH_take (i := 0) (oi := ⟨some 48, _, _, _, _, _⟩) (v := ?_) rfl (by kernel_rfl) (by kernel_rfl) (by kernel_rfl) (fun _ _ _ h => h) (Or.inl ⟨by kernel_rfl, ?_⟩) (by assumption) ?_
                rotate_left 1
                · (intro w hSw; (try dsimp only at hSw); go_simp) <;> (with_reducible rfl)
                (try simp only [Act.put, List.setIfInBounds_toArray, List.set_cons_succ, List.set_cons_zero])
                refine wpAnyH_take (i := 1) (oi := ⟨some 49, _, _, _, _, _⟩) (v := ?_) rfl (by kernel_rfl) (by kernel_rfl) (by kernel_rfl) (fun _ _ _ h => h) (Or.inl ⟨by kernel_rfl, ?_⟩) (by assumption) ?_
                rotate_left 1
                · (intro w hSw; (try dsimp only at hSw); go_simp) <;> (with_reducible rfl)
                (try simp only [Act.put, List.setIfInBounds_toArray, List.set_cons_succ, List.set_cons_zero])
                refine wpAnyH_take (i := 2) (oi := ⟨some 50, _, _, _, _, _⟩) (v := ?_) rfl (by kernel_rfl) (by kernel_rfl) (by kernel_rfl) (fun _ _ _ h => h) (Or.inl ⟨by kernel_rfl, ?_⟩) (by assumption) ?_
                rotate_left 1
                · (intro w hSw; (try dsimp only at hSw); go_simp) <;> (with_reducible rfl)
                (try simp only [Act.put, List.setIfInBounds_toArray, List.set_cons_succ, List.set_cons_zero])
                refine wpAnyH_take (i := 3) (oi := ⟨some 51, _, _, _, _, _⟩) (v := ?_) rfl (by kernel_rfl) (by kernel_rfl) (by kernel_rfl) (fun _ _ _ h => h) (Or.inl ⟨by kernel_rfl, ?_⟩) (by assumption) ?_
                rotate_left 1
                · (intro w hSw; (try dsimp only at hSw); go_simp) <;> (with_reducible rfl)
                (try simp only [Act.put, List.setIfInBounds_toArray, List.set_cons_succ, List.set_cons_zero])
                refine wpAnyH_take (i := 4) (oi := ⟨some 52, _, _, _, _, _⟩) (v := ?_) rfl (by kernel_rfl) (by kernel_rfl) (by kernel_rfl) (fun _ _ _ h => h) (Or.inl ⟨by kernel_rfl, ?_⟩) (by assumption) ?_
                rotate_left 1
                · (intro w hSw; (try dsimp only at hSw); go_simp) <;> (with_reducible rfl)
                (try simp only [Act.put, List.setIfInBounds_toArray, List.set_cons_succ, List.set_cons_zero])
                refine wpAnyH_take (i := 5) (oi := ⟨some 53, _, _, _, _, _⟩) (v := ?_) rfl (by kernel_rfl) (by kernel_rfl) (by kernel_rfl) (fun _ _ _ h => h) (Or.inl ⟨by kernel_rfl, ?_⟩) (by assumption) ?_
                rotate_left 1
                · (intro w hSw; (try dsimp only at hSw); go_simp) <;> (with_reducible rfl)
                (try simp only [Act.put, List.setIfInBounds_toArray, List.set_cons_succ, List.set_cons_zero])
                refine wpAnyH_take (i := 6) (oi := ⟨some 54, _, _, _, _, _⟩) (v := ?_) rfl (by kernel_rfl) (by kernel_rfl) (by kernel_rfl) (fun _ _ _ h => h) (Or.inl ⟨by kernel_rfl, ?_⟩) (by assumption) ?_
                rotate_left 1
                · (intro w hSw; (try dsimp only at hSw); go_simp) <;> (with_reducible rfl)
                (try simp only [Act.put, List.setIfInBounds_toArray, List.set_cons_succ, List.set_cons_zero])
                refine wpAnyH_take (i := 7) (oi := ⟨some 55, _, _, _, _, _⟩) (v := ?_) rfl (by kernel_rfl) (by kernel_rfl) (by kernel_rfl) (fun _ _ _ h => h) (Or.inl ⟨by kernel_rfl, ?_⟩) (by assumption) ?_
                rotate_left 1
                · (intro w hSw; (try dsimp only at hSw); go_simp) <;> (with_reducible rfl)
                (try simp only [Act.put, List.setIfInBounds_toArray, List.set_cons_succ, List.set_cons_zero])
                refine wpAnyH_take (i := 8) (oi := ⟨some 56, _, _, _, _, _⟩) (v := ?_) rfl (by kernel_rfl) (by kernel_rfl) (by kernel_rfl) (fun _ _ _ h => h) (Or.inl ⟨by kernel_rfl, ?_⟩) (by assumption) ?_
                rotate_left 1
                · (intro w hSw; (try dsimp only at hSw); go_simp) <;> (with_reducible rfl)
                (try simp only [Act.put, List.setIfInBounds_toArray, List.set_cons_succ, List.set_cons_zero])
                refine wpAnyH_ready (rs := [9]) (by kernel_rfl) (by simp) ?_
                refine AllReadyH.cons (o := ⟨some 57, _, _, _, _, _⟩) rfl (fun K' hK => ?_) AllReadyH.nil
                go_simp
                refine (free_is _ _ true (by simp [*]) _).mono ?_
                rintro e wn ⟨rfl, hb⟩
                replace KK := hide (btrans KK.out hb)
                clear hb
                refine hK.out _ _ ?_ (fun hHeld => ?_)
                · exact CE.out _ KK.out
                clear hK K'
                (try simp only [Act.put, List.setIfInBounds_toArray, List.set_cons_succ, List.set_cons_zero])
                refine wpAnyH_take (i := 10) (oi := ⟨some 58, _, _, _, _, _⟩) (v := ?_) rfl (by kernel_rfl) (by kernel_rfl) (by kernel_rfl) (fun _ _ _ h => h) (Or.inl ⟨by kernel_rfl, ?_⟩) (by assumption) ?_
                rotate_left 1
                · (intro w hSw; (try dsimp only at hSw); go_simp) <;> (with_reducible rfl)
                (try simp only [Act.put, List.setIfInBounds_toArray, List.set_cons_succ, List.set_cons_zero])
                refine wpAnyH_take (i := 11) (oi := ⟨some 59, _, _, _, _, _⟩) (v := ?_) rfl (by kernel_rfl) (by kernel_rfl) (by kernel_rfl) (fun _ _ _ h => h) (Or.inl ⟨by kernel_rfl, ?_⟩) (by assumption) ?_
                rotate_left 1
                · (intro w hSw; (try dsimp only at hSw); go_simp) <;> (with_reducible rfl)
                (try simp only [Act.put, List.setIfInBounds_toArray, List.set_cons_succ, List.set_cons_zero])
                refine wpAnyH_take (i := 12) (oi := ⟨some 60, _, _, _, _, _⟩) (v := ?_) rfl (by kernel_rfl) (by kernel_rfl) (by kernel_rfl) (fun _ _ _ h => h) (Or.inl ⟨by kernel_rfl, ?_⟩) (by assumption) ?_
                rotate_left 1
                · (intro w hSw; (try dsimp only at hSw); go_simp) <;> (with_reducible rfl)
                (try simp only [Act.put, List.setIfInBounds_toArray, List.set_cons_succ, List.set_cons_zero])
                refine wpAnyH_take (i := 13) (oi := ⟨some 61, _, _, _, _, _⟩) (v := ?_) rfl (by kernel_rfl) (by kernel_rfl) (by kernel_rfl) (fun _ _ _ h => h) (Or.inl ⟨by kernel_rfl, ?_⟩) (by assumption) ?_
                rotate_left 1
                · (intro w hSw; (try dsimp only at hSw); go_simp) <;> (with_reducible rfl)
                (try simp only [Act.put, List.setIfInBounds_toArray, List.set_cons_succ, List.set_cons_zero])
                refine wpAnyH_take (i := 14) (oi := ⟨some 62, _, _, _, _, _⟩) (v := ?_) rfl (by kernel_rfl) (by kernel_rfl) (by kernel_rfl) (fun _ _ _ h => h) (Or.inl ⟨by kernel_rfl, ?_⟩) (by assumption) ?_
                rotate_left 1
                · (intro w hSw; (try dsimp only at hSw); go_simp) <;> (with_reducible rfl)
                (try simp only [Act.put, List.setIfInBounds_toArray, List.set_cons_succ, List.set_cons_zero])
                refine wpAnyH_take (i := 15) (oi := ⟨some 63, _, _, _, _, _⟩) (v := ?_) rfl (by kernel_rfl) (by kernel_rfl) (by kernel_rfl) (fun _ _ _ h => h) (Or.inl ⟨by kernel_rfl, ?_⟩) (by assumption) ?_
                rotate_left 1
                · (intro w hSw; (try dsimp only at hSw); go_simp) <;> (with_reducible rfl)
                (try simp only [Act.put, List.setIfInBounds_toArray, List.set_cons_succ, List.set_cons_zero])
                refine wpAnyH_done (by kernel_rfl) ?_ _
                refine NoPanic.normal ?_
                have E := hide (NB.out PB.out)
                have K3 := hide (btrans K.out KK.out)
                go_wp2
                go_ret
                exact ⟨ret_bool E.out.symm, K3.out⟩
            · have PG := hide (GQ.out.2 ⟨rfl, fun e => absurd e h2⟩)
              have CE := hide (show ∀ W, Below w3.heap.size w3 W → W.cell? ⟨g9, 0, none⟩ = some (.int .i64 cnt) ∧ W.cell? ⟨g9, 1, none⟩ = some (.int .i64 wd) ∧ W.cell? ⟨gc, i, none⟩ = some (.int .i64 cnt) from fun W hW => ⟨(Z.out.below hW).cell 0, (Z.out.below hW).cell 1, (HC.out _ hW)⟩)
              refine wp_region_noPanic ?_
              refine wp_region_held_drew (S := (fun W => W.cell? ⟨g9, 0, none⟩ = some (.int .i64 cnt) ∧ W.cell? ⟨g9, 1, none⟩ = some (.int .i64 wd) ∧ W.cell? ⟨gc, i, none⟩ = some (.int .i64 cnt))) (by kernel_rfl) ?_ (fun hHeld => ?_)
              · exact CE.out _ (below_drewN (brefl w3) 1)
              have KK := hide (below_drewN (brefl w3) 1)
              change Hid (Below w3.heap.size w3 w3.drew) at KK
              generalize w3.drew = w4 at *
              refine wpAnyH_take (i := 0) (oi := ⟨some 48, _, _, _, _, _⟩) (v := ?_) rfl (by kernel_rfl) (by kernel_rfl) (by kernel_rfl) (fun _ _ _ h => h) (Or.inl ⟨by kernel_rfl, ?_⟩) (by assumption) ?_
              rotate_left 1
              · (intro w hSw; (try dsimp only at hSw); go_simp) <;> (with_reducible rfl)
              (try simp only [Act.put, List.setIfInBounds_toArray, List.set_cons_succ, List.set_cons_zero])
              refine wpAnyH_take (i := 1) (oi := ⟨some 49, _, _, _, _, _⟩) (v := ?_) rfl (by kernel_rfl) (by kernel_rfl) (by kernel_rfl) (fun _ _ _ h => h) (Or.inl ⟨by kernel_rfl, ?_⟩) (by assumption) ?_
              rotate_left 1
              · (intro w hSw; (try dsimp only at hSw); go_simp) <;> (with_reducible rfl)
              (try simp only [Act.put, List.setIfInBounds_toArray, List.set_cons_succ, List.set_cons_zero])
              refine wpAnyH_take (i := 2) (oi := ⟨some 50, _, _, _, _, _⟩) (v := ?_) rfl (by kernel_rfl) (by kernel_rfl) (by kernel_rfl) (fun _ _ _ h => h) (Or.inl ⟨by kernel_rfl, ?_⟩) (by assumption) ?_
              rotate_left 1
              · (intro w hSw; (try dsimp only at hSw); go_simp) <;> (with_reducible rfl)
              (try simp only [Act.put, List.setIfInBounds_toArray, List.set_cons_succ, List.set_cons_zero])
              refine wpAnyH_take (i := 3) (oi := ⟨some 51, _, _, _, _, _⟩) (v := ?_) rfl (by kernel_rfl) (by kernel_rfl) (by kernel_rfl) (fun _ _ _ h => h) (Or.inl ⟨by kernel_rfl, ?_⟩) (by assumption) ?_
              rotate_left 1
              · (intro w hSw; (try dsimp only at hSw); go_simp) <;> (with_reducible rfl)
              (try simp only [Act.put, List.setIfInBounds_toArray, List.set_cons_succ, List.set_cons_zero])
              refine wpAnyH_take (i := 4) (oi := ⟨some 52, _, _, _, _, _⟩) (v := ?_) rfl (by kernel_rfl) (by kernel_rfl) (by kernel_rfl) (fun _ _ _ h => h) (Or.inl ⟨by kernel_rfl, ?_⟩) (by assumption) ?_
              rotate_left 1
              · (intro w hSw; (try dsimp only at hSw); go_simp) <;> (with_reducible rfl)
              (try simp only [Act.put, List.setIfInBounds_toArray, List.set_cons_succ, List.set_cons_zero])
              refine wpAnyH_take (i := 5) (oi := ⟨some 53, _, _, _, _, _⟩) (v := ?_) rfl (by kernel_rfl) (by kernel_rfl) (by kernel_rfl) (fun _ _ _ h => h) (Or.inl ⟨by kernel_rfl, ?_⟩) (by assumption) ?_
              rotate_left 1
              · (intro w hSw; (try dsimp only at hSw); go_simp) <;> (with_reducible rfl)
              (try simp only [Act.put, List.setIfInBounds_toArray, List.set_cons_succ, List.set_cons_zero])
              refine wpAnyH_take (i := 6) (oi := ⟨some 54, _, _, _, _, _⟩) (v := ?_) rfl (by kernel_rfl) (by kernel_rfl) (by kernel_rfl) (fun _ _ _ h => h) (Or.inl ⟨by kernel_rfl, ?_⟩) (by assumption) ?_
              rotate_left 1
              · (intro w hSw; (try dsimp only at hSw); go_simp) <;> (with_reducible rfl)
              (try simp only [Act.put, List.setIfInBounds_toArray, List.set_cons_succ, List.set_cons_zero])
              refine wpAnyH_take (i := 7) (oi := ⟨some 55, _, _, _, _, _⟩) (v := ?_) rfl (by kernel_rfl) (by kernel_rfl) (by kernel_rfl) (fun _ _ _ h => h) (Or.inl ⟨by kernel_rfl, ?_⟩) (by assumption) ?_
              rotate_left 1
              · (intro w hSw; (try dsimp only at hSw); go_simp) <;> (with_reducible rfl)
              (try simp only [Act.put, List.setIfInBounds_toArray, List.set_cons_succ, List.set_cons_zero])
              refine wpAnyH_take (i := 8) (oi := ⟨some 56, _, _, _, _, _⟩) (v := ?_) rfl (by kernel_rfl) (by kernel_rfl) (by kernel_rfl) (fun _ _ _ h => h) (Or.inl ⟨by kernel_rfl, ?_⟩) (by assumption) ?_
              rotate_left 1
              · (intro w hSw; (try dsimp only at hSw); go_simp) <;> (with_reducible rfl)
              (try simp only [Act.put, List.setIfInBounds_toArray, List.set_cons_succ, List.set_cons_zero])
              refine wpAnyH_ready (rs := [9]) (by kernel_rfl) (by simp) ?_
              refine AllReadyH.cons (o := ⟨some 57, _, _, _, _, _⟩) rfl (fun K' hK => ?_) AllReadyH.nil
              go_simp
              refine (free_is _ _ false (by simp [*]) _).mono ?_
              rintro e wn ⟨rfl, hb⟩
              replace KK := hide (btrans KK.out hb)
              clear hb
              refine hK.out _ _ ?_ (fun hHeld => ?_)
              · exact CE.out _ KK.out
              clear hK K'
              (try simp only [Act.put, List.setIfInBounds_toArray, List.set_cons_succ, List.set_cons_zero])
              refine wpAnyH_take (i := 10) (oi := ⟨some 58, _, _, _, _, _⟩) (v := ?_) rfl (by kernel_rfl) (by kernel_rfl) (by kernel_rfl) (fun _ _ _ h => h) (Or.inl ⟨by kernel_rfl, ?_⟩) (by assumption) ?_
              rotate_left 1
              · (intro w hSw; (try dsimp only at hSw); go_simp) <;> (with_reducible rfl)
              (try simp only [Act.put, List.setIfInBounds_toArray, List.set_cons_succ, List.set_cons_zero])
              refine wpAnyH_take (i := 11) (oi := ⟨some 59, _, _, _, _, _⟩) (v := undef) rfl (by kernel_rfl) (by kernel_rfl) (by kernel_rfl) (fun _ _ _ h => h) (Or.inr ⟨by kernel_rfl, rfl⟩) (by assumption) ?_
              (try simp only [Act.put, List.setIfInBounds_toArray, List.set_cons_succ, List.set_cons_zero])
              refine wpAnyH_take (i := 12) (oi := ⟨some 60, _, _, _, _, _⟩) (v := undef) rfl (by kernel_rfl) (by kernel_rfl) (by kernel_rfl) (fun _ _ _ h => h) (Or.inr ⟨by kernel_rfl, rfl⟩) (by assumption) ?_
              (try simp only [Act.put, List.setIfInBounds_toArray, List.set_cons_succ, List.set_cons_zero])
              refine wpAnyH_take (i := 13) (oi := ⟨some 61, _, _, _, _, _⟩) (v := undef) rfl (by kernel_rfl) (by kernel_rfl) (by kernel_rfl) (fun _ _ _ h => h) (Or.inr ⟨by kernel_rfl, rfl⟩) (by assumption) ?_
              (try simp only [Act.put, List.setIfInBounds_toArray, List.set_cons_succ, List.set_cons_zero])
              refine wpAnyH_take (i := 14) (oi := ⟨some 62, _, _, _, _, _⟩) (v := ?_) rfl (by kernel_rfl) (by kernel_rfl) (by kernel_rfl) (fun _ _ _ h => h) (Or.inl ⟨by kernel_rfl, ?_⟩) (by assumption) ?_
              rotate_left 1
              · (intro w hSw; (try dsimp only at hSw); go_simp) <;> (with_reducible rfl)
              (try simp only [Act.put, List.setIfInBounds_toArray, List.set_cons_succ, List.set_cons_zero])
              refine wpAnyH_take (i := 15) (oi := ⟨some 63, _, _, _, _, _⟩) (v := ?_) rfl (by kernel_rfl) (by kernel_rfl) (by kernel_rfl) (fun _ _ _ h => h) (Or.inl ⟨by kernel_rfl, ?_⟩) (by assumption) ?_
              rotate_left 1
              · (intro w hSw; (try dsimp only at hSw); go_simp) <;> (with_reducible rfl)
              (try simp only [Act.put, List.setIfInBounds_toArray, List.set_cons_succ, List.set_cons_zero])
              refine wpAnyH_done (by kernel_rfl) ?_ _
              refine NoPanic.normal ?_
              have X3 := hide (X.out.below KK.out)
              have C3 := hide (C.out.below KK.out)
              have K3 := hide (btrans K.out KK.out)
              clear X C K KK CE HC
              go_wp2
              go_roundw
              case rel => first | exact ⟨i + 1, by omega, by go_num, hide (NG.out PG.out), K3, X3, C3⟩ | ((repeat apply Exists.intro); exact ⟨⟨i + 1, by omega, by go_num, hide (NG.out PG.out), K3, X3, C3⟩, rfl⟩)
              case measure => simp [intOf]; omega
          · have PB := hide (fun q => h1 (GQ.out.1 q).1)
            have hb1 : (cnt != cc) = true := by simpa using h1
            have hb2 : (cnt == cc) = false := by simpa using h1
            have CE := hide (show ∀ W, Below w3.heap.size w3 W → W.cell? ⟨g9, 0, none⟩ = some (.int .i64 cnt) ∧ W.cell? ⟨g9, 1, none⟩ = some (.int .i64 wd) ∧ W.cell? ⟨gc, i, none⟩ = some (.int .i64 cc) from fun W hW => ⟨(Z.out.below hW).cell 0, (Z.out.below hW).cell 1, (HC.out _ hW)⟩)
            refine wp_region_noPanic ?_
            refine wp_region_held_drew (S := (fun W => W.cell? ⟨g9, 0, none⟩ = some (.int .i64 cnt) ∧ W.cell? ⟨g9, 1, none⟩ = some (.int .i64 wd) ∧ W.cell? ⟨gc, i, none⟩ = some (.int .i64 cc))) (by kernel_rfl) ?_ (fun hHeld => ?_)
            · exact CE.out _ (below_drewN (brefl w3) 1)
            have KK := hide (below_drewN (brefl w3) 1)
            change Hid (Below w3.heap.size w3 w3.drew) at KK
            generalize w3.drew = w4 at *
            refine wpAnyH_take (i := 0) (oi := ⟨some 48, _, _, _, _, _⟩) (v := ?_) rfl (by kernel_rfl) (by kernel_rfl) (by kernel_rfl) (fun _ _ _ h => h) (Or.inl ⟨by kernel_rfl, ?_⟩) (by assumption) ?_
            rotate_left 1
            · (intro w hSw; (try dsimp only at hSw); go_simp) <;> (with_reducible rfl)
            (try simp only [Act.put, List.setIfInBounds_toArray, List.set_cons_succ, List.set_cons_zero])
            refine wpAnyH_take (i := 1) (oi := ⟨some 49, _, _, _, _, _⟩) (v := ?_) rfl (by kernel_rfl) (by kernel_rfl) (by kernel_rfl) (fun _ _ _ h => h) (Or.inl ⟨by kernel_rfl, ?_⟩) (by assumption) ?_
            rotate_left 1
            · (intro w hSw; (try dsimp only at hSw); go_simp) <;> (with_reducible rfl)
            (try simp only [Act.put, List.setIfInBounds_toArray, List.set_cons_succ, List.set_cons_zero])
            refine wpAnyH_take (i := 2) (oi := ⟨some 50, _, _, _, _, _⟩) (v := ?_) rfl (by kernel_rfl) (by kernel_rfl) (by kernel_rfl) (fun _ _ _ h => h) (Or.inl ⟨by kernel_rfl, ?_⟩) (by assumption) ?_
            rotate_left 1
            · (intro w hSw; (try dsimp only at hSw); go_simp) <;> (with_reducible rfl)
            (try simp only [Act.put, List.setIfInBounds_toArray, List.set_cons_succ, List.set_cons_zero])
            refine wpAnyH_take (i := 3) (oi := ⟨some 51, _, _, _, _, _⟩) (v := ?_) rfl (by kernel_rfl) (by kernel_rfl) (by kernel_rfl) (fun _ _ _ h => h) (Or.inl ⟨by kernel_rfl, ?_⟩) (by assumption) ?_
            rotate_left 1
            · (intro w hSw; (try dsimp only at hSw); go_simp) <;> (with_reducible rfl)
            (try simp only [Act.put, List.setIfInBounds_toArray, List.set_cons_succ, List.set_cons_zero])
            refine wpAnyH_take (i := 4) (oi := ⟨some 52, _, _, _, _, _⟩) (v := ?_) rfl (by kernel_rfl) (by kernel_rfl) (by kernel_rfl) (fun _ _ _ h => h) (Or.inl ⟨by kernel_rfl, ?_⟩) (by assumption) ?_
            rotate_left 1
            · (intro w hSw; (try dsimp only at hSw); go_simp) <;> (with_reducible rfl)
            (try simp only [Act.put, List.setIfInBounds_toArray, List.set_cons_succ, List.set_cons_zero])
            refine wpAnyH_take (i := 5) (oi := ⟨some 53, _, _, _, _, _⟩) (v := ?_) rfl (by kernel_rfl) (by kernel_rfl) (by kernel_rfl) (fun _ _ _ h => h) (Or.inl ⟨by kernel_rfl, ?_⟩) (by assumption) ?_
            rotate_left 1
            · (intro w hSw; (try dsimp only at hSw); go_simp) <;> (with_reducible rfl)
            (try simp only [Act.put, List.setIfInBounds_toArray, List.set_cons_succ, List.set_cons_zero])
            refine wpAnyH_take (i := 6) (oi := ⟨some 54, _, _, _, _, _⟩) (v := ?_) rfl (by kernel_rfl) (by kernel_rfl) (by kernel_rfl) (fun _ _ _ h => h) (Or.inl ⟨by kernel_rfl, ?_⟩) (by assumption) ?_
            rotate_left 1
            · (intro w hSw; (try dsimp only at hSw); go_simp) <;> (with_reducible rfl)
            (try simp only [Act.put, List.setIfInBounds_toArray, List.set_cons_succ, List.set_cons_zero])
            refine wpAnyH_take (i := 7) (oi := ⟨some 55, _, _, _, _, _⟩) (v := ?_) rfl (by kernel_rfl) (by kernel_rfl) (by kernel_rfl) (fun _ _ _ h => h) (Or.inl ⟨by kernel_rfl, ?_⟩) (by assumption) ?_
            rotate_left 1
            · (intro w hSw; (try dsimp only at hSw); go_simp) <;> (with_reducible rfl)
            (try simp only [Act.put, List.setIfInBounds_toArray, List.set_cons_succ, List.set_cons_zero])
            refine wpAnyH_take (i := 8) (oi := ⟨some 56, _, _, _, _, _⟩) (v := undef) rfl (by kernel_rfl) (by kernel_rfl) (by kernel_rfl) (fun _ _ _ h => h) (Or.inr ⟨by kernel_rfl, rfl⟩) (by assumption) ?_
            (try simp only [Act.put, List.setIfInBounds_toArray, List.set_cons_succ, List.set_cons_zero])
            refine wpAnyH_take (i := 9) (oi := ⟨some 57, _, _, _, _, _⟩) (v := undef) rfl (by kernel_rfl) (by kernel_rfl) (by kernel_rfl) (fun _ _ _ h => h) (Or.inr ⟨by kernel_rfl, rfl⟩) (by assumption) ?_
            (try simp only [Act.put, List.setIfInBounds_toArray, List.set_cons_succ, List.set_cons_zero])
            refine wpAnyH_take (i := 10) (oi := ⟨some 58, _, _, _, _, _⟩) (v := undef) rfl (by kernel_rfl) (by kernel_rfl) (by kernel_rfl) (fun _ _ _ h => h) (Or.inr ⟨by kernel_rfl, rfl⟩) (by assumption) ?_
            (try simp only [Act.put, List.setIfInBounds_toArray, List.set_cons_succ, List.set_cons_zero])
            refine wpAnyH_take (i := 11) (oi := ⟨some 59, _, _, _, _, _⟩) (v := undef) rfl (by kernel_rfl) (by kernel_rfl) (by kernel_rfl) (fun _ _ _ h => h) (Or.inr ⟨by kernel_rfl, rfl⟩) (by assumption) ?_
            (try simp only [Act.put, List.setIfInBounds_toArray, List.set_cons_succ, List.set_cons_zero])
            refine wpAnyH_take (i := 12) (oi := ⟨some 60, _, _, _, _, _⟩) (v := undef) rfl (by kernel_rfl) (by kernel_rfl) (by kernel_rfl) (fun _ _ _ h => h) (Or.inr ⟨by kernel_rfl, rfl⟩) (by assumption) ?_
            (try simp only [Act.put, List.setIfInBounds_toArray, List.set_cons_succ, List.set_cons_zero])
            refine wpAnyH_take (i := 13) (oi := ⟨some 61, _, _, _, _, _⟩) (v := undef) rfl (by kernel_rfl) (by kernel_rfl) (by kernel_rfl) (fun _ _ _ h => h) (Or.inr ⟨by kernel_rfl, rfl⟩) (by assumption) ?_
            (try simp only [Act.put, List.setIfInBounds_toArray, List.set_cons_succ, List.set_cons_zero])
            refine wpAnyH_take (i := 14) (oi := ⟨some 62, _, _, _, _, _⟩) (v := undef) rfl (by kernel_rfl) (by kernel_rfl) (by kernel_rfl) (fun _ _ _ h => h) (Or.inr ⟨by kernel_rfl, rfl⟩) (by assumption) ?_
            (try simp only [Act.put, List.setIfInBounds_toArray, List.set_cons_succ, List.set_cons_zero])
            refine wpAnyH_take (i := 15) (oi := ⟨some 63, _, _, _, _, _⟩) (v := ?_) rfl (by kernel_rfl) (by kernel_rfl) (by kernel_rfl) (fun _ _ _ h => h) (Or.inl ⟨by kernel_rfl, ?_⟩) (by assumption) ?_
            rotate_left 1
            · (intro w hSw; (try dsimp only at hSw); go_simp) <;> (with_reducible rfl)
            (try simp only [Act.put, List.setIfInBounds_toArray, List.set_cons_succ, List.set_cons_zero])
            refine wpAnyH_done (by kernel_rfl) ?_ _
            refine NoPanic.normal ?_
            have E := hide (NB.out PB.out)
            have K3 := hide (btrans K.out KK.out)
            go_wp2
            go_ret
            exact ⟨ret_bool E.out.symm, K3.out⟩
        · obtain rfl : i = M.fr.length := by omega
          have E := hide (show decide (stG M) = true from decide_eq_true N.out)
          go_wp2
          go_ret
          exact ⟨ret_bool E.out.symm, K.out⟩
end Go.Proofs.Ytoogdggiemacjaa.Cw
