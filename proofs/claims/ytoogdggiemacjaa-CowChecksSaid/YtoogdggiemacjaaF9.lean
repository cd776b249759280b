import Derived.Test.YtoogdggiemacjaaF8
namespace Go.Proofs.Ytoogdggiemacjaa.Cw
open Go Go.RowKit
set_option linter.unusedVariables false
set_option linter.unusedSimpArgs false
def zeroM : Cow := ⟨0, [], [], 0⟩
theorem zero_in (w : World) : CwIn w zeroM none 0 none 0 := ⟨Nat.zero_le _, Nat.zero_le _, fun h => absurd rfl h, fun h => absurd rfl h⟩
/-- what a call that answers a machine and an error leaves -/
def Res (w : World) (M' : Cow) (er : Int) (e : Ending) (w' : World) : Prop := ∃ As cs Af cf, e = .returned (.tuple #[.agg (cwA M' As cs Af cf), .int .i64 er]) ∧ CwIn w' M' As cs Af cf ∧ Below w.heap.size w w'
theorem OwM.mono1 {B B' : Nat} {w : World} {M : Cow} {As Af : Option Addr} {cs cf : Nat} {T : Tb} (h : OwM B w M As cs Af cf T) (hB : B' ≤ B) : OwM B' w M As cs Af cf T :=
  ⟨h.tl, row_mono h.fr hB, row_mono h.sp hB, h.lv, fun k hk => row_mono (h.pg k hk) hB, h.ne⟩
theorem ret_c2 {fn : Func} {a : Act} {W : World} {g k j : Nat} {x0 x1 x2 x3 y : Value} {Q : Ending → World → Prop} (hr : fn.results = #[.cell k 28, .tmp j]) (h2 : a.tmps.getD k undef = .pointer (some ⟨g, 0, none⟩)) (h3 : a.tmps.getD j undef = y) (hd : a.defers = [])
    (hE : Box W g 28 #[x0, x1, x2, x3]) (hq : Q (.returned (.tuple #[.agg #[x0, x1, x2, x3], y])) W) : bodyPost Try.prog fn Q .ret a W := by
  obtain ⟨c0, c1, c2, c3⟩ := box4 hE
  simp only [Array.getD_eq_getD_getElem?] at h2 h3
  exact bodyPost_ret (v := .tuple #[.agg #[x0, x1, x2, x3], y]) (by simp [results, hr, h2, h3, go_sem, c0, c1, c2, c3]; try rfl) hd hq
theorem ret_c3 {fn : Func} {a : Act} {W : World} {g k j i : Nat} {x0 x1 x2 x3 y z : Value} {Q : Ending → World → Prop} (hr : fn.results = #[.cell k 28, .tmp j, .tmp i]) (h2 : a.tmps.getD k undef = .pointer (some ⟨g, 0, none⟩)) (h3 : a.tmps.getD j undef = y) (h4 : a.tmps.getD i undef = z) (hd : a.defers = [])
    (hE : Box W g 28 #[x0, x1, x2, x3]) (hq : Q (.returned (.tuple #[.agg #[x0, x1, x2, x3], y, z])) W) : bodyPost Try.prog fn Q .ret a W := by
  obtain ⟨c0, c1, c2, c3⟩ := box4 hE
  simp only [Array.getD_eq_getD_getElem?] at h2 h3 h4
  exact bodyPost_ret (v := .tuple #[.agg #[x0, x1, x2, x3], y, z]) (by simp [results, hr, h2, h3, h4, go_sem, c0, c1, c2, c3]; try rfl) hd hq
theorem OwM.setCells4 {B : Nat} {w : World} {M : Cow} {As Af : Option Addr} {cs cf : Nat} {T : Tb} {g : Nat} {cc : Array Value} (h : OwM B w M As cs Af cf T) (hX : Box w g 28 cc) (hB : B ≤ g) (a b c d : Value) : OwM B ((((w.setCell ⟨g, 0, none⟩ a).setCell ⟨g, 1, none⟩ b).setCell ⟨g, 2, none⟩ c).setCell ⟨g, 3, none⟩ d) M As cs Af cf T := h.kp (kp4 hX hB a b c d)
theorem plen {M : Cow} (hz : szG M) (hf : fmG M) : ∀ k, k < M.sp.length → (sAt M.sp k).2.length ≤ 512 := fun k hk => by
  have h1 := (hf _ (sAt_mem hk)).1
  unfold lnG at h1
  have h2 := hz.1.2
  split at h1
  · omega
  · omega
theorem cbound {M : Cow} (hz : szG M) (hf : fmG M) (hs : stG M) : ∀ k, k < M.fr.length → 0 ≤ (fAt M.fr k).1 ∧ (fAt M.fr k).1 ≤ 4096 := fun k hk => by
  rw [(hs k hk).1]
  have h1 := cnS_le (k : Int) M.sp 512 (fun s hs' => by
    obtain ⟨i, hi, rfl⟩ := List.mem_iff_getElem.1 hs'
    have := plen hz hf i hi
    rwa [sAt_get hi] at this)
  have h2 : M.sp.length ≤ 8 := hz.2.1.2
  have h3 : M.sp.length * 512 ≤ 8 * 512 := Nat.mul_le_mul_right _ h2
  omega
theorem cwA_drop (M : Cow) (f : Int) (As : Option Addr) (cs : Nat) (Af : Option Addr) (cf : Nat) : cwA (dropF M f) As cs Af cf = cwA M As cs Af cf := by
  unfold dropF; split
  · rfl
  · exact cwA_setF _ _ _ _ _ _ _
theorem cwA_hd (M : Cow) (n m : Nat) (As : Option Addr) (cs : Nat) (Af : Option Addr) (cf : Nat) : cwA (hdG M n m) As cs Af cf = cwA M As cs Af cf := by
  unfold hdG
  rw [cwA_setP, cwA_drop]
def unG (M : Cow) (s p : Int) : Cow := if cpE M s p ≠ 0 then zeroM else hdG M s.toNat p.toNat
set_option maxRecDepth 100000 in
set_option maxHeartbeats 16000000 in
theorem unmap_any (M : Cow) (As Af : Option Addr) (cs cf : Nat) (s p : Int) (w : World) (h : CwIn w M As cs Af cf) (hB : Big M) : Calls Try.prog 33 #[.agg (cwA M As cs Af cf), .int .i64 s, .int .i64 p] w (Res w (unG M s p) (cpE M s p)) := by
  have PA := hide (page_at (M := M) (s := s) (p := p))
  have E0 := hide (fun hn : cpE M s p ≠ 0 => show unG M s p = zeroM from if_pos hn)
  have E1 := hide (fun hn : cpE M s p = 0 => show unG M s p = hdG M s.toNat p.toNat from if_neg (fun g => g hn))
  unfold Res
  obtain ⟨W0, hW0⟩ : ∃ W0, W0 = (w.alloc (.cells (cwA M As cs Af cf) 28)).alloc (.cells #[.int .i64 0, .slice none 0 0, .slice none 0 0, .int .i64 0] 28) := ⟨_, rfl⟩
  have K := hide (show Below w.heap.size w W0 by rw [hW0]; exact bal (bal (brefl w) _) _)
  have X := hide (show Box W0 w.heap.size 28 (cwA M As cs Af cf) by rw [hW0]; exact (Box.new w 28 _).more _)
  have Y := hide (show Box W0 (w.heap.size + 1) 28 #[.int .i64 0, .slice none 0 0, .slice none 0 0, .int .i64 0] by rw [hW0]; exact Box.new2 _ _ _ _)
  have IN := hide h
  have CK := hide (fun w' => fun hb : Below w.heap.size w w' => cpage_any M As Af cs cf s p w' (h.below hb) hB)
  have CL := hide (fun w' => fun hb : Below w.heap.size w w' => clone_any M As Af cs cf w' (h.below hb))
  clear h hB
  unfold cwA at X hW0 CK CL ⊢
  generalize cpE M s p = ec at *
  go_enter Try.func33, Try.ntmps33
  go_upto_region 1 with fail
  rw [← hW0]
  clear hW0
  obtain ⟨g2, hg2⟩ : ∃ g, g = w.heap.size + 1 := ⟨_, rfl⟩
  obtain ⟨g, hg⟩ : ∃ g, g = w.heap.size := ⟨_, rfl⟩
  have GN := hide (show g ≠ g2 by omega)
  have GG := hide (show w.heap.size ≤ g ∧ w.heap.size ≤ g2 by omega)
  rw [← hg2, ← hg]
  rw [← hg2] at Y
  rw [← hg] at X
  clear hg2 hg
  obtain ⟨x0, x1, x2, x3⟩ := box4 X.out
  go_wp2_with fail
  refine (CK.out _ K.out).mono ?_
  rintro e w1 ⟨rfl, hb⟩
  replace X := hide (X.out.below hb)
  replace Y := hide (Y.out.below hb)
  replace K := hide (btrans K.out hb)
  clear hb x0 x1 x2 x3 CK
  obtain ⟨x0, x1, x2, x3⟩ := box4 X.out
  by_cases h1 : ec = 0
  case neg =>
    have E := hide (E0.out h1)
    obtain ⟨y0, y1, y2, y3⟩ := box4 Y.out
    have z0 := Y.out.frozen 0
    have z1 := Y.out.frozen 1
    have z2 := Y.out.frozen 2
    have z3 := Y.out.frozen 3
    go_wp2
    have KK := kp4 Y.out GG.out.2 (.int .i64 0) (.slice none 0 0) (.slice none 0 0) (.int .i64 0)
    refine ret_c2 Try.results33 rfl rfl rfl (box4s Y.out) ⟨none, 0, none, 0, ?_, ?_, K.out.trans KK.below⟩
    · rw [E.out]; rfl
    · rw [E.out]; exact zero_in _
  case pos =>
    obtain ⟨n, m, rfl, rfl, hn, hm, hl, hz, hg, hsz, hfm, hst, -⟩ := PA.out h1
    subst h1
    have E := hide (E1.out rfl)
    rw [Int.toNat_natCast, Int.toNat_natCast] at E
    have HSZ := hide hsz
    have HPL := hide (plen hsz hfm)
    have HCB := hide (cbound hsz hfm hst)
    clear E0 E1 PA hst hfm
    go_wp2_with fail
    refine (CL.out _ K.out HSZ.out HPL.out).mono ?_
    rintro e w2 ⟨As2, cs2, Af2, cf2, T, rfl, hO, hb⟩
    replace X := hide (X.out.below hb)
    replace Y := hide (Y.out.below hb)
    have GS := hide (show g2 < w2.heap.size from Y.out.lt)
    have GB := hide (show w.heap.size ≤ w1.heap.size from K.out.size)
    replace K := hide (btrans K.out hb)
    have O := hide hO
    clear hO hb x0 x1 x2 x3 CL
    have M3 := bal (brefl w2) (.cells #[.int .i64 M.sz, .slice As2 M.sp.length cs2, .slice Af2 M.fr.length cf2, .int .i64 M.cp] 28)
    have V := hide (Box.new w2 28 #[.int .i64 M.sz, .slice As2 M.sp.length cs2, .slice Af2 M.fr.length cf2, .int .i64 M.cp])
    replace X := hide (X.out.below M3)
    replace Y := hide (Y.out.below M3)
    replace O := hide (O.out.below M3)
    replace K := hide (btrans K.out M3)
    clear M3
    go_upto_region 5 with fail
    obtain ⟨g3, hg3⟩ : ∃ g, g = w2.heap.size := ⟨_, rfl⟩
    have G3 := hide (show g2 ≠ g3 by have := GS.out; omega)
    have G4 := hide (show w.heap.size ≤ g3 by have := GS.out; have := GG.out.2; omega)
    rw [← hg3] at V ⊢
    clear hg3
    generalize w2.alloc (.cells #[.int .i64 M.sz, .slice As2 M.sp.length cs2, .slice Af2 M.fr.length cf2, .int .i64 M.cp] 28) = w3 at *
    have HI := hide (fun wx hO hX hB => hide_any w.heap.size g3 M As2 Af2 cs2 cf2 T n m wx hO hX hB hn hm hg hsz.2.1.2 (HPL.out n hn) hsz.2.2.1.2 (fun k hk => ⟨by have := (HCB.out k hk).1; omega, by have := (HCB.out k hk).2; omega⟩))
    unfold cwA at HI
    have n0 : (0 : Int) ≤ (n : Int) := by omega
    clear hsz hl hz hg hm
    go_wp2_with fail
    refine (HI.out _ (O.out.mono1 GB.out) V.out K.out.size).mono ?_
    rintro e w4 ⟨rfl, hO, hS⟩
    have V4 := hide (hS.box _ _ V.out)
    have Y4 := hide (hS.box _ _ Y.out)
    have K4 := hide (K.out.trans hS.below)
    have O4 := hide hO
    clear hO hS V Y K O X HI
    obtain ⟨v0, v1, v2, v3⟩ := box4 V4.out
    obtain ⟨y0, y1, y2, y3⟩ := box4 Y4.out
    have z0 := Y4.out.frozen 0
    have z1 := Y4.out.frozen 1
    have z2 := Y4.out.frozen 2
    have z3 := Y4.out.frozen 3
    go_wp2
    refine ret_c2 Try.results33 rfl rfl rfl (box4s Y4.out) ⟨As2, cs2, Af2, cf2, ?_, ?_, K4.out.trans (kp4 Y4.out GG.out.2 _ _ _ _).below⟩
    · rw [E.out]
      have e := cwA_hd M n m As2 cs2 Af2 cf2
      unfold cwA at e
      rw [e]; rfl
    · rw [E.out]; exact (O4.out.setCells4 Y4.out GG.out.2 _ _ _ _).toIn
end Go.Proofs.Ytoogdggiemacjaa.Cw
