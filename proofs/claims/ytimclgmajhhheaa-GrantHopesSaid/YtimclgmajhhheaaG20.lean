import Derived.Test.YtimclgmajhhheaaG18
import Derived.Laws.MakeOwn
namespace Go.Proofs.Ytimclgmajhhheaa.Gr
open Go Go.RowKit Ac
set_option linter.unusedVariables false
set_option linter.unusedSimpArgs false
/-- the accounts with nothing charged -/
def zE (L : List A5) : List A5 := (List.range L.length).map fun k => ⟨pa L k, 0, mn L k, lo L k, mx L k⟩
theorem zE_len (L : List A5) : (zE L).length = L.length := by unfold zE; simp
theorem zE_at {L : List A5} {k : Nat} (h : k < L.length) : aAt (zE L) k = ⟨pa L k, 0, mn L k, lo L k, mx L k⟩ := by
  unfold zE aAt
  rw [List.getD_eq_getElem?_getD, List.getElem?_map, List.getElem?_range h]
  rfl
theorem zE_pa {L : List A5} {k : Nat} (h : k < L.length) : pa (zE L) k = pa L k := by unfold pa; rw [zE_at h]; rfl
theorem zE_us {L : List A5} {k : Nat} (h : k < L.length) : us (zE L) k = 0 := by unfold us; rw [zE_at h]
theorem zE_mn {L : List A5} {k : Nat} (h : k < L.length) : mn (zE L) k = mn L k := by unfold mn; rw [zE_at h]; rfl
theorem zE_lo {L : List A5} {k : Nat} (h : k < L.length) : lo (zE L) k = lo L k := by unfold lo; rw [zE_at h]; rfl
theorem zE_mx {L : List A5} {k : Nat} (h : k < L.length) : mx (zE L) k = mx L k := by unfold mx; rw [zE_at h]; rfl
theorem kc_nil {L : List A5} {x : Int} {f : Nat → Int} : ∀ n, (∀ i, i < n → f i = 0) → kc L x f n = 0
  | 0, _ => rfl
  | n + 1, h => by
    show kc L x f n + (if _ then f n else 0) = 0
    rw [kc_nil n (fun i hi => h i (by omega)), h n (by omega)]
    split <;> rfl
theorem zE_vd {L : List A5} (V : Vd L) : Vd (zE L) := by
  have hl := zE_len L
  refine ⟨by rw [hl]; exact V.len, ⟨?_, fun k hk h0 => ?_⟩, fun k hk => ?_, ⟨?_, ?_⟩, fun k hk => ?_, fun k hk => ?_⟩
  · rw [zE_pa V.len.1]; exact V.tr.1
  · rw [hl] at hk; rw [zE_pa hk]; exact V.tr.2 k hk h0
  · rw [hl] at hk
    have := V.rg k hk
    rw [zE_us hk, zE_mn hk, zE_lo hk, zE_mx hk]
    exact ⟨⟨⟨by omega, by omega⟩, this.1.2⟩, this.2⟩
  · rw [zE_mn V.len.1]; exact V.rt.1
  · rw [zE_lo V.len.1]; exact V.rt.2
  · rw [hl] at hk
    have := (V.rg k hk).2.2
    unfold inr at this
    rw [zE_us hk, zE_mx hk]; exact this.1
  · rw [hl] at hk
    unfold own
    rw [zE_us hk, hl, kc_nil L.length (fun i hi => zE_us hi)]
    decide
theorem pth_zE {L : List A5} (V : Vd L) {a : Int} (ha : a < L.length) : pth (zE L) a = pth L a := upF_par V.tr (fun k hk => zE_pa hk) 9 a ha
/-- when Short answers 0 -/
theorem sh_iff {a : A4} {L : List A5} {n m : Int} (V : Vd L) (ok : okQ a) (h1 : a.ac < L.length) : (shS a L n m).c ≤ 0 ↔ stp L (tot a) (pth L a.ac) = -1 ∧ a.ke ≤ n ∧ tot a ≤ m :=
  ⟨sh_pos V ok h1, fun h => sh_le h.1 h.2.1 h.2.2⟩
theorem stp_iff {L : List A5} {t : Int} {l : Is} (h : ∀ x ∈ l, 0 ≤ x) : stp L t l = -1 ↔ ∀ x ∈ l, t ≤ mx L x.toNat - us L x.toNat := by
  have s := stp_mem (L := L) (n := t) (l := l) h
  have lo := stp_lo (L := L) (t := t) (l := l) h
  constructor
  · intro e; exact s.1 (by omega)
  · intro g
    rcases Int.lt_or_le (stp L t l) 0 with c | c
    · omega
    · have := s.2 c
      have := g _ this.1
      omega
/-- what the empty machine permits is what is not hopeless -/
theorem hopes_iff {a : A4} {L : List A5} {n m : Int} (V : Vd L) (ok : okQ a) (h1 : a.ac < L.length) : (shS a (zE L) n m).c ≤ 0 ↔ hpP a L n m := by
  have V' := zE_vd V
  have hl := zE_len L
  have pn := pth_ge V ok.2.1 h1
  rw [sh_iff V' ok (by rw [hl]; exact h1), pth_zE V h1, stp_iff (fun x hx => (pn x hx).1)]
  unfold hpP
  constructor
  · rintro ⟨g, g2, g3⟩
    refine ⟨ok, mE_0 (chE_0 V) ⟨ok.2.1, h1⟩, fun x hx => ?_, g2, g3⟩
    have := g x hx
    have hx2 := pn x hx
    rw [zE_us (show x.toNat < L.length by omega), zE_mx (show x.toNat < L.length by omega)] at this
    omega
  · rintro ⟨_, _, g, g2, g3⟩
    refine ⟨fun x hx => ?_, g2, g3⟩
    have := g x hx
    have hx2 := pn x hx
    rw [zE_us (show x.toNat < L.length by omega), zE_mx (show x.toNat < L.length by omega)]
    omega
/-- what fits now is not hopeless -/
theorem now_hp {a : A4} {L : List A5} {n m n2 m2 : Int} (V : Vd L) (ok : okQ a) (h1 : a.ac < L.length) (hn : n2 ≤ n) (hm : m2 ≤ m) (h : (shS a L n2 m2).c ≤ 0) : hpP a L n m := by
  have pn := pth_ge V ok.2.1 h1
  obtain ⟨g, g2, g3⟩ := sh_pos V ok h1 h
  refine ⟨ok, mE_0 (chE_0 V) ⟨ok.2.1, h1⟩, fun x hx => ?_, by omega, by omega⟩
  have := (stp_iff (fun x hx => (pn x hx).1)).1 g x hx
  have hx2 := pn x hx
  have u := (V.rg x.toNat (by omega)).1.1
  unfold inr at u
  omega
/-- all that law 9 asks -/
structure HH (a : A4) (L : List A5) (n m n2 m2 : Int) : Prop where
  no : ¬ okQ a → hpB a L n m = true ∧ shE a (zE L) = 2
  yes : okQ a → shE a (zE L) = 0 ∧ shE a L = 0 ∧ hpB a L n m = decide (0 < (shV a (zE L) n m).c) ∧ (hpB a L n m = true → 0 < (shV a L n2 m2).c)
theorem hopes_all {a : A4} {L : List A5} {n m n2 m2 : Int} (V : Vd L) (h0 : 0 ≤ a.ac) (h1 : a.ac < L.length) (hn : n2 ≤ n) (hm : m2 ≤ m) : HH a L n m n2 m2 := by
  refine ⟨fun h => ⟨?_, if_neg h⟩, fun ok => ?_⟩
  · exact hp_no (fun g => h g.1)
  · have hl := zE_len L
    have z1 := sh_ok (n := n) (m := m) ok (mE_0 (chE_0 (zE_vd V)) ⟨h0, show a.ac < (zE L).length by rw [hl]; exact h1⟩)
    have z2 := sh_ok (n := n2) (m := m2) ok (mE_0 (chE_0 V) ⟨h0, h1⟩)
    have i := hopes_iff (n := n) (m := m) V ok h1
    refine ⟨z1.2.symm, z2.2.symm, ?_, fun hb => ?_⟩
    · rw [← z1.1]
      unfold hpB
      by_cases c : hpP a L n m
      · have := i.2 c
        rw [decide_eq_true c, decide_eq_false (by omega)]; rfl
      · have : ¬ (shS a (zE L) n m).c ≤ 0 := fun g => c (i.1 g)
        rw [decide_eq_false c, decide_eq_true (by omega)]; rfl
    · rw [← z2.1]
      rcases Int.lt_or_le 0 (shS a L n2 m2).c with c | c
      · exact c
      · have := now_hp V ok h1 hn hm c
        unfold hpB at hb
        rw [decide_eq_true this] at hb
        cases hb
/-- the cells of a row of accounts -/
def fE (L : List A5) (i j : Nat) (u : Int) : Int := if j = 0 then pa L i else if j = 1 then u else if j = 2 then mn L i else if j = 3 then lo L i else mx L i
def cE (L : List A5) (k x : Nat) : Int := if x / 5 < k then fE L (x / 5) (x % 5) 0 else 0
def dE (L : List A5) (k x : Nat) : Int := if x / 5 = k then fE L k (x % 5) (us L k) else cE L k x
def RZ (w : World) (g n : Nat) (c : Nat → Int) : Prop := w.rowIs g 55 (n * 5) (fun j => .int .i64 (c j))
theorem RZ.cells {w : World} {g n k : Nat} {c : Nat → Int} (h : RZ w g n c) (hk : k < n) : w.cell? ⟨g, k * 5, none⟩ = some (.int .i64 (c (k * 5))) ∧ w.cell? ⟨g, k * 5 + 1, none⟩ = some (.int .i64 (c (k * 5 + 1))) ∧ w.cell? ⟨g, k * 5 + 2, none⟩ = some (.int .i64 (c (k * 5 + 2))) ∧ w.cell? ⟨g, k * 5 + 3, none⟩ = some (.int .i64 (c (k * 5 + 3))) ∧ w.cell? ⟨g, k * 5 + 4, none⟩ = some (.int .i64 (c (k * 5 + 4))) :=
  ⟨World.rowIs.cell h (by omega), World.rowIs.cell h (by omega), World.rowIs.cell h (by omega), World.rowIs.cell h (by omega), World.rowIs.cell h (by omega)⟩
theorem RZ.free {w : World} {g n : Nat} {c : Nat → Int} (h : RZ w g n c) (i : Nat) : w.frozen? ⟨g, i, none⟩ = false := World.rowIs.frozen h i
theorem RZ.lt {w : World} {g n : Nat} {c : Nat → Int} (h : RZ w g n c) : g < w.heap.size := World.rowIs.lt h
theorem RZ.put {w : World} {g n k : Nat} {L : List A5} (h : RZ w g n (cE L k)) : RZ (((((w.setCell ⟨g, k * 5, none⟩ (.int .i64 (pa L k))).setCell ⟨g, k * 5 + 1, none⟩ (.int .i64 (us L k))).setCell ⟨g, k * 5 + 2, none⟩ (.int .i64 (mn L k))).setCell ⟨g, k * 5 + 3, none⟩ (.int .i64 (lo L k))).setCell ⟨g, k * 5 + 4, none⟩ (.int .i64 (mx L k))) g n (dE L k) := by
  refine World.rowIs.congr ((((((World.rowIs.set h _ _).set _ _).set _ _).set _ _).set _ _)) fun i hi => ?_
  have key : ∀ j, j < 5 → i = k * 5 + j → i / 5 = k ∧ i % 5 = j := fun j hj e => by omega
  by_cases e4 : i = k * 5 + 4
  · obtain ⟨a, b⟩ := key 4 (by omega) e4
    rw [if_pos e4]; unfold dE fE; rw [a, b]; simp
  · rw [if_neg e4]
    by_cases e3 : i = k * 5 + 3
    · obtain ⟨a, b⟩ := key 3 (by omega) e3
      rw [if_pos e3]; unfold dE fE; rw [a, b]; simp
    · rw [if_neg e3]
      by_cases e2 : i = k * 5 + 2
      · obtain ⟨a, b⟩ := key 2 (by omega) e2
        rw [if_pos e2]; unfold dE fE; rw [a, b]; simp
      · rw [if_neg e2]
        by_cases e1 : i = k * 5 + 1
        · obtain ⟨a, b⟩ := key 1 (by omega) e1
          rw [if_pos e1]; unfold dE fE; rw [a, b]; simp
        · rw [if_neg e1]
          by_cases e0 : i = k * 5
          · obtain ⟨a, b⟩ := key 0 (by omega) e0
            rw [if_pos e0]; unfold dE fE; rw [a, b]; simp
          · rw [if_neg e0]
            unfold dE
            rw [if_neg (by omega)]
theorem RZ.zero {w : World} {g n k : Nat} {L : List A5} (h : RZ w g n (dE L k)) : RZ (w.setCell ⟨g, k * 5 + 1, none⟩ (.int .i64 0)) g n (cE L (k + 1)) := by
  refine World.rowIs.congr (World.rowIs.set h _ _) fun i hi => ?_
  by_cases e1 : i = k * 5 + 1
  · rw [if_pos e1]
    have a : i / 5 = k := by omega
    have b : i % 5 = 1 := by omega
    unfold cE fE; rw [a, b]; simp
  · rw [if_neg e1]
    unfold dE cE
    by_cases c : i / 5 = k
    · have b : ¬ i % 5 = 1 := by omega
      rw [if_pos c, if_pos (by omega), c]
      unfold fE
      simp [b]
    · rw [if_neg c]
      by_cases d : i / 5 < k
      · rw [if_pos d, if_pos (by omega)]
      · rw [if_neg d, if_neg (by omega)]
theorem RZ.made (w : World) (n : Nat) (L : List A5) : RZ (w.alloc (.cells (madeCells #[.int .i64 0, .int .i64 0, .int .i64 0, .int .i64 0, .int .i64 0] (n * 5)) 55)) w.heap.size n (cE L 0) := by
  have h := World.rowIs_alloc w (madeCells #[.int .i64 0, .int .i64 0, .int .i64 0, .int .i64 0, .int .i64 0] (n * 5)) 55 (fun j => .int .i64 (cE L 0 j)) (fun i hi => by
    rw [size_madeCells] at hi
    have e : cE L 0 i = 0 := by unfold cE; rw [if_neg (by omega)]
    rw [e]
    simp only [madeCells, Array.getElem?_map]
    rw [Array.getElem?_range, if_pos hi]
    rcases (show i % 5 = 0 ∨ i % 5 = 1 ∨ i % 5 = 2 ∨ i % 5 = 3 ∨ i % 5 = 4 by omega) with h | h | h | h | h <;> simp [h])
  rw [size_madeCells] at h
  exact h
theorem RZ.as {w : World} {g : Nat} {L : List A5} (h : RZ w g L.length (cE L L.length)) : As w (some ⟨g, 0, none⟩) (zE L) := fun _ => ⟨g, 0, rfl, h.lt, fun k hk j hj => by
  rw [zE_len] at hk
  rw [zE_at hk, Nat.zero_add, World.rowIs.cell h (by omega)]
  have a : (k * 5 + j) / 5 = k := by omega
  have b : (k * 5 + j) % 5 = j := by omega
  unfold cE fE
  rw [a, b, if_pos hk]
  rcases (show j = 0 ∨ j = 1 ∨ j = 2 ∨ j = 3 ∨ j = 4 by omega) with rfl | rfl | rfl | rfl | rfl <;> rfl⟩
theorem makeA (w : World) (n : Nat) (h : n ≤ 1000) : (Instr.makeSlice 35 (.int .i64 (n : Int)) (.int .i64 (n : Int))).run Try.prog w = .ok (.slice (some ⟨w.heap.size, 0, none⟩) n n) (w.alloc (.cells (madeCells #[.int .i64 0, .int .i64 0, .int .i64 0, .int .i64 0, .int .i64 0] (n * 5)) 55)) := by
  obtain ⟨i0, hi0, hz0, hz1, hz2⟩ := info_parts info55
  have r := run_make (P := Try.prog) w 35 55 i0 _ Try.underlying35 hi0 hz0 .i64 .i64 (n : Int) (n : Int) (by omega) (Int.le_refl _) (by rw [hz2]; omega) (by omega)
  rw [hz1] at r
  simp only [Int.toNat_natCast] at r
  exact r
set_option maxRecDepth 100000 in
set_option maxHeartbeats 8000000 in
theorem law_hopes (pc ac ke us : Int) (A : Option Addr) (cp : Nat) (L : List A5) (f0 f1 f2 f3 : Int) (w : World) (hr : As w A L) (hcp : L.length ≤ cp) (hL : L.length ≤ 9223372036854775807) (h0 : 0 ≤ f0 ∧ f0 ≤ 65535) (h1 : 0 ≤ f1 ∧ f1 ≤ 65535) (h2 : 0 ≤ f2 ∧ f2 ≤ 65535) (h3 : 0 ≤ f3 ∧ f3 ≤ 65535) : Calls Try.prog 9 #[.agg #[.int .i64 pc, .int .i64 ac, .int .i64 ke, .int .i64 us], .slice A L.length cp, .agg #[.int .u16 f0, .int .u16 f1, .int .u16 f2, .int .u16 f3]] w fun e w' => e = .returned (.bool (true)) ∧ Below w.heap.size w w' := by
  have AWK := hide (fun w => awake_any w)
  have X := hide (show QB ((w.alloc (.cells #[.int .i64 pc, .int .i64 ac, .int .i64 ke, .int .i64 us] 27)).alloc (.cells #[.int .u16 f0, .int .u16 f1, .int .u16 f2, .int .u16 f3] 52)) w.heap.size ⟨pc, ac, ke, us⟩ from Box.more (Box.new w 27 #[.int .i64 pc, .int .i64 ac, .int .i64 ke, .int .i64 us]) (.cells #[.int .u16 f0, .int .u16 f1, .int .u16 f2, .int .u16 f3] 52))
  have Y := hide (show Box ((w.alloc (.cells #[.int .i64 pc, .int .i64 ac, .int .i64 ke, .int .i64 us] 27)).alloc (.cells #[.int .u16 f0, .int .u16 f1, .int .u16 f2, .int .u16 f3] 52)) (w.heap.size + 1) 52 #[.int .u16 f0, .int .u16 f1, .int .u16 f2, .int .u16 f3] from Box.new2 w (.cells #[.int .i64 pc, .int .i64 ac, .int .i64 ke, .int .i64 us] 27) 52 #[.int .u16 f0, .int .u16 f1, .int .u16 f2, .int .u16 f3])
  have K := hide (show Below w.heap.size w ((w.alloc (.cells #[.int .i64 pc, .int .i64 ac, .int .i64 ke, .int .i64 us] 27)).alloc (.cells #[.int .u16 f0, .int .u16 f1, .int .u16 f2, .int .u16 f3] 52)) from bal2 w _ _)
  obtain ⟨W0, hW0⟩ : ∃ W0, W0 = (w.alloc (.cells #[.int .i64 pc, .int .i64 ac, .int .i64 ke, .int .i64 us] 27)).alloc (.cells #[.int .u16 f0, .int .u16 f1, .int .u16 f2, .int .u16 f3] 52) := ⟨_, rfl⟩
  rw [← hW0] at X Y K
  obtain ⟨g4, hg4⟩ : ∃ g4, g4 = w.heap.size := ⟨_, rfl⟩
  rw [← hg4] at X Y
  have HW := hide hW0
  have HB := hide hg4
  clear hW0 hg4
  have CK := hide (fun w' (h : Below w.heap.size w w') => check_any A cp L w' (hr.below h) hcp hL)
  by_cases h20 : (20 : Int) < L.length
  · clear hr CK
    go_enter Try.func9, Try.ntmps9
    go_upto_region 1 with fail
    rw [← HW.out, ← HB.out]
    clear HW HB
    go_wp2_with fail
    refine (AWK.out _).mono ?_
    rintro e w1 ⟨rfl, hb⟩
    replace K := hide (btrans K.out hb)
    replace X := hide (X.out.below hb)
    replace Y := hide (Y.out.below hb)
    clear hb
    try clear x0 x1 x2 x3
    try clear y0 y1 y2 y3
    obtain ⟨x0, x1, x2, x3⟩ := QB.cells X.out
    have y0 := Box.cell Y.out 0
    have y1 := Box.cell Y.out 1
    have y2 := Box.cell Y.out 2
    have y3 := Box.cell Y.out 3
    go_wp2_with fail
    refine (AWK.out _).mono ?_
    rintro e w3 ⟨rfl, hb⟩
    replace K := hide (btrans K.out hb)
    replace X := hide (X.out.below hb)
    replace Y := hide (Y.out.below hb)
    clear hb
    go_wp2
    go_ret
    exact ⟨rfl, K.out⟩
  by_cases hc : chE L = 0
  rotate_left 1
  · have b := ne_bool hc
    generalize chE L = z at *
    clear hr hc
    go_enter Try.func9, Try.ntmps9
    go_upto_region 1 with fail
    rw [← HW.out, ← HB.out]
    clear HW HB
    go_wp2_with fail
    refine (AWK.out _).mono ?_
    rintro e w1 ⟨rfl, hb⟩
    replace K := hide (btrans K.out hb)
    replace X := hide (X.out.below hb)
    replace Y := hide (Y.out.below hb)
    clear hb
    try clear x0 x1 x2 x3
    try clear y0 y1 y2 y3
    obtain ⟨x0, x1, x2, x3⟩ := QB.cells X.out
    have y0 := Box.cell Y.out 0
    have y1 := Box.cell Y.out 1
    have y2 := Box.cell Y.out 2
    have y3 := Box.cell Y.out 3
    go_wp2_with fail
    refine (CK.out _ K.out).mono ?_
    rintro e w2 ⟨rfl, hb⟩
    replace K := hide (btrans K.out hb)
    replace X := hide (X.out.below hb)
    replace Y := hide (Y.out.below hb)
    clear hb
    try clear x0 x1 x2 x3
    try clear y0 y1 y2 y3
    obtain ⟨x0, x1, x2, x3⟩ := QB.cells X.out
    have y0 := Box.cell Y.out 0
    have y1 := Box.cell Y.out 1
    have y2 := Box.cell Y.out 2
    have y3 := Box.cell Y.out 3
    go_wp2_with fail
    refine (AWK.out _).mono ?_
    rintro e w3 ⟨rfl, hb⟩
    replace K := hide (btrans K.out hb)
    replace X := hide (X.out.below hb)
    replace Y := hide (Y.out.below hb)
    clear hb
    go_wp2
    go_ret
    exact ⟨rfl, K.out⟩
  rw [hc] at CK
  by_cases ha0 : ac < 0
  · clear hr hc
    go_enter Try.func9, Try.ntmps9
    go_upto_region 1 with fail
    rw [← HW.out, ← HB.out]
    clear HW HB
    go_wp2_with fail
    refine (AWK.out _).mono ?_
    rintro e w1 ⟨rfl, hb⟩
    replace K := hide (btrans K.out hb)
    replace X := hide (X.out.below hb)
    replace Y := hide (Y.out.below hb)
    clear hb
    try clear x0 x1 x2 x3
    try clear y0 y1 y2 y3
    obtain ⟨x0, x1, x2, x3⟩ := QB.cells X.out
    have y0 := Box.cell Y.out 0
    have y1 := Box.cell Y.out 1
    have y2 := Box.cell Y.out 2
    have y3 := Box.cell Y.out 3
    go_wp2_with fail
    refine (CK.out _ K.out).mono ?_
    rintro e w2 ⟨rfl, hb⟩
    replace K := hide (btrans K.out hb)
    replace X := hide (X.out.below hb)
    replace Y := hide (Y.out.below hb)
    clear hb
    try clear x0 x1 x2 x3
    try clear y0 y1 y2 y3
    obtain ⟨x0, x1, x2, x3⟩ := QB.cells X.out
    have y0 := Box.cell Y.out 0
    have y1 := Box.cell Y.out 1
    have y2 := Box.cell Y.out 2
    have y3 := Box.cell Y.out 3
    go_wp2_with fail
    refine (AWK.out _).mono ?_
    rintro e w3 ⟨rfl, hb⟩
    replace K := hide (btrans K.out hb)
    replace X := hide (X.out.below hb)
    replace Y := hide (Y.out.below hb)
    clear hb
    go_wp2
    go_ret
    exact ⟨rfl, K.out⟩
  by_cases ha1 : (L.length : Int) ≤ ac
  · clear hr hc
    go_enter Try.func9, Try.ntmps9
    go_upto_region 1 with fail
    rw [← HW.out, ← HB.out]
    clear HW HB
    go_wp2_with fail
    refine (AWK.out _).mono ?_
    rintro e w1 ⟨rfl, hb⟩
    replace K := hide (btrans K.out hb)
    replace X := hide (X.out.below hb)
    replace Y := hide (Y.out.below hb)
    clear hb
    try clear x0 x1 x2 x3
    try clear y0 y1 y2 y3
    obtain ⟨x0, x1, x2, x3⟩ := QB.cells X.out
    have y0 := Box.cell Y.out 0
    have y1 := Box.cell Y.out 1
    have y2 := Box.cell Y.out 2
    have y3 := Box.cell Y.out 3
    go_wp2_with fail
    refine (CK.out _ K.out).mono ?_
    rintro e w2 ⟨rfl, hb⟩
    replace K := hide (btrans K.out hb)
    replace X := hide (X.out.below hb)
    replace Y := hide (Y.out.below hb)
    clear hb
    try clear x0 x1 x2 x3
    try clear y0 y1 y2 y3
    obtain ⟨x0, x1, x2, x3⟩ := QB.cells X.out
    have y0 := Box.cell Y.out 0
    have y1 := Box.cell Y.out 1
    have y2 := Box.cell Y.out 2
    have y3 := Box.cell Y.out 3
    go_wp2_with fail
    refine (AWK.out _).mono ?_
    rintro e w3 ⟨rfl, hb⟩
    replace K := hide (btrans K.out hb)
    replace X := hide (X.out.below hb)
    replace Y := hide (Y.out.below hb)
    clear hb
    go_wp2
    go_ret
    exact ⟨rfl, K.out⟩
  have V := vd_of hc
  have H := hopes_all (a := ⟨pc, ac, ke, us⟩) (n := f0) (m := f1) (n2 := min f0 f2) (m2 := min f1 f3) V (show 0 ≤ ac by omega) (show ac < L.length by omega) (Int.min_le_left _ _) (Int.min_le_left _ _)
  have HP := fun w' (h : Below w.heap.size w w') => hopeless_any pc ac ke us A cp L f0 f1 w' (hr.below h) hcp hL
  have SE := fun A' c' w' (h2 : As w' A' (zE L)) (h3 : L.length ≤ c') => short_any pc ac ke us A' c' (zE L) f0 f1 w' h2 (by rw [zE_len]; exact h3) (by rw [zE_len]; exact hL)
  have SN : ∀ n2 m2, n2 = min f0 f2 → m2 = min f1 f3 → ∀ w', Below w.heap.size w w' → Calls Try.prog 26 #[.agg #[.int .i64 pc, .int .i64 ac, .int .i64 ke, .int .i64 us], .slice A L.length cp, .int .i64 n2, .int .i64 m2] w' (ShR (shV ⟨pc, ac, ke, us⟩ L (min f0 f2) (min f1 f3)) (shE ⟨pc, ac, ke, us⟩ L) w') := fun n2 m2 e1 e2 w' h => by rw [e1, e2]; exact short_any pc ac ke us A cp L (min f0 f2) (min f1 f3) w' (hr.below h) hcp hL
  unfold ShR at SE SN
  rw [zE_len] at SE
  have HA := hide (fun w' (h : Below w.heap.size w w') => hr.below h)
  have w0 : IntKind.i64.wrap f0 = f0 := IntWalk.i64_in _ (by omega)
  have w1 : IntKind.i64.wrap f1 = f1 := IntWalk.i64_in _ (by omega)
  have w2 : IntKind.i64.wrap f2 = f2 := IntWalk.i64_in _ (by omega)
  have w3 : IntKind.i64.wrap f3 = f3 := IntWalk.i64_in _ (by omega)
  have L8 := V.len.2
  obtain ⟨⟨s0, s1, s2⟩, hs⟩ : ∃ s, s = shV ⟨pc, ac, ke, us⟩ (zE L) f0 f1 := ⟨_, rfl⟩
  obtain ⟨⟨z0, z1, z2⟩, hz⟩ : ∃ s, s = shV ⟨pc, ac, ke, us⟩ L (min f0 f2) (min f1 f3) := ⟨_, rfl⟩
  obtain ⟨e1, he1⟩ : ∃ s, s = shE ⟨pc, ac, ke, us⟩ (zE L) := ⟨_, rfl⟩
  obtain ⟨e2, he2⟩ : ∃ s, s = shE ⟨pc, ac, ke, us⟩ L := ⟨_, rfl⟩
  obtain ⟨hb, hhb⟩ : ∃ s, s = hpB ⟨pc, ac, ke, us⟩ L f0 f1 := ⟨_, rfl⟩
  have HN := H.no
  have HY := H.yes
  rw [← hs, ← he1] at SE
  rw [← hz, ← he2] at SN
  rw [← hhb] at HP HN HY
  rw [← he1] at HN HY
  rw [← he2, ← hs, ← hz] at HY
  dsimp only at SE SN HN HY
  clear hs hz he1 he2 hhb H hr V hc
  have ALL : (hb = true ∧ e1 = 2) ∨ (e1 = 0 ∧ e2 = 0 ∧ ((hb = true ∧ 0 < s0 ∧ 0 < z0) ∨ (hb = false ∧ s0 ≤ 0))) := by
    by_cases ok : okQ ⟨pc, ac, ke, us⟩
    · obtain ⟨a, b, c, d⟩ := HY ok
      refine .inr ⟨a, b, ?_⟩
      by_cases q : 0 < s0
      · rw [decide_eq_true q] at c
        exact .inl ⟨c, q, d c⟩
      · rw [decide_eq_false q] at c
        exact .inr ⟨c, by omega⟩
    · exact .inl (HN ok)
  replace ALL := hide ALL
  clear HN HY
  replace SE := hide SE
  replace SN := hide SN
  replace HP := hide HP
  obtain ⟨n, hn⟩ : ∃ n, n = L.length := ⟨_, rfl⟩
  rw [← hn] at hcp hL CK HP SE SN h20 ha1 L8
  have RM := hide (fun w => RZ.made w n L)
  have RA := hide (show ∀ w g, RZ w g n (cE L n) → As w (some ⟨g, 0, none⟩) (zE L) from fun w g h => by rw [hn] at h; exact RZ.as h)
  have HNL := hide hn
  rw [← hn]
  clear hn
  obtain ⟨zz, hzz⟩ : ∃ zz : Array Value, zz = madeCells #[.int .i64 0, .int .i64 0, .int .i64 0, .int .i64 0, .int .i64 0] (n * 5) := ⟨_, rfl⟩
  have hmk : ∀ w, (Instr.makeSlice 35 (.int .i64 (n : Int)) (.int .i64 (n : Int))).run Try.prog w = .ok (.slice (some ⟨w.heap.size, 0, none⟩) n n) (w.alloc (.cells zz 55)) := fun w => by rw [hzz]; exact makeA w n (by omega)
  rw [← hzz] at RM
  clear hzz
  go_enter Try.func9, Try.ntmps9
  go_upto_region 1 with fail
  rw [← HW.out, ← HB.out]
  clear HW HB
  go_wp2_with fail
  refine (AWK.out _).mono ?_
  rintro e wb ⟨rfl, hb⟩
  replace K := hide (btrans K.out hb)
  replace X := hide (X.out.below hb)
  replace Y := hide (Y.out.below hb)
  clear hb
  try clear x0 x1 x2 x3
  try clear y0 y1 y2 y3
  obtain ⟨x0, x1, x2, x3⟩ := QB.cells X.out
  have y0 := Box.cell Y.out 0
  have y1 := Box.cell Y.out 1
  have y2 := Box.cell Y.out 2
  have y3 := Box.cell Y.out 3
  go_wp2_with fail
  refine (CK.out _ K.out).mono ?_
  rintro e wc ⟨rfl, hb⟩
  replace K := hide (btrans K.out hb)
  replace X := hide (X.out.below hb)
  replace Y := hide (Y.out.below hb)
  clear hb
  try clear x0 x1 x2 x3
  try clear y0 y1 y2 y3
  obtain ⟨x0, x1, x2, x3⟩ := QB.cells X.out
  have y0 := Box.cell Y.out 0
  have y1 := Box.cell Y.out 1
  have y2 := Box.cell Y.out 2
  have y3 := Box.cell Y.out 3
  go_upto_region 3 with fail
  replace K := hide (show Below w.heap.size w wc.drew from btrans K.out (below_drewN (brefl _) 1))
  replace X := hide (X.out.below (show Below wc.heap.size wc wc.drew from below_drewN (brefl _) 1))
  replace Y := hide (Y.out.below (show Below wc.heap.size wc wc.drew from below_drewN (brefl _) 1))
  clear x0 x1 x2 x3 y0 y1 y2 y3
  refine wp_region_noPanic ?_
  refine wp_region_held_drew (S := (fun W => W.cell? ⟨g4 + 1, 0, none⟩ = some (.int .u16 f0) ∧ W.cell? ⟨g4 + 1, 1, none⟩ = some (.int .u16 f1))) (by kernel_rfl) ?_ (fun hHeld => ?_)
  · exact ⟨Box.cell Y.out 0, Box.cell Y.out 1⟩
  generalize wc.drew = wd at *
  refine wpAnyH_take (i := 0) (oi := ⟨some 41, _, _, _, _, _⟩) (v := ?_) rfl (by kernel_rfl) (by kernel_rfl) (by kernel_rfl) (fun _ _ _ h => h) (Or.inl ⟨by kernel_rfl, ?_⟩) (by assumption) ?_
  rotate_left 1
  · (intro w hSw; (try dsimp only at hSw); go_simp) <;> (with_reducible rfl)
  (try simp only [Act.put, List.setIfInBounds_toArray, List.set_cons_succ, List.set_cons_zero])
  refine wpAnyH_take (i := 1) (oi := ⟨some 42, _, _, _, _, _⟩) (v := ?_) rfl (by kernel_rfl) (by kernel_rfl) (by kernel_rfl) (fun _ _ _ h => h) (Or.inl ⟨by kernel_rfl, ?_⟩) (by assumption) ?_
  rotate_left 1
  · (intro w hSw; (try dsimp only at hSw); go_simp) <;> (with_reducible rfl)
  (try simp only [Act.put, List.setIfInBounds_toArray, List.set_cons_succ, List.set_cons_zero])
  refine wpAnyH_take (i := 2) (oi := ⟨some 43, _, _, _, _, _⟩) (v := ?_) rfl (by kernel_rfl) (by kernel_rfl) (by kernel_rfl) (fun _ _ _ h => h) (Or.inl ⟨by kernel_rfl, ?_⟩) (by assumption) ?_
  rotate_left 1
  · (intro w hSw; (try dsimp only at hSw); go_simp) <;> (with_reducible rfl)
  (try simp only [Act.put, List.setIfInBounds_toArray, List.set_cons_succ, List.set_cons_zero])
  refine wpAnyH_take (i := 3) (oi := ⟨some 44, _, _, _, _, _⟩) (v := ?_) rfl (by kernel_rfl) (by kernel_rfl) (by kernel_rfl) (fun _ _ _ h => h) (Or.inl ⟨by kernel_rfl, ?_⟩) (by assumption) ?_
  rotate_left 1
  · (intro w hSw; (try dsimp only at hSw); go_simp) <;> (with_reducible rfl)
  (try simp only [Act.put, List.setIfInBounds_toArray, List.set_cons_succ, List.set_cons_zero])
  refine wpAnyH_take (i := 4) (oi := ⟨some 45, _, _, _, _, _⟩) (v := ?_) rfl (by kernel_rfl) (by kernel_rfl) (by kernel_rfl) (fun _ _ _ h => h) (Or.inl ⟨by kernel_rfl, ?_⟩) (by assumption) ?_
  rotate_left 1
  · (intro w hSw; (try dsimp only at hSw); go_simp) <;> (with_reducible rfl)
  (try simp only [Act.put, List.setIfInBounds_toArray, List.set_cons_succ, List.set_cons_zero])
  refine wpAnyH_take (i := 5) (oi := ⟨some 46, _, _, _, _, _⟩) (v := ?_) rfl (by kernel_rfl) (by kernel_rfl) (by kernel_rfl) (fun _ _ _ h => h) (Or.inl ⟨by kernel_rfl, ?_⟩) (by assumption) ?_
  rotate_left 1
  · (intro w hSw; (try dsimp only at hSw); go_simp) <;> (with_reducible rfl)
  (try simp only [Act.put, List.setIfInBounds_toArray, List.set_cons_succ, List.set_cons_zero])
  refine wpAnyH_take (i := 6) (oi := ⟨some 7, _, _, _, _, _⟩) (v := ?_) rfl (by kernel_rfl) (by kernel_rfl) (by kernel_rfl) (fun _ _ _ h => h) (Or.inl ⟨by kernel_rfl, ?_⟩) (by assumption) ?_
  rotate_left 1
  · (intro w hSw; (try dsimp only at hSw); go_simp) <;> (with_reducible rfl)
  (try simp only [Act.put, List.setIfInBounds_toArray, List.set_cons_succ, List.set_cons_zero])
  refine wpAnyH_take (i := 7) (oi := ⟨some 8, _, _, _, _, _⟩) (v := ?_) rfl (by kernel_rfl) (by kernel_rfl) (by kernel_rfl) (fun _ _ _ h => h) (Or.inl ⟨by kernel_rfl, ?_⟩) (by assumption) ?_
  rotate_left 1
  · (intro w hSw; (try dsimp only at hSw); go_simp) <;> (with_reducible rfl)
  (try simp only [Act.put, List.setIfInBounds_toArray, List.set_cons_succ, List.set_cons_zero])
  refine wpAnyH_done (by kernel_rfl) ?_ _
  refine NoPanic.normal ?_
  try clear x0 x1 x2 x3
  try clear y0 y1 y2 y3
  obtain ⟨x0, x1, x2, x3⟩ := QB.cells X.out
  have y0 := Box.cell Y.out 0
  have y1 := Box.cell Y.out 1
  have y2 := Box.cell Y.out 2
  have y3 := Box.cell Y.out 3
  go_wp2_with fail
  refine (HP.out _ K.out).mono ?_
  rintro e we ⟨rfl, hb⟩
  replace K := hide (btrans K.out hb)
  replace X := hide (X.out.below hb)
  replace Y := hide (Y.out.below hb)
  clear hb
  clear x0 x1 x2 x3 y0 y1 y2 y3
  have S0 := hide (RM.out we)
  have M := bal (brefl we) (.cells zz 55)
  have HG0 := Y.out.lt
  have HG1 := K.out.size
  replace K := hide (btrans K.out M)
  replace X := hide (X.out.below M)
  replace Y := hide (Y.out.below M)
  go_upto_region 6 with fail
  obtain ⟨g, hg⟩ : ∃ g, g = we.heap.size := ⟨_, rfl⟩
  rw [← hg] at S0 ⊢
  have G1 := hide (show w.heap.size ≤ g by omega)
  have G2 := hide (show g4 + 1 < g by omega)
  generalize we.alloc (.cells zz 55) = wf at *
  clear hmk hg M HG0 HG1 RM
  go_wp2
  go_loopw [57, 11] (fun i _ wr => ∃ j : Nat, j ≤ n ∧ i = .int .i64 j ∧ Hid (RZ wr g n (cE L j)) ∧ Hid (Below w.heap.size w wr) ∧ Hid (QB wr g4 ⟨pc, ac, ke, us⟩) ∧ Hid (Box wr (g4 + 1) 52 #[.int .u16 f0, .int .u16 f1, .int .u16 f2, .int .u16 f3])) (fun i _ _ => n - (intOf i).toNat)
  case atStart => exact ⟨0, Nat.zero_le _, rfl, S0, K, X, Y⟩
  case round =>
    clear K X Y S0
    obtain ⟨j, hj, rfl, S, K, X, Y⟩ := hrel
    by_cases hlt : j < n
    · have hl2 : (j : Int) < (n : Int) := by omega
      have hj0 : (0 : Int) ≤ (j : Int) := by omega
      obtain ⟨b, off, rfl, hbl, y0, y1, y2, y3, y4⟩ := (HA.out _ K.out).cells (brefl _) (show j < L.length by rw [← HNL.out]; exact hlt)
      obtain ⟨c0, c1, c2, c3, c4⟩ := RZ.cells S.out hlt
      have q0 := RZ.free S.out (j * 5)
      have q1 := RZ.free S.out (j * 5 + 1)
      have q2 := RZ.free S.out (j * 5 + 2)
      have q3 := RZ.free S.out (j * 5 + 3)
      have q4 := RZ.free S.out (j * 5 + 4)
      generalize cE L j (j * 5) = d0 at *
      generalize cE L j (j * 5 + 1) = d1 at *
      generalize cE L j (j * 5 + 2) = d2 at *
      generalize cE L j (j * 5 + 3) = d3 at *
      generalize cE L j (j * 5 + 4) = d4 at *
      have PU := hide (RZ.put S.out)
      have hgg : w.heap.size ≤ g := G1.out
      have hn1 : g4 ≠ g := by have := G2.out; omega
      have hn2 : g4 + 1 ≠ g := by have := G2.out; omega
      have G3 := hide hgg
      have N1 := hide hn1
      have N2 := hide hn2
      clear hgg hn1 hn2
      go_upto_region 10 with fail
      have hK := bset (bset (bset (bset (bset K.out (p := ⟨g, j * 5, none⟩) G3.out (.int .i64 (Ac.pa L j))) (p := ⟨g, j * 5 + 1, none⟩) G3.out (.int .i64 (Ac.us L j))) (p := ⟨g, j * 5 + 2, none⟩) G3.out (.int .i64 (Ac.mn L j))) (p := ⟨g, j * 5 + 3, none⟩) G3.out (.int .i64 (Ac.lo L j))) (p := ⟨g, j * 5 + 4, none⟩) G3.out (.int .i64 (Ac.mx L j))
      have hX := QB.far (QB.far (QB.far (QB.far (QB.far X.out (i := j * 5) N1.out (.int .i64 (Ac.pa L j))) (i := j * 5 + 1) N1.out (.int .i64 (Ac.us L j))) (i := j * 5 + 2) N1.out (.int .i64 (Ac.mn L j))) (i := j * 5 + 3) N1.out (.int .i64 (Ac.lo L j))) (i := j * 5 + 4) N1.out (.int .i64 (Ac.mx L j))
      have hY := Box.far (Box.far (Box.far (Box.far (Box.far Y.out (i := j * 5) N2.out (.int .i64 (Ac.pa L j))) (i := j * 5 + 1) N2.out (.int .i64 (Ac.us L j))) (i := j * 5 + 2) N2.out (.int .i64 (Ac.mn L j))) (i := j * 5 + 3) N2.out (.int .i64 (Ac.lo L j))) (i := j * 5 + 4) N2.out (.int .i64 (Ac.mx L j))
      replace K := hide hK
      replace X := hide hX
      replace Y := hide hY
      clear hK hX hY S c0 c1 c2 c3 c4 q0 q1 q2 q3 q4 y0 y1 y2 y3 y4
      generalize (((((wr.setCell ⟨g, j * 5, none⟩ (.int .i64 (Ac.pa L j))).setCell ⟨g, j * 5 + 1, none⟩ (.int .i64 (Ac.us L j))).setCell ⟨g, j * 5 + 2, none⟩ (.int .i64 (Ac.mn L j))).setCell ⟨g, j * 5 + 3, none⟩ (.int .i64 (Ac.lo L j))).setCell ⟨g, j * 5 + 4, none⟩ (.int .i64 (Ac.mx L j))) = wp at *
      obtain ⟨-, c1, -, -, -⟩ := RZ.cells PU.out hlt
      have q1 := RZ.free PU.out (j * 5 + 1)
      generalize dE L j (j * 5 + 1) = d1 at *
      have PZ := hide (RZ.zero PU.out)
      go_upto_region 11 with fail
      replace K := hide (bset K.out (p := ⟨g, j * 5 + 1, none⟩) G3.out (.int .i64 0))
      replace X := hide (QB.far X.out (i := j * 5 + 1) N1.out (.int .i64 0))
      replace Y := hide (Box.far Y.out (i := j * 5 + 1) N2.out (.int .i64 0))
      clear PU c1 q1
      generalize wp.setCell ⟨g, j * 5 + 1, none⟩ (.int .i64 0) = wq at *
      go_wp2
      go_roundw
      case rel => exact ⟨j + 1, by omega, by go_num, PZ, K, X, Y⟩
      case measure => simp [intOf]; omega
    · obtain rfl : j = n := by omega
      have AE := hide (RA.out _ _ S.out)
      try clear x0 x1 x2 x3
      try clear y0 y1 y2 y3
      obtain ⟨x0, x1, x2, x3⟩ := QB.cells X.out
      go_wp2_with fail
      refine (SE.out (some ⟨g, 0, none⟩) j _ AE.out (Nat.le_refl _)).mono ?_
      rintro e wg ⟨rfl, hb⟩
      replace K := hide (btrans K.out hb)
      replace X := hide (X.out.below hb)
      replace Y := hide (Y.out.below hb)
      clear hb
      go_upto_region 13 with fail
      have M := bal (brefl wg) (.cells #[.int .i64 s0, .int .i64 s1, .bool s2] 38)
      have Z : Hid (SB (wg.alloc (.cells #[.int .i64 s0, .int .i64 s1, .bool s2] 38)) wg.heap.size ⟨s0, s1, s2⟩) := hide (SB.new wg s0 s1 s2)
      replace K := hide (btrans K.out M)
      replace X := hide (X.out.below M)
      replace Y := hide (Y.out.below M)
      obtain ⟨b12, hbk⟩ : ∃ q, q = wg.heap.size := ⟨_, rfl⟩
      rw [← hbk] at Z ⊢
      clear hbk M
      generalize wg.alloc (.cells #[.int .i64 s0, .int .i64 s1, .bool s2] 38) = wh at *
      clear AE S
      rcases ALL.out with ⟨rfl, rfl⟩ | ⟨rfl, rfl, ⟨rfl, hs0, hz0⟩ | ⟨rfl, hs0⟩⟩
      · clear X Y Z
        go_wp2
        go_ret
        exact ⟨rfl, K.out⟩
      · have hz1 : (z0 == 0) = false := beq_eq_false_iff_ne.2 (by omega)
        have hz2 : z0 ≠ 0 := by omega
        clear ALL
        try clear x0 x1 x2 x3
        try clear y0 y1 y2 y3
        obtain ⟨x0, x1, x2, x3⟩ := QB.cells X.out
        have y0 := Box.cell Y.out 0
        have y1 := Box.cell Y.out 1
        have y2 := Box.cell Y.out 2
        have y3 := Box.cell Y.out 3
        go_wp2_with fail
        all_goals
          refine (SN.out _ _ (by omega) (by omega) _ K.out).mono ?_
          rintro e wi ⟨rfl, hb⟩
          replace K := hide (btrans K.out hb)
          replace X := hide (X.out.below hb)
          replace Y := hide (Y.out.below hb)
          replace Z := hide (Z.out.below hb)
          clear hb
          go_upto_region 16 with fail
          have M := bal (brefl wi) (.cells #[.int .i64 z0, .int .i64 z1, .bool z2] 38)
          have U : Hid (SB (wi.alloc (.cells #[.int .i64 z0, .int .i64 z1, .bool z2] 38)) wi.heap.size ⟨z0, z1, z2⟩) := hide (SB.new wi z0 z1 z2)
          replace K := hide (btrans K.out M)
          replace X := hide (X.out.below M)
          replace Y := hide (Y.out.below M)
          replace Z := hide (Z.out.below M)
          obtain ⟨b14, hbk⟩ : ∃ q, q = wi.heap.size := ⟨_, rfl⟩
          rw [← hbk] at U ⊢
          clear hbk M
          generalize wi.alloc (.cells #[.int .i64 z0, .int .i64 z1, .bool z2] 38) = wj at *
          try clear x0 x1 x2 x3
          try clear y0 y1 y2 y3
          obtain ⟨x0, x1, x2⟩ := SB.cells Z.out
          obtain ⟨y0, y1, y2⟩ := SB.cells U.out
          go_wp2
          go_ret
          exact ⟨by first | rfl | (simp [hz1, hz2]; done) | (simp; omega), K.out⟩
      · have hz1 : ¬ 0 < s0 := by omega
        have hz2 : s0 ≤ 0 := hs0
        have hs1 : ¬ 0 < s0 := by omega
        clear ALL
        try clear x0 x1 x2 x3
        try clear y0 y1 y2 y3
        obtain ⟨x0, x1, x2, x3⟩ := QB.cells X.out
        have y0 := Box.cell Y.out 0
        have y1 := Box.cell Y.out 1
        have y2 := Box.cell Y.out 2
        have y3 := Box.cell Y.out 3
        go_wp2_with fail
        all_goals
          refine (SN.out _ _ (by omega) (by omega) _ K.out).mono ?_
          rintro e wi ⟨rfl, hb⟩
          replace K := hide (btrans K.out hb)
          replace X := hide (X.out.below hb)
          replace Y := hide (Y.out.below hb)
          replace Z := hide (Z.out.below hb)
          clear hb
          go_upto_region 16 with fail
          have M := bal (brefl wi) (.cells #[.int .i64 z0, .int .i64 z1, .bool z2] 38)
          have U : Hid (SB (wi.alloc (.cells #[.int .i64 z0, .int .i64 z1, .bool z2] 38)) wi.heap.size ⟨z0, z1, z2⟩) := hide (SB.new wi z0 z1 z2)
          replace K := hide (btrans K.out M)
          replace X := hide (X.out.below M)
          replace Y := hide (Y.out.below M)
          replace Z := hide (Z.out.below M)
          obtain ⟨b14, hbk⟩ : ∃ q, q = wi.heap.size := ⟨_, rfl⟩
          rw [← hbk] at U ⊢
          clear hbk M
          generalize wi.alloc (.cells #[.int .i64 z0, .int .i64 z1, .bool z2] 38) = wj at *
          try clear x0 x1 x2 x3
          try clear y0 y1 y2 y3
          obtain ⟨x0, x1, x2⟩ := SB.cells Z.out
          obtain ⟨y0, y1, y2⟩ := SB.cells U.out
          go_wp2
          go_ret
          exact ⟨by first | rfl | (simp [hz1, hz2]; done) | (simp; omega), K.out⟩
end Go.Proofs.Ytimclgmajhhheaa.Gr
