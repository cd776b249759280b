import Derived.Test.YthoeolaleeogbaaLFills
import Derived.Test.YthoeolaleeogbaaLRemoves
namespace Go.Proofs.Ythoeolaleeogbaa.Tb
open Go Go.RowKit Go.Proofs.Ythoeolaleeogbaa.Pt
set_option linter.unusedVariables false
/-- A slice of the call's own, from block base on, with cells for n entries. -/
def RoomT (base : Nat) (w : World) (A : Option Addr) (n : Nat) : Prop := n ≠ 0 → ∃ (g : Nat) (cur : Array Value), A = some ⟨g, 0, none⟩ ∧ base ≤ g ∧ w.heap[g]? = some (.cells cur 47 (0, 0)) ∧ n * 3 ≤ cur.size
theorem RoomT.below {B n : Nat} {w w' : World} {A : Option Addr} (h : RoomT B w A n) (hb : Below w.heap.size w w') : RoomT B w' A n := fun hn => by
  obtain ⟨g, cur, e, hg, hh, ht⟩ := h hn
  exact ⟨g, cur, e, hg, (hb.block g (blk_lt hh)).trans hh, ht⟩
theorem RoomT.mono {B B' n : Nat} {w : World} {A : Option Addr} (h : RoomT B w A n) (hB : B' ≤ B) : RoomT B' w A n := fun hn => by
  obtain ⟨g, cur, e, hg, r⟩ := h hn
  exact ⟨g, cur, e, Nat.le_trans hB hg, r⟩
theorem RoomT.set {B n : Nat} {w : World} {A : Option Addr} (h : RoomT B w A n) {b i : Nat} (v : Value) : RoomT B (w.setCell ⟨b, i, none⟩ v) A n := fun hn => by
  obtain ⟨g, cur, e, hg, hh, ht⟩ := h hn
  by_cases hgb : g = b
  · subst hgb
    exact ⟨g, _, e, hg, heap_setCell_same w g i cur 47 v hh, by simpa using ht⟩
  · exact ⟨g, cur, e, hg, (heap_setCell_other w ⟨b, i, none⟩ g v hgb).trans hh, ht⟩
theorem OwnR.room {B c : Nat} {L : List Te} {A : Option Addr} {w : World} (h : OwnR B L A c w) : RoomT B w A L.length := fun hn => by
  obtain ⟨g, cur, e, hg, hh, ht⟩ := h.mine (fun e => hn (by rw [e]; rfl))
  refine ⟨g, cur, e, hg, hh, ?_⟩
  have := congrArg List.length ht
  rw [List.length_take, tcs_length] at this
  simp at this
  omega
def KeepT (w : World) (e : Ending) (w' : World) : Prop := ∃ (z : Int) (A' : Option Addr) (n c' : Nat) (er : Int), e = .returned (.tuple #[.agg #[.int .i64 z, .slice A' n c'], .int .i64 er]) ∧ n ≤ maxLen ∧ RoomT w.heap.size w' A' n ∧ Below w.heap.size w w'
theorem OwnR.len_max {B c : Nat} {L : List Te} {A : Option Addr} {w : World} (h : OwnR B L A c w) : L.length ≤ maxLen := by
  by_cases hn : L = []
  · subst hn; exact Nat.zero_le _
  · obtain ⟨g, _, _, h1, h2, _⟩ := h.row hn
    exact Nat.le_trans h1 h2
theorem TlbR.keep {z er : Int} {M : List Te} {w w' : World} {e : Ending} (h : TlbR z M er w e w') : KeepT w e w' := by
  obtain ⟨A, c, h1, h2, h3⟩ := h
  exact ⟨z, A, M.length, c, er, h1, h2.len_max, h2.room, h3⟩
theorem three_of {α : Type} (a0 a1 a2 : α) : ∃ F : Nat → α, a0 = F 0 ∧ a1 = F 1 ∧ a2 = F 2 := ⟨fun k => if k = 0 then a0 else if k = 1 then a1 else a2, rfl, rfl, rfl⟩
def triC (Sn : Nat → Int) (An : Nat → Option Addr) (Nn Cn : Nat → Nat) : Array Value := #[.int .i64 (Sn 0), .slice (An 0) (Nn 0) (Cn 0), .int .i64 (Sn 1), .slice (An 1) (Nn 1) (Cn 1), .int .i64 (Sn 2), .slice (An 2) (Nn 2) (Cn 2)]
theorem tri_cell {w : World} {g k : Nat} {Sn : Nat → Int} {An : Nat → Option Addr} {Nn Cn : Nat → Nat} (h : Box w g 24 (triC Sn An Nn Cn)) (hk : k < 3) : w.cell? ⟨g, k * 2 + 1, none⟩ = some (.slice (An k) (Nn k) (Cn k)) := by
  rw [h.cell]
  rcases (by omega : k = 0 ∨ k = 1 ∨ k = 2) with rfl | rfl | rfl <;> rfl
theorem tri_ne {w : World} {g b : Nat} {cs cur : Array Value} (h : Box w g 24 cs) (h2 : w.heap[b]? = some (.cells cur 47 (0, 0))) : g ≠ b := by
  rintro rfl
  unfold Box at h
  rw [h] at h2
  injection h2 with h2
  injection h2 with _ h3
  exact absurd h3 (by decide)
def Rooms3 (B : Nat) (w : World) (An : Nat → Option Addr) (Nn : Nat → Nat) : Prop := ∀ k, k < 3 → RoomT B w (An k) (Nn k)
theorem Rooms3.below {B : Nat} {w w' : World} {An : Nat → Option Addr} {Nn : Nat → Nat} (h : Rooms3 B w An Nn) (hb : Below w.heap.size w w') : Rooms3 B w' An Nn := fun k hk => (h k hk).below hb
theorem Rooms3.set {B : Nat} {w : World} {An : Nat → Option Addr} {Nn : Nat → Nat} (h : Rooms3 B w An Nn) {b i : Nat} (v : Value) : Rooms3 B (w.setCell ⟨b, i, none⟩ v) An Nn := fun k hk => (h k hk).set v
theorem cur_at {cur : Array Value} {j : Nat} (h : j < cur.size) : ∃ u, cur[j]? = some u := ⟨cur[j], Array.getElem?_eq_getElem h⟩
theorem keeps_many (s : Int) (A : Option Addr) (L : List Te) (c : Nat) (x y u : Int) (w : World) (h : TlbIn w A L c) (hl : 20 < L.length) :
    Calls Try.prog 11 #[.agg #[.int .i64 s, .slice A L.length c], .agg #[.int .i64 x, .int .i64 y], .int .u64 u] w fun e w' => e = .returned (.bool true) ∧ Below w.heap.size w w' := by
  have K := hide (bal (bal (brefl w) (.cells #[.int .i64 s, .slice A L.length c] 24)) (.cells #[.int .i64 x, .int .i64 y] 35))
  have F := hide (fun w => few_no s A L.length c w h.big hl)
  clear h hl
  go_enter Try.func11, Try.ntmps11
  go_wp2_with fail
  refine (F.out _).mono ?_
  rintro e w1 ⟨rfl, hb⟩
  replace K := hide (btrans K.out hb)
  clear hb
  go_wp2_with fail
  refine (awake _).mono ?_
  rintro e w2 ⟨rfl, hb⟩
  replace K := hide (btrans K.out hb)
  clear hb
  go_wp2
  go_ret
  exact ⟨rfl, K.out⟩
set_option maxHeartbeats 8000000 in
set_option maxRecDepth 100000 in
theorem keeps_some (s : Int) (a : Addr) (L : List Te) (c : Nat) (x y u : Int) (w : World) (h : TlbIn w (some a) L c) (hl : L.length ≤ 20) (hy : inP y) (hu : inW u) :
    Calls Try.prog 11 #[.agg #[.int .i64 s, .slice (some a) L.length c], .agg #[.int .i64 x, .int .i64 y], .int .u64 u] w fun e w' => e = .returned (.bool true) ∧ Below w.heap.size w w' := by
  have X := hide ((Box.new w 24 #[.int .i64 s, .slice (some a) L.length c]).more (.cells #[.int .i64 x, .int .i64 y] 35))
  have P := hide (Box.new2 w (.cells #[.int .i64 s, .slice (some a) L.length c] 24) 35 #[.int .i64 x, .int .i64 y])
  have K := hide (bal (bal (brefl w) (.cells #[.int .i64 s, .slice (some a) L.length c] 24)) (.cells #[.int .i64 x, .int .i64 y] 35))
  have T := hide (h.below K.out)
  have F := hide (fun w => few_yes s (some a) L.length c w h.big hl)
  obtain ⟨i0, hi0, hz0, hz1, hz2⟩ := info_parts info47
  have HY := hide hy
  have HU := hide hu
  have HIN := hide h.inw
  clear h hy hu
  go_enter Try.func11, Try.ntmps11
  go_wp2_with fail
  refine (F.out _).mono ?_
  rintro e w1 ⟨rfl, hb⟩
  replace X := hide (X.out.below hb)
  replace P := hide (P.out.below hb)
  replace T := hide (T.out.below hb)
  replace K := hide (btrans K.out hb)
  clear hb
  have x0 := X.out.cell 0
  have x1 := X.out.cell 1
  simp at x0 x1
  have lt1 := X.out.lt
  have KC := hide (show Below w1.heap.size w1 (((w1.alloc (.cells #[.int .i64 0, .slice none 0 0] 24)).alloc (.cells #[] 47)).drew) from below_drewN (bal (bal (brefl w1) (.cells #[.int .i64 0, .slice none 0 0] 24)) (.cells #[] 47)) 1)
  have TSC := hide (T.out.ts.below KC.out)
  have OWC := hide (show (((w1.alloc (.cells #[.int .i64 0, .slice none 0 0] 24)).alloc (.cells #[] 47)).drew).ownsRow w1.heap.size 47 3 (.slice (some ⟨w1.heap.size + 1, 0, none⟩) 0 0) 0 [] from by have hh := own_row0 (w1.alloc (.cells #[.int .i64 0, .slice none 0 0] 24)); rw [alloc_size] at hh; exact OwnR.mono (L := []) (show OwnR _ [] (some _) 0 _ from hh) (Nat.le_succ _))
  have OUTC := hide (show Box (((w1.alloc (.cells #[.int .i64 0, .slice none 0 0] 24)).alloc (.cells #[] 47)).drew) w1.heap.size 24 #[.int .i64 0, .slice none 0 0] from (Box.new w1 24 #[.int .i64 0, .slice none 0 0]).more (.cells #[] 47))
  have NEC := hide (OwnR.boxne (L := []) (show OwnR w1.heap.size [] (some ⟨w1.heap.size + 1, 0, none⟩) 0 _ from OWC.out) OUTC.out)
  have NWC := hide (fun (j : Nat) (v : Value) (hv : (tcs L)[j]? = some v) => ts_news TSC.out j v hv)
  have KA := hide (show Below w1.heap.size w1 ((w1.alloc (.cells #[] 47)).drew) from below_drewN (bal (brefl w1) (.cells #[] 47)) 1)
  have KB := hide (show Below w1.heap.size w1 (((w1.alloc (.cells #[] 47)).alloc (.cells #[.int .i64 0, .slice none 0 0] 24)).drew) from below_drewN (bal (bal (brefl w1) (.cells #[] 47)) (.cells #[.int .i64 0, .slice none 0 0] 24)) 1)
  have TSA := hide (T.out.ts.below KA.out)
  have TSB := hide (T.out.ts.below KB.out)
  have OWA := hide (show ((w1.alloc (.cells #[] 47)).drew).ownsRow w1.heap.size 47 3 (.slice (some ⟨w1.heap.size, 0, none⟩) 0 0) 0 [] from own_row0 w1)
  have OWB := hide (show (((w1.alloc (.cells #[] 47)).alloc (.cells #[.int .i64 0, .slice none 0 0] 24)).drew).ownsRow w1.heap.size 47 3 (.slice (some ⟨w1.heap.size, 0, none⟩) 0 0) 0 [] from World.ownsRow.alloc (own_row0 w1) (.cells #[.int .i64 0, .slice none 0 0] 24))
  have OUTB := hide (show Box (((w1.alloc (.cells #[] 47)).alloc (.cells #[.int .i64 0, .slice none 0 0] 24)).drew) (w1.heap.size + 1) 24 #[.int .i64 0, .slice none 0 0] from Box.new2 w1 (.cells #[] 47) 24 #[.int .i64 0, .slice none 0 0])
  have NEB := hide (OwnR.boxne (L := []) (show OwnR w1.heap.size [] (some ⟨w1.heap.size, 0, none⟩) 0 _ from OWB.out) OUTB.out)
  have NWA := hide (fun (j : Nat) (v : Value) (hv : (tcs L)[j]? = some v) => ts_news TSA.out j v hv)
  have NWB := hide (fun (j : Nat) (v : Value) (hv : (tcs L)[j]? = some v) => ts_news TSB.out j v hv)
  have S8 := hide (tcs_one L)
  have L8 := hide (tcs_length L)
  go_wp2_with fail
  have CE := hide (fun (W : World) (hW : Below w1.heap.size w1 W) => show W.cell? ⟨w.heap.size, 0, none⟩ = some (.int .i64 s) ∧ W.cell? ⟨w.heap.size, 1, none⟩ = some (.slice (some a) L.length c) from ⟨(X.out.below hW).cell 0, (X.out.below hW).cell 1⟩)
  have KK := hide (brefl w1)
  go_region_held3 (fun W => W.cell? ⟨w.heap.size, 0, none⟩ = some (.int .i64 s) ∧ W.cell? ⟨w.heap.size, 1, none⟩ = some (.slice (some a) L.length c)) ((exact CE.out _ (by first | exact KK.out | exact below_drewN (KK.out) _ | exact bal (KK.out) _ | exact bal (bal (KK.out) _) _ | exact below_drewN (bal (KK.out) _) _ | exact below_drewN (bal (bal (KK.out) _) _) _ | exact bal (below_drewN (KK.out) _) _ | exact bset (bset (KK.out) (p := ⟨w1.heap.size, 0, none⟩) (Nat.le_refl _) _) (p := ⟨w1.heap.size, 1, none⟩) (Nat.le_refl _) _ | exact bset (bset (KK.out) (p := ⟨w1.heap.size + 1, 0, none⟩) (Nat.le_succ _) _) (p := ⟨w1.heap.size + 1, 1, none⟩) (Nat.le_succ _) _))) (first | (refine step_append_own rfl (.tmp 23) (.tmp 25) 22 rfl w1.heap.size 47 i0 _ 3 24 Try.underlying22 hi0 hz0 hz1 hz2 rfl (by omega) (.slice (some ⟨w1.heap.size, 0, none⟩) 0 0) 0 [] rfl (by exact OWA.out) a L.length c (tcs L) rfl L8.out (by exact NWA.out) S8.out (by simp only [maxLen]; omega) (by omega) (by exact KA.out.size) ?_; intro v2 w2 hown2 hg2; obtain ⟨A1, n1, rfl⟩ := row_form hown2; have HO2 := hide (show OwnR w1.heap.size L A1 n1 w2 by unfold OwnR; rw [Nat.zero_add, List.nil_append] at hown2; exact hown2); replace KK := hide (show Below w1.heap.size w1 w2 from KA.out.trans (row_below OWA.out hg2 (Nat.le_refl _) KA.out.size)); have xx0 := (X.out.below KK.out).cell 0; simp at xx0; have ltx := (X.out.below KK.out).lt; clear hown2 hg2) | (refine step_append_own rfl (.tmp 23) (.tmp 25) 22 rfl w1.heap.size 47 i0 _ 3 24 Try.underlying22 hi0 hz0 hz1 hz2 rfl (by omega) (.slice (some ⟨w1.heap.size, 0, none⟩) 0 0) 0 [] rfl (by exact OWB.out) a L.length c (tcs L) rfl L8.out (by exact NWB.out) S8.out (by simp only [maxLen]; omega) (by omega) (by exact KB.out.size) ?_; intro v2 w2 hown2 hg2; obtain ⟨A1, n1, rfl⟩ := row_form hown2; have HO2 := hide (show OwnR w1.heap.size L A1 n1 w2 by unfold OwnR; rw [Nat.zero_add, List.nil_append] at hown2; exact hown2); replace KK := hide (show Below w1.heap.size w1 w2 from KB.out.trans (row_below OWB.out hg2 (Nat.le_refl _) KB.out.size)); have xx0 := (X.out.below KK.out).cell 0; simp at xx0; have ltx := (X.out.below KK.out).lt; have OUT2 := hide (Box.grown OUTB.out hg2 NEB.out); clear hown2 hg2; have y0 := OUT2.out.cell 0; have y1 := OUT2.out.cell 1; have yf0 := OUT2.out.frozen 0; have yf1 := OUT2.out.frozen 1; simp at y0 y1) | (refine step_append_own rfl (.tmp 23) (.tmp 25) 22 rfl w1.heap.size 47 i0 _ 3 24 Try.underlying22 hi0 hz0 hz1 hz2 rfl (by omega) (.slice (some ⟨w1.heap.size + 1, 0, none⟩) 0 0) 0 [] rfl (by exact OWC.out) a L.length c (tcs L) rfl L8.out (by exact NWC.out) S8.out (by simp only [maxLen]; omega) (by omega) (by exact KC.out.size) ?_; intro v2 w2 hown2 hg2; obtain ⟨A1, n1, rfl⟩ := row_form hown2; have HO2 := hide (show OwnR w1.heap.size L A1 n1 w2 by unfold OwnR; rw [Nat.zero_add, List.nil_append] at hown2; exact hown2); replace KK := hide (show Below w1.heap.size w1 w2 from KC.out.trans (row_below OWC.out hg2 (Nat.le_refl _) KC.out.size)); have xx0 := (X.out.below KK.out).cell 0; simp at xx0; have ltx := (X.out.below KK.out).lt; have OUT2 := hide (Box.grown OUTC.out hg2 NEC.out); clear hown2 hg2; have y0 := OUT2.out.cell 0; have y1 := OUT2.out.cell 1; have yf0 := OUT2.out.frozen 0; have yf1 := OUT2.out.frozen 1; simp at y0 y1))
  all_goals
    first
      | (obtain ⟨W3, hW3⟩ : ∃ W3, W3 = w2.alloc (.cells #[.int .i64 s, .slice A1 L.length n1] 24) := ⟨_, rfl⟩; obtain ⟨g3, hg3⟩ : ∃ g3, g3 = w2.heap.size := ⟨_, rfl⟩; have E3 := hide (show Box W3 g3 24 #[.int .i64 s, .slice A1 L.length n1] by rw [hW3, hg3]; exact Box.new _ _ _); have H3 := hide (show OwnR w1.heap.size L A1 n1 W3 by rw [hW3]; exact HO2.out.below (bal (brefl _) _)); have K3 := hide (show Below w1.heap.size w1 W3 by rw [hW3]; exact bal KK.out _); have G3 := hide (show w1.heap.size ≤ g3 by rw [hg3]; exact KK.out.size); rw [← hW3, ← hg3]; clear hW3 hg3)
      | (obtain ⟨W3, hW3⟩ : ∃ W3, W3 = (w2.setCell ⟨w1.heap.size + 1, 0, none⟩ (.int .i64 s)).setCell ⟨w1.heap.size + 1, 1, none⟩ (.slice A1 L.length n1) := ⟨_, rfl⟩; obtain ⟨g3, hg3⟩ : ∃ g3, g3 = w1.heap.size + 1 := ⟨_, rfl⟩; have E3 := hide (show Box W3 g3 24 #[.int .i64 s, .slice A1 L.length n1] by rw [hW3, hg3]; exact (OUT2.out.put 0 (.int .i64 s)).put 1 (.slice A1 L.length n1)); have H3 := hide (show OwnR w1.heap.size L A1 n1 W3 by rw [hW3]; exact (HO2.out.boxset OUT2.out 0 _).boxset (OUT2.out.put 0 (.int .i64 s)) 1 _); have K3 := hide (show Below w1.heap.size w1 W3 by rw [hW3]; exact bset (bset KK.out (Nat.le_succ _) _) (Nat.le_succ _) _); have G3 := hide (show w1.heap.size ≤ g3 by rw [hg3]; exact Nat.le_succ _); rw [← hW3, ← hg3]; clear hW3 hg3)
      | (obtain ⟨W3, hW3⟩ : ∃ W3, W3 = (w2.setCell ⟨w1.heap.size, 0, none⟩ (.int .i64 s)).setCell ⟨w1.heap.size, 1, none⟩ (.slice A1 L.length n1) := ⟨_, rfl⟩; obtain ⟨g3, hg3⟩ : ∃ g3, g3 = w1.heap.size := ⟨_, rfl⟩; have E3 := hide (show Box W3 g3 24 #[.int .i64 s, .slice A1 L.length n1] by rw [hW3, hg3]; exact (OUT2.out.put 0 (.int .i64 s)).put 1 (.slice A1 L.length n1)); have H3 := hide (show OwnR w1.heap.size L A1 n1 W3 by rw [hW3]; exact (HO2.out.boxset OUT2.out 0 _).boxset (OUT2.out.put 0 (.int .i64 s)) 1 _); have K3 := hide (show Below w1.heap.size w1 W3 by rw [hW3]; exact bset (bset KK.out (Nat.le_refl _) _) (Nat.le_refl _) _); have G3 := hide (show w1.heap.size ≤ g3 by rw [hg3]; exact Nat.le_refl _); rw [← hW3, ← hg3]; clear hW3 hg3)
    clear KK CE KA KB KC TSA TSB TSC OWA OWB OWC OUTB OUTC NEB NEC NWA NWB NWC S8 L8
    try clear xx0 ltx
    try clear y0 y1 yf0 yf1 OUT2
    clear HO2 hz0 hz1 hz2 hi0 x0 x1
    have T3 := hide (TlbIn.of_own H3.out (by first | omega | simp) HIN.out)
    have T0 := hide (T.out.below K3.out)
    have X3 := hide (X.out.below K3.out)
    have P3 := hide (P.out.below K3.out)
    clear X P T
    have e0 := E3.out.cell 0
    have e1 := E3.out.cell 1
    have p0 := P3.out.cell 0
    have p1 := P3.out.cell 1
    simp at e0 e1 p0 p1
    have lx := X3.out.lt
    have lp := P3.out.lt
    have le := E3.out.lt
    have C4 := hide (fun (W : World) (hW : Below W3.heap.size W3 W) => show Calls Try.prog 22 #[.agg #[.int .i64 s, .slice A1 L.length n1], .int .i64 x, .int .i64 y, .int .u64 u] W (KeepT W) from (fill_any s A1 L n1 x y u W (T3.out.below hW) HU.out).mono fun e w' q => TlbR.keep q)
    have C5 := hide (fun (W : World) (hW : Below W3.heap.size W3 W) => show Calls Try.prog 24 #[.agg #[.int .i64 s, .slice A1 L.length n1], .int .i64 x, .int .i64 y] W (KeepT W) from (inv_any s A1 L n1 x y W (T3.out.below hW) HY.out).mono fun e w' q => TlbR.keep q)
    have C6 := hide (fun (W : World) (hW : Below W3.heap.size W3 W) => show Calls Try.prog 26 #[.agg #[.int .i64 s, .slice A1 L.length n1], .int .i64 x] W (KeepT W) from (flush_any s A1 L n1 x W (T3.out.below hW)).mono fun e w' q => TlbR.keep q)
    have C8 := hide (fun (W : World) (hW : Below W3.heap.size W3 W) => show Calls Try.prog 18 #[.agg #[.int .i64 s, .slice A1 L.length n1], .agg #[.int .i64 s, .slice (some a) L.length c]] W (fun e w' => e = .returned (.bool true) ∧ Below W.heap.size W w') from same_eq s A1 (some a) L n1 c W (T3.out.below hW).ts (T0.out.below hW).ts (by first | omega | simp))
    go_wp2_with fail
    refine (C4.out _ (brefl _)).mono ?_
    rintro e w4 ⟨z4, A4, n4, c4, r4, rfl, hn4, R4, hb4⟩
    have K4 := hide (show Below W3.heap.size W3 (w4.alloc (.cells #[.int .i64 z4, .slice A4 n4 c4] 24)) from bal hb4 _)
    have B4 := hide (Box.new w4 24 #[.int .i64 z4, .slice A4 n4 c4])
    have R4' := hide (R4.below (bal (brefl w4) (.cells #[.int .i64 z4, .slice A4 n4 c4] 24)))
    have LE4 := hide (show W3.heap.size ≤ w4.heap.size from hb4.size)
    clear e0 e1 p0 p1 R4
    have e0 := (E3.out.below hb4).cell 0
    have e1 := (E3.out.below hb4).cell 1
    have p0 := (P3.out.below hb4).cell 0
    have p1 := (P3.out.below hb4).cell 1
    simp at e0 e1 p0 p1
    have le4 := (E3.out.below hb4).lt
    have lp4 := (P3.out.below hb4).lt
    clear hb4
    go_wp2_with fail
    refine (C5.out _ K4.out).mono ?_
    rintro e w5 ⟨z5, A5, n5, c5, r5, rfl, hn5, R5, hb5⟩
    have K5 := hide (show Below W3.heap.size W3 (w5.alloc (.cells #[.int .i64 z5, .slice A5 n5 c5] 24)) from bal (btrans K4.out hb5) _)
    have k5 := btrans K4.out hb5
    have B5 := hide (Box.new w5 24 #[.int .i64 z5, .slice A5 n5 c5])
    have b5 := bal (brefl w5) (.cells #[.int .i64 z5, .slice A5 n5 c5] 24)
    have B45 := hide ((B4.out.below hb5).below b5)
    have R45 := hide ((R4'.out.below hb5).below b5)
    have R5' := hide (R5.below b5)
    have LE5 := hide (show w4.heap.size + 1 ≤ w5.heap.size from by have := hb5.size; rw [alloc_size] at this; exact this)
    clear e0 e1 p0 p1 R5 R4' B4 b5 le4 lp4
    have e0 := (E3.out.below k5).cell 0
    have e1 := (E3.out.below k5).cell 1
    have p0 := (P3.out.below k5).cell 0
    have p1 := (P3.out.below k5).cell 1
    simp at e0 e1 p0 p1
    have le5 := (E3.out.below k5).lt
    have lp5 := (P3.out.below k5).lt
    clear hb5 k5
    go_wp2_with fail
    refine (C6.out _ K5.out).mono ?_
    rintro e w6 ⟨z6, A6, n6, c6, r6, rfl, hn6, R6, hb6⟩
    have k6 := btrans K5.out hb6
    have B46 := hide (B45.out.below hb6)
    have B56 := hide (B5.out.below hb6)
    have R46 := hide (R45.out.below hb6)
    have R56 := hide (R5'.out.below hb6)
    have R66 := hide R6
    have K6 := hide k6
    have LE6 := hide (show w5.heap.size + 1 ≤ w6.heap.size from by have := hb6.size; rw [alloc_size] at this; exact this)
    clear e0 e1 p0 p1 R6 R5' R45 B45 B5 le5 lp5
    have u0 := B46.out.cell 0
    have u1 := B46.out.cell 1
    have v0 := B56.out.cell 0
    have v1 := B56.out.cell 1
    simp at u0 u1 v0 v1
    have lu := B46.out.lt
    have lv := B56.out.lt
    clear hb6 k6
    go_wp2_with fail
    have HK6 := hide K6.out
    obtain ⟨W7, hW7⟩ : ∃ W7, W7 = (w6.alloc (.cells #[.int .i64 z6, .slice A6 n6 c6] 24)).alloc (.cells #[.int .i64 z4, .slice A4 n4 c4, .int .i64 z5, .slice A5 n5 c5, .int .i64 z6, .slice A6 n6 c6] 24) := ⟨_, rfl⟩
    obtain ⟨g7, hg7⟩ : ∃ g7, g7 = w6.heap.size + 1 := ⟨_, rfl⟩
    rw [← hW7, ← hg7]
    have b67 := bal (bal (brefl w6) (.cells #[.int .i64 z6, .slice A6 n6 c6] 24)) (.cells #[.int .i64 z4, .slice A4 n4 c4, .int .i64 z5, .slice A5 n5 c5, .int .i64 z6, .slice A6 n6 c6] 24)
    rw [← hW7] at b67
    have K7 := hide (btrans HK6.out b67)
    have Q4 := hide (R46.out.below b67)
    have Q5 := hide (RoomT.mono (R56.out.below b67) K4.out.size)
    have Q6 := hide (RoomT.mono (R66.out.below b67) K5.out.size)
    have L7 := hide (show Box W7 g7 24 #[.int .i64 z4, .slice A4 n4 c4, .int .i64 z5, .slice A5 n5 c5, .int .i64 z6, .slice A6 n6 c6] by rw [hW7, hg7]; exact Box.new2 _ _ _ _)
    clear b67 hW7 hg7 HK6 K4 K5 K6 R46 R56 R66 B46 B56 C4 C5 C6 LE4 LE5 LE6 u0 u1 v0 v1 lu lv
    obtain ⟨Sn, rfl, rfl, rfl⟩ := three_of z4 z5 z6
    obtain ⟨An, rfl, rfl, rfl⟩ := three_of A4 A5 A6
    obtain ⟨Nn, rfl, rfl, rfl⟩ := three_of n4 n5 n6
    obtain ⟨Cn, rfl, rfl, rfl⟩ := three_of c4 c5 c6
    have LL := hide (show Box W7 g7 24 (triC Sn An Nn Cn) from L7.out)
    have NN := hide (show ∀ k, k < 3 → Nn k ≤ maxLen from fun k hk => by
      rcases (by omega : k = 0 ∨ k = 1 ∨ k = 2) with rfl | rfl | rfl <;> assumption)
    have RR := hide (show Rooms3 W3.heap.size W7 An Nn from fun k hk => by
      rcases (by omega : k = 0 ∨ k = 1 ∨ k = 2) with rfl | rfl | rfl
      · exact Q4.out
      · exact Q5.out
      · exact Q6.out)
    clear L7 Q4 Q5 Q6 hn4 hn5 hn6
    go_loopw [15, 16] (fun i _ wr => ∃ k : Nat, k ≤ 3 ∧ i = .int .i64 k ∧ Hid (Below W3.heap.size W3 wr) ∧ Hid (Box wr g7 24 (triC Sn An Nn Cn)) ∧ Hid (Rooms3 W3.heap.size wr An Nn)) (fun i _ _ => 3 - (intOf i).toNat)
    case atStart => exact ⟨0, by omega, rfl, K7, LL, RR⟩
    case round =>
      clear K7 LL RR
      obtain ⟨k, hk, rfl, K8, LL, RR⟩ := hrel
      by_cases hlt : k < 3
      · have k0 : (0 : Int) ≤ (k : Int) := by omega
        have k6 : (k : Int) < 3 := by omega
        have hN := NN.out k hlt
        simp only [maxLen] at hN
        have HK := hide hlt
        obtain ⟨wo, rfl⟩ : ∃ wo : World, wo = wr := ⟨_, rfl⟩
        go_wp2_with fail
        go_loopw [16] (fun j wr => ∃ m : Nat, m ≤ Nn k ∧ j = .int .i64 m ∧ Hid (Below W3.heap.size W3 wr) ∧ Hid (Box wr g7 24 (triC Sn An Nn Cn)) ∧ Hid (Rooms3 W3.heap.size wr An Nn)) (fun j _ => Nn k - (intOf j).toNat)
        case atStart => exact ⟨0, by omega, rfl, K8, LL, RR⟩
        case round =>
          clear K8 LL RR
          obtain ⟨m, hm2, rfl, K8, LL, RR⟩ := hrel
          by_cases hlt2 : m < Nn k
          · obtain ⟨g, cur, hA, hg, hh, ht⟩ := RR.out k HK.out (by omega)
            have hcell := tri_cell LL.out HK.out
            rw [hA] at hcell
            obtain ⟨u0, hu0⟩ := cur_at (cur := cur) (j := m * 3) (by omega)
            obtain ⟨u1, hu1⟩ := cur_at (cur := cur) (j := m * 3 + 1) (by omega)
            obtain ⟨u2, hu2⟩ := cur_at (cur := cur) (j := m * 3 + 2) (by omega)
            have e0 := (cell_of_row wr g (m * 3) cur 47 (0, 0) hh).trans hu0
            have e1 := (cell_of_row wr g (m * 3 + 1) cur 47 (0, 0) hh).trans hu1
            have e2 := (cell_of_row wr g (m * 3 + 2) cur 47 (0, 0) hh).trans hu2
            have q0 := frozen_of_row wr g (m * 3) cur 47 hh
            have q1 := frozen_of_row wr g (m * 3 + 1) cur 47 hh
            have q2 := frozen_of_row wr g (m * 3 + 2) cur 47 hh
            have NE := hide (tri_ne LL.out hh)
            have HG := hide hg
            have m0 : (0 : Int) ≤ (m : Int) := by omega
            generalize Nn k = N at *
            clear hA hh hu0 hu1 hu2 ht hg
            go_wp2
            go_roundw
            case rel => exact ⟨m + 1, by omega, by go_num, hide (bset (bset (bset K8.out HG.out _) HG.out _) HG.out _), hide (((LL.out.far NE.out _).far NE.out _).far NE.out _), hide (((RR.out.set _).set _).set _)⟩
            case measure => simp [intOf]; omega
          · have hcell := tri_cell LL.out HK.out
            have hmN : ((m : Int) < (Nn k : Int)) = False := by simp; omega
            have E8 := hide (E3.out.below K8.out)
            have X8 := hide (X3.out.below K8.out)
            have e0 := E8.out.cell 0
            have e1 := E8.out.cell 1
            have x0 := X8.out.cell 0
            have x1 := X8.out.cell 1
            simp at e0 e1 x0 x1
            go_wp2_with fail
            refine (C8.out _ K8.out).mono ?_
            rintro e w9 ⟨rfl, hb9⟩
            have K9 := hide (btrans K8.out hb9)
            have L9 := hide (LL.out.below hb9)
            have R9 := hide (RR.out.below hb9)
            clear hb9 hcell e0 e1 x0 x1
            go_wp2
            go_roundw
            case rel => exact ⟨k + 1, by omega, by go_num, K9, L9, R9⟩
            case measure => simp [intOf]; omega
      · obtain rfl : k = 3 := by omega
        go_wp2_with fail
        refine (awake _).mono ?_
        rintro e w11 ⟨rfl, hb9⟩
        have K11 := hide (btrans (btrans (btrans K.out K3.out) K8.out) hb9)
        clear hb9
        go_wp2_with fail
        go_ret
        exact ⟨rfl, K11.out⟩
set_option maxHeartbeats 8000000 in
set_option maxRecDepth 100000 in
theorem keeps_nil (s : Int)  (c : Nat) (x y u : Int) (w : World) (h : TlbIn w none [] c)  (hy : inP y) (hu : inW u) :
    Calls Try.prog 11 #[.agg #[.int .i64 s, .slice none 0 c], .agg #[.int .i64 x, .int .i64 y], .int .u64 u] w fun e w' => e = .returned (.bool true) ∧ Below w.heap.size w w' := by
  have X := hide ((Box.new w 24 #[.int .i64 s, .slice none 0 c]).more (.cells #[.int .i64 x, .int .i64 y] 35))
  have P := hide (Box.new2 w (.cells #[.int .i64 s, .slice none 0 c] 24) 35 #[.int .i64 x, .int .i64 y])
  have K := hide (bal (bal (brefl w) (.cells #[.int .i64 s, .slice none 0 c] 24)) (.cells #[.int .i64 x, .int .i64 y] 35))
  have T := hide (h.below K.out)
  have F := hide (fun w => few_yes s none 0 c w (by omega) (by omega))
  obtain ⟨i0, hi0, hz0, hz1, hz2⟩ := info_parts info47
  have HY := hide hy
  have HU := hide hu
  have HIN := hide h.inw
  clear h hy hu
  go_enter Try.func11, Try.ntmps11
  go_wp2_with fail
  refine (F.out _).mono ?_
  rintro e w1 ⟨rfl, hb⟩
  replace X := hide (X.out.below hb)
  replace P := hide (P.out.below hb)
  replace T := hide (T.out.below hb)
  replace K := hide (btrans K.out hb)
  clear hb
  have x0 := X.out.cell 0
  have x1 := X.out.cell 1
  simp at x0 x1
  have lt1 := X.out.lt
  have CE := hide (fun (W : World) (hW : Below w1.heap.size w1 W) => show W.cell? ⟨w.heap.size, 0, none⟩ = some (.int .i64 s) ∧ W.cell? ⟨w.heap.size, 1, none⟩ = some (.slice none 0 c) from ⟨(X.out.below hW).cell 0, (X.out.below hW).cell 1⟩)
  have KK := hide (brefl w1)
  go_wp2_with fail
  go_region_held3 (fun W => W.cell? ⟨w.heap.size, 0, none⟩ = some (.int .i64 s) ∧ W.cell? ⟨w.heap.size, 1, none⟩ = some (.slice none 0 c)) ((exact CE.out _ (by first | exact KK.out | exact below_drewN (KK.out) _ | exact bal (KK.out) _ | exact bal (bal (KK.out) _) _ | exact below_drewN (bal (KK.out) _) _ | exact below_drewN (bal (bal (KK.out) _) _) _ | exact bal (below_drewN (KK.out) _) _ | exact bset (bset (KK.out) (p := ⟨w1.heap.size, 0, none⟩) (Nat.le_refl _) _) (p := ⟨w1.heap.size, 1, none⟩) (Nat.le_refl _) _ | exact bset (bset (KK.out) (p := ⟨w1.heap.size + 1, 0, none⟩) (Nat.le_succ _) _) (p := ⟨w1.heap.size + 1, 1, none⟩) (Nat.le_succ _) _))) (fail)
  all_goals
    first
      | (obtain ⟨W3, hW3⟩ : ∃ W3, W3 = ((w1.alloc (.cells #[] 47)).alloc (.cells #[.int .i64 s, .slice (some ⟨w1.heap.size, 0, none⟩) 0 0] 24)).drew := ⟨_, rfl⟩; obtain ⟨g3, hg3⟩ : ∃ g3, g3 = w1.heap.size + 1 := ⟨_, rfl⟩; obtain ⟨A1, hA1⟩ : ∃ A1 : Option Addr, A1 = some ⟨w1.heap.size, 0, none⟩ := ⟨_, rfl⟩; have E3 := hide (show Box W3 g3 24 #[.int .i64 s, .slice A1 0 0] by rw [hW3, hg3, hA1]; exact Box.new2 w1 (.cells #[] 47) 24 _); have H3 := hide (show OwnR w1.heap.size [] A1 0 W3 by rw [hW3, hA1]; exact World.ownsRow.alloc (own_row0 w1) _); have K3 := hide (show Below w1.heap.size w1 W3 by rw [hW3]; exact below_drewN (bal (bal (brefl w1) _) _) 1); have G3 := hide (show w1.heap.size ≤ g3 by rw [hg3]; exact Nat.le_succ _); rw [← hW3, ← hA1, ← hg3]; clear hW3 hg3 hA1)
      | (obtain ⟨W3, hW3⟩ : ∃ W3, W3 = ((w1.alloc (.cells #[.int .i64 s, .slice (some ⟨w1.heap.size + 1, 0, none⟩) 0 0] 24)).alloc (.cells #[] 47)).drew := ⟨_, rfl⟩; obtain ⟨g3, hg3⟩ : ∃ g3, g3 = w1.heap.size := ⟨_, rfl⟩; obtain ⟨A1, hA1⟩ : ∃ A1 : Option Addr, A1 = some ⟨w1.heap.size + 1, 0, none⟩ := ⟨_, rfl⟩; have E3 := hide (show Box W3 g3 24 #[.int .i64 s, .slice A1 0 0] by rw [hW3, hg3, hA1]; exact (Box.new w1 24 _).more (.cells #[] 47)); have H3 := hide (show OwnR w1.heap.size [] A1 0 W3 by rw [hW3, hA1]; exact (by have hh := own_row0 (w1.alloc (.cells #[.int .i64 s, .slice (some ⟨w1.heap.size + 1, 0, none⟩) 0 0] 24)); rw [alloc_size] at hh; exact OwnR.mono (L := []) (show OwnR _ [] (some _) 0 _ from hh) (Nat.le_succ _))); have K3 := hide (show Below w1.heap.size w1 W3 by rw [hW3]; exact below_drewN (bal (bal (brefl w1) _) _) 1); have G3 := hide (show w1.heap.size ≤ g3 by rw [hg3]; exact Nat.le_refl _); rw [← hW3, ← hA1, ← hg3]; clear hW3 hg3 hA1)
    clear KK CE
    try clear hz0 hz1 hz2 hi0 x0 x1
    have T3 := hide (TlbIn.of_own H3.out (by first | omega | simp) HIN.out)
    have T0 := hide (T.out.below K3.out)
    have X3 := hide (X.out.below K3.out)
    have P3 := hide (P.out.below K3.out)
    clear X P T
    have e0 := E3.out.cell 0
    have e1 := E3.out.cell 1
    have p0 := P3.out.cell 0
    have p1 := P3.out.cell 1
    simp at e0 e1 p0 p1
    have lx := X3.out.lt
    have lp := P3.out.lt
    have le := E3.out.lt
    have C4 := hide (fun (W : World) (hW : Below W3.heap.size W3 W) => show Calls Try.prog 22 #[.agg #[.int .i64 s, .slice A1 0 0], .int .i64 x, .int .i64 y, .int .u64 u] W (KeepT W) from (fill_any s A1 [] 0 x y u W (T3.out.below hW) HU.out).mono fun e w' q => TlbR.keep q)
    have C5 := hide (fun (W : World) (hW : Below W3.heap.size W3 W) => show Calls Try.prog 24 #[.agg #[.int .i64 s, .slice A1 0 0], .int .i64 x, .int .i64 y] W (KeepT W) from (inv_any s A1 [] 0 x y W (T3.out.below hW) HY.out).mono fun e w' q => TlbR.keep q)
    have C6 := hide (fun (W : World) (hW : Below W3.heap.size W3 W) => show Calls Try.prog 26 #[.agg #[.int .i64 s, .slice A1 0 0], .int .i64 x] W (KeepT W) from (flush_any s A1 [] 0 x W (T3.out.below hW)).mono fun e w' q => TlbR.keep q)
    have C8 := hide (fun (W : World) (hW : Below W3.heap.size W3 W) => show Calls Try.prog 18 #[.agg #[.int .i64 s, .slice A1 0 0], .agg #[.int .i64 s, .slice none 0 c]] W (fun e w' => e = .returned (.bool true) ∧ Below W.heap.size W w') from same_eq s A1 none [] 0 c W (T3.out.below hW).ts (T0.out.below hW).ts (by first | omega | simp))
    go_wp2_with fail
    refine (C4.out _ (brefl _)).mono ?_
    rintro e w4 ⟨z4, A4, n4, c4, r4, rfl, hn4, R4, hb4⟩
    have K4 := hide (show Below W3.heap.size W3 (w4.alloc (.cells #[.int .i64 z4, .slice A4 n4 c4] 24)) from bal hb4 _)
    have B4 := hide (Box.new w4 24 #[.int .i64 z4, .slice A4 n4 c4])
    have R4' := hide (R4.below (bal (brefl w4) (.cells #[.int .i64 z4, .slice A4 n4 c4] 24)))
    have LE4 := hide (show W3.heap.size ≤ w4.heap.size from hb4.size)
    clear e0 e1 p0 p1 R4
    have e0 := (E3.out.below hb4).cell 0
    have e1 := (E3.out.below hb4).cell 1
    have p0 := (P3.out.below hb4).cell 0
    have p1 := (P3.out.below hb4).cell 1
    simp at e0 e1 p0 p1
    have le4 := (E3.out.below hb4).lt
    have lp4 := (P3.out.below hb4).lt
    clear hb4
    go_wp2_with fail
    refine (C5.out _ K4.out).mono ?_
    rintro e w5 ⟨z5, A5, n5, c5, r5, rfl, hn5, R5, hb5⟩
    have K5 := hide (show Below W3.heap.size W3 (w5.alloc (.cells #[.int .i64 z5, .slice A5 n5 c5] 24)) from bal (btrans K4.out hb5) _)
    have k5 := btrans K4.out hb5
    have B5 := hide (Box.new w5 24 #[.int .i64 z5, .slice A5 n5 c5])
    have b5 := bal (brefl w5) (.cells #[.int .i64 z5, .slice A5 n5 c5] 24)
    have B45 := hide ((B4.out.below hb5).below b5)
    have R45 := hide ((R4'.out.below hb5).below b5)
    have R5' := hide (R5.below b5)
    have LE5 := hide (show w4.heap.size + 1 ≤ w5.heap.size from by have := hb5.size; rw [alloc_size] at this; exact this)
    clear e0 e1 p0 p1 R5 R4' B4 b5 le4 lp4
    have e0 := (E3.out.below k5).cell 0
    have e1 := (E3.out.below k5).cell 1
    have p0 := (P3.out.below k5).cell 0
    have p1 := (P3.out.below k5).cell 1
    simp at e0 e1 p0 p1
    have le5 := (E3.out.below k5).lt
    have lp5 := (P3.out.below k5).lt
    clear hb5 k5
    go_wp2_with fail
    refine (C6.out _ K5.out).mono ?_
    rintro e w6 ⟨z6, A6, n6, c6, r6, rfl, hn6, R6, hb6⟩
    have k6 := btrans K5.out hb6
    have B46 := hide (B45.out.below hb6)
    have B56 := hide (B5.out.below hb6)
    have R46 := hide (R45.out.below hb6)
    have R56 := hide (R5'.out.below hb6)
    have R66 := hide R6
    have K6 := hide k6
    have LE6 := hide (show w5.heap.size + 1 ≤ w6.heap.size from by have := hb6.size; rw [alloc_size] at this; exact this)
    clear e0 e1 p0 p1 R6 R5' R45 B45 B5 le5 lp5
    have u0 := B46.out.cell 0
    have u1 := B46.out.cell 1
    have v0 := B56.out.cell 0
    have v1 := B56.out.cell 1
    simp at u0 u1 v0 v1
    have lu := B46.out.lt
    have lv := B56.out.lt
    clear hb6 k6
    go_wp2_with fail
    have HK6 := hide K6.out
    obtain ⟨W7, hW7⟩ : ∃ W7, W7 = (w6.alloc (.cells #[.int .i64 z6, .slice A6 n6 c6] 24)).alloc (.cells #[.int .i64 z4, .slice A4 n4 c4, .int .i64 z5, .slice A5 n5 c5, .int .i64 z6, .slice A6 n6 c6] 24) := ⟨_, rfl⟩
    obtain ⟨g7, hg7⟩ : ∃ g7, g7 = w6.heap.size + 1 := ⟨_, rfl⟩
    rw [← hW7, ← hg7]
    have b67 := bal (bal (brefl w6) (.cells #[.int .i64 z6, .slice A6 n6 c6] 24)) (.cells #[.int .i64 z4, .slice A4 n4 c4, .int .i64 z5, .slice A5 n5 c5, .int .i64 z6, .slice A6 n6 c6] 24)
    rw [← hW7] at b67
    have K7 := hide (btrans HK6.out b67)
    have Q4 := hide (R46.out.below b67)
    have Q5 := hide (RoomT.mono (R56.out.below b67) K4.out.size)
    have Q6 := hide (RoomT.mono (R66.out.below b67) K5.out.size)
    have L7 := hide (show Box W7 g7 24 #[.int .i64 z4, .slice A4 n4 c4, .int .i64 z5, .slice A5 n5 c5, .int .i64 z6, .slice A6 n6 c6] by rw [hW7, hg7]; exact Box.new2 _ _ _ _)
    clear b67 hW7 hg7 HK6 K4 K5 K6 R46 R56 R66 B46 B56 C4 C5 C6 LE4 LE5 LE6 u0 u1 v0 v1 lu lv
    obtain ⟨Sn, rfl, rfl, rfl⟩ := three_of z4 z5 z6
    obtain ⟨An, rfl, rfl, rfl⟩ := three_of A4 A5 A6
    obtain ⟨Nn, rfl, rfl, rfl⟩ := three_of n4 n5 n6
    obtain ⟨Cn, rfl, rfl, rfl⟩ := three_of c4 c5 c6
    have LL := hide (show Box W7 g7 24 (triC Sn An Nn Cn) from L7.out)
    have NN := hide (show ∀ k, k < 3 → Nn k ≤ maxLen from fun k hk => by
      rcases (by omega : k = 0 ∨ k = 1 ∨ k = 2) with rfl | rfl | rfl <;> assumption)
    have RR := hide (show Rooms3 W3.heap.size W7 An Nn from fun k hk => by
      rcases (by omega : k = 0 ∨ k = 1 ∨ k = 2) with rfl | rfl | rfl
      · exact Q4.out
      · exact Q5.out
      · exact Q6.out)
    clear L7 Q4 Q5 Q6 hn4 hn5 hn6
    go_loopw [15, 16] (fun i _ wr => ∃ k : Nat, k ≤ 3 ∧ i = .int .i64 k ∧ Hid (Below W3.heap.size W3 wr) ∧ Hid (Box wr g7 24 (triC Sn An Nn Cn)) ∧ Hid (Rooms3 W3.heap.size wr An Nn)) (fun i _ _ => 3 - (intOf i).toNat)
    case atStart => exact ⟨0, by omega, rfl, K7, LL, RR⟩
    case round =>
      clear K7 LL RR
      obtain ⟨k, hk, rfl, K8, LL, RR⟩ := hrel
      by_cases hlt : k < 3
      · have k0 : (0 : Int) ≤ (k : Int) := by omega
        have k6 : (k : Int) < 3 := by omega
        have hN := NN.out k hlt
        simp only [maxLen] at hN
        have HK := hide hlt
        obtain ⟨wo, rfl⟩ : ∃ wo : World, wo = wr := ⟨_, rfl⟩
        go_wp2_with fail
        go_loopw [16] (fun j wr => ∃ m : Nat, m ≤ Nn k ∧ j = .int .i64 m ∧ Hid (Below W3.heap.size W3 wr) ∧ Hid (Box wr g7 24 (triC Sn An Nn Cn)) ∧ Hid (Rooms3 W3.heap.size wr An Nn)) (fun j _ => Nn k - (intOf j).toNat)
        case atStart => exact ⟨0, by omega, rfl, K8, LL, RR⟩
        case round =>
          clear K8 LL RR
          obtain ⟨m, hm2, rfl, K8, LL, RR⟩ := hrel
          by_cases hlt2 : m < Nn k
          · obtain ⟨g, cur, hA, hg, hh, ht⟩ := RR.out k HK.out (by omega)
            have hcell := tri_cell LL.out HK.out
            rw [hA] at hcell
            obtain ⟨u0, hu0⟩ := cur_at (cur := cur) (j := m * 3) (by omega)
            obtain ⟨u1, hu1⟩ := cur_at (cur := cur) (j := m * 3 + 1) (by omega)
            obtain ⟨u2, hu2⟩ := cur_at (cur := cur) (j := m * 3 + 2) (by omega)
            have e0 := (cell_of_row wr g (m * 3) cur 47 (0, 0) hh).trans hu0
            have e1 := (cell_of_row wr g (m * 3 + 1) cur 47 (0, 0) hh).trans hu1
            have e2 := (cell_of_row wr g (m * 3 + 2) cur 47 (0, 0) hh).trans hu2
            have q0 := frozen_of_row wr g (m * 3) cur 47 hh
            have q1 := frozen_of_row wr g (m * 3 + 1) cur 47 hh
            have q2 := frozen_of_row wr g (m * 3 + 2) cur 47 hh
            have NE := hide (tri_ne LL.out hh)
            have HG := hide hg
            have m0 : (0 : Int) ≤ (m : Int) := by omega
            generalize Nn k = N at *
            clear hA hh hu0 hu1 hu2 ht hg
            go_wp2
            go_roundw
            case rel => exact ⟨m + 1, by omega, by go_num, hide (bset (bset (bset K8.out HG.out _) HG.out _) HG.out _), hide (((LL.out.far NE.out _).far NE.out _).far NE.out _), hide (((RR.out.set _).set _).set _)⟩
            case measure => simp [intOf]; omega
          · have hcell := tri_cell LL.out HK.out
            have hmN : ((m : Int) < (Nn k : Int)) = False := by simp; omega
            have E8 := hide (E3.out.below K8.out)
            have X8 := hide (X3.out.below K8.out)
            have e0 := E8.out.cell 0
            have e1 := E8.out.cell 1
            have x0 := X8.out.cell 0
            have x1 := X8.out.cell 1
            simp at e0 e1 x0 x1
            go_wp2_with fail
            refine (C8.out _ K8.out).mono ?_
            rintro e w9 ⟨rfl, hb9⟩
            have K9 := hide (btrans K8.out hb9)
            have L9 := hide (LL.out.below hb9)
            have R9 := hide (RR.out.below hb9)
            clear hb9 hcell e0 e1 x0 x1
            go_wp2
            go_roundw
            case rel => exact ⟨k + 1, by omega, by go_num, K9, L9, R9⟩
            case measure => simp [intOf]; omega
      · obtain rfl : k = 3 := by omega
        go_wp2_with fail
        refine (awake _).mono ?_
        rintro e w11 ⟨rfl, hb9⟩
        have K11 := hide (btrans (btrans (btrans K.out K3.out) K8.out) hb9)
        clear hb9
        go_wp2_with fail
        go_ret
        exact ⟨rfl, K11.out⟩
theorem law_keeps (s : Int) (A : Option Addr) (L : List Te) (c : Nat) (x y u : Int) (w : World) (h : TlbIn w A L c) (hy : inP y) (hu : inW u) :
    Calls Try.prog 11 #[.agg #[.int .i64 s, .slice A L.length c], .agg #[.int .i64 x, .int .i64 y], .int .u64 u] w fun e w' => e = .returned (.bool true) ∧ Below w.heap.size w w' := by
  by_cases hl : L.length ≤ 20
  · cases A with
    | some a => exact keeps_some s a L c x y u w h hl hy hu
    | none =>
      have hn : L = [] := Classical.byContradiction fun hn => by
        obtain ⟨b, off, e, _⟩ := h.ts hn
        cases e
      subst hn
      exact keeps_nil s c x y u w h hy hu
  · exact keeps_many s A L c x y u w h (by omega)
end Go.Proofs.Ythoeolaleeogbaa.Tb
