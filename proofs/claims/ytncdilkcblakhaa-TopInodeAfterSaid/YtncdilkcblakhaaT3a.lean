import Derived.Test.YtncdilkcblakhaaT2
import Derived.Test.YtncdilkcblakhaaDSbM
import Derived.Test.YtncdilkcblakhaaDCs1
import Derived.Test.YtncdilkcblakhaaDCm4
namespace Go.Proofs.Ytncdilkcblakhaa.In
open Go Go.RowKit
set_option linter.unusedVariables false
set_option linter.unusedSimpArgs false
def LawT (w : World) (e : Ending) (w' : World) : Prop := e = .returned (.bool true) ∧ Below w.heap.size w w'
-- THE INODES THAT WERE WRITTEN
def cW : Wr → List Value
  | [] => []
  | p :: R => .int .i64 p.1 :: .int .i64 p.2 :: cW R
theorem cW_length : ∀ R : Wr, (cW R).length = R.length * 2
  | [] => rfl
  | r :: R => by simp only [cW, List.length_cons, cW_length R]; omega
theorem cW_append : ∀ R S : Wr, cW (R ++ S) = cW R ++ cW S
  | [], _ => rfl
  | r :: R, S => by simp only [cW, List.cons_append, cW_append R S]
theorem cW_at : ∀ {R : Wr} {k : Nat} (h : k < R.length), (cW R)[k * 2]? = some (.int .i64 (R[k]).1) ∧ (cW R)[k * 2 + 1]? = some (.int .i64 (R[k]).2)
  | r :: R, 0, _ => ⟨rfl, rfl⟩
  | r :: R, k + 1, h => by
    have ih := cW_at (R := R) (k := k) (by simpa using h)
    rw [show (k + 1) * 2 = k * 2 + 2 by omega]
    exact ih
abbrev OwW (B : Nat) (w : World) (v : Value) (R : Wr) : Prop := w.ownsRow B 60 2 v R.length (cW R)
theorem OwW.cells {B : Nat} {w : World} {A : Option Addr} {n c : Nat} {R : Wr} (h : OwW B w (.slice A n c) R) {k : Nat} (hk : k < R.length) : ∃ g, A = some ⟨g, 0, none⟩ ∧ g < w.heap.size ∧ w.cell? ⟨g, k * 2, none⟩ = some (.int .i64 (R[k]).1) ∧ w.cell? ⟨g, k * 2 + 1, none⟩ = some (.int .i64 (R[k]).2) := by
  obtain ⟨A', c', e, _⟩ := row_form h
  injection e with e1 e2 e3
  subst e1 e2 e3
  obtain ⟨g, rfl, hg, _, hc, _⟩ := row_cell h (by omega)
  exact ⟨g, rfl, hg, hc _ _ (cW_at hk).1, hc _ _ (cW_at hk).2⟩
theorem info60 : (Try.prog.info? 60).map (fun i => (i.zero, i.size, i.bytes)) = some (some (.agg #[.int .i64 0, .int .i64 0]), 2, 16) := by kernel_rfl
theorem two_new60 (w : World) (x y : Value) : ∀ (j : Nat) (u : Value), ([x, y] : List Value)[j]? = some u → (w.alloc (.cells #[x, y] 60)).cell? ((⟨w.heap.size, 0, none⟩ : Addr).add j) = some u := two_new w x y 60
-- THE STEPS
/-- a step: size, mask, done, fail, flush -/
abbrev Stp := Int × Int × Bool × Bool × Bool
def sAt (L : List Stp) (k : Nat) : Stp := L.getD k (0, 0, false, false, false)
def RdS (w : World) (A : Option Addr) (L : List Stp) : Prop :=
  L ≠ [] → ∃ b off, A = some ⟨b, off, none⟩ ∧ b < w.heap.size ∧ ∀ k, k < L.length → w.cell? ⟨b, off + k * 5, none⟩ = some (.int .u8 (sAt L k).1) ∧ w.cell? ⟨b, off + k * 5 + 1, none⟩ = some (.int .u16 (sAt L k).2.1) ∧ w.cell? ⟨b, off + k * 5 + 2, none⟩ = some (.bool (sAt L k).2.2.1) ∧ w.cell? ⟨b, off + k * 5 + 3, none⟩ = some (.bool (sAt L k).2.2.2.1) ∧ w.cell? ⟨b, off + k * 5 + 4, none⟩ = some (.bool (sAt L k).2.2.2.2)
def OkS (L : List Stp) : Prop := ∀ k, k < L.length → (0 ≤ (sAt L k).1 ∧ (sAt L k).1 < 256) ∧ 0 ≤ (sAt L k).2.1 ∧ (sAt L k).2.1 < 65536
theorem RdS.cells {w w' : World} {A : Option Addr} {L : List Stp} (h : RdS w A L) (hb : Below w.heap.size w w') {k : Nat} (hk : k < L.length) : ∃ b off, A = some ⟨b, off, none⟩ ∧ b < w.heap.size ∧ w'.cell? ⟨b, off + k * 5, none⟩ = some (.int .u8 (sAt L k).1) ∧ w'.cell? ⟨b, off + k * 5 + 1, none⟩ = some (.int .u16 (sAt L k).2.1) ∧ w'.cell? ⟨b, off + k * 5 + 2, none⟩ = some (.bool (sAt L k).2.2.1) ∧ w'.cell? ⟨b, off + k * 5 + 3, none⟩ = some (.bool (sAt L k).2.2.2.1) ∧ w'.cell? ⟨b, off + k * 5 + 4, none⟩ = some (.bool (sAt L k).2.2.2.2) := by
  obtain ⟨b, off, e, hl, hc⟩ := h (by rintro rfl; simp at hk)
  obtain ⟨c0, c1, c2, c3, c4⟩ := hc k hk
  exact ⟨b, off, e, hl, (hb.cell (p := ⟨b, _, none⟩) hl).trans c0, (hb.cell (p := ⟨b, _, none⟩) hl).trans c1, (hb.cell (p := ⟨b, _, none⟩) hl).trans c2, (hb.cell (p := ⟨b, _, none⟩) hl).trans c3, (hb.cell (p := ⟨b, _, none⟩) hl).trans c4⟩
-- A DEVICE IN A BOX
def dvA (D : Dv.Dev) (A1 : Option Addr) (d1 : Nat) (A2 : Option Addr) (d2 : Nat) (A3 : Option Addr) (d3 : Nat) : Array Value := #[.int .i64 D.dep, .int .i64 D.nxt, .slice A1 D.bl.length d1, .slice A2 D.ca.length d2, .slice A3 D.qu.length d3]
def DB (w : World) (g : Nat) (D : Dv.Dev) (A1 : Option Addr) (d1 : Nat) (A2 : Option Addr) (d2 : Nat) (A3 : Option Addr) (d3 : Nat) : Prop := Box w g 57 (dvA D A1 d1 A2 d2 A3 d3) ∧ Dv.DevOwn 0 w (.agg (dvA D A1 d1 A2 d2 A3 d3)) D
theorem devown_below {B : Nat} {w w' : World} {v : Value} {D : Dv.Dev} (h : Dv.DevOwn B w v D) (hb : Below w.heap.size w w') : Dv.DevOwn B w' v D := by
  obtain ⟨vb, vc, vq, e, h1, h2, h3⟩ := h
  exact ⟨vb, vc, vq, e, h1.below hb, h2.below hb, h3.below hb⟩
theorem devown_mono {B : Nat} {w : World} {v : Value} {D : Dv.Dev} (h : Dv.DevOwn B w v D) : Dv.DevOwn 0 w v D := by
  obtain ⟨vb, vc, vq, e, h1, h2, h3⟩ := h
  exact ⟨vb, vc, vq, e, h1.mono (Nat.zero_le _), h2.mono (Nat.zero_le _), h3.mono (Nat.zero_le _)⟩
theorem devown_kp {B B' : Nat} {T : TypeId} {w w' : World} {v : Value} {D : Dv.Dev} (h : Dv.DevOwn B w v D) (hk : Dv.Kp B' T w w') (h1 : (23 : TypeId) ≠ T) (h2 : (5 : TypeId) ≠ T) (h3 : (89 : TypeId) ≠ T) (h4 : (67 : TypeId) ≠ T) : Dv.DevOwn B w' v D := by
  obtain ⟨vb, vc, vq, e, hb, hc, hq⟩ := h
  exact ⟨vb, vc, vq, e, hb.kp hk h1 h2, hc.kp hk h3 h2, hq.kp hk h4 h2⟩
theorem kp_dv {B : Nat} {T : TypeId} {w w' : World} (h : Kp B T w w') : Dv.Kp B T w w' := ⟨h.below, h.keep⟩
section
variable {w w' : World} {g : Nat} {D : Dv.Dev} {A1 A2 A3 : Option Addr} {d1 d2 d3 : Nat}
theorem DB.below (h : DB w g D A1 d1 A2 d2 A3 d3) (hb : Below w.heap.size w w') : DB w' g D A1 d1 A2 d2 A3 d3 := ⟨h.1.below hb, devown_below h.2 hb⟩
theorem DB.kp60 {B : Nat} (h : DB w g D A1 d1 A2 d2 A3 d3) (hk : Kp B 60 w w') : DB w' g D A1 d1 A2 d2 A3 d3 := ⟨h.1.kp hk (by decide), devown_kp h.2 (kp_dv hk) (by decide) (by decide) (by decide) (by decide)⟩
theorem DB.cells (h : DB w g D A1 d1 A2 d2 A3 d3) : w.cell? ⟨g, 0, none⟩ = some (.int .i64 D.dep) ∧ w.cell? ⟨g, 1, none⟩ = some (.int .i64 D.nxt) ∧ w.cell? ⟨g, 2, none⟩ = some (.slice A1 D.bl.length d1) ∧ w.cell? ⟨g, 3, none⟩ = some (.slice A2 D.ca.length d2) ∧ w.cell? ⟨g, 4, none⟩ = some (.slice A3 D.qu.length d3) := ⟨h.1.cell 0, h.1.cell 1, h.1.cell 2, h.1.cell 3, h.1.cell 4⟩
theorem DB.frozen (h : DB w g D A1 d1 A2 d2 A3 d3) : w.frozen? ⟨g, 0, none⟩ = false ∧ w.frozen? ⟨g, 1, none⟩ = false ∧ w.frozen? ⟨g, 2, none⟩ = false ∧ w.frozen? ⟨g, 3, none⟩ = false ∧ w.frozen? ⟨g, 4, none⟩ = false := ⟨h.1.frozen 0, h.1.frozen 1, h.1.frozen 2, h.1.frozen 3, h.1.frozen 4⟩
/-- another device stored into the box -/
def put5 (w : World) (g : Nat) (x0 x1 x2 x3 x4 : Value) : World := ((((w.setCell ⟨g, 0, none⟩ x0).setCell ⟨g, 1, none⟩ x1).setCell ⟨g, 2, none⟩ x2).setCell ⟨g, 3, none⟩ x3).setCell ⟨g, 4, none⟩ x4
theorem put5_box {t : TypeId} {y0 y1 y2 y3 y4 : Value} (h : Box w g t #[y0, y1, y2, y3, y4]) (x0 x1 x2 x3 x4 : Value) : Box (put5 w g x0 x1 x2 x3 x4) g t #[x0, x1, x2, x3, x4] := by
  have := ((((h.put 0 x0).put 1 x1).put 2 x2).put 3 x3).put 4 x4
  exact this
theorem put5_kp {B : Nat} {t : TypeId} {y0 y1 y2 y3 y4 : Value} (h : Box w g t #[y0, y1, y2, y3, y4]) (hB : B ≤ g) (x0 x1 x2 x3 x4 : Value) : Kp B t w (put5 w g x0 x1 x2 x3 x4) :=
  ((((Kp.boxset h hB 0 x0).trans (Kp.boxset (h.put 0 x0) hB 1 x1)).trans (Kp.boxset ((h.put 0 x0).put 1 x1) hB 2 x2)).trans (Kp.boxset (((h.put 0 x0).put 1 x1).put 2 x2) hB 3 x3)).trans (Kp.boxset ((((h.put 0 x0).put 1 x1).put 2 x2).put 3 x3) hB 4 x4)
theorem DB.put {E : Dv.Dev} {B1 B2 B3 : Option Addr} {e1 e2 e3 : Nat} (h : DB w g D A1 d1 A2 d2 A3 d3) (hE : Dv.DevOwn 0 w (.agg (dvA E B1 e1 B2 e2 B3 e3)) E) : DB (put5 w g (.int .i64 E.dep) (.int .i64 E.nxt) (.slice B1 E.bl.length e1) (.slice B2 E.ca.length e2) (.slice B3 E.qu.length e3)) g E B1 e1 B2 e2 B3 e3 :=
  ⟨put5_box h.1 _ _ _ _ _, devown_kp hE (kp_dv (put5_kp h.1 (Nat.zero_le g) _ _ _ _ _)) (by decide) (by decide) (by decide) (by decide)⟩
end
end Go.Proofs.Ytncdilkcblakhaa.In
