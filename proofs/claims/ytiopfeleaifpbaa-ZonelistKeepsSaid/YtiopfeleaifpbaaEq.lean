import Derived.Test.YtiopfeleaifpbaaVa
import Derived.Test.YtiopfeleaifpbaaSm
namespace Go.Proofs.Ytiopfeleaifpbaa.Bd
open Go Go.RowKit Go.Sort Go.Lib
set_option linter.unusedVariables false
set_option linter.unusedSimpArgs false
/-- two lists of zones with the same nodes and kinds -/
structure Eqz (Z Y : List Zo) : Prop where
  len : Y.length = Z.length
  nd : Bd.nd Y = Bd.nd Z
  kd : Bd.kd Y = Bd.kd Z
theorem Eqz.chF {Z Y : List Zo} (h : Eqz Z Y) : ∀ k, Bd.chF Y k = Bd.chF Z k
  | 0 => rfl
  | k + 1 => by unfold Bd.chF; rw [h.chF k, h.nd, h.kd]
theorem Eqz.chE {Z Y : List Zo} (h : Eqz Z Y) : Bd.chE Y = Bd.chE Z := by unfold Bd.chE; rw [h.len, h.chF]
theorem Eqz.hs {Z Y : List Zo} (h : Eqz Z Y) : Bd.hs Y = Bd.hs Z := by
  funext n
  have e : (∃ k, k < Y.length ∧ Bd.nd Y k = n) ↔ (∃ k, k < Z.length ∧ Bd.nd Z k = n) := by rw [h.len, h.nd]
  unfold Bd.hs
  by_cases g : ∃ k, k < Z.length ∧ Bd.nd Z k = n
  · rw [decide_eq_true g, decide_eq_true (e.2 g)]
  · rw [decide_eq_false g, decide_eq_false (fun x => g (e.1 x))]
theorem Eqz.nl {Z Y : List Zo} (h : Eqz Z Y) (n : Int) (d : Nat) : Bd.nl Y n d = Bd.nl Z n d := by rw [nl_B, nl_B, h.hs]
theorem Eqz.nE {Z Y : List Zo} (h : Eqz Z Y) (n : Int) : Bd.nE Y n = Bd.nE Z n := by unfold Bd.nE; rw [h.chE]
theorem Eqz.nR {Z Y : List Zo} (h : Eqz Z Y) (n : Int) : Bd.nR Y n = Bd.nR Z n := by unfold Bd.nR; rw [h.nE, h.nl]
theorem Eqz.mvh {Z Y : List Zo} (h : Eqz Z Y) (a : Int) : Bd.mvh Y a = Bd.mvh Z a := by funext i; unfold Bd.mvh; rw [h.nd, h.kd]
theorem Eqz.nmh {Z Y : List Zo} (h : Eqz Z Y) (a : Int) : Bd.nmh Y a = Bd.nmh Z a := by funext i; unfold Bd.nmh; rw [h.nd, h.kd]
theorem Eqz.ro {Z Y : List Zo} (h : Eqz Z Y) (l : Is) (kb : Bool) : ∀ q, Bd.ro Y l kb q = Bd.ro Z l kb q
  | 0 => rfl
  | q + 1 => by unfold Bd.ro Bd.mvl; rw [h.ro l kb q, h.mvh, h.nmh, h.len]
theorem Eqz.oR {Z Y : List Zo} (h : Eqz Z Y) (n : Int) (kb : Bool) : Bd.oR Y n kb = Bd.oR Z n kb := by unfold Bd.oR; rw [h.nR, h.ro]
theorem Eqz.pkE {Z Y : List Zo} (h : Eqz Z Y) (p : Po) (n : Int) : Bd.pkE Y p n = Bd.pkE Z p n := by unfold Bd.pkE; rw [h.chE]
theorem Eqz.pR {Z Y : List Zo} (h : Eqz Z Y) (p : Po) (n : Int) (kb : Bool) : Bd.pR Y p n kb = Bd.pR Z p n kb := by unfold Bd.pR; rw [h.pkE, h.oR, h.nd]
/-- zones without the other fields -/
def bz (Z : List Zo) : Nat → List Zo
  | 0 => []
  | k + 1 => bz Z k ++ [⟨⟨nd Z k, kd Z k, 7, -1, k⟩, nv, nf⟩]
theorem bz_len (Z : List Zo) : ∀ k, (bz Z k).length = k
  | 0 => rfl
  | k + 1 => by unfold bz; rw [List.length_append, bz_len Z k]; rfl
theorem bz_at (Z : List Zo) : ∀ {n k : Nat}, k < n → zAt (bz Z n) k = ⟨⟨nd Z k, kd Z k, 7, -1, k⟩, nv, nf⟩
  | n + 1, k, h => by
    unfold bz zAt
    rw [List.getD_eq_getElem?_getD]
    by_cases e : k < n
    · rw [List.getElem?_append_left (by rw [bz_len]; exact e)]
      have := bz_at Z e
      unfold zAt at this
      rw [List.getD_eq_getElem?_getD] at this
      exact this
    · obtain rfl : k = n := by omega
      rw [List.getElem?_append_right (by rw [bz_len]; exact Nat.le_refl _), bz_len]
      simp
theorem bz_eq (Z : List Zo) : Eqz Z (bz Z Z.length) where
  len := bz_len Z _
  nd := by
    funext k
    by_cases h : k < Z.length
    · show (zAt (bz Z Z.length) k).p.nd = _; rw [bz_at Z h]
    · have e1 : zAt (bz Z Z.length) k = z0 := by unfold zAt; rw [List.getD_eq_getElem?_getD, List.getElem?_eq_none (by rw [bz_len]; omega)]; rfl
      have e2 : zAt Z k = z0 := by unfold zAt; rw [List.getD_eq_getElem?_getD, List.getElem?_eq_none (by omega)]; rfl
      show (zAt (bz Z Z.length) k).p.nd = (zAt Z k).p.nd
      rw [e1, e2]
  kd := by
    funext k
    by_cases h : k < Z.length
    · show (zAt (bz Z Z.length) k).p.kd = _; rw [bz_at Z h]
    · have e1 : zAt (bz Z Z.length) k = z0 := by unfold zAt; rw [List.getD_eq_getElem?_getD, List.getElem?_eq_none (by rw [bz_len]; omega)]; rfl
      have e2 : zAt Z k = z0 := by unfold zAt; rw [List.getD_eq_getElem?_getD, List.getElem?_eq_none (by omega)]; rfl
      show (zAt (bz Z Z.length) k).p.kd = (zAt Z k).p.kd
      rw [e1, e2]
theorem i64_s (n : Int) (h : -1000 ≤ n ∧ n ≤ 1000) : i64r n := ⟨by omega, by omega⟩
theorem bz_in {w : World} {Z : List Zo} (hz : ZIs w Z) (hn : Z.length ≤ 1000) : ∀ n, n ≤ Z.length → ZIs w (bz Z n) := fun n hn2 k hk => by
  rw [bz_len] at hk
  rw [bz_at Z hk]
  have h := (hz k (by omega)).pr
  exact ⟨⟨h.nd, h.kd, i64_s 7 (by omega), i64_s (-1) (by omega), i64_s (k : Int) (by omega)⟩, fun _ _ => ⟨none, 0, rfl, Nat.le_refl _, Bi.nil _ _⟩, fun _ _ f hf => absurd hf (by simp [nf]), fun _ _ => by simp [nf]⟩
theorem zcl_len (Z : List Zo) : (zcl Z).length = Z.length * 10 := by
  induction Z with
  | nil => rfl
  | cons z Z ih => show ((znC z.p z.v).toList ++ zcl Z).length = _; rw [List.length_append, ih]; simp [znC_size]; omega
theorem zcl_app (Z Y : List Zo) : zcl (Z ++ Y) = zcl Z ++ zcl Y := by unfold zcl; simp
/-- zones in a row of one's own -/
abbrev OwZs (B : Nat) (w : World) (v : Value) (Z : List Zo) : Prop := w.ownsRow B 41 10 v Z.length (zcl Z)
theorem OwZs.zs {B : Nat} {w : World} {A : Option Addr} {n c : Nat} {Z : List Zo} (h : OwZs B w (.slice A n c) Z) : Zs w A Z := fun hne => by
  obtain ⟨A2, c2, e, _⟩ := row_form h
  injection e with e1 e2 e3
  subst e2
  obtain ⟨g, rfl, hg, _, hc, _⟩ := row_cell h (fun h0 => hne (List.eq_nil_of_length_eq_zero h0))
  refine ⟨g, 0, rfl, hg, fun k hk j hj => ?_⟩
  rw [Nat.zero_add, ← zcl_at hk hj]
  have hlt : k * 10 + j < (zcl Z).length := by rw [zcl_len]; omega
  rw [List.getElem?_eq_getElem hlt]
  exact hc _ _ (List.getElem?_eq_getElem hlt)
theorem zcl_one (Z : List Zo) : ∀ u ∈ zcl Z, True := fun _ _ => trivial
/-- the cells of zones, where they are read -/
theorem Zs.news {w : World} {b off : Nat} {Z : List Zo} (h : ∀ k, k < Z.length → ∀ j, j < 10 → w.cell? ⟨b, off + k * 10 + j, none⟩ = (znC (zAt Z k).p (zAt Z k).v)[j]?) : ∀ (i : Nat) (u : Value), (zcl Z)[i]? = some u → w.cell? ((⟨b, off, none⟩ : Addr).add i) = some u := fun i u hu => by
  have hi : i < (zcl Z).length := by
    rcases Nat.lt_or_ge i (zcl Z).length with g | g
    · exact g
    · rw [List.getElem?_eq_none g] at hu; cases hu
  rw [zcl_len] at hi
  have e : i = (i / 10) * 10 + i % 10 := by omega
  rw [e] at hu ⊢
  rw [zcl_at (by omega) (by omega)] at hu
  have g := h (i / 10) (by omega) (i % 10) (by omega)
  rw [hu] at g
  have ea : ∀ q, (⟨b, off, none⟩ : Addr).add q = ⟨b, off + q, none⟩ := fun q => by
    unfold Addr.add
    by_cases h0 : q = 0 <;> simp [h0]
  rw [ea, ← Nat.add_assoc]
  exact g
theorem zcl_cell1 {w : World} {Z : List Zo} (hz : ZIs w Z) : ∀ u ∈ zcl Z, u.oneCell' = true := fun u hu => by
  obtain ⟨i, hi, rfl⟩ := List.mem_iff_getElem.1 hu
  have hi2 := hi
  rw [zcl_len] at hi2
  have e : i = (i / 10) * 10 + i % 10 := by omega
  have g := zcl_at (Z := Z) (k := i / 10) (j := i % 10) (by omega) (by omega)
  rw [← e, List.getElem?_eq_getElem hi] at g
  obtain ⟨A0, c0, A1, c1, A2, c2, A3, c3, A4, c4, e0, e1, e2, e3, e4⟩ := (hz (i / 10) (by omega)).forms
  unfold znC at g
  rw [e0, e1, e2, e3, e4] at g
  have h10 : i % 10 < 10 := by omega
  generalize i % 10 = j at *
  rcases (by omega : j = 0 ∨ j = 1 ∨ j = 2 ∨ j = 3 ∨ j = 4 ∨ j = 5 ∨ j = 6 ∨ j = 7 ∨ j = 8 ∨ j = 9) with rfl | rfl | rfl | rfl | rfl | rfl | rfl | rfl | rfl | rfl <;> (simp at g; rw [g]; rfl)
end Go.Proofs.Ytiopfeleaifpbaa.Bd
