import Derived.Test.YtiopfeleaifpbabMath2
namespace Go.Proofs.Ytiopfeleaifpbab.Bd
open Go
set_option linter.unusedVariables false
-- THE ERRORS OF A LIST
def lE (p : Pm) (k : Nat) : Int → Is → Int
  | _, [] => 0
  | q, f :: r => if blk p k f then (if f ≤ q then 10 else lE p k f r) else 3
theorem lE_zero {p : Pm} {k : Nat} : ∀ {l : Is} {q : Int}, lE p k q l = 0 ↔ (∀ f ∈ l, blk p k f) ∧ Srt l ∧ ∀ f ∈ l, q < f
  | [], q => by unfold Srt; simp [lE]
  | a :: l, q => by
    unfold lE
    by_cases hb : blk p k a
    · rw [if_pos hb]
      by_cases hq : a ≤ q
      · rw [if_pos hq]
        exact ⟨fun e => absurd e (by decide), fun h => by have := h.2.2 a (by simp); omega⟩
      · rw [if_neg hq, lE_zero]
        constructor
        · rintro ⟨h1, h2, h3⟩
          refine ⟨fun f hf => ?_, List.pairwise_cons.2 ⟨h3, h2⟩, fun f hf => ?_⟩
          · rcases List.mem_cons.1 hf with rfl | hf
            · exact hb
            · exact h1 f hf
          · rcases List.mem_cons.1 hf with rfl | hf
            · omega
            · have := h3 f hf; omega
        · rintro ⟨h1, h2, h3⟩
          have h2' := List.pairwise_cons.1 h2
          exact ⟨fun f hf => h1 f (by simp [hf]), h2'.2, h2'.1⟩
    · rw [if_neg hb]
      exact ⟨fun e => absurd e (by decide), fun h => absurd (h.1 a (by simp)) hb⟩
def eAt (p : Pm) (L : Fl) (k : Nat) : Int := lE p k (-1) (L k)
def listE (p : Pm) (L : Fl) : Int := if eAt p L 0 ≠ 0 then eAt p L 0 else if eAt p L 1 ≠ 0 then eAt p L 1 else if eAt p L 2 ≠ 0 then eAt p L 2 else if eAt p L 3 ≠ 0 then eAt p L 3 else eAt p L 4
theorem listE_at {p : Pm} {L : Fl} {k : Nat} (hk : k < 5) (h : ∀ j, j < k → eAt p L j = 0) (hn : eAt p L k ≠ 0) : listE p L = eAt p L k := by
  unfold listE
  rcases cases5 hk with rfl | rfl | rfl | rfl | rfl
  · rw [if_pos hn]
  · rw [if_neg (fun x => x (h 0 (by omega))), if_pos hn]
  · rw [if_neg (fun x => x (h 0 (by omega))), if_neg (fun x => x (h 1 (by omega))), if_pos hn]
  · rw [if_neg (fun x => x (h 0 (by omega))), if_neg (fun x => x (h 1 (by omega))), if_neg (fun x => x (h 2 (by omega))), if_pos hn]
  · rw [if_neg (fun x => x (h 0 (by omega))), if_neg (fun x => x (h 1 (by omega))), if_neg (fun x => x (h 2 (by omega))), if_neg (fun x => x (h 3 (by omega)))]
theorem listE_all {p : Pm} {L : Fl} (h : ∀ j, j < 5 → eAt p L j = 0) : listE p L = 0 := by
  unfold listE
  rw [if_neg (fun x => x (h 0 (by omega))), if_neg (fun x => x (h 1 (by omega))), if_neg (fun x => x (h 2 (by omega))), if_neg (fun x => x (h 3 (by omega)))]
  exact h 4 (by omega)
theorem lst_of {p : Pm} {L : Fl} (h : ∀ j, j < 5 → eAt p L j = 0) : Lst p L := ⟨fun k hk => (lE_zero.1 (h k hk)).2.1, fun k hk => (lE_zero.1 (h k hk)).1⟩
theorem eAt_of {p : Pm} {L : Fl} (hp : par p) (h : Lst p L) : ∀ j, j < 5 → eAt p L j = 0 := fun j hj => lE_zero.2 ⟨h.blk j hj, h.srt j hj, fun f hf => by have := blk_bd hp (h.blk j hj f hf); omega⟩
/-- the element before place i, or -1 -/
def pvA (l : Is) (i : Nat) : Int := if i = 0 then -1 else l.getD (i - 1) 0
theorem drop_at0 {l : Is} {j : Nat} (h : j < l.length) : l.drop j = l.getD j 0 :: l.drop (j + 1) := by
  rw [List.drop_eq_getElem_cons h, List.getD_eq_getElem?_getD, List.getElem?_eq_getElem h]; rfl
theorem getD_mem {l : Is} {k : Nat} (h : k < l.length) : l.getD k 0 ∈ l := by
  rw [List.getD_eq_getElem?_getD, List.getElem?_eq_getElem h]; exact List.getElem_mem h
theorem mem_getD {l : Is} {f : Int} (h : f ∈ l) : ∃ i, i < l.length ∧ l.getD i 0 = f := by
  obtain ⟨i, hi, e⟩ := List.mem_iff_getElem.1 h
  exact ⟨i, hi, by rw [List.getD_eq_getElem?_getD, List.getElem?_eq_getElem hi]; exact e⟩
theorem srt_at {l : Is} (h : Srt l) {i j : Nat} (hij : i < j) (hj : j < l.length) : l.getD i 0 < l.getD j 0 := by
  have := List.pairwise_iff_getElem.1 h i j (by omega) hj hij
  rw [List.getD_eq_getElem?_getD, List.getD_eq_getElem?_getD, List.getElem?_eq_getElem (by omega : i < l.length), List.getElem?_eq_getElem hj]
  exact this
-- TWO FREE BLOCKS WITH A FRAME IN COMMON; BUDDIES
def Dj (L : Fl) : Prop := ∀ x : Nat, x < 256 → ∀ k, k < 5 → ∀ j, j < 5 → cov L k x → cov L j x → k = j
instance (L : Fl) : Decidable (Dj L) := by unfold Dj; infer_instance
def Nb (L : Fl) : Prop := ∀ k, k < 4 → ∀ f ∈ L k, bud k f ∉ L k
instance (L : Fl) : Decidable (Nb L) := by unfold Nb; infer_instance
theorem cov_bd {p : Pm} {L : Fl} (hp : par p) (h : Lst p L) {k : Nat} (hk : k < 5) {x : Int} (hc : cov L k x) : 0 ≤ x ∧ x < 256 := by
  have := blk_bd hp (h.blk k hk _ hc)
  have := dn_le k x
  have := dn_lt k x
  omega
theorem vd_iff {p : Pm} {L : Fl} (hp : par p) : Vd p L ↔ Lst p L ∧ Dj L ∧ Nb L := by
  constructor
  · intro h
    exact ⟨h.toLst, fun x _ k hk j hj a b => h.dis x k j hk hj a b, h.nob⟩
  · rintro ⟨h1, h2, h3⟩
    refine ⟨h1, fun x k j hk hj a b => ?_, h3⟩
    have := cov_bd hp h1 hk a
    obtain ⟨n, rfl⟩ := Int.eq_ofNat_of_zero_le this.1
    exact h2 n (by omega) k hk j hj a b
instance (p : Pm) : Decidable (par p) := by unfold par; infer_instance
def chk (p : Pm) (L : Fl) : Int := if par p then (if listE p L ≠ 0 then listE p L else if Dj L then (if Nb L then 0 else 11) else 7) else 2
theorem lE_le (p : Pm) (k : Nat) : ∀ (l : Is) (q : Int), lE p k q l = 0 ∨ lE p k q l = 3 ∨ lE p k q l = 10
  | [], q => .inl rfl
  | a :: l, q => by
    unfold lE
    split
    · split
      · exact .inr (.inr rfl)
      · exact lE_le p k l a
    · exact .inr (.inl rfl)
theorem listE_zero {p : Pm} {L : Fl} (h : listE p L = 0) : ∀ j, j < 5 → eAt p L j = 0 := by
  unfold listE at h
  have g0 : eAt p L 0 = 0 := by
    rcases Classical.em (eAt p L 0 = 0) with e | e
    · exact e
    · rw [if_pos e] at h; exact h
  rw [if_neg (fun x => x g0)] at h
  have g1 : eAt p L 1 = 0 := by
    rcases Classical.em (eAt p L 1 = 0) with e | e
    · exact e
    · rw [if_pos e] at h; exact h
  rw [if_neg (fun x => x g1)] at h
  have g2 : eAt p L 2 = 0 := by
    rcases Classical.em (eAt p L 2 = 0) with e | e
    · exact e
    · rw [if_pos e] at h; exact h
  rw [if_neg (fun x => x g2)] at h
  have g3 : eAt p L 3 = 0 := by
    rcases Classical.em (eAt p L 3 = 0) with e | e
    · exact e
    · rw [if_pos e] at h; exact h
  rw [if_neg (fun x => x g3)] at h
  intro j hj
  rcases cases5 hj with rfl | rfl | rfl | rfl | rfl
  · exact g0
  · exact g1
  · exact g2
  · exact g3
  · exact h
theorem chk_zero {p : Pm} {L : Fl} : chk p L = 0 ↔ par p ∧ Vd p L := by
  unfold chk
  by_cases hp : par p
  · rw [if_pos hp]
    by_cases hl : listE p L = 0
    · rw [if_neg (fun x => x hl), vd_iff hp]
      have := lst_of (listE_zero hl)
      by_cases hd : Dj L
      · rw [if_pos hd]
        by_cases hn : Nb L
        · rw [if_pos hn]; exact ⟨fun _ => ⟨hp, this, hd, hn⟩, fun _ => rfl⟩
        · rw [if_neg hn]; exact ⟨fun e => absurd e (by decide), fun h => absurd h.2.2.2 hn⟩
      · rw [if_neg hd]; exact ⟨fun e => absurd e (by decide), fun h => absurd h.2.2.1 hd⟩
    · rw [if_pos hl]
      exact ⟨fun e => absurd e hl, fun h => absurd (listE_all (eAt_of hp h.2.toLst)) hl⟩
  · rw [if_neg hp]; exact ⟨fun e => absurd e (by decide), fun h => absurd h.1 hp⟩
end Go.Proofs.Ytiopfeleaifpbab.Bd
