import Derived.Test.YtiopfeleaifpbaaOr0
namespace Go.Proofs.Ytiopfeleaifpbaa.Bd
open Go Go.RowKit Go.Sort Go.Lib
set_option linter.unusedVariables false
set_option linter.unusedSimpArgs false
theorem nlB_nodup : ∀ b0 b1 b2 b3 : Bool, ∀ n : Fin 4, (nlB (hb b0 b1 b2 b3) (fv n) 4).Nodup := by decide +kernel
theorem nlB_mem : ∀ b0 b1 b2 b3 : Bool, ∀ n v : Fin 4, hb b0 b1 b2 b3 (fv v) = true → fv v ∈ nlB (hb b0 b1 b2 b3) (fv n) 4 := by decide +kernel
theorem fin4 {n : Int} (h : 0 ≤ n ∧ n < 4) : ∃ x : Fin 4, fv x = n := ⟨⟨n.toNat, by omega⟩, by show ((n.toNat : Nat) : Int) = n; omega⟩
theorem nl_nodup {Z : List Zo} {n : Int} (h : chE Z = 0) (hn : 0 ≤ n ∧ n < 4) : (nl Z n 4).Nodup := by
  obtain ⟨x, rfl⟩ := fin4 hn
  rw [nl_B, hs_hb h]
  exact nlB_nodup _ _ _ _ _
theorem nl_mem {Z : List Zo} {n v : Int} (h : chE Z = 0) (hn : 0 ≤ n ∧ n < 4) (hv : 0 ≤ v ∧ v < 4) (hh : hs Z v = true) : v ∈ nl Z n 4 := by
  obtain ⟨x, rfl⟩ := fin4 hn
  obtain ⟨y, rfl⟩ := fin4 hv
  rw [nl_B, hs_hb h]
  rw [hs_hb h] at hh
  exact nlB_mem _ _ _ _ _ _ hh
theorem ix_spec {l : Is} {v : Int} (h : v ∈ l) : ∃ k, k < l.length ∧ ix l v = (k : Nat) ∧ l.getD k 0 = v := by
  unfold ix
  cases e : l.findIdx? (fun y => y == v) with
  | none =>
    rw [List.findIdx?_eq_none_iff] at e
    exact absurd (e v h) (by simp)
  | some k =>
    rw [List.findIdx?_eq_some_iff_getElem] at e
    obtain ⟨hk, h1, _⟩ := e
    exact ⟨k, hk, rfl, by rw [List.getD_eq_getElem?_getD, List.getElem?_eq_getElem hk]; simpa using h1⟩
theorem getD_get {l : Is} {k : Nat} (h : k < l.length) : l.getD k 0 = l[k] := by rw [List.getD_eq_getElem?_getD, List.getElem?_eq_getElem h]; rfl
theorem nodup_at {l : Is} (h : l.Nodup) {i j : Nat} (hi : i < l.length) (hj : j < l.length) (e : l.getD i 0 = l.getD j 0) : i = j := by
  rw [getD_get hi, getD_get hj] at e
  rcases Nat.lt_trichotomy i j with g | g | g
  · exact absurd e ((List.pairwise_iff_getElem.1 h) i j hi hj g)
  · exact g
  · exact absurd e.symm ((List.pairwise_iff_getElem.1 h) j i hj hi g)
def mvh (Z : List Zo) (a : Int) (i : Int) : Bool := (nd Z i.toNat == a) && (kd Z i.toNat == 1)
def nmh (Z : List Zo) (a : Int) (i : Int) : Bool := (nd Z i.toNat == a) && (kd Z i.toNat == 0)
def sth (Z : List Zo) (kb : Bool) (i : Int) : Bool := !kb || (kd Z i.toNat == 0)
/-- the movable zones of a node, for a kernel none -/
def mvl (Z : List Zo) (kb : Bool) (a : Int) : Is := if kb then [] else un (mvh Z a) Z.length
/-- zones in their order, node by node -/
def ro (Z : List Zo) (l : Is) (kb : Bool) : Nat → Is
  | 0 => []
  | q + 1 => (ro Z l kb q ++ mvl Z kb (l.getD q 0)) ++ un (nmh Z (l.getD q 0)) Z.length
/-- what Order answers -/
def oR (Z : List Zo) (n : Int) (kb : Bool) : Is := ro Z (nR Z n) kb (nR Z n).length
/-- the order of tries -/
def Rk (Z : List Zo) (l : Is) (a b : Int) : Prop := ky Z l a.toNat < ky Z l b.toNat ∨ (ky Z l a.toNat = ky Z l b.toNat ∧ a < b)
/-- a list of nodes in which all zones have a place -/
structure Pl (Z : List Zo) (l : Is) : Prop where
  nodup : l.Nodup
  mem : ∀ k, k < Z.length → nd Z k ∈ l
  kind : ∀ k, k < Z.length → kd Z k = 0 ∨ kd Z k = 1
theorem Pl.at {Z : List Zo} {l : Is} (h : Pl Z l) {k q : Nat} (hk : k < Z.length) (hq : q < l.length) : nd Z k = l.getD q 0 ↔ ix l (nd Z k) = (q : Nat) := by
  obtain ⟨j, hj, e1, e2⟩ := ix_spec (h.mem k hk)
  constructor
  · intro e
    rw [e1, nodup_at h.nodup hj hq (e2.trans e)]
  · intro e
    have : j = q := by omega
    rw [← e2, this]
theorem mvl_mem {Z : List Zo} {kb : Bool} {a x : Int} : x ∈ mvl Z kb a ↔ (0 ≤ x ∧ x < Z.length ∧ kb = false ∧ nd Z x.toNat = a ∧ kd Z x.toNat = 1) := by
  unfold mvl
  cases kb
  · rw [if_neg (by decide), un_mem]
    unfold mvh
    simp
  · simp
theorem nml_mem {Z : List Zo} {a x : Int} : x ∈ un (nmh Z a) Z.length ↔ (0 ≤ x ∧ x < Z.length ∧ nd Z x.toNat = a ∧ kd Z x.toNat = 0) := by
  rw [un_mem]
  unfold nmh
  simp
theorem mvl_asc {Z : List Zo} {kb : Bool} {a : Int} : (mvl Z kb a).Pairwise (· < ·) := by
  unfold mvl
  cases kb
  · exact un_asc
  · exact List.Pairwise.nil
theorem ky_1 {Z : List Zo} {l : Is} {i : Nat} (h : kd Z i = 1) : ky Z l i = 2 * ix l (nd Z i) := by unfold ky; rw [h]; simp
theorem ky_0 {Z : List Zo} {l : Is} {i : Nat} (h : kd Z i = 0) : ky Z l i = 2 * ix l (nd Z i) + 1 := by unfold ky; rw [h]; simp
theorem ro_facts {Z : List Zo} {l : Is} (h : Pl Z l) (kb : Bool) : ∀ q, q ≤ l.length → (ro Z l kb q).Pairwise (Rk Z l) ∧ ∀ x, x ∈ ro Z l kb q ↔ (0 ≤ x ∧ x < Z.length ∧ sth Z kb x = true ∧ ix l (nd Z x.toNat) < (q : Nat))
  | 0, _ => ⟨List.Pairwise.nil, fun x => ⟨fun g => absurd g (by simp [ro]), fun ⟨a, b, _, d⟩ => by
      obtain ⟨j, _, e, _⟩ := ix_spec (h.mem x.toNat (by omega))
      omega⟩⟩
  | q + 1, hq => by
    obtain ⟨ip, im⟩ := ro_facts h kb q (by omega)
    have hq' : q < l.length := by omega
    have hm : ∀ x, x ∈ mvl Z kb (l.getD q 0) → 0 ≤ x ∧ x < Z.length ∧ kb = false ∧ ix l (nd Z x.toNat) = q ∧ kd Z x.toNat = 1 := fun x hx => by
      obtain ⟨a, b, c, d, e⟩ := mvl_mem.1 hx
      exact ⟨a, b, c, (h.at (by omega) hq').1 d, e⟩
    have hn : ∀ x, x ∈ un (nmh Z (l.getD q 0)) Z.length → 0 ≤ x ∧ x < Z.length ∧ ix l (nd Z x.toNat) = q ∧ kd Z x.toNat = 0 := fun x hx => by
      obtain ⟨a, b, d, e⟩ := nml_mem.1 hx
      exact ⟨a, b, (h.at (by omega) hq').1 d, e⟩
    have hr : ∀ x, x ∈ ro Z l kb q → ky Z l x.toNat < 2 * q := fun x hx => by
      obtain ⟨a, b, _, d⟩ := (im x).1 hx
      rcases h.kind x.toNat (by omega) with e | e
      · rw [ky_0 e]; omega
      · rw [ky_1 e]; omega
    constructor
    · show ((ro Z l kb q ++ mvl Z kb (l.getD q 0)) ++ un (nmh Z (l.getD q 0)) Z.length).Pairwise (Rk Z l)
      refine List.pairwise_append.2 ⟨List.pairwise_append.2 ⟨ip, ?_, fun a ha b hb => ?_⟩, ?_, fun a ha b hb => ?_⟩
      · refine mvl_asc.imp_of_mem fun {a b} ha hb hab => ?_
        obtain ⟨_, _, _, e1, k1⟩ := hm a ha
        obtain ⟨_, _, _, e2, k2⟩ := hm b hb
        exact Or.inr ⟨by rw [ky_1 k1, ky_1 k2, e1, e2], hab⟩
      · have g := hr a ha
        obtain ⟨_, _, _, e2, k2⟩ := hm b hb
        exact Or.inl (by rw [ky_1 k2, e2]; omega)
      · refine un_asc.imp_of_mem fun {a b} ha hb hab => ?_
        obtain ⟨_, _, e1, k1⟩ := hn a ha
        obtain ⟨_, _, e2, k2⟩ := hn b hb
        exact Or.inr ⟨by rw [ky_0 k1, ky_0 k2, e1, e2], hab⟩
      · obtain ⟨_, _, e2, k2⟩ := hn b hb
        refine Or.inl ?_
        rw [ky_0 k2, e2]
        rcases List.mem_append.1 ha with ha | ha
        · have g := hr a ha; omega
        · obtain ⟨_, _, _, e1, k1⟩ := hm a ha
          rw [ky_1 k1, e1]; omega
    · intro x
      show x ∈ ((ro Z l kb q ++ mvl Z kb (l.getD q 0)) ++ un (nmh Z (l.getD q 0)) Z.length) ↔ _
      rw [List.mem_append, List.mem_append, im x]
      constructor
      · rintro ((⟨a, b, c, d⟩ | hx) | hx)
        · exact ⟨a, b, c, by omega⟩
        · obtain ⟨a, b, c, d, e⟩ := hm x hx
          exact ⟨a, b, by unfold sth; rw [c]; rfl, by omega⟩
        · obtain ⟨a, b, d, e⟩ := hn x hx
          exact ⟨a, b, by unfold sth; rw [e]; simp, by omega⟩
      · rintro ⟨a, b, c, d⟩
        by_cases hd : ix l (nd Z x.toNat) < (q : Nat)
        · exact Or.inl (Or.inl ⟨a, b, c, hd⟩)
        · obtain ⟨j, hj, e1, e2⟩ := ix_spec (h.mem x.toNat (by omega))
          have ej : j = q := by omega
          subst ej
          rcases h.kind x.toNat (by omega) with e | e
          · exact Or.inr (nml_mem.2 ⟨a, b, e2.symm, e⟩)
          · refine Or.inl (Or.inr (mvl_mem.2 ⟨a, b, ?_, e2.symm, e⟩))
            unfold sth at c
            rw [e] at c
            cases kb
            · rfl
            · simp at c
theorem c3_lt {x y : Int} : c3 x y < 0 ↔ x < y := by
  unfold c3
  split
  · omega
  · split <;> omega
def cOF {m : Nat} (Z : List Zo) (l : Is) (x y : Fin (m + 1)) : Int := cO Z l x.val y.val
/-- the stable sort by the key is the list node by node -/
theorem order_eq {Z : List Zo} {l : Is} (h : Pl Z l) (kb : Bool) {m : Nat} (hm : m + 1 = Z.length) {zs : List (Fin (m + 1))} (e : un (sth Z kb) Z.length = zs.map fv) (hz : zs.Pairwise (fun x y => x.val < y.val)) : (srtd (cOF Z l) zs).map fv = ro Z l kb l.length := by
  obtain ⟨hp, hs⟩ := srtd_kl (K := fun x => ky Z l x.val) (cf := cOF Z l) (fun x y => c3_lt) hz
  obtain ⟨rp, rm⟩ := ro_facts h kb l.length (Nat.le_refl _)
  refine asc_uniq (R := Rk Z l) (fun a => by unfold Rk; omega) (fun a b => by unfold Rk; omega) ?_ rp fun x => ?_
  · rw [List.pairwise_map]
    refine hs.imp fun {x y} g => ?_
    unfold Rk fv
    simp only [Int.toNat_natCast]
    omega
  · rw [rm, (hp.map fv).mem_iff, ← e, un_mem]
    constructor
    · rintro ⟨a, b, c⟩
      obtain ⟨j, hj, e1, e2⟩ := ix_spec (h.mem x.toNat (by omega))
      exact ⟨a, b, c, by omega⟩
    · rintro ⟨a, b, c, d⟩
      exact ⟨a, b, c⟩
theorem un_none {h : Int → Bool} : un h 0 = [] := rfl
theorem pl_of {Z : List Zo} {n : Int} (h : chE Z = 0) (hn : 0 ≤ n ∧ n < 4) (hh : ∀ k, k < Z.length → hs Z (nd Z k) = true) : Pl Z (nR Z n) := by
  rw [(nE_ok h hn).2]
  exact ⟨nl_nodup h hn, fun k hk => nl_mem h hn ((chE_ok h).2 k hk).1 (hh k hk), fun k hk => ((chE_ok h).2 k hk).2⟩
theorem ro_len_le {Z : List Zo} {l : Is} {kb : Bool} (h : Pl Z l) {q : Nat} (hq : q ≤ l.length) : True := trivial
end Go.Proofs.Ytiopfeleaifpbaa.Bd
