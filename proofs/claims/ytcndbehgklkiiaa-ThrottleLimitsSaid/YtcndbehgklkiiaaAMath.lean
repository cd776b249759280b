import Derived.WalkKit
/-
  DERIVED. Trees of accounts as lists of five numbers: errors, sums over children, paths, what a charge does.
-/
namespace Go.Proofs.Ytcndbehgklkiiaa.Ac
set_option linter.unusedVariables false
abbrev Is := List Int
def i64r (x : Int) : Prop := -9223372036854775808 ≤ x ∧ x ≤ 9223372036854775807
structure A5 where
  pa : Int
  us : Int
  mn : Int
  lo : Int
  mx : Int
def a0 : A5 := ⟨0, 0, 0, 0, 0⟩
def aAt (L : List A5) (k : Nat) : A5 := L.getD k a0
def pa (L : List A5) (k : Nat) : Int := (aAt L k).pa
def us (L : List A5) (k : Nat) : Int := (aAt L k).us
def mn (L : List A5) (k : Nat) : Int := (aAt L k).mn
def lo (L : List A5) (k : Nat) : Int := (aAt L k).lo
def mx (L : List A5) (k : Nat) : Int := (aAt L k).mx
/-- the sum of a number over the children of x among the first n accounts -/
def kc (L : List A5) (x : Int) (f : Nat → Int) : Nat → Int
  | 0 => 0
  | n + 1 => kc L x f n + (if 0 < n ∧ pa L n = x then f n else 0)
def own (L : List A5) (x : Nat) : Int := us L x - kc L x (us L) L.length
def inr (z : Int) : Prop := 0 ≤ z ∧ z ≤ 1048576
instance (z : Int) : Decidable (inr z) := by unfold inr; infer_instance
def tr (L : List A5) : Prop := pa L 0 = -1 ∧ ∀ k, k < L.length → (0 < k → 0 ≤ pa L k ∧ pa L k < k)
def rg (L : List A5) : Prop := ∀ k, k < L.length → (inr (us L k) ∧ inr (mn L k)) ∧ inr (lo L k) ∧ inr (mx L k)
def rt (L : List A5) : Prop := mn L 0 = 0 ∧ lo L 0 = 0
def lim (L : List A5) : Prop := ∀ k, k < L.length → us L k ≤ mx L k
def sta (L : List A5) : Prop := ∀ k, k < L.length → 0 ≤ own L k
instance (L : List A5) : Decidable (tr L) := by unfold tr; infer_instance
instance (L : List A5) : Decidable (rg L) := by unfold rg; infer_instance
instance (L : List A5) : Decidable (rt L) := by unfold rt; infer_instance
instance (L : List A5) : Decidable (lim L) := by unfold lim; infer_instance
instance (L : List A5) : Decidable (sta L) := by unfold sta; infer_instance
/-- the error of a list -/
def chE (L : List A5) : Int := if 1 ≤ L.length ∧ L.length ≤ 8 then (if tr L then (if rg L ∧ rt L then (if lim L then (if sta L then 0 else 11) else 17) else 2) else 1) else 9
structure Vd (L : List A5) : Prop where
  len : 1 ≤ L.length ∧ L.length ≤ 8
  tr : tr L
  rg : rg L
  rt : rt L
  lim : lim L
  sta : sta L
section
variable {L : List A5}
theorem chE_9 (h : ¬ (1 ≤ L.length ∧ L.length ≤ 8)) : chE L = 9 := if_neg h
theorem chE_1 (h : 1 ≤ L.length ∧ L.length ≤ 8) (h1 : ¬ tr L) : chE L = 1 := by unfold chE; rw [if_pos h, if_neg h1]
theorem chE_2 (h : 1 ≤ L.length ∧ L.length ≤ 8) (h1 : tr L) (h2 : ¬ (rg L ∧ rt L)) : chE L = 2 := by unfold chE; rw [if_pos h, if_pos h1, if_neg h2]
theorem chE_17 (h : 1 ≤ L.length ∧ L.length ≤ 8) (h1 : tr L) (h2 : rg L) (h3 : rt L) (h4 : ¬ lim L) : chE L = 17 := by unfold chE; rw [if_pos h, if_pos h1, if_pos ⟨h2, h3⟩, if_neg h4]
theorem chE_11 (h : 1 ≤ L.length ∧ L.length ≤ 8) (h1 : tr L) (h2 : rg L) (h3 : rt L) (h4 : lim L) (h5 : ¬ sta L) : chE L = 11 := by unfold chE; rw [if_pos h, if_pos h1, if_pos ⟨h2, h3⟩, if_pos h4, if_neg h5]
theorem chE_0 (V : Vd L) : chE L = 0 := by unfold chE; rw [if_pos V.len, if_pos V.tr, if_pos ⟨V.rg, V.rt⟩, if_pos V.lim, if_pos V.sta]
theorem vd_of (h : chE L = 0) : Vd L := by
  unfold chE at h
  by_cases h1 : 1 ≤ L.length ∧ L.length ≤ 8
  · rw [if_pos h1] at h
    by_cases h2 : tr L
    · rw [if_pos h2] at h
      by_cases h3 : rg L ∧ rt L
      · rw [if_pos h3] at h
        by_cases h4 : lim L
        · rw [if_pos h4] at h
          by_cases h5 : sta L
          · exact ⟨h1, h2, h3.1, h3.2, h4, h5⟩
          · rw [if_neg h5] at h; omega
        · rw [if_neg h4] at h; omega
      · rw [if_neg h3] at h; omega
    · rw [if_neg h2] at h; omega
  · rw [if_neg h1] at h; omega
theorem chE_bad {k : Nat} (hk : ¬ Vd L) : chE L ≠ 0 := fun h => hk (vd_of h)
end
-- SUMS OVER CHILDREN
section
variable {L : List A5} {x : Int} {f g : Nat → Int}
theorem kc_congr : ∀ (n : Nat), (∀ i, i < n → 0 < i → pa L i = x → f i = g i) → kc L x f n = kc L x g n
  | 0, _ => rfl
  | n + 1, h => by
    show kc L x f n + _ = kc L x g n + _
    rw [kc_congr n (fun i hi => h i (by omega))]
    congr 1
    split
    · rename_i c; exact h n (by omega) c.1 c.2
    · rfl
theorem kc_add : ∀ (n : Nat), kc L x (fun i => f i + g i) n = kc L x f n + kc L x g n
  | 0 => rfl
  | n + 1 => by
    show kc L x _ n + _ = (kc L x f n + _) + (kc L x g n + _)
    rw [kc_add n]
    split
    · show _ + (f n + g n) = _; omega
    · omega
theorem kc_mul (c : Int) : ∀ (n : Nat), kc L x (fun i => c * f i) n = c * kc L x f n
  | 0 => by show (0 : Int) = c * 0; rw [Int.mul_zero]
  | n + 1 => by
    show kc L x _ n + _ = c * (kc L x f n + _)
    rw [kc_mul c n, Int.mul_add]
    congr 1
    split
    · rfl
    · rw [Int.mul_zero]
theorem kc_nonneg : ∀ (n : Nat), (∀ i, i < n → 0 < i → pa L i = x → 0 ≤ f i) → 0 ≤ kc L x f n
  | 0, _ => Int.le_refl _
  | n + 1, h => by
    show 0 ≤ kc L x f n + _
    have := kc_nonneg n (fun i hi => h i (by omega))
    split
    · rename_i c; have := h n (by omega) c.1 c.2; omega
    · omega
theorem kc_mono : ∀ (n : Nat), (∀ i, i < n → 0 < i → pa L i = x → f i ≤ g i) → kc L x f n ≤ kc L x g n
  | 0, _ => Int.le_refl _
  | n + 1, h => by
    show kc L x f n + _ ≤ kc L x g n + _
    have := kc_mono n (fun i hi => h i (by omega))
    split
    · rename_i c; have := h n (by omega) c.1 c.2; omega
    · omega
theorem kc_ge : ∀ (n : Nat), (∀ i, i < n → 0 < i → pa L i = x → 0 ≤ f i) → ∀ i, i < n → 0 < i → pa L i = x → f i ≤ kc L x f n
  | 0, _, i, hi, _, _ => absurd hi (by omega)
  | n + 1, h, i, hi, h0, hp => by
    show f i ≤ kc L x f n + _
    by_cases e : i = n
    · subst e
      rw [if_pos ⟨h0, hp⟩]
      have := kc_nonneg i (fun j hj => h j (by omega))
      omega
    · have := kc_ge n (fun j hj => h j (by omega)) i (by omega) h0 hp
      split
      · rename_i c; have := h n (by omega) c.1 c.2; omega
      · omega
theorem kc_le (m : Int) (hm : 0 ≤ m) : ∀ (n : Nat), (∀ i, i < n → f i ≤ m) → kc L x f n ≤ n * m
  | 0, _ => by show (0 : Int) ≤ _; simp
  | n + 1, h => by
    show kc L x f n + _ ≤ _
    have h1 := kc_le m hm n (fun i hi => h i (by omega))
    have h2 := h n (by omega)
    have e : ((n + 1 : Nat) : Int) * m = n * m + m := by rw [Int.natCast_add, Int.add_mul]; simp
    rw [e]
    split <;> omega
theorem kc_lo (m : Int) (hm : m ≤ 0) : ∀ (n : Nat), (∀ i, i < n → m ≤ f i) → n * m ≤ kc L x f n
  | 0, _ => by show _ ≤ (0 : Int); simp
  | n + 1, h => by
    show _ ≤ kc L x f n + _
    have h1 := kc_lo m hm n (fun i hi => h i (by omega))
    have h2 := h n (by omega)
    have e : ((n + 1 : Nat) : Int) * m = n * m + m := by rw [Int.natCast_add, Int.add_mul]; simp
    rw [e]
    split <;> omega
/-- one account alone -/
theorem kc_one {a : Nat} : ∀ (n : Nat), kc L x (fun i => if i = a then 1 else 0) n = if a < n ∧ 0 < a ∧ pa L a = x then 1 else 0
  | 0 => by rw [if_neg (by omega)]; rfl
  | n + 1 => by
    show kc L x _ n + _ = _
    rw [kc_one n]
    by_cases e : n = a
    · subst e
      by_cases c : 0 < n ∧ pa L n = x
      · rw [if_neg (by omega), if_pos c, if_pos ⟨by omega, c⟩]; show (0 : Int) + (if n = n then 1 else 0) = 1; rw [if_pos rfl]; rfl
      · rw [if_neg (by omega), if_neg c, if_neg (fun h => c h.2)]; rfl
    · have h2 : (if 0 < n ∧ pa L n = x then (if n = a then (1 : Int) else 0) else 0) = 0 := by
        show (if 0 < n ∧ pa L n = x then (if n = a then (1 : Int) else 0) else 0) = 0
        rw [if_neg e]; split <;> rfl
      rw [h2, Int.add_zero]
      by_cases c : a < n ∧ 0 < a ∧ pa L a = x
      · rw [if_pos c, if_pos ⟨by omega, c.2⟩]
      · rw [if_neg c, if_neg (fun h => c ⟨by omega, h.2⟩)]
end
-- PATHS
/-- the accounts from one up to the root -/
def upF (L : List A5) : Nat → Int → Is
  | 0, _ => []
  | f + 1, at' => if at' < 0 then [] else at' :: upF L f (pa L at'.toNat)
def pth (L : List A5) (a : Int) : Is := upF L 9 a
section
variable {L : List A5}
theorem tr_pa (h : tr L) {k : Nat} (hk : k < L.length) : -1 ≤ pa L k ∧ pa L k < k := by
  by_cases e : k = 0
  · subst e; rw [h.1]; omega
  · have := h.2 k hk (by omega); omega
theorem upF_neg (f : Nat) {a : Int} (h : a < 0) : upF L f a = [] := by
  cases f with
  | zero => rfl
  | succ f => show (if a < 0 then _ else _) = _; rw [if_pos h]
theorem upF_fuel (h : tr L) : ∀ (f : Nat) (a : Int), a < L.length → a < f → upF L (f + 1) a = upF L f a
  | 0, a, _, hf => by rw [upF_neg _ (by omega), upF_neg _ (by omega)]
  | f + 1, a, hl, hf => by
    by_cases ha : a < 0
    · rw [upF_neg _ ha, upF_neg _ ha]
    · have hp := tr_pa h (k := a.toNat) (by omega)
      show (if a < 0 then _ else a :: upF L (f + 1) (pa L a.toNat)) = (if a < 0 then _ else a :: upF L f (pa L a.toNat))
      rw [if_neg ha, if_neg ha, upF_fuel h f _ (by omega) (by omega)]
theorem pth_neg {a : Int} (h : a < 0) : pth L a = [] := upF_neg _ h
theorem pth_cons (V : tr L) (h8 : L.length ≤ 8) {a : Nat} (h : a < L.length) : pth L a = (a : Int) :: pth L (pa L a) := by
  have hp := tr_pa V h
  show (if (a : Int) < 0 then [] else (a : Int) :: upF L 8 (pa L (a : Int).toNat)) = (a : Int) :: upF L 9 (pa L a)
  rw [if_neg (by omega), Int.toNat_natCast, upF_fuel V 8 _ (by omega) (by omega)]
/-- induction along the path -/
theorem pth_ind (V : tr L) (h8 : L.length ≤ 8) {P : Int → Is → Prop} (h0 : P (-1) []) (h1 : ∀ a : Nat, a < L.length → P (pa L a) (pth L (pa L a)) → P a ((a : Int) :: pth L (pa L a))) :
    ∀ a : Int, -1 ≤ a → a < L.length → P a (pth L a) := by
  have go : ∀ n : Nat, ∀ a : Int, -1 ≤ a → a < L.length → a < n → P a (pth L a) := by
    intro n
    induction n with
    | zero => intro a ha hl hn; obtain rfl : a = -1 := by omega
              rw [pth_neg (by omega)]; exact h0
    | succ n ih =>
      intro a ha hl hn
      by_cases e : a < 0
      · obtain rfl : a = -1 := by omega
        rw [pth_neg (by omega)]; exact h0
      · obtain ⟨k, rfl⟩ := Int.eq_ofNat_of_zero_le (show 0 ≤ a by omega)
        have hp := tr_pa V (k := k) (by omega)
        rw [pth_cons V h8 (by omega)]
        exact h1 k (by omega) (ih _ (by omega) (by omega) (by omega))
  exact fun a ha hl => go (a.toNat + 1) a ha hl (by omega)
theorem pth_mem (V : tr L) (h8 : L.length ≤ 8) : ∀ a : Int, -1 ≤ a → a < L.length → ∀ x ∈ pth L a, 0 ≤ x ∧ x ≤ a := by
  refine pth_ind V h8 (P := fun a l => ∀ x ∈ l, 0 ≤ x ∧ x ≤ a) (fun x hx => by cases hx) (fun a ha ih x hx => ?_)
  have hp := tr_pa V ha
  rcases List.mem_cons.1 hx with rfl | h
  · omega
  · have := ih x h; omega
theorem pth_len (V : tr L) (h8 : L.length ≤ 8) : ∀ a : Int, -1 ≤ a → a < L.length → (pth L a).length ≤ (a + 1).toNat := by
  refine pth_ind V h8 (P := fun a l => l.length ≤ (a + 1).toNat) (by simp) (fun a ha ih => ?_)
  have hp := tr_pa V ha
  simp only [List.length_cons]
  omega
/-- is x on the path? -/
def ip (L : List A5) (a : Int) (x : Int) : Int := if x ∈ pth L a then 1 else 0
theorem ip_le (a x : Int) : 0 ≤ ip L a x ∧ ip L a x ≤ 1 := by unfold ip; split <;> omega
theorem ip_cons (V : tr L) (h8 : L.length ≤ 8) {a : Nat} (h : a < L.length) (x : Int) : ip L a x = (if x = a then 1 else 0) + ip L (pa L a) x := by
  have hp := tr_pa V h
  unfold ip
  rw [pth_cons V h8 h]
  by_cases e : x = a
  · have hn : x ∉ pth L (pa L a) := fun hx => by have := pth_mem V h8 _ hp.1 (by omega) x hx; omega
    rw [if_pos e, if_neg hn, if_pos (by rw [e]; exact List.mem_cons_self ..)]; rfl
  · rw [if_neg e]
    by_cases hx : x ∈ pth L (pa L a)
    · rw [if_pos hx, if_pos (List.mem_cons_of_mem _ hx)]; rfl
    · rw [if_neg hx, if_neg (fun h => (List.mem_cons.1 h).elim e hx)]; rfl
/-- x is on the path of a if it is a, or one of its children is -/
theorem ip_kids (V : tr L) (h8 : L.length ≤ 8) (x : Int) : ∀ a : Int, -1 ≤ a → a < L.length → ip L a x = (if x = a ∧ 0 ≤ a then 1 else 0) + kc L x (fun i => ip L a i) L.length := by
  have h0 : kc L x (fun i => ip L (-1) i) L.length = 0 := by
    rw [kc_congr (g := fun i => 0 * 0) _ (fun i _ _ _ => by unfold ip; rw [pth_neg (by omega)]; rfl), kc_mul]; omega
  have step : ∀ a : Nat, a < L.length → ip L (pa L a) x = (if x = pa L a ∧ 0 ≤ pa L a then 1 else 0) + kc L x (fun i => ip L (pa L a) i) L.length → ip L a x = (if x = (a : Int) ∧ 0 ≤ (a : Int) then 1 else 0) + kc L x (fun i => ip L a i) L.length := by
    intro a ha ih
    rw [ip_cons V h8 ha, ih]
    have e : kc L x (fun i => ip L (a : Int) i) L.length = kc L x (fun i => (if i = a then 1 else 0) + ip L (pa L a) i) L.length :=
      kc_congr _ fun i _ _ _ => by
        show ip L (a : Int) (i : Int) = (if i = a then 1 else 0) + ip L (pa L a) i
        rw [ip_cons V h8 ha]
        congr 1
        by_cases e : i = a
        · rw [if_pos e, if_pos (by rw [e])]
        · rw [if_neg e, if_neg (by omega)]
    have e2 : kc L x (fun i => (if i = a then 1 else 0) + ip L (pa L a) i) L.length = kc L x (fun i => if i = a then 1 else 0) L.length + kc L x (fun i => ip L (pa L a) i) L.length := kc_add (f := fun i => if i = a then 1 else 0) (g := fun i => ip L (pa L a) i) L.length
    rw [e, e2, kc_one]
    have hp := tr_pa V ha
    have hr : 0 ≤ pa L a ↔ 0 < a := by
      constructor
      · intro h
        rcases Nat.eq_zero_or_pos a with e | e
        · subst e; rw [V.1] at h; omega
        · exact e
      · intro h; exact (V.2 a ha h).1
    have c1 : (if x = (a : Int) ∧ 0 ≤ (a : Int) then (1 : Int) else 0) = if x = (a : Int) then 1 else 0 := by
      by_cases e : x = (a : Int)
      · rw [if_pos ⟨e, by omega⟩, if_pos e]
      · rw [if_neg (fun h => e h.1), if_neg e]
    have c2 : (if x = pa L a ∧ 0 ≤ pa L a then (1 : Int) else 0) = if a < L.length ∧ 0 < a ∧ pa L a = x then 1 else 0 := by
      by_cases e : x = pa L a ∧ 0 ≤ pa L a
      · rw [if_pos e, if_pos ⟨ha, hr.1 e.2, e.1.symm⟩]
      · rw [if_neg e, if_neg (fun h => e ⟨h.2.2.symm, hr.2 h.2.1⟩)]
    rw [c1, c2]
  exact pth_ind V h8 (P := fun a l => ip L a x = (if x = a ∧ 0 ≤ a then 1 else 0) + kc L x (fun i => ip L a i) L.length)
    (by rw [h0, if_neg (by omega)]; unfold ip; rw [pth_neg (by omega)]; rfl) (fun a ha ih => step a ha ih)
end
-- A CHARGE
/-- n is added to the usages on the path of a -/
def adL (L : List A5) (a n : Int) : List A5 := (List.range L.length).map fun k => ⟨pa L k, us L k + n * ip L a k, mn L k, lo L k, mx L k⟩
section
variable {L : List A5} {a n : Int}
theorem adL_len : (adL L a n).length = L.length := by unfold adL; simp
theorem adL_at {k : Nat} (h : k < L.length) : aAt (adL L a n) k = ⟨pa L k, us L k + n * ip L a k, mn L k, lo L k, mx L k⟩ := by
  unfold aAt adL
  rw [List.getD_eq_getElem?_getD, List.getElem?_map, List.getElem?_range h]
  rfl
theorem adL_pa {k : Nat} (h : k < L.length) : pa (adL L a n) k = pa L k := by unfold pa; rw [adL_at h]; rfl
theorem adL_us {k : Nat} (h : k < L.length) : us (adL L a n) k = us L k + n * ip L a k := by unfold us; rw [adL_at h]; rfl
theorem adL_mn {k : Nat} (h : k < L.length) : mn (adL L a n) k = mn L k := by unfold mn; rw [adL_at h]; rfl
theorem adL_lo {k : Nat} (h : k < L.length) : lo (adL L a n) k = lo L k := by unfold lo; rw [adL_at h]; rfl
theorem adL_mx {k : Nat} (h : k < L.length) : mx (adL L a n) k = mx L k := by unfold mx; rw [adL_at h]; rfl
theorem kc_par {M : List A5} {x : Int} {f : Nat → Int} : ∀ m : Nat, (∀ k, k < m → pa M k = pa L k) → kc M x f m = kc L x f m
  | 0, _ => rfl
  | m + 1, h => by
    show kc M x f m + _ = kc L x f m + _
    rw [kc_par m (fun k hk => h k (by omega)), h m (by omega)]
theorem upF_par {M : List A5} (V : tr L) (h : ∀ k, k < L.length → pa M k = pa L k) : ∀ (f : Nat) (b : Int), b < L.length → upF M f b = upF L f b
  | 0, _, _ => rfl
  | f + 1, b, hb => by
    show (if b < 0 then _ else _) = (if b < 0 then _ else _)
    by_cases e : b < 0
    · rw [if_pos e, if_pos e]
    · have hp := tr_pa V (k := b.toNat) (by omega)
      rw [if_neg e, if_neg e, h _ (by omega), upF_par V h f _ (by omega)]
theorem pth_ad (V : tr L) {b : Int} (hb : b < L.length) : pth (adL L a n) b = pth L b := upF_par V (fun k hk => adL_pa hk) 9 b hb
theorem ip_ad (V : tr L) {b : Int} (hb : b < L.length) (x : Int) : ip (adL L a n) b x = ip L b x := by unfold ip; rw [pth_ad V hb]
/-- only the own usage of the account itself changes -/
theorem own_ad (V : tr L) (h8 : L.length ≤ 8) (ha : 0 ≤ a) (hl : a < L.length) {k : Nat} (hk : k < L.length) : own (adL L a n) k = own L k + (if (k : Int) = a then n else 0) := by
  unfold own
  rw [adL_us hk, adL_len, kc_par (L := L) _ (fun j hj => adL_pa hj)]
  have e : kc L k (us (adL L a n)) L.length = kc L k (fun i => us L i + n * ip L a i) L.length := kc_congr _ fun i hi _ _ => adL_us hi
  rw [e, kc_add (f := us L) (g := fun i => n * ip L a i), kc_mul (f := fun i => ip L a i)]
  have g := ip_kids V h8 (k : Int) a (by omega) hl
  rw [g, Int.mul_add]
  by_cases c : (k : Int) = a
  · rw [if_pos c, if_pos ⟨c, ha⟩]; omega
  · rw [if_neg c, if_neg (fun h => c h.1)]; omega
/-- usages never fall along the path -/
theorem us_path (V : Vd L) : ∀ b : Int, -1 ≤ b → b < L.length → ∀ x ∈ pth L b, us L b.toNat ≤ us L x.toNat := by
  refine pth_ind V.tr V.len.2 (P := fun b l => ∀ x ∈ l, us L b.toNat ≤ us L x.toNat) (fun x hx => by cases hx) (fun b hb ih x hx => ?_)
  rcases List.mem_cons.1 hx with rfl | h
  · exact Int.le_refl _
  · have hp := tr_pa V.tr hb
    by_cases e : pa L b < 0
    · rw [pth_neg e] at h; cases h
    · have g := ih x h
      have h0 : 0 < b := by
        rcases Nat.eq_zero_or_pos b with e2 | e2
        · subst e2; rw [V.tr.1] at e; omega
        · exact e2
      have s := V.sta (pa L b).toNat (by omega)
      unfold own at s
      have k := kc_ge (L := L) (x := ((pa L b).toNat : Int)) (f := us L) L.length (fun i hi _ _ => (V.rg i hi).1.1.1) b hb h0 (by omega)
      rw [Int.toNat_natCast]
      omega
theorem vd_ad (V : Vd L) (ha : 0 ≤ a) (hl : a < L.length) (hc : ∀ x ∈ pth L a, n ≤ mx L x.toNat - us L x.toNat) (ho : 0 ≤ own L a.toNat + n) : Vd (adL L a n) := by
  have hi : ∀ k, k < L.length → 0 ≤ us L k + n * ip L a k ∧ us L k + n * ip L a k ≤ mx L k := fun k hk => by
    have hr := V.rg k hk
    have hm := V.lim k hk
    unfold inr at hr
    unfold ip
    by_cases e : (k : Int) ∈ pth L a
    · have c := hc _ e
      rw [Int.toNat_natCast] at c
      rw [if_pos e, Int.mul_one]
      have u := us_path V a (by omega) hl _ e
      rw [Int.toNat_natCast] at u
      have kn := kc_nonneg (L := L) (x := (a.toNat : Int)) (f := us L) L.length (fun i hi _ _ => (V.rg i hi).1.1.1)
      unfold own at ho
      omega
    · rw [if_neg e, Int.mul_zero]; omega
  have hz : 0 < L.length := by have := V.len.1; omega
  refine ⟨by rw [adL_len]; exact V.len, ⟨by rw [adL_pa hz]; exact V.tr.1, fun k hk h0 => ?_⟩, fun k hk => ?_, ⟨by rw [adL_mn hz]; exact V.rt.1, by rw [adL_lo hz]; exact V.rt.2⟩, fun k hk => ?_, fun k hk => ?_⟩ <;> rw [adL_len] at hk
  · rw [adL_pa hk]; exact V.tr.2 k hk h0
  · have hr := V.rg k hk
    have := hi k hk
    unfold inr at hr ⊢
    rw [adL_us hk, adL_mn hk, adL_lo hk, adL_mx hk]
    omega
  · rw [adL_us hk, adL_mx hk]; exact (hi k hk).2
  · rw [own_ad V.tr V.len.2 ha hl hk]
    have s := V.sta k hk
    by_cases c : (k : Int) = a
    · rw [if_pos c]; obtain rfl : k = a.toNat := by omega
      exact ho
    · rw [if_neg c]; omega
end
/-- the first account of the path that does not permit n; -1 if there is none -/
def stp (L : List A5) (n : Int) : Is → Int
  | [] => -1
  | x :: l => if n > mx L x.toNat - us L x.toNat then x else stp L n l
/-- the errors of Charge and Uncharge, and the account that does not permit it -/
def arE (L : List A5) (a n : Int) : Int := if chE L = 0 then (if 0 ≤ a ∧ a < L.length then (if inr n then 0 else 2) else 6) else chE L
def cgE (L : List A5) (a n : Int) : Int := if arE L a n = 0 then (if stp L n (pth L a) < 0 then 0 else 17) else arE L a n
def cgB (L : List A5) (a n : Int) : Int := if arE L a n = 0 then stp L n (pth L a) else -1
def cgL (L : List A5) (a n : Int) : List A5 := if cgE L a n = 0 then adL L a n else []
def ucE (L : List A5) (a n : Int) : Int := if arE L a n = 0 then (if n > own L a.toNat then 11 else 0) else arE L a n
def ucL (L : List A5) (a n : Int) : List A5 := if ucE L a n = 0 then adL L a (-n) else []
/-- the paths as answers: none if something is not valid -/
def pR (L : List A5) (a : Int) : Is := if chE L = 0 ∧ 0 ≤ a ∧ a < L.length then pth L a else []
def oR (L : List A5) (a : Int) : Int := if chE L = 0 ∧ 0 ≤ a ∧ a < L.length then own L a.toNat else -1
def iR (L : List A5) (a s : Int) : Bool := decide (chE L = 0 ∧ 0 ≤ a ∧ a < L.length) && (decide (s = -1) || decide (s ∈ pth L a))
/-- the least room on a path, and where, the nearest of several -/
def bst (L : List A5) (m : Int) : Is → Int
  | [] => m
  | x :: l => bst L (if mx L x.toNat - us L x.toNat < mx L m.toNat - us L m.toNat then x else m) l
def mE (L : List A5) (a : Int) : Int := if chE L = 0 then (if 0 ≤ a ∧ a < L.length then 0 else 6) else chE L
def mB (L : List A5) (a : Int) : Int := if mE L a = 0 then bst L a (pth L a) else 0
def mM (L : List A5) (a : Int) : Int := if mE L a = 0 then mx L (mB L a).toNat - us L (mB L a).toNat else 0
def tR (L : List A5) : Int := if chE L = 0 then us L 0 else -1
theorem stp_mem {L : List A5} {n : Int} : ∀ {l : Is}, (∀ x ∈ l, 0 ≤ x) → (stp L n l < 0 → ∀ x ∈ l, n ≤ mx L x.toNat - us L x.toNat) ∧ (0 ≤ stp L n l → stp L n l ∈ l ∧ n > mx L (stp L n l).toNat - us L (stp L n l).toNat)
  | [], _ => ⟨fun _ x hx => (by cases hx), fun h => absurd h (by show ¬ (0 : Int) ≤ -1; decide)⟩
  | y :: l, h => by
    have hy := h y (List.mem_cons_self ..)
    by_cases c : n > mx L y.toNat - us L y.toNat
    · have e : stp L n (y :: l) = y := if_pos c
      rw [e]
      exact ⟨fun h => by omega, fun _ => ⟨List.mem_cons_self .., c⟩⟩
    · have e : stp L n (y :: l) = stp L n l := if_neg c
      have ih := stp_mem (L := L) (n := n) (l := l) (fun x hx => h x (List.mem_cons_of_mem _ hx))
      rw [e]
      refine ⟨fun hs x hx => ?_, fun hs => ⟨List.mem_cons_of_mem _ (ih.2 hs).1, (ih.2 hs).2⟩⟩
      rcases List.mem_cons.1 hx with rfl | hx
      · omega
      · exact ih.1 hs x hx
/-- the margin is the least room on the path -/
theorem bst_le {L : List A5} : ∀ (l : Is) (m : Int), (∀ x ∈ m :: l, mx L (bst L m l).toNat - us L (bst L m l).toNat ≤ mx L x.toNat - us L x.toNat) ∧ bst L m l ∈ m :: l
  | [], m => ⟨fun x hx => by rw [List.mem_singleton.1 hx]; exact Int.le_refl _, List.mem_cons_self ..⟩
  | y :: l, m => by
    by_cases c : mx L y.toNat - us L y.toNat < mx L m.toNat - us L m.toNat
    · have e : bst L m (y :: l) = bst L y l := by show bst L (if _ then _ else _) l = _; rw [if_pos c]
      have ih := bst_le (L := L) l y
      rw [e]
      refine ⟨fun x hx => ?_, List.mem_cons_of_mem _ ih.2⟩
      rcases List.mem_cons.1 hx with rfl | hx
      · have := ih.1 y (List.mem_cons_self ..); omega
      · exact ih.1 x hx
    · have e : bst L m (y :: l) = bst L m l := by show bst L (if _ then _ else _) l = _; rw [if_neg c]
      have ih := bst_le (L := L) l m
      rw [e]
      refine ⟨fun x hx => ?_, ?_⟩
      · rcases List.mem_cons.1 hx with rfl | hx
        · exact ih.1 x (List.mem_cons_self ..)
        · rcases List.mem_cons.1 hx with rfl | hx
          · have := ih.1 m (List.mem_cons_self ..); omega
          · exact ih.1 x (List.mem_cons_of_mem _ hx)
      · rcases List.mem_cons.1 ih.2 with h | h
        · rw [h]; exact List.mem_cons_self ..
        · exact List.mem_cons_of_mem _ (List.mem_cons_of_mem _ h)
end Go.Proofs.Ytcndbehgklkiiaa.Ac
