import Derived.Test.YtclkflnonckajaaMath
/-
  DERIVED. Guarantees: what leaves below an account, effective guarantees, guards.
-/
namespace Go.Proofs.Ytclkflnonckajaa.Ac
set_option linter.unusedVariables false
def nAt (l : Is) (k : Nat) : Int := l.getD k 0
/-- a sum over the first n accounts -/
def sm (f : Nat → Int) : Nat → Int
  | 0 => 0
  | n + 1 => sm f n + f n
theorem sm_congr {f g : Nat → Int} : ∀ n : Nat, (∀ i, i < n → f i = g i) → sm f n = sm g n
  | 0, _ => rfl
  | n + 1, h => by show sm f n + f n = sm g n + g n; rw [sm_congr n (fun i hi => h i (by omega)), h n (by omega)]
theorem sm_add {f g : Nat → Int} : ∀ n : Nat, sm (fun i => f i + g i) n = sm f n + sm g n
  | 0 => rfl
  | n + 1 => by show sm _ n + (f n + g n) = (sm f n + f n) + (sm g n + g n); rw [sm_add n]; omega
theorem sm_nonneg {f : Nat → Int} : ∀ n : Nat, (∀ i, i < n → 0 ≤ f i) → 0 ≤ sm f n
  | 0, _ => Int.le_refl _
  | n + 1, h => by show 0 ≤ sm f n + f n; have := sm_nonneg n (fun i hi => h i (by omega)); have := h n (by omega); omega
theorem sm_mono {f g : Nat → Int} : ∀ n : Nat, (∀ i, i < n → f i ≤ g i) → sm f n ≤ sm g n
  | 0, _ => Int.le_refl _
  | n + 1, h => by show sm f n + f n ≤ sm g n + g n; have := sm_mono n (fun i hi => h i (by omega)); have := h n (by omega); omega
theorem sm_le {f : Nat → Int} (m : Int) : ∀ n : Nat, (∀ i, i < n → f i ≤ m) → sm f n ≤ n * m
  | 0, _ => by show (0 : Int) ≤ _; simp
  | n + 1, h => by
    show sm f n + f n ≤ _
    have h1 := sm_le m n (fun i hi => h i (by omega))
    have h2 := h n (by omega)
    have e : ((n + 1 : Nat) : Int) * m = n * m + m := by rw [Int.natCast_add, Int.add_mul]; simp
    rw [e]; omega
theorem sm_one {a : Nat} (v : Nat → Int) : ∀ n : Nat, sm (fun i => if i = a then v i else 0) n = if a < n then v a else 0
  | 0 => by rw [if_neg (by omega)]; rfl
  | n + 1 => by
    show sm _ n + (if n = a then v n else 0) = _
    rw [sm_one v n]
    by_cases e : n = a
    · subst e; rw [if_neg (by omega), if_pos rfl, if_pos (by omega)]; omega
    · by_cases c : a < n
      · rw [if_pos c, if_neg e, if_pos (by omega)]; omega
      · rw [if_neg c, if_neg e, if_neg (by omega)]; omega
/-- sums over children and sums over accounts change places -/
theorem kc_sm {L : List A5} {x : Int} {F : Nat → Nat → Int} (m : Nat) : ∀ n : Nat, kc L x (fun i => sm (fun c => F c i) m) n = sm (fun c => kc L x (F c) n) m
  | 0 => by
    show (0 : Int) = sm (fun c => 0) m
    induction m with
    | zero => rfl
    | succ m ih => show (0 : Int) = sm (fun c => 0) m + 0; omega
  | n + 1 => by
    show kc L x _ n + _ = sm (fun c => kc L x (F c) n + (if 0 < n ∧ pa L n = x then F c n else 0)) m
    rw [sm_add (f := fun c => kc L x (F c) n) (g := fun c => if 0 < n ∧ pa L n = x then F c n else 0), kc_sm m n]
    congr 1
    split
    · rfl
    · induction m with
      | zero => rfl
      | succ m ih => show (0 : Int) = sm (fun c => 0) m + 0; omega
/-- the leaving pages of x and of all accounts below it -/
def tS (L : List A5) (v : Is) (x : Nat) : Int := sm (fun c => ip L c x * nAt v c) L.length
section
variable {L : List A5} {v : Is}
theorem tS_rec (V : Vd L) {x : Nat} (hx : x < L.length) : tS L v x = nAt v x + kc L x (tS L v) L.length := by
  unfold tS
  rw [kc_sm (F := fun c i => ip L c i * nAt v c) L.length L.length]
  have e1 : sm (fun c => ip L c x * nAt v c) L.length = sm (fun c => (if c = x then nAt v c else 0) + kc L x (fun i => ip L c i * nAt v c) L.length) L.length := by
    refine sm_congr _ fun c hc => ?_
    have g := ip_kids V.tr V.len.2 (x : Int) (c : Int) (by omega) (by omega)
    have e2 : kc L x (fun i => ip L c i * nAt v c) L.length = nAt v c * kc L x (fun i => ip L c i) L.length := by
      rw [← kc_mul (f := fun i => ip L (c : Int) i)]
      exact kc_congr _ fun i _ _ _ => Int.mul_comm _ _
    rw [e2, g, Int.add_mul, Int.mul_comm (nAt v c)]
    congr 1
    by_cases e : c = x
    · rw [if_pos e, if_pos ⟨by omega, by omega⟩, Int.one_mul]
    · rw [if_neg e, if_neg (by omega), Int.zero_mul]
  rw [e1, sm_add (f := fun c => if c = x then nAt v c else 0) (g := fun c => kc L x (fun i => ip L c i * nAt v c) L.length), sm_one (nAt v), if_pos hx]
theorem ip_mul (a x : Int) (z : Int) (h : 0 ≤ z) : 0 ≤ ip L a x * z ∧ ip L a x * z ≤ z := by
  unfold ip; split
  · rw [Int.one_mul]; omega
  · rw [Int.zero_mul]; omega
theorem tS_nonneg (h : ∀ i, i < L.length → 0 ≤ nAt v i) (x : Nat) : 0 ≤ tS L v x := sm_nonneg _ fun i hi => (ip_mul _ _ _ (h i hi)).1
theorem tS_le (h8 : L.length ≤ 8) (h : ∀ i, i < L.length → inr (nAt v i)) (x : Nat) : tS L v x ≤ 8388608 := by
  have := sm_le (f := fun c => ip L c x * nAt v c) 1048576 L.length (fun i hi => by
    have := ip_mul (L := L) i x (nAt v i) (h i hi).1
    have := (h i hi).2
    show ip L i x * nAt v i ≤ _
    omega)
  unfold tS
  omega
/-- children have higher numbers -/
theorem kc_low (V : tr L) {x : Nat} {f : Nat → Int} : ∀ n : Nat, n ≤ x + 1 → n ≤ L.length → kc L x f n = 0
  | 0, _, _ => rfl
  | n + 1, h, hl => by
    show kc L x f n + _ = 0
    rw [kc_low V n (by omega) (by omega), if_neg (fun c => by have := V.2 n (by omega) c.1; omega)]
    rfl
theorem tS_mono {u : Is} (h : ∀ i, i < L.length → nAt v i ≤ nAt u i) (x : Nat) : tS L v x ≤ tS L u x := by
  refine sm_mono _ fun i hi => ?_
  have := h i hi
  show ip L i x * nAt v i ≤ ip L i x * nAt u i
  unfold ip; split
  · rw [Int.one_mul, Int.one_mul]; exact this
  · rw [Int.zero_mul, Int.zero_mul]; exact Int.le_refl _
end
-- EFFECTIVE GUARANTEES
def cl (L : List A5) (k : Nat) : Int := min (mn L k) (us L k)
def cs (L : List A5) (x : Int) : Int := kc L x (cl L) L.length
def efF (L : List A5) : Nat → Nat → Int
  | 0, _ => 0
  | f + 1, k => if k = 0 then us L 0 else if cs L (pa L k) > efF L f (pa L k).toNat then cl L k * efF L f (pa L k).toNat / cs L (pa L k) else cl L k
def ef (L : List A5) (k : Nat) : Int := efF L 9 k
section
variable {L : List A5}
theorem efF_fuel (h : tr L) : ∀ (f k : Nat), k < L.length → k < f → efF L (f + 1) k = efF L f k
  | 0, k, _, hf => absurd hf (by omega)
  | f + 1, k, hl, hf => by
    have hp := tr_pa h hl
    show (if k = 0 then us L 0 else if cs L (pa L k) > efF L (f + 1) (pa L k).toNat then cl L k * efF L (f + 1) (pa L k).toNat / cs L (pa L k) else cl L k) = (if k = 0 then us L 0 else if cs L (pa L k) > efF L f (pa L k).toNat then cl L k * efF L f (pa L k).toNat / cs L (pa L k) else cl L k)
    by_cases e : k = 0
    · rw [if_pos e, if_pos e]
    · have h0 := h.2 k hl (by omega)
      rw [if_neg e, if_neg e, efF_fuel h f _ (by omega) (by omega)]
theorem ef_0 : ef L 0 = us L 0 := by unfold ef; rw [efF, if_pos rfl]
theorem ef_k (V : tr L) (h8 : L.length ≤ 8) {k : Nat} (hk : k < L.length) (h0 : 0 < k) : ef L k = if cs L (pa L k) > ef L (pa L k).toNat then cl L k * ef L (pa L k).toNat / cs L (pa L k) else cl L k := by
  have hp := V.2 k hk h0
  show (if k = 0 then us L 0 else if cs L (pa L k) > efF L 8 (pa L k).toNat then cl L k * efF L 8 (pa L k).toNat / cs L (pa L k) else cl L k) = _
  have e := efF_fuel V 8 (pa L k).toNat (by omega) (by omega)
  rw [if_neg (by omega), ← e]
  rfl
theorem cl_in (V : Vd L) {k : Nat} (hk : k < L.length) : 0 ≤ cl L k ∧ cl L k ≤ mn L k ∧ cl L k ≤ us L k ∧ cl L k ≤ 1048576 := by
  have h := V.rg k hk
  unfold inr at h
  unfold cl
  omega
theorem cs_in (V : Vd L) (x : Int) : 0 ≤ cs L x ∧ cs L x ≤ 8388608 := by
  have h1 := kc_nonneg (L := L) (x := x) (f := cl L) L.length (fun i hi _ _ => (cl_in V hi).1)
  have h2 := kc_le (L := L) (x := x) (f := cl L) 1048576 (by omega) L.length (fun i hi => (cl_in V hi).2.2.2)
  have := V.len
  unfold cs
  omega
theorem scale_le {c g C : Int} (h0 : 0 ≤ c) (hg : 0 ≤ g) (hC : C > g) : 0 ≤ c * g / C ∧ c * g / C ≤ c := by
  have hp : 0 ≤ c * g := Int.mul_nonneg h0 hg
  refine ⟨Int.ediv_nonneg hp (by omega), ?_⟩
  have h1 : c * g ≤ c * C := Int.mul_le_mul_of_nonneg_left (by omega) h0
  have h2 : c * g / C ≤ c * C / C := Int.ediv_le_ediv (by omega) h1
  rw [Int.mul_ediv_cancel _ (by omega)] at h2
  exact h2
theorem ef_in (V : Vd L) : ∀ n : Nat, n ≤ L.length → ∀ k, k < n → 0 ≤ ef L k ∧ ef L k ≤ us L k ∧ (0 < k → ef L k ≤ cl L k)
  | 0, _, k, hk => absurd hk (by omega)
  | n + 1, hn, k, hk => by
    by_cases e : k < n
    · exact ef_in V n (by omega) k e
    · obtain rfl : k = n := by omega
      have hr := (V.rg k (by omega)).1.1
      unfold inr at hr
      by_cases h0 : k = 0
      · subst h0; rw [ef_0]; omega
      · have hp := V.tr.2 k (by omega) (by omega)
        have ih := ef_in V k (by omega) (pa L k).toNat (by omega)
        have c := cl_in V (k := k) (by omega)
        rw [ef_k V.tr V.len.2 (by omega) (by omega)]
        split
        · rename_i hc
          have s := scale_le c.1 ih.1 hc
          omega
        · omega
/-- the guarantees of the children fit in that of the account -/
theorem ef_sum (V : Vd L) {x : Nat} (hx : x < L.length) : kc L x (ef L) L.length ≤ ef L x := by
  have hg := ef_in V L.length (Nat.le_refl _) x hx
  by_cases hc : cs L x > ef L x
  · have e : kc L x (ef L) L.length = kc L x (fun i => cl L i * ef L x / cs L x) L.length := kc_congr _ fun i hi h0 hp => by
      rw [ef_k V.tr V.len.2 hi h0, hp, Int.toNat_natCast, if_pos hc]
    have h1 : cs L x * kc L x (fun i => cl L i * ef L x / cs L x) L.length ≤ kc L x (fun i => ef L x * cl L i) L.length := by
      rw [← kc_mul]
      refine kc_mono _ fun i hi _ _ => ?_
      show cs L x * (cl L i * ef L x / cs L x) ≤ ef L x * cl L i
      rw [Int.mul_comm (ef L x)]
      exact Int.mul_ediv_self_le (by omega)
    rw [kc_mul (f := cl L)] at h1
    have h2 : cs L x * kc L x (fun i => cl L i * ef L x / cs L x) L.length ≤ cs L x * ef L x := by
      rw [Int.mul_comm (cs L x) (ef L x)]; exact h1
    rw [e]
    exact Int.le_of_mul_le_mul_left h2 (by omega)
  · have e : kc L x (ef L) L.length = kc L x (cl L) L.length := kc_congr _ fun i hi h0 hp => by
      rw [ef_k V.tr V.len.2 hi h0, hp, Int.toNat_natCast, if_neg hc]
    rw [e]
    unfold cs at hc
    omega
end
-- GUARDS
def fl (L : List A5) (low : Bool) (x : Nat) : Int := if low = true then lo L x else mn L x
/-- x is a guard -/
def gu (L : List A5) (v : Is) (low : Bool) (x : Int) : Bool := decide (us L x.toNat - tS L v x.toNat ≤ fl L low x.toNat)
/-- a guard on a path before s, or before the root -/
def gdP (L : List A5) (v : Is) (s : Int) (low : Bool) : Is → Bool
  | [] => false
  | x :: l => if 0 < x ∧ x ≠ s then (gu L v low x || gdP L v s low l) else false
def vlv (L : List A5) (v : Is) : Prop := chE L = 0 ∧ v.length = L.length ∧ ∀ k, k < v.length → inr (nAt v k)
instance (L : List A5) (v : Is) : Decidable (vlv L v) := by unfold vlv; infer_instance
def gR (L : List A5) (v : Is) (a s : Int) (low : Bool) : Bool := if vlv L v ∧ iR L a s = true then gdP L v s low (pth L a) else true
def nR (L : List A5) (v : Is) : Is := if vlv L v then (List.range L.length).map (tS L v) else []
def eR (L : List A5) : Is := if chE L = 0 then (List.range L.length).map (ef L) else []
def pr (L : List A5) (x : Int) : Int := kc L x (mn L) L.length
/-- does an account promise too much? -/
def ov (L : List A5) (fr : Int) (x : Nat) : Bool := decide (pr L x > if x = 0 then fr else mn L x)
def fst (f : Nat → Bool) : Nat → Nat → Int
  | 0, _ => -1
  | n + 1, k => if f k = true then (k : Int) else fst f n (k + 1)
def ocE (L : List A5) (fr : Int) : Int := if chE L = 0 then (if inr fr then 0 else 2) else chE L
def ocX (L : List A5) (fr : Int) : Int := if ocE L fr = 0 then fst (ov L fr) L.length 0 else 0
/-- may pages be taken from c? -/
def opn (L : List A5) (v : Is) (s : Int) (c : Nat) : Bool := iR L c s && (decide (own L c > nAt v c) && !gR L v c s false)
def opR (L : List A5) (v : Is) (s : Int) : Int := if vlv L v then fst (opn L v s) L.length 0 else -1
theorem fst_no {f : Nat → Bool} : ∀ (n k : Nat), (∀ i, k ≤ i → i < k + n → f i = false) → fst f n k = -1
  | 0, _, _ => rfl
  | n + 1, k, h => by
    show (if f k = true then (k : Int) else fst f n (k + 1)) = -1
    rw [if_neg (by rw [h k (by omega) (by omega)]; exact Bool.false_ne_true)]
    exact fst_no n (k + 1) (fun i h1 h2 => h i (by omega) (by omega))
theorem fst_at {f : Nat → Bool} {j : Nat} (hj : f j = true) : ∀ (n k : Nat), k ≤ j → j < k + n → (∀ i, k ≤ i → i < j → f i = false) → fst f n k = j
  | 0, k, h1, h2, _ => absurd h2 (by omega)
  | n + 1, k, h1, h2, h => by
    show (if f k = true then (k : Int) else fst f n (k + 1)) = j
    by_cases e : k = j
    · rw [e, if_pos hj]
    · rw [if_neg (by rw [h k (by omega) (by omega)]; exact Bool.false_ne_true)]
      exact fst_at hj n (k + 1) (by omega) (by omega) (fun i a b => h i (by omega) b)
theorem fst_or (f : Nat → Bool) : ∀ (n k : Nat), (fst f n k = -1 ∧ ∀ i, k ≤ i → i < k + n → f i = false) ∨ (∃ j, fst f n k = (j : Nat) ∧ k ≤ j ∧ j < k + n ∧ f j = true)
  | 0, k => .inl ⟨rfl, fun i a b => absurd b (by omega)⟩
  | n + 1, k => by
    by_cases hf : f k = true
    · exact .inr ⟨k, if_pos hf, by omega, by omega, hf⟩
    · have e : fst f (n + 1) k = fst f n (k + 1) := if_neg hf
      rw [e]
      rcases fst_or f n (k + 1) with ⟨h1, h2⟩ | ⟨j, h1, h2, h3, h4⟩
      · refine .inl ⟨h1, fun i a b => ?_⟩
        by_cases e2 : i = k
        · rw [e2]; simpa using hf
        · exact h2 i (by omega) (by omega)
      · exact .inr ⟨j, h1, by omega, by omega, h4⟩
end Go.Proofs.Ytclkflnonckajaa.Ac
