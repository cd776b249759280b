/-
  Plain mathematics: the number of ones of a word, as the library counts them. No program text.
-/
import Derived.Test.YtdpdlbonlpdkjaaDoorMath3
namespace Go.Proofs.YtdpdlbonlpdkjaaDoor.Bs
/-- how many i below n have p -/
def bc (p : Nat → Bool) : Nat → Nat
  | 0 => 0
  | n + 1 => bc p n + (if p n = true then 1 else 0)
theorem bc_congr {p q : Nat → Bool} (n : Nat) (h : ∀ i, i < n → p i = q i) : bc p n = bc q n := by
  induction n with
  | zero => rfl
  | succ n ih => simp only [bc]; rw [ih (fun i hi => h i (by omega)), h n (by omega)]
theorem bc_add (p : Nat → Bool) (m n : Nat) : bc p (m + n) = bc p m + bc (fun i => p (m + i)) n := by
  induction n with
  | zero => rfl
  | succ n ih => rw [← Nat.add_assoc]; simp only [bc]; rw [ih]; omega
theorem bc_le (p : Nat → Bool) (n : Nat) : bc p n ≤ n := by
  induction n with
  | zero => exact Nat.le_refl _
  | succ n ih => simp only [bc]; split <;> omega
/-- ones of the lowest n bits -/
def pc : Nat → Nat → Nat
  | 0, _ => 0
  | n + 1, x => x % 2 + pc n (x / 2)
theorem pc_bc (n : Nat) : ∀ x, pc n x = bc x.testBit n := by
  induction n with
  | zero => intro x; rfl
  | succ n ih =>
    intro x
    have h := bc_add x.testBit 1 n
    rw [Nat.add_comm 1 n] at h
    rw [h, pc, ih]
    congr 1
    · simp only [bc, Nat.testBit_zero]
      rcases Nat.mod_two_eq_zero_or_one x with e | e <;> simp [e]
    · apply bc_congr
      intro i _
      rw [Nat.add_comm 1 i, Nat.testBit_succ]
theorem pc_add (m n x : Nat) : pc (m + n) x = pc m x + pc n (x / 2 ^ m) := by
  induction m generalizing x with
  | zero => simp [pc]
  | succ m ih =>
    rw [Nat.add_right_comm m 1 n]
    simp only [pc]
    rw [ih, Nat.div_div_eq_div_mul, Nat.pow_succ, Nat.mul_comm 2, Nat.add_assoc]
theorem pc_mod (n x : Nat) : pc n (x % 2 ^ n) = pc n x := by
  rw [pc_bc, pc_bc]
  apply bc_congr
  intro i hi
  rw [Nat.testBit_mod_two_pow]
  simp [hi]

/-- a byte repeated -/
def M (p : Nat) : Nat → Nat
  | 0 => 0
  | n + 1 => 256 * M p n + p
theorem and_step (q b m p : Nat) (hb : b < 256) (hp : p < 256) : (256 * q + b) &&& (256 * m + p) = 256 * (q &&& m) + (b &&& p) := by
  have hd : ((256 * q + b) &&& (256 * m + p)) / 2 ^ 8 = q &&& m := by
    rw [Nat.and_div_two_pow]
    congr 1 <;> omega
  have hm : ((256 * q + b) &&& (256 * m + p)) % 2 ^ 8 = b &&& p := by
    rw [Nat.and_mod_two_pow]
    congr 1 <;> omega
  omega
def f1 (n x : Nat) : Nat := (x / 2 &&& M 85 n) + (x &&& M 85 n)
def f2 (n x : Nat) : Nat := (x / 4 &&& M 51 n) + (x &&& M 51 n)
def f3 (n x : Nat) : Nat := (x / 16 + x) &&& M 15 n
def g1 (b : Nat) : Nat := (b / 2 &&& 85) + (b &&& 85)
def g2 (b : Nat) : Nat := (b / 4 &&& 51) + (b &&& 51)
def g3 (b : Nat) : Nat := (b / 16 + b) &&& 15
theorem dec1 : ∀ b, b < 256 → (128 + b / 2) &&& 85 = (b / 2) &&& 85 := by decide +kernel
theorem dec2 : ∀ b, b < 256 → ∀ r, r < 4 → (64 * r + b / 4) &&& 51 = (b / 4) &&& 51 := by decide +kernel
theorem dec3 : ∀ b, b < 256 → g1 b < 256 ∧ g2 (g1 b) < 256 ∧ g2 (g1 b) % 16 ≤ 4 ∧ g2 (g1 b) / 16 ≤ 4 ∧ g3 (g2 (g1 b)) = pc 8 b ∧ pc 8 b ≤ 8 := by decide +kernel
theorem f1_step (n q b : Nat) (hb : b < 256) : f1 (n + 1) (256 * q + b) = 256 * f1 n q + g1 b := by
  unfold f1 g1
  simp only [M]
  have e : (256 * q + b) / 2 = 256 * (q / 2) + (128 * (q % 2) + b / 2) := by omega
  rw [e, and_step _ _ _ _ (by omega) (by omega), and_step _ _ _ _ hb (by omega)]
  have h : (128 * (q % 2) + b / 2) &&& 85 = (b / 2) &&& 85 := by
    rcases Nat.mod_two_eq_zero_or_one q with h | h <;> rw [h]
    · simp
    · exact dec1 b hb
  rw [h]
  omega
theorem f2_step (n q b : Nat) (hb : b < 256) : f2 (n + 1) (256 * q + b) = 256 * f2 n q + g2 b := by
  unfold f2 g2
  simp only [M]
  have e : (256 * q + b) / 4 = 256 * (q / 4) + (64 * (q % 4) + b / 4) := by omega
  rw [e, and_step _ _ _ _ (by omega) (by omega), and_step _ _ _ _ hb (by omega), dec2 b hb (q % 4) (by omega)]
  omega
theorem f3_step (n q b : Nat) (hb : b % 16 ≤ 4) (hb2 : b / 16 ≤ 4) (hq : q % 16 ≤ 4) : f3 (n + 1) (256 * q + b) = 256 * f3 n q + g3 b := by
  unfold f3 g3
  simp only [M]
  have e : (256 * q + b) / 16 + (256 * q + b) = 256 * (q / 16 + q) + (16 * (q % 16) + b + b / 16) := by omega
  rw [e, and_step _ _ _ _ (by omega) (by omega)]
  have h1 := Nat.and_two_pow_sub_one_eq_mod (16 * (q % 16) + b + b / 16) 4
  have h2 := Nat.and_two_pow_sub_one_eq_mod (b / 16 + b) 4
  have e1 : (2 ^ 4 - 1 : Nat) = 15 := rfl
  have e2 : (2 ^ 4 : Nat) = 16 := rfl
  rw [e1, e2] at h1 h2
  rw [h1, h2]
  omega
theorem low4 (n x : Nat) : f2 n (f1 n x) % 16 ≤ 4 := by
  cases n with
  | zero => simp [f2, f1, M]
  | succ n =>
    have e : x = 256 * (x / 256) + x % 256 := by omega
    rw [e, f1_step _ _ _ (by omega), f2_step _ _ _ (dec3 _ (by omega)).1]
    have := (dec3 (x % 256) (by omega)).2.2.1
    omega
def F (n x : Nat) : Nat := f3 n (f2 n (f1 n x))
theorem F_step (n x : Nat) : F (n + 1) x = 256 * F n (x / 256) + pc 8 x := by
  have e : x = 256 * (x / 256) + x % 256 := by omega
  obtain ⟨d1, d2, d3, d4, d5, _⟩ := dec3 (x % 256) (by omega)
  have h : F (n + 1) (256 * (x / 256) + x % 256) = 256 * F n (x / 256) + pc 8 (x % 256) := by
    unfold F
    rw [f1_step _ _ _ (by omega), f2_step _ _ _ d1, f3_step _ _ _ d3 d4 (low4 _ _), d5]
  rw [← e] at h
  rw [h, ← pc_mod 8 x]
theorem pc8_le (x : Nat) : pc 8 x ≤ 8 := by
  rw [← pc_mod 8 x]; exact (dec3 _ (Nat.mod_lt _ (by decide))).2.2.2.2.2
theorem F8 (x : Nat) : ∃ c0 c1 c2 c3 c4 c5 c6 c7 : Nat, c0 ≤ 8 ∧ c1 ≤ 8 ∧ c2 ≤ 8 ∧ c3 ≤ 8 ∧ c4 ≤ 8 ∧ c5 ≤ 8 ∧ c6 ≤ 8 ∧ c7 ≤ 8 ∧
    pc 64 x = c0 + c1 + c2 + c3 + c4 + c5 + c6 + c7 ∧
    F 8 x = c0 + 256 * (c1 + 256 * (c2 + 256 * (c3 + 256 * (c4 + 256 * (c5 + 256 * (c6 + 256 * c7)))))) := by
  refine ⟨pc 8 x, pc 8 (x / 256), pc 8 (x / 256 / 256), pc 8 (x / 256 / 256 / 256), pc 8 (x / 256 / 256 / 256 / 256), pc 8 (x / 256 / 256 / 256 / 256 / 256),
    pc 8 (x / 256 / 256 / 256 / 256 / 256 / 256), pc 8 (x / 256 / 256 / 256 / 256 / 256 / 256 / 256), pc8_le _, pc8_le _, pc8_le _, pc8_le _, pc8_le _, pc8_le _, pc8_le _, pc8_le _, ?_, ?_⟩
  · have h := fun (n y : Nat) => pc_add 8 n y
    have e : (2 ^ 8 : Nat) = 256 := rfl
    simp only [e] at h
    rw [show (64 : Nat) = 8 + 56 from rfl, h, show (56 : Nat) = 8 + 48 from rfl, h, show (48 : Nat) = 8 + 40 from rfl, h, show (40 : Nat) = 8 + 32 from rfl, h, show (32 : Nat) = 8 + 24 from rfl, h,
      show (24 : Nat) = 8 + 16 from rfl, h, show (16 : Nat) = 8 + 8 from rfl, h]
    omega
  · rw [F_step, F_step, F_step, F_step, F_step, F_step, F_step, F_step]
    have : ∀ y, F 0 y = 0 := fun y => by simp [F, f3, M]
    rw [this]
    omega
theorem tail_ok (x c d f g : Nat) (hc : c = F 8 x) (hd : d = c + c / 256) (hf : f = d + d / 65536) (hg : g = f + f / 4294967296) : g % 128 = pc 64 x ∧ pc 64 x ≤ 64 ∧ c < 2 ^ 60 ∧ d < 2 ^ 61 ∧ f < 2 ^ 62 ∧ g < 2 ^ 63 := by
  obtain ⟨c0, c1, c2, c3, c4, c5, c6, c7, h0, h1, h2, h3, h4, h5, h6, h7, hp, hF⟩ := F8 x
  rw [hF] at hc
  clear hF
  rw [hp]
  clear hp
  refine ⟨?_, by omega, by omega, by omega, by omega, by omega⟩
  have h1' : c / 256 = c1 + 256 * (c2 + 256 * (c3 + 256 * (c4 + 256 * (c5 + 256 * (c6 + 256 * c7))))) := by omega
  have d1 : d = (c0 + c1) + 256 * ((c1 + c2) + 256 * ((c2 + c3) + 256 * ((c3 + c4) + 256 * ((c4 + c5) + 256 * ((c5 + c6) + 256 * ((c6 + c7) + 256 * c7)))))) := by omega
  clear hc hd h1'
  have d2 : d / 65536 = (c2 + c3) + 256 * ((c3 + c4) + 256 * ((c4 + c5) + 256 * ((c5 + c6) + 256 * ((c6 + c7) + 256 * c7)))) := by omega
  have e1 : f = (c0 + c1 + c2 + c3) + 256 * ((c1 + c2 + c3 + c4) + 256 * ((c2 + c3 + c4 + c5) + 256 * ((c3 + c4 + c5 + c6) + 256 * ((c4 + c5 + c6 + c7) + 256 * ((c5 + c6 + c7) + 256 * ((c6 + c7) + 256 * c7)))))) := by omega
  clear hf d1 d2
  have e2 : f / 4294967296 = (c4 + c5 + c6 + c7) + 256 * ((c5 + c6 + c7) + 256 * ((c6 + c7) + 256 * c7)) := by omega
  have g1' : g = (c0 + c1 + c2 + c3 + c4 + c5 + c6 + c7) + 256 * ((c1 + c2 + c3 + c4 + c5 + c6 + c7) + 256 * ((c2 + c3 + c4 + c5 + c6 + c7) + 256 * ((c3 + c4 + c5 + c6 + c7) + 256 * ((c4 + c5 + c6 + c7) + 256 * ((c5 + c6 + c7) + 256 * ((c6 + c7) + 256 * c7)))))) := by omega
  omega
end Go.Proofs.YtdpdlbonlpdkjaaDoor.Bs
