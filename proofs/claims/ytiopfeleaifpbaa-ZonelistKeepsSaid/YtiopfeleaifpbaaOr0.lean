import Derived.Test.YtiopfeleaifpbaaKc
import Derived.Sort.LotA
namespace Go.Proofs.Ytiopfeleaifpbaa.Bd
open Go Go.RowKit Go.Sort Go.Lib
set_option linter.unusedVariables false
set_option linter.unusedSimpArgs false
-- A STABLE SORT OF WHAT ASCENDS IS THE SORT BY KEY AND PLACE
def kl {m : Nat} (K : Fin (m + 1) → Int) (x y : Fin (m + 1)) : Bool := decide (K x < K y ∨ (K x = K y ∧ x.val < y.val))
theorem kl_swo {m : Nat} (K : Fin (m + 1) → Int) : SWO (kl K) where
  irrefl x := by unfold kl; simp
  trans x y z h1 h2 := by unfold kl at *; simp only [decide_eq_true_eq] at *; omega
  ntrans x y z h1 h2 := by unfold kl at *; simp only [decide_eq_false_iff_not] at *; omega
theorem inner_kl {m : Nat} {K : Fin (m + 1) → Int} {lt : Fin (m + 1) → Fin (m + 1) → Bool} (hl : ∀ x y, lt x y = decide (K x < K y)) : ∀ (j : Nat) (d : Array (Fin (m + 1))), j < d.size → (∀ p, p < j → (d[p]!).val < (d[j]!).val) → insInner lt 0 j d = insInner (kl K) 0 j d
  | 0, d, _, _ => rfl
  | j + 1, d, hs, h => by
    have e : lt d[j + 1]! d[j]! = kl K d[j + 1]! d[j]! := by
      have g := h j (by omega)
      rw [hl]; unfold kl
      congr 1
      apply propext
      omega
    unfold insInner
    rw [e]
    split
    · refine inner_kl hl j _ (by rw [swp_size]; omega) fun p hp => ?_
      rw [swp_get d hs (by omega), swp_get d hs (by omega), if_neg (by omega), if_neg (by omega), if_pos rfl]
      exact h p (by omega)
    · rfl
theorem outer_kl {m : Nat} {K : Fin (m + 1) → Int} {lt : Fin (m + 1) → Fin (m + 1) → Bool} (hl : ∀ x y, lt x y = decide (K x < K y)) (b : Nat) : ∀ (n i : Nat) (d : Array (Fin (m + 1))), b - i = n → 0 < i → b ≤ d.size → SortedIn (kl K) 0 i d → (∀ q, i ≤ q → q < b → ∀ p, p < q → (d[p]!).val < (d[q]!).val) → insOuter lt 0 b i d = insOuter (kl K) 0 b i d
  | 0, i, d, hn, _, _, _, _ => by
    rw [insOuter, if_neg (show ¬ i < b by omega)]
    conv => rhs; rw [insOuter, if_neg (show ¬ i < b by omega)]
  | n + 1, i, d, hn, hi, hb, hs, h => by
    have hlt : i < b := by omega
    rw [insOuter, if_pos hlt]
    conv => rhs; rw [insOuter, if_pos hlt]
    rw [inner_kl hl i d (by omega) (h i (Nat.le_refl _) hlt)]
    have sp := insInner_spec (kl_swo K) swp_permIn permIn_refl permIn_trans 0 (i + 1) i (Nat.lt_succ_self i) i d (Nat.zero_le _) (Nat.le_refl _) (by omega) ⟨fun p q hap hpq hqi _ hq => hs p q hap hpq (by omega), fun q h1 h2 => by omega⟩
    refine outer_kl hl b n (i + 1) _ (by omega) (by omega) (by rw [sp.1.1]; exact hb) sp.2 fun q h1 h2 p hp => ?_
    rw [sp.1.2.1 q (Or.inr h1)]
    by_cases hpi : p < i + 1
    · exact permIn_all d _ 0 (i + 1) (fun x => x.val < (d[q]!).val) (by omega) sp.1 (fun p' _ hp' => h q (by omega) h2 p' (by omega)) p (Nat.zero_le _) hpi
    · rw [sp.1.2.1 p (Or.inr (by omega))]
      exact h q (by omega) h2 p hp
theorem asc_get {m : Nat} {zs : List (Fin (m + 1))} (hz : zs.Pairwise (fun x y => x.val < y.val)) {p q : Nat} (hq : q < zs.length) (hp : p < q) : (zs.toArray[p]!).val < (zs.toArray[q]!).val := by
  rw [getElem!_pos zs.toArray p (by simpa using Nat.lt_trans hp hq), getElem!_pos zs.toArray q (by simpa using hq)]
  simpa using (List.pairwise_iff_getElem.1 hz) p q (Nat.lt_trans hp hq) hq hp
theorem srtd_kl {m : Nat} {K : Fin (m + 1) → Int} {cf : Fin (m + 1) → Fin (m + 1) → Int} (hcf : ∀ x y, cf x y < 0 ↔ K x < K y) {zs : List (Fin (m + 1))} (hz : zs.Pairwise (fun x y => x.val < y.val)) :
    (srtd cf zs).Perm zs ∧ (srtd cf zs).Pairwise (fun x y => K x < K y ∨ (K x = K y ∧ x.val < y.val)) := by
  have e : Sort.insertionSort (ltOf cf) zs.toArray 0 zs.length = Sort.insertionSort (kl K) zs.toArray 0 zs.length := by
    unfold Sort.insertionSort
    refine outer_kl (fun x y => by unfold ltOf; congr 1; exact propext (hcf x y)) zs.length _ _ _ rfl (by omega) (by simp) (fun i j h1 h2 h3 => by omega) fun q h1 h2 p hp => asc_get hz h2 hp
  have h := insertionSort_holds (lt := kl K) (kl_swo K) zs.toArray 0 zs.length (Nat.zero_le _) (by simp)
  rw [← e] at h
  obtain ⟨⟨h1, h2, h3⟩, h4⟩ := h
  have hsz : (Sort.insertionSort (ltOf cf) zs.toArray 0 zs.length).size = zs.length := by rw [h1]; simp
  have hp : (srtd cf zs).Perm zs := by
    unfold srtd
    have q1 : ∀ {d : Array (Fin (m + 1))} {n : Nat}, d.size = n → d.extract 0 n = d := fun h => by rw [← h]; exact Array.extract_size
    rw [q1 hsz, q1 (show zs.toArray.size = zs.length by simp)] at h3
    simpa using h3
  refine ⟨hp, ?_⟩
  have hnd : (srtd cf zs).Nodup := hp.nodup_iff.2 (hz.imp fun h e => by rw [e] at h; omega)
  rw [List.pairwise_iff_getElem]
  intro i j hi hj hij
  have hlen : (srtd cf zs).length = zs.length := hp.length_eq
  have g := h4 i j (Nat.zero_le _) hij (by omega)
  have ei : (Sort.insertionSort (ltOf cf) zs.toArray 0 zs.length)[i]! = (srtd cf zs)[i] := by
    rw [getElem!_pos _ i (by omega)]; simp [srtd]
  have ej : (Sort.insertionSort (ltOf cf) zs.toArray 0 zs.length)[j]! = (srtd cf zs)[j] := by
    rw [getElem!_pos _ j (by omega)]; simp [srtd]
  rw [ei, ej] at g
  have hne : (srtd cf zs)[i] ≠ (srtd cf zs)[j] := fun e => by
    have := (List.pairwise_iff_getElem.1 hnd) i j hi hj hij
    exact this e
  unfold kl at g
  simp only [decide_eq_false_iff_not] at g
  have hv : ((srtd cf zs)[i]).val ≠ ((srtd cf zs)[j]).val := fun e => hne (Fin.ext e)
  omega
/-- two lists that ascend strictly and have the same members are one -/
theorem asc_uniq {α : Type} {R : α → α → Prop} (hi : ∀ a, ¬ R a a) (ha : ∀ a b, R a b → ¬ R b a) : ∀ {l1 l2 : List α}, l1.Pairwise R → l2.Pairwise R → (∀ x, x ∈ l1 ↔ x ∈ l2) → l1 = l2
  | [], [], _, _, _ => rfl
  | [], b :: t, _, _, h => absurd ((h b).2 (List.mem_cons_self ..)) (by simp)
  | a :: t, [], _, _, h => absurd ((h a).1 (List.mem_cons_self ..)) (by simp)
  | a :: t1, b :: t2, h1, h2, h => by
    rw [List.pairwise_cons] at h1 h2
    have e : a = b := by
      rcases List.mem_cons.1 ((h a).1 (List.mem_cons_self ..)) with e | e
      · exact e
      · rcases List.mem_cons.1 ((h b).2 (List.mem_cons_self ..)) with e2 | e2
        · exact e2.symm
        · exact absurd (h1.1 b e2) (ha _ _ (h2.1 a e))
    subst e
    congr 1
    refine asc_uniq hi ha h1.2 h2.2 fun x => ⟨fun hx => ?_, fun hx => ?_⟩
    · rcases List.mem_cons.1 ((h x).1 (List.mem_cons_of_mem _ hx)) with e | e
      · exact absurd (e ▸ h1.1 x hx) (hi _)
      · exact e
    · rcases List.mem_cons.1 ((h x).2 (List.mem_cons_of_mem _ hx)) with e | e
      · exact absurd (e ▸ h2.1 x hx) (hi _)
      · exact e
-- LISTS OF INDICES
theorem un_mem {h : Int → Bool} : ∀ {k : Nat} {x : Int}, x ∈ un h k ↔ (0 ≤ x ∧ x < k ∧ h x = true)
  | 0, x => by simp [un]; omega
  | k + 1, x => by
    unfold un
    have ih := @un_mem h k x
    split
    · rename_i e
      rw [List.mem_append, ih, List.mem_singleton]
      constructor
      · rintro (⟨a, b, c⟩ | rfl)
        · exact ⟨a, by omega, c⟩
        · exact ⟨by omega, by omega, e⟩
      · rintro ⟨a, b, c⟩
        by_cases hx : x = (k : Int)
        · exact Or.inr hx
        · exact Or.inl ⟨a, by omega, c⟩
    · rename_i e
      rw [ih]
      constructor
      · rintro ⟨a, b, c⟩; exact ⟨a, by omega, c⟩
      · rintro ⟨a, b, c⟩
        refine ⟨a, ?_, c⟩
        by_cases hx : x = (k : Int)
        · subst hx; exact absurd c e
        · omega
theorem un_asc {h : Int → Bool} : ∀ {k : Nat}, (un h k).Pairwise (· < ·)
  | 0 => List.Pairwise.nil
  | k + 1 => by
    unfold un
    split
    · refine List.pairwise_append.2 ⟨un_asc, List.pairwise_singleton _ _, fun a ha b hb => ?_⟩
      have := un_mem.1 ha
      rw [List.mem_singleton.1 hb]; omega
    · exact un_asc
/-- as numbers below m + 1 -/
theorem un_fin (h : Int → Bool) (m : Nat) : ∀ k, k ≤ m + 1 → ∃ zs : List (Fin (m + 1)), un h k = zs.map fv ∧ zs.Pairwise (fun x y => x.val < y.val)
  | 0, _ => ⟨[], rfl, List.Pairwise.nil⟩
  | k + 1, hk => by
    obtain ⟨zs, e, p⟩ := un_fin h m k (by omega)
    by_cases hh : h k = true
    · refine ⟨zs ++ [⟨k, by omega⟩], by rw [un_1 hh, e, List.map_append]; rfl, List.pairwise_append.2 ⟨p, List.pairwise_singleton _ _, fun a ha b hb => ?_⟩⟩
      have : fv a ∈ un h k := by rw [e]; exact List.mem_map_of_mem ha
      have g := (un_mem.1 this).2.1
      rw [List.mem_singleton.1 hb]
      unfold fv at g
      show a.val < k
      omega
    · exact ⟨zs, by rw [un_0 (by simpa using hh), e], p⟩
end Go.Proofs.Ytiopfeleaifpbaa.Bd
