import Derived.Test.YtdpdlbonlpdkjabMerge
import Derived.Maps.AppendAt
import Derived.Deep.RegionLaw
namespace Go.Proofs.Ytdpdlbonlpdkjab.Iv
open Go Go.RowKit
set_option linter.unusedVariables false
theorem step_append_own {P : Program} {w : World} {ops : Array Oper} {o : Oper} {a : Act} {K : Act → World → Prop} {Q : Exit → Act → World → Prop} {E : Prop} (hgd : o.guard = none) (s x : Operand) (t : TypeId)
    (ho : o.op = .call { callee := .builtin .append, args := #[s, x], argTypes := #[t, t] })
    (base : Nat) (e : TypeId) (i : TypeInfo) (z : Value) (size bytes : Nat) (ht : P.underlying t = some (.slice e)) (hi : P.info? e = some i) (hz : i.zero = some z)
    (hsize : i.size = size) (hby : i.bytes = bytes) (hzs : z.cells.size = size) (hsz : 0 < size)
    (v : Value) (n : Nat) (xs : List Value) (hs : a.eval s = v) (hown : w.ownsRow base e size v n xs)
    (ad : Addr) (m c : Nat) (news : List Value) (hx : a.eval x = .slice (some ad) m c) (hl : news.length = m * size) (hnews : ∀ j u, news[j]? = some u → w.cell? (ad.add j) = some u) (h1 : ∀ u ∈ news, u.oneCell' = true)
    (h63 : n + m ≤ maxLen) (hbytes : (n + m) * bytes ≤ 140737488355328) (hbase : base ≤ w.heap.size)
    (h : ∀ v' w', w'.ownsRow base e size v' (n + m) (xs ++ news) → w.grownBy w' v.ownBlock → K (a.put o.dst v') w') :
    if Region.wanted o (yielded ops a.tmps) = true then Oper.wp P o a w K Q else E := by
  have hw : Region.wanted o (yielded ops a.tmps) = true := by simp [Region.wanted, hgd]
  rw [if_pos hw]
  exact wp_append_own w s x t ho base e i z size bytes ht hi hz hsize hby hzs hsz v n xs hs hown ad m c news hx hl hnews h1 h63 hbytes hbase fun v' w' h2 h3 _ => h v' w' h2 h3
def Ints (w : World) (A : Option Addr) (l : List Int) : Prop := l ≠ [] → ∃ b off, A = some ⟨b, off, none⟩ ∧ b < w.heap.size ∧ ∀ k, k < l.length → w.cell? ⟨b, off + k, none⟩ = some (.int .i64 (l.getD k 0))
theorem take_edges {L : IL} {k : Nat} (h : k < L.length) : edges (L.take (k + 1)) = edges (L.take k) ++ [(pairAt L k).1, (pairAt L k).2] := by
  have e : L[k]? = some (pairAt L k) := by unfold pairAt; rw [List.getD_eq_getElem?_getD, List.getElem?_eq_getElem h]; rfl
  rw [List.take_add_one, edges_append, e]
  rfl
set_option maxHeartbeats 1000000 in
theorem iv_any (A : Option Addr) (L : IL) (c : Nat) (w : World) (hr : Ints w A (edges L)) (hn : L.length ≤ 100) :
    Calls Try.prog 36 #[.slice A (2 * L.length) c] w fun e w' => ∃ A' c', e = .returned (.slice A' L.length c') ∧ MineI w.heap.size w' A' L ∧ Below w.heap.size w w' := by
  obtain ⟨i0, hi0, hz0, hz1, hz2⟩ := info_parts info30
  have HR := hide hr
  clear hr
  go_enter Try.func36, Try.ntmps36
  go_wp2
  go_loopw [3, 4] (fun v i wr => ∃ (k j : Nat), k ≤ L.length ∧ j = 2 * k ∧ i = .int .i64 j ∧ wr.ownsRow w.heap.size 30 2 v k ((edges (L.take k)).map ic) ∧ Below w.heap.size w wr) (fun _ i _ => 2 * L.length - (intOf i).toNat)
  case atStart => exact ⟨0, 0, Nat.zero_le _, rfl, rfl, ⟨rfl, .inl ⟨rfl, rfl⟩⟩, brefl _⟩
  case round =>
    obtain ⟨k, j, hk, hj, rfl, hown, hb⟩ := hrel
    obtain ⟨A1, n1, rfl⟩ := row_form hown
    have HOWN := hide hown
    have HB := hide hb
    have HJ := hide hj
    by_cases hlt : k < L.length
    · obtain ⟨b, off, rfl, hbl, hcs⟩ := HR.out (by intro e; have := edges_length L; rw [e] at this; simp at this; omega)
      have hel := edges_length L
      have c0 := hcs j (by omega)
      have c1 := hcs (j + 1) (by omega)
      rw [hj, edges_even] at c0
      rw [hj, edges_odd] at c1
      rw [← hj] at c0 c1
      have d0 : wr.cell? ⟨b, off + j, none⟩ = some (.int .i64 (pairAt L k).1) := (hb.cell (p := ⟨b, off + j, none⟩) hbl).trans c0
      have d1 : wr.cell? ⟨b, off + (j + 1), none⟩ = some (.int .i64 (pairAt L k).2) := (hb.cell (p := ⟨b, off + (j + 1), none⟩) hbl).trans c1
      have hbl2 : b < wr.heap.size := Nat.lt_of_lt_of_le hbl hb.size
      have HT := hide (take_edges hlt)
      have q0 : (0 : Int) ≤ (j : Int) := by omega
      have q1 : (j : Int) + 1 < 2 * (L.length : Int) := by omega
      have q2 : (j : Int) < 2 * (L.length : Int) := by omega
      have q5 : (0 : Int) ≤ (j : Int) + 1 := by omega
      have q3 : IntKind.i64.wrap ((j : Int) + 1) = (j : Int) + 1 := by rw [IntKind.wrap_i64]; omega
      have q4 : ((j : Int) + 1).toNat = j + 1 := by omega
      generalize (pairAt L k).1 = f at *
      generalize (pairAt L k).2 = t at *
      clear c0 c1 hcs hown hb hj hel
      go_wp2
      go_region_law (refine step_append_own rfl (.tmp 12) (.tmp 23) 22 rfl w.heap.size 30 i0 _ 2 16 Try.underlying22 hi0 hz0 hz1 hz2 rfl (by omega) (.slice A1 k n1) k ((edges (L.take k)).map ic) rfl (by exact HOWN.out.alloc _) ⟨wr.heap.size, 0, none⟩ 1 1 [ic f, ic t] rfl rfl (by exact cell_two_new _ _ _ _) (by intro u hu; simp at hu; rcases hu with rfl | rfl <;> rfl) (by simp only [maxLen]; omega) (by omega) (by have := HB.out.size; show _ ≤ (World.alloc _ _).heap.size; simp; omega) ?_; intro v1 w1 hown1 hg1; obtain ⟨A2, n2, rfl⟩ := row_form hown1; have HO1 := hide hown1; have HG1 := hide hg1; clear hown1 hg1)
      all_goals
        clear q3 q4
        go_wp2
        go_roundw
        case rel => exact ⟨k + 1, j + 2, by omega, by have := HJ.out; omega, by go_num, by rw [HT.out, List.map_append]; exact HO1.out, (below_drewN (bal HB.out _) 1).trans (row_below (HOWN.out.alloc _) HG1.out (Nat.le_refl _) (by have := HB.out.size; show _ ≤ (World.alloc _ _).heap.size; simp; omega))⟩
        case measure => have := HJ.out; simp [intOf]; omega
    · have e1 : k = L.length := by omega
      have q0 : (0 : Int) ≤ (j : Int) := by omega
      have q2 : (j : Int) ≤ 2 * (L.length : Int) := by omega
      have q3 : 2 * (L.length : Int) ≤ (j : Int) := by omega
      have hd : decide ((j : Int) + 1 < 2 * (L.length : Int)) = false := decide_eq_false (by omega)
      have HM := hide (MineI.of_row (L := L) (c := n1) e1 (by rw [e1, List.take_length] at hown; rw [e1]; exact hown))
      subst e1
      clear hown hb hj
      go_wp2
      go_ret
      exact ⟨A1, n1, rfl, HM.out, HB.out⟩
end Go.Proofs.Ytdpdlbonlpdkjab.Iv
