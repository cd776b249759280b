import Derived.Test.YtdpdlbonlpdkjabRPut
import Derived.Deep.RegionHeld3
namespace Go.Proofs.Ytdpdlbonlpdkjab.Iv
open Go Go.RowKit
set_option linter.unusedVariables false
def putAllL (e l : List Int) : List Int := l.foldl insL e
theorem putAllL_len : ∀ (l e : List Int), (putAllL e l).length ≤ e.length + l.length
  | [], e => by simp [putAllL]
  | x :: l, e => by
    have h1 := putAllL_len l (insL e x)
    have h2 := insL_len e x
    show (putAllL (insL e x) l).length ≤ _
    simp; omega
theorem putAllL_mem : ∀ (l e : List Int) (x : Int), x ∈ putAllL e l ↔ x ∈ e ∨ x ∈ l
  | [], e, x => by simp [putAllL]
  | y :: l, e, x => by
    show x ∈ putAllL (insL e y) l ↔ _
    rw [putAllL_mem l, insL_mem]
    simp only [List.mem_cons]
    constructor
    · rintro ((h | h) | h)
      · exact .inr (.inl h)
      · exact .inl h
      · exact .inr (.inr h)
    · rintro (h | h | h)
      · exact .inl (.inr h)
      · exact .inl (.inl h)
      · exact .inr h
theorem putAllL_asc : ∀ (l : List Int) {e : List Int}, asc e → asc (putAllL e l)
  | [], e, h => h
  | y :: l, e, h => putAllL_asc l (insL_asc h)
theorem putAllL_take {L : IL} {k : Nat} (h : k < L.length) (e : List Int) : putAllL e (edges (L.take (k + 1))) = insL (insL (putAllL e (edges (L.take k))) (pairAt L k).1) (pairAt L k).2 := by
  rw [take_edges h]
  unfold putAllL
  rw [List.foldl_append]
  rfl
/-- put, its result under letters -/
theorem put_named (A : Option Addr) (l : List Int) (m c : Nat) (n : Int) (w : World) (hr : Ints w A l) (hm : m = l.length) (hn : m ≤ 3000) :
    Calls Try.prog 56 #[.slice A m c, .int .i64 n] w fun e w' => ∃ A' c' l' m', e = .returned (.slice A' m' c') ∧ Hid (l' = insL l n ∧ m' = l'.length) ∧ Hid (Ints w' A' l') ∧ Below w.heap.size w w' := by
  subst hm
  exact (put_any A l c n w hr hn).mono fun e w' ⟨A', c', he, hmi, hb⟩ => ⟨A', c', insL l n, (insL l n).length, he, hide ⟨rfl, rfl⟩, hide hmi.ints, hb⟩
theorem len_put {out o2 : List Int} {f : Int} {mo m2 : Nat} (q : o2 = insL out f ∧ m2 = o2.length) (h : mo = out.length) (hl : mo ≤ 200) : m2 ≤ 300 := by
  have := insL_len out f
  rw [q.2, q.1]
  omega
theorem take_len {L : IL} {k : Nat} (h : k ≤ L.length) (e : List Int) : (putAllL e (edges (L.take k))).length ≤ e.length + 2 * k := by
  have := putAllL_len (edges (L.take k)) e
  rw [edges_length, List.length_take, Nat.min_eq_left h] at this
  exact this
set_option maxHeartbeats 4000000 in
theorem ends_any (A B : Option Addr) (L M : IL) (c d : Nat) (w : World) (hr : Iv w A L) (hs : Iv w B M) (hn : L.length ≤ 20) (hm : M.length ≤ 20) :
    Calls Try.prog 54 #[.slice A L.length c, .slice B M.length d] w fun e w' => ∃ A' c', e = .returned (.slice A' (putAllL (putAllL [] (edges L)) (edges M)).length c') ∧ Ints w' A' (putAllL (putAllL [] (edges L)) (edges M)) ∧ Below w.heap.size w w' := by
  have HR := hide hr
  have HS := hide hs
  clear hr hs
  go_enter Try.func54, Try.ntmps54
  go_wp2
  go_loopw [5, 6] (fun v i wr => ∃ (k : Nat) (out : List Int) (A1 : Option Addr) (n1 : Nat), k ≤ L.length ∧ i = .int .i64 k ∧ v = .slice A1 out.length n1 ∧ out = putAllL [] (edges (L.take k)) ∧ Ints wr A1 out ∧ Below w.heap.size w wr) (fun _ i _ => L.length - (intOf i).toNat)
  case atStart => exact ⟨0, [], none, 0, Nat.zero_le _, rfl, rfl, rfl, fun h => absurd rfl h, brefl _⟩
  case round =>
    obtain ⟨k, out, A1, n1, hk, rfl, rfl, ho, hin, hb⟩ := hrel
    have hlen : out.length ≤ 200 := by rw [ho]; have := take_len hk []; simp at this; omega
    by_cases hlt : k < L.length
    · obtain ⟨b, off, rfl, hbl, hcs⟩ := HR.out.cells hb hlt
      have hin2 := hcs k hlt
      have HT := hide (putAllL_take hlt [])
      rw [← ho] at HT
      have HC := hide (fun (W : World) (hW : Below wr.heap.size wr W) => (show W.cell? ⟨b, off + k * 2, none⟩ = some (.int .i64 (pairAt L k).1) ∧ W.cell? ⟨b, off + k * 2 + 1, none⟩ = some (.int .i64 (pairAt L k).2) from ⟨(hW.cell (p := ⟨b, off + k * 2, none⟩) (Nat.lt_of_lt_of_le hbl hb.size)).trans hin2.1, (hW.cell (p := ⟨b, off + k * 2 + 1, none⟩) (Nat.lt_of_lt_of_le hbl hb.size)).trans hin2.2⟩))
      have HB := hide hb
      have HIN := hide hin
      have K := hide (brefl wr)
      have q0 : (0 : Int) ≤ (k : Int) := by omega
      have q1 : (k : Int) < (L.length : Int) := by omega
      have hl2 := insL_len out (pairAt L k).1
      have HO := hide ho
      generalize (pairAt L k).1 = f at *
      generalize (pairAt L k).2 = t at *
      obtain ⟨mo, hmo⟩ : ∃ x, x = out.length := ⟨_, rfl⟩
      have HMO := hide hmo
      rw [← hmo]
      rw [← hmo] at hlen hl2
      clear hcs hb hin hin2 ho hmo hl2
      go_wp2
      go_region_held3 (fun w' => w'.cell? ⟨b, off + k * 2, none⟩ = some (.int .i64 f) ∧ w'.cell? ⟨b, off + k * 2 + 1, none⟩ = some (.int .i64 t))
        (first | (have h := HC.out _ K.out; exact h))
        (first
        | (go_at_call_of 56 (Value.slice A1 mo n1); refine (put_named A1 out mo n1 f _ (HIN.out.below (by first | exact K.out | exact below_drewN K.out _)) HMO.out (by omega)).mono ?_; rintro e wk ⟨A2, n2, o2, m2, rfl, HQ2, HI2, hbk⟩; replace K : Hid (Below wr.heap.size wr wk) := hide (by first | exact btrans K.out hbk | exact btrans (below_drewN K.out _) hbk); have hm2 := len_put HQ2.out HMO.out hlen; clear hbk)
        | (go_at_call_of 56 (Value.slice A2 m2 n2); refine (put_named A2 o2 m2 n2 t _ HI2.out HQ2.out.2 (by omega)).mono ?_; rintro e wl ⟨A3, n3, o3, m3, rfl, HQ3, HI3, hbk⟩; replace K : Hid (Below wr.heap.size wr wl) := hide (by first | exact btrans K.out hbk | exact btrans (below_drewN K.out _) hbk); clear hbk))
      all_goals
        go_wp2
        go_roundw
        case rel => exact ⟨k + 1, o3, A3, n3, by omega, by go_num, by rw [HQ3.out.2], by rw [HQ3.out.1, HQ2.out.1]; exact HT.out.symm, HI3.out, btrans HB.out (by first | exact K.out | exact below_drewN K.out _)⟩
        case measure => simp [intOf]; omega
    · have e1 : k = L.length := by omega
      rw [e1, List.take_length] at ho
      have HIN0 := hide hin
      have HB0 := hide hb
      have HO0 := hide ho
      obtain ⟨wa, hwa⟩ : ∃ wa : World, wa = wr := ⟨_, rfl⟩
      obtain ⟨o1, ho1⟩ : ∃ o : List Int, o = out := ⟨_, rfl⟩
      rw [← hwa] at HIN0 HB0
      rw [← ho1] at HIN0 HO0 hlen
      clear hin hb ho
      go_wp2
      go_loopw [5, 7] (fun v i wr2 => ∃ (k : Nat) (out : List Int) (A1 : Option Addr) (n1 : Nat), k ≤ M.length ∧ i = .int .i64 k ∧ v = .slice A1 out.length n1 ∧ out = putAllL (putAllL [] (edges L)) (edges (M.take k)) ∧ Ints wr2 A1 out ∧ Below w.heap.size w wr2) (fun _ i _ => M.length - (intOf i).toNat)
      case atStart => exact ⟨0, out, A1, n1, Nat.zero_le _, rfl, rfl, by rw [← ho1]; exact HO0.out, by rw [← hwa, ← ho1]; exact HIN0.out, by rw [← hwa]; exact HB0.out⟩
      case round =>
        clear hwa ho1 HIN0 HB0 HO0 hlen e1 hlt hk
        obtain ⟨k2, out2, A4, n4, hk, rfl, rfl, ho, hin, hb⟩ := hrel
        have hlen : out2.length ≤ 200 := by rw [ho]; have h1 := take_len hk (putAllL [] (edges L)); have h2 := putAllL_len (edges L) []; rw [edges_length] at h2; simp at h2; omega
        by_cases hlt : k2 < M.length
        · obtain ⟨b, off, rfl, hbl, hcs⟩ := HS.out.cells hb hlt
          have hin2 := hcs k2 hlt
          have HT := hide (putAllL_take hlt (putAllL [] (edges L)))
          rw [← ho] at HT
          have HC := hide (fun (W : World) (hW : Below wr.heap.size wr W) => (show W.cell? ⟨b, off + k2 * 2, none⟩ = some (.int .i64 (pairAt M k2).1) ∧ W.cell? ⟨b, off + k2 * 2 + 1, none⟩ = some (.int .i64 (pairAt M k2).2) from ⟨(hW.cell (p := ⟨b, off + k2 * 2, none⟩) (Nat.lt_of_lt_of_le hbl hb.size)).trans hin2.1, (hW.cell (p := ⟨b, off + k2 * 2 + 1, none⟩) (Nat.lt_of_lt_of_le hbl hb.size)).trans hin2.2⟩))
          have HB := hide hb
          have HIN := hide hin
          have K := hide (brefl wr)
          have q0 : (0 : Int) ≤ (k2 : Int) := by omega
          have q1 : (k2 : Int) < (M.length : Int) := by omega
          have hl2 := insL_len out2 (pairAt M k2).1
          have HO := hide ho
          generalize (pairAt M k2).1 = f at *
          generalize (pairAt M k2).2 = t at *
          obtain ⟨mo, hmo⟩ : ∃ x, x = out2.length := ⟨_, rfl⟩
          have HMO := hide hmo
          rw [← hmo]
          rw [← hmo] at hlen hl2
          clear hcs hb hin hin2 ho hmo hl2
          go_wp2
          go_region_held3 (fun w' => w'.cell? ⟨b, off + k2 * 2, none⟩ = some (.int .i64 f) ∧ w'.cell? ⟨b, off + k2 * 2 + 1, none⟩ = some (.int .i64 t))
            (first | (have h := HC.out _ K.out; exact h))
            (first
            | (go_at_call_of 56 (Value.slice A4 mo n4); refine (put_named A4 out2 mo n4 f _ (HIN.out.below (by first | exact K.out | exact below_drewN K.out _)) HMO.out (by omega)).mono ?_; rintro e wk ⟨A2, n2, o2, m2, rfl, HQ2, HI2, hbk⟩; replace K : Hid (Below wr.heap.size wr wk) := hide (by first | exact btrans K.out hbk | exact btrans (below_drewN K.out _) hbk); have hm2 := len_put HQ2.out HMO.out hlen; clear hbk)
            | (go_at_call_of 56 (Value.slice A2 m2 n2); refine (put_named A2 o2 m2 n2 t _ HI2.out HQ2.out.2 (by omega)).mono ?_; rintro e wl ⟨A3, n3, o3, m3, rfl, HQ3, HI3, hbk⟩; replace K : Hid (Below wr.heap.size wr wl) := hide (by first | exact btrans K.out hbk | exact btrans (below_drewN K.out _) hbk); clear hbk))
          all_goals
            go_wp2
            go_roundw
            case rel => exact ⟨k2 + 1, o3, A3, n3, by omega, by go_num, by rw [HQ3.out.2], by rw [HQ3.out.1, HQ2.out.1]; exact HT.out.symm, HI3.out, btrans HB.out (by first | exact K.out | exact below_drewN K.out _)⟩
            case measure => simp [intOf]; omega
        · have e1 : k2 = M.length := by omega
          rw [e1, List.take_length] at ho
          have HIN := hide hin
          have HB := hide hb
          have HO := hide ho
          clear hin hb ho
          go_wp2
          go_ret
          exact ⟨A4, n4, by rw [← HO.out]; rfl, by rw [← HO.out]; exact HIN.out, HB.out⟩
end Go.Proofs.Ytdpdlbonlpdkjab.Iv
