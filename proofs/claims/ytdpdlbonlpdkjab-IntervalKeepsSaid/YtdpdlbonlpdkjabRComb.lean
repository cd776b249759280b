import Derived.Test.YtdpdlbonlpdkjabREnds
import Derived.Test.YtdpdlbonlpdkjabRComb0
import Derived.Test.YtdpdlbonlpdkjabOps
namespace Go.Proofs.Ytdpdlbonlpdkjab.Iv
open Go Go.RowKit
set_option linter.unusedVariables false
theorem row_set {w : World} {base g n c : Nat} {xs : List Value} (h : w.ownsRow base 30 2 (.slice (some ⟨g, 0, none⟩) n c) n xs) (j : Nat) (u : Value) :
    (w.setCell ⟨g, j, none⟩ u).ownsRow base 30 2 (.slice (some ⟨g, 0, none⟩) n c) n (xs.set j u) := by
  obtain ⟨hl, ⟨e, _⟩ | ⟨g', cap, cur, e, hg, hh, h1, h2, h3, ht⟩⟩ := h
  · cases e
  · injection e with e1 e2 e3
    injection e1 with e1
    injection e1 with e1
    subst e1 e3
    refine ⟨by rw [List.length_set, hl], .inr ⟨g, c, cur.setIfInBounds j u, rfl, hg, ?_, h1, h2, by simp [h3], ?_⟩⟩
    · simp [World.setCell, Array.getElem?_modify, hh]
    · rw [Array.toList_setIfInBounds, List.take_set, ht]
theorem row_addr {w : World} {base n c : Nat} {A : Option Addr} {xs : List Value} (h : w.ownsRow base 30 2 (.slice A n c) n xs) (hn : 0 < n) : ∃ g, A = some ⟨g, 0, none⟩ ∧ base ≤ g ∧ g < w.heap.size ∧ ∀ j, w.frozen? ⟨g, j, none⟩ = false := by
  obtain ⟨hl, ⟨e, e2⟩ | ⟨g', cap, cur, e, hg, hh, h1, h2, h3, ht⟩⟩ := h
  · omega
  · injection e with e1
    refine ⟨g', e1, hg, ?_, fun j => by simp [World.frozen?, hh]⟩
    rcases Nat.lt_or_ge g' w.heap.size with h | h
    · exact h
    · rw [Array.getElem?_eq_none h] at hh; cases hh
theorem row_next {w w' : World} {base n : Nat} {v : Value} {xs : List Value} (h : w.ownsRow base 30 2 v n xs) (hb : Below w.heap.size w w') : w'.ownsRow base 30 2 v n xs :=
  h.kept (row := none) ⟨hb.os, hb.tape, hb.output, hb.size, fun k hk _ => hb.block k hk⟩ (by cases v.ownBlock <;> simp)
theorem last_cell {out : IL} {f t : Int} : ((edges (out ++ [(f, t)])).map ic)[out.length * 2 + 1]? = some (.int .i64 t) := by
  rw [List.getElem?_map, edges_append, List.getElem?_append_right (by rw [edges_length]; omega), edges_length, show out.length * 2 + 1 - 2 * out.length = 1 by omega]
  rfl
theorem last_ne {L M : IL} {keep : Bool → Bool → Bool} {p : List Int} {i : Nat} {out : IL} {f t : Int} (c : CI L M keep p i (out ++ [(f, t)])) (h : t ≠ p.getD i 0) : ∀ x ∈ edges (out ++ [(f, t)]), x ≠ p.getD i 0 := by
  have ha := c.a
  have ht := c.b t (by rw [edges_append]; simp [edges])
  rw [edges_append] at ha
  unfold asc at ha
  rw [List.pairwise_append] at ha
  have hft : f < t := by have := ha.2.1; simp [edges] at this; exact this
  intro x hx
  rw [edges_append] at hx
  rcases List.mem_append.1 hx with hx | hx
  · have := ha.2.2 x hx t (by simp [edges]); omega
  · simp only [edges, List.mem_cons, List.not_mem_nil, or_false] at hx
    rcases hx with rfl | rfl <;> omega
theorem nil_or_last (l : IL) : l = [] ∨ ∃ (o : IL) (f t : Int), l = o ++ [(f, t)] := by
  rcases List.eq_nil_or_concat l with h | ⟨o, ⟨f, t⟩, h⟩
  · exact .inl h
  · exact .inr ⟨o, f, t, by rw [h]; simp⟩
theorem holds_any (op : Int) (keep : Bool → Bool → Bool) (hop : (op = 0 ∧ keep = fun x y => x || y) ∨ (op = 1 ∧ keep = fun x y => x && y) ∨ (op = 2 ∧ keep = fun x y => x && !y)) (A B : Option Addr) (L M : IL) (c d : Nat) (n : Int) (w : World) (hr : Iv w A L) (hs : Iv w B M) (hn : L.length ≤ 20) (hm : M.length ≤ 20) :
    Calls Try.prog 55 #[.slice A L.length c, .slice B M.length d, .int .i64 n, .int .i64 op] w fun e w' => e = .returned (.bool (keep (mem L n) (mem M n))) ∧ Below w.heap.size w w' := by
  have H1 := hide (rin_any A L c n w hr (by omega))
  have H2 := hide (fun W (hb : Below w.heap.size w W) => rin_any B M d n W (hs.below hb) (by omega))
  generalize mem L n = x at *
  generalize mem M n = y at *
  clear hr hs
  rcases hop with ⟨rfl, rfl⟩ | ⟨rfl, rfl⟩ | ⟨rfl, rfl⟩ <;> cases x <;> cases y
  all_goals
    go_enter Try.func55, Try.ntmps55
    go_wp2_with fail
    refine H1.out.mono ?_
    rintro e w1 ⟨rfl, hb1⟩
    have K := hide hb1
    clear hb1
    go_wp2_with fail
    refine (H2.out _ K.out).mono ?_
    rintro e w2 ⟨rfl, hb2⟩
    have K2 := hide (btrans K.out hb2)
    clear hb2
    go_wp2
    go_ret
    exact ⟨rfl, K2.out⟩
set_option maxHeartbeats 4000000 in
theorem rcomb_any (op : Int) (keep : Bool → Bool → Bool) (hop : (op = 0 ∧ keep = fun x y => x || y) ∨ (op = 1 ∧ keep = fun x y => x && y) ∨ (op = 2 ∧ keep = fun x y => x && !y)) (A B : Option Addr) (L M : IL) (c d : Nat) (w : World) (hr : Iv w A L) (hs : Iv w B M) (hn : L.length ≤ 20) (hm : M.length ≤ 20) (hL : asc (edges L)) (hM : asc (edges M)) :
    Calls Try.prog 49 #[.slice A L.length c, .slice B M.length d, .int .i64 op] w fun e w' => ∃ A' c' R, e = .returned (.slice A' R.length c') ∧ asc (edges R) ∧ (∀ n, mem R n = keep (mem L n) (mem M n)) ∧ R.length ≤ 2000 ∧ MineI w.heap.size w' A' R ∧ Below w.heap.size w w' := by
  obtain ⟨i0, hi0, hz0, hz1, hz2⟩ := info_parts info30
  have k0 : keep false false = false := by rcases hop with ⟨_, rfl⟩ | ⟨_, rfl⟩ | ⟨_, rfl⟩ <;> rfl
  have HE := hide (ends_any A B L M c d w hr hs hn hm)
  have HH := hide (fun n W (hb : Below w.heap.size w W) => holds_any op keep hop A B L M c d n W (hr.below hb) (hs.below hb) hn hm)
  have hp : PI L M keep (putAllL (putAllL [] (edges L)) (edges M)) := ⟨hL, hM, putAllL_asc _ (putAllL_asc _ List.Pairwise.nil), fun x hx => (putAllL_mem _ _ _).2 (.inl ((putAllL_mem _ _ _).2 (.inr hx))), fun x hx => (putAllL_mem _ _ _).2 (.inr hx), k0⟩
  have hpl : (putAllL (putAllL [] (edges L)) (edges M)).length ≤ 80 := by
    have h1 := putAllL_len (edges M) (putAllL [] (edges L))
    have h2 := putAllL_len (edges L) []
    rw [edges_length] at h1 h2
    simp at h2
    omega
  generalize putAllL (putAllL [] (edges L)) (edges M) = p at *
  have HP := hide hp
  clear hr hs hp hL hM k0 hop
  go_enter Try.func49, Try.ntmps49
  go_wp2_with fail
  refine HE.out.mono ?_
  rintro e w1 ⟨A1, c1, rfl, hin, hb1⟩
  have IN := hide hin
  have K := hide hb1
  clear hin hb1 HE
  go_wp2_with fail
  go_loopw [8, 9] (fun v i wr => ∃ (k : Nat) (out : IL) (A2 : Option Addr) (n2 : Nat), i = .int .i64 k ∧ v = .slice A2 out.length n2 ∧ CI L M keep p k out ∧ (k = 0 ∨ k < p.length) ∧ out.length ≤ k ∧ wr.ownsRow w1.heap.size 30 2 (.slice A2 out.length n2) out.length ((edges out).map ic) ∧ Below w1.heap.size w1 wr) (fun _ i _ => p.length - (intOf i).toNat)
  case atStart => exact ⟨0, [], none, 0, rfl, rfl, CI.start HP.out, .inl rfl, by simp, ⟨rfl, .inl ⟨rfl, rfl⟩⟩, brefl _⟩
  case round =>
    obtain ⟨k, out, A2, n2, rfl, rfl, hci, hk, hol, hown, hb⟩ := hrel
    have HOWN := hide hown
    have HB := hide hb
    have CC := hide hci
    by_cases hlt : k + 1 < p.length
    · obtain ⟨b, off, rfl, hbl, hcs⟩ := IN.out (by rintro rfl; simp at hlt)
      have c0 : ∀ W, Below w1.heap.size w1 W → W.cell? ⟨b, off + k, none⟩ = some (.int .i64 (p.getD k 0)) := fun W hW => (hW.cell (p := ⟨b, off + k, none⟩) hbl).trans (hcs k (by omega))
      have c1 : ∀ W, Below w1.heap.size w1 W → W.cell? ⟨b, off + (k + 1), none⟩ = some (.int .i64 (p.getD (k + 1) 0)) := fun W hW => (hW.cell (p := ⟨b, off + (k + 1), none⟩) hbl).trans (hcs (k + 1) hlt)
      have C0 := hide c0
      have C1 := hide c1
      have HHx := hide (HH.out (p.getD k 0) wr (btrans K.out hb))
      have d0 := c0 wr hb
      have q0 : (0 : Int) ≤ (k : Int) := by omega
      have q1 : (k : Int) + 1 < (p.length : Int) := by omega
      have q2 : (k : Int) < (p.length : Int) := by omega
      clear hcs c0 c1 hown hb hci
      obtain ⟨hv, hhv⟩ : ∃ x, x = keep (mem L (p.getD k 0)) (mem M (p.getD k 0)) := ⟨_, rfl⟩
      rw [← hhv] at HHx
      have HV := hide hhv
      clear hhv
      cases hv
      · have CS := hide (CC.out.skip HP.out hlt HV.out.symm)
        generalize p.getD k 0 = a at *
        generalize p.getD (k + 1) 0 = q at *
        go_wp2_with fail
        refine HHx.out.mono ?_
        rintro e w3 ⟨rfl, hb3⟩
        have HB3 := hide (btrans HB.out hb3)
        have HO3 := hide (row_next HOWN.out hb3)
        clear hb3
        go_wp2
        go_roundw
        case rel => exact ⟨k + 1, out, A2, n2, by go_num, rfl, CS.out, .inr hlt, by omega, HO3.out, HB3.out⟩
        case measure => simp [intOf]; omega
      · go_wp2_with fail
        refine HHx.out.mono ?_
        rintro e w3 ⟨rfl, hb3⟩
        have HB3 := hide (btrans HB.out hb3)
        have HO3 := hide (row_next HOWN.out hb3)
        have e0 := C0.out w3 HB3.out
        have e1 := C1.out w3 HB3.out
        have hbl3 : b < w3.heap.size := Nat.lt_of_lt_of_le hbl HB3.out.size
        have q3 : IntKind.i64.wrap ((k : Int) + 1) = (k : Int) + 1 := by rw [IntKind.wrap_i64]; omega
        have q4 : ((k : Int) + 1).toNat = k + 1 := by omega
        have q5 : (0 : Int) ≤ (k : Int) + 1 := by omega
        have hol2 : out.length ≤ 80 := by omega
        clear hb3 d0
        rcases nil_or_last out with rfl | ⟨o2, f, t, rfl⟩
        · have CS := hide (CC.out.app HP.out hlt HV.out.symm (fun x hx => by cases hx))
          generalize p.getD k 0 = a at *
          generalize p.getD (k + 1) 0 = q at *
          have g0 : decide ((0 : Nat) < 0) = false := rfl
          clear q3 q4
          go_wp2
          go_quiet (fail)
          have q3 : IntKind.i64.wrap ((k : Int) + 1) = (k : Int) + 1 := by rw [IntKind.wrap_i64]; omega
          have q4 : ((k : Int) + 1).toNat = k + 1 := by omega
          go_wp2
          go_region_law (refine step_append_own rfl (.tmp 57) (.tmp 68) 22 rfl w1.heap.size 30 i0 _ 2 16 Try.underlying22 hi0 hz0 hz1 hz2 rfl (by omega) (.slice A2 0 n2) 0 [] rfl (by exact HO3.out.alloc _) ⟨w3.heap.size, 0, none⟩ 1 1 [ic a, ic q] rfl rfl (by exact cell_two_new _ _ _ _) (by intro u hu; simp at hu; rcases hu with rfl | rfl <;> rfl) (by simp only [maxLen]; omega) (by omega) (by have := HB3.out.size; show _ ≤ (World.alloc _ _).heap.size; simp; omega) ?_; intro v4 w4 hown4 hg4; obtain ⟨A4, n4, rfl⟩ := row_form hown4; have HO4 := hide hown4; have HBL := hide (show Below w1.heap.size w1 _ from (bal (below_drewN HB3.out _) _).trans (row_below (by exact HO3.out.alloc _) hg4 (Nat.le_refl _) (by have := HB3.out.size; show _ ≤ (World.alloc _ _).heap.size; simp; omega))); clear hown4 hg4)
          all_goals
            clear q3 q4
            go_wp2
            go_roundw
            case rel => exact ⟨k + 1, [(a, q)], A4, n4, by go_num, rfl, CS.out, .inr hlt, by simp, HO4.out, HBL.out⟩
            case measure => simp [intOf]; omega
        · obtain ⟨g, rfl, hgb, hgl, hfz⟩ := row_addr HO3.out (by simp)
          have hlast := HO3.out.cellAt (o2.length * 2 + 1) (by simp; omega)
          rw [last_cell] at hlast
          have hol3 : o2.length + 1 ≤ 80 := by simpa using hol2
          have hfz1 := hfz (o2.length * 2 + 1)
          have hln : (o2 ++ [(f, t)]).length = o2.length + 1 := by simp
          have hokk : o2.length + 1 ≤ k := by simpa using hol
          have HR3 : Hid (w3.ownsRow w1.heap.size 30 2 (.slice (some ⟨g, 0, none⟩) (o2.length + 1) n2) (o2.length + 1) ((edges (o2 ++ [(f, t)])).map ic)) := by have h := HO3.out; rw [hln] at h; exact h
          by_cases ht : t = p.getD k 0
          · have CE := hide (CI.ext (f := f) (out := o2) (by have := CC.out; rw [ht] at this; exact this) HP.out hlt HV.out.symm)
            have HROW : Hid ((w3.setCell ⟨g, o2.length * 2 + 1, none⟩ (ic (p.getD (k + 1) 0))).ownsRow w1.heap.size 30 2 (.slice (some ⟨g, 0, none⟩) (o2.length + 1) n2) (o2.length + 1) ((edges (o2 ++ [(f, p.getD (k + 1) 0)])).map ic)) := by
              have h := (HR3.out.stored (o2.length * 2 + 1) (ic (p.getD (k + 1) 0))).1
              rw [set_last o2 f t (p.getD (k + 1) 0), List.map_set, show 2 * o2.length + 1 = o2.length * 2 + 1 by omega]
              exact h
            have b1 : (t == p.getD k 0) = true := by simpa using ht
            clear ht
            generalize p.getD k 0 = a at *
            generalize p.getD (k + 1) 0 = q at *
            obtain ⟨m, hm⟩ : ∃ m, m = o2.length := ⟨_, rfl⟩
            have HMM := hide hm
            simp only [hln]
            simp only [← hm] at hlast hol3 hfz1 hokk HROW ⊢
            have g0 : decide (0 < m + 1) = true := by simp
            have g1 : decide ((0 : Int) < (m : Int) + 1) = true := decide_eq_true (by omega)
            have hwm : IntKind.i64.wrap ((m : Int) + 1 - 1) = (m : Int) := by rw [IntKind.wrap_i64]; omega
            have q6 : (0 : Int) ≤ (m : Int) := by omega
            clear q3 q4 hm hln hol hol2 hfz HR3 HO3
            go_wp2
            go_quiet (fail)
            have q4 : ((k : Int) + 1).toNat = k + 1 := by omega
            go_wp2
            go_roundw
            case rel => exact ⟨k + 1, o2 ++ [(f, q)], some ⟨g, 0, none⟩, n2, by go_num, by rw [HMM.out]; simp, CE.out, .inr hlt, by have := HMM.out; simp; omega, by have h := HROW.out; simp only [List.length_append, List.length_singleton, ← HMM.out]; exact h, (below_drewN HB3.out _).setCell hgb _⟩
            case measure => simp [intOf]; omega
          · have CS := hide (CC.out.app HP.out hlt HV.out.symm (last_ne CC.out ht))
            have b1 : (t == p.getD k 0) = false := by simpa using ht
            clear ht
            generalize p.getD k 0 = a at *
            generalize p.getD (k + 1) 0 = q at *
            obtain ⟨m, hm⟩ : ∃ m, m = o2.length := ⟨_, rfl⟩
            have HMM := hide hm
            simp only [hln]
            simp only [← hm] at hlast hol3 hfz1 hokk HR3 ⊢
            have g0 : decide (0 < m + 1) = true := by simp
            have g1 : decide ((0 : Int) < (m : Int) + 1) = true := decide_eq_true (by omega)
            have hwm : IntKind.i64.wrap ((m : Int) + 1 - 1) = (m : Int) := by rw [IntKind.wrap_i64]; omega
            have q6 : (0 : Int) ≤ (m : Int) := by omega
            clear q3 q4 hm hln hol hol2 hfz HO3
            go_wp2
            go_quiet (fail)
            have q3 : IntKind.i64.wrap ((k : Int) + 1) = (k : Int) + 1 := by rw [IntKind.wrap_i64]; omega
            have q4 : ((k : Int) + 1).toNat = k + 1 := by omega
            go_wp2
            go_region_law (refine step_append_own rfl (.tmp 57) (.tmp 68) 22 rfl w1.heap.size 30 i0 _ 2 16 Try.underlying22 hi0 hz0 hz1 hz2 rfl (by omega) (.slice (some ⟨g, 0, none⟩) (m + 1) n2) (m + 1) ((edges (o2 ++ [(f, t)])).map ic) rfl (by exact HR3.out.alloc _) ⟨w3.heap.size, 0, none⟩ 1 1 [ic a, ic q] rfl rfl (by exact cell_two_new _ _ _ _) (by intro u hu; simp at hu; rcases hu with rfl | rfl <;> rfl) (by simp only [maxLen]; omega) (by omega) (by have := HB3.out.size; show _ ≤ (World.alloc _ _).heap.size; simp; omega) ?_; intro v4 w4 hown4 hg4; obtain ⟨A4, n4, rfl⟩ := row_form hown4; have HO4 := hide hown4; have HBL := hide (show Below w1.heap.size w1 _ from (bal (below_drewN HB3.out _) _).trans (row_below (by exact HR3.out.alloc _) hg4 (Nat.le_refl _) (by have := HB3.out.size; show _ ≤ (World.alloc _ _).heap.size; simp; omega))); clear hown4 hg4)
            all_goals
              clear q3 q4
              go_wp2
              go_roundw
              case rel => exact ⟨k + 1, o2 ++ [(f, t)] ++ [(a, q)], A4, n4, by go_num, by rw [HMM.out]; simp, CS.out, .inr hlt, by have := HMM.out; simp; omega, by have h := HO4.out; simp only [List.length_append, List.length_singleton, ← HMM.out]; rw [edges_append, List.map_append]; exact h, HBL.out⟩
              case measure => simp [intOf]; omega
    · obtain ⟨r1, r2⟩ := hci.done HP.out hlt hk
      have HR := hide (And.intro r1 r2)
      have HM := hide ((MineI.of_row (L := out) rfl hown).mono (B' := w.heap.size) K.out.size)
      have q1 : (p.length : Int) ≤ (k : Int) + 1 := by omega
      have q0 : (0 : Int) ≤ (k : Int) := by omega
      have q2 : (k : Int) ≤ 9223372036854775806 := by omega
      have hd : decide ((k : Int) + 1 < (p.length : Int)) = false := decide_eq_false (by omega)
      clear hci hown hb r1 r2
      go_wp2
      go_ret
      exact ⟨A2, n2, out, rfl, HR.out.1, HR.out.2, by omega, HM.out, btrans K.out HB.out⟩
end Go.Proofs.Ytdpdlbonlpdkjab.Iv
