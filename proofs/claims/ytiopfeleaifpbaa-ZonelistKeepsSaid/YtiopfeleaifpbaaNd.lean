import Derived.Test.YtiopfeleaifpbaaRc
import Derived.Test.YtiopfeleaifpbaaCf
namespace Go.Proofs.Ytiopfeleaifpbaa.Bd
open Go Go.RowKit
set_option linter.unusedVariables false
set_option linter.unusedSimpArgs false
theorem info3 : (Try.prog.info? 3).map (fun i => (i.zero, i.size, i.bytes)) = some (some (.int .i64 0), 1, 8) := by kernel_rfl
theorem below_grown {B n size : Nat} {t : TypeId} {v : Value} {xs : List Value} {w w' : World} (h : w.ownsRow B t size v n xs) (hg : w.grownBy w' v.ownBlock) (hs : B ≤ w.heap.size) : Below B w w' := (Kp.grown h hg (Nat.le_refl B) hs).below
theorem ow_nil (B : Nat) (w : World) : OwI B w (.slice none 0 0) [] := (OwZ.nil B w).row 0 (by omega)
/-- the nodes with a zone, ring by ring about a node -/
def nl (Z : List Zo) (n : Int) : Nat → Is
  | 0 => []
  | d + 1 => (nl Z n d ++ if hs Z (n - d) then [n - d] else []) ++ if d ≠ 0 ∧ hs Z (n + d) = true then [n + (d : Int)] else []
def nlh (Z : List Zo) (n : Int) (d : Nat) : Is := nl Z n d ++ if hs Z (n - d) then [n - d] else []
theorem nl_len (Z : List Zo) (n : Int) : ∀ d, (nl Z n d).length ≤ 2 * d
  | 0 => Nat.le_refl _
  | d + 1 => by
    have ih := nl_len Z n d
    unfold nl
    split <;> split <;> simp <;> omega
theorem nlh_len (Z : List Zo) (n : Int) (d : Nat) : (nlh Z n d).length ≤ 2 * d + 1 := by
  have ih := nl_len Z n d
  unfold nlh
  split <;> simp <;> omega
theorem nlh_1 {Z : List Zo} {n : Int} {d : Nat} (h : hs Z (n - d) = true) : nlh Z n d = nl Z n d ++ [n - (d : Int)] := by unfold nlh; rw [if_pos h]
theorem nlh_0 {Z : List Zo} {n : Int} {d : Nat} (h : hs Z (n - d) = false) : nlh Z n d = nl Z n d := by unfold nlh; rw [if_neg (by rw [h]; decide)]; simp
theorem nl_1 {Z : List Zo} {n : Int} {d : Nat} (h0 : d ≠ 0) (h : hs Z (n + d) = true) : nl Z n (d + 1) = nlh Z n d ++ [n + (d : Int)] := by
  show nlh Z n d ++ (if d ≠ 0 ∧ hs Z (n + d) = true then [n + (d : Int)] else []) = _
  rw [if_pos ⟨h0, h⟩]
theorem nl_0 {Z : List Zo} {n : Int} {d : Nat} (h : d = 0 ∨ hs Z (n + d) = false) : nl Z n (d + 1) = nlh Z n d := by
  show nlh Z n d ++ (if d ≠ 0 ∧ hs Z (n + d) = true then [n + (d : Int)] else []) = _
  rw [if_neg (by rintro ⟨a, b⟩; rcases h with h | h; exact a h; rw [h] at b; exact absurd b (by decide))]; simp
/-- what Nodes answers -/
def nE (Z : List Zo) (n : Int) : Int := if chE Z = 0 then (if 0 ≤ n ∧ n < 4 then 0 else 2) else chE Z
def nR (Z : List Zo) (n : Int) : Is := if nE Z n = 0 then nl Z n 4 else []
theorem nE_bad {Z : List Zo} {n : Int} (h : chE Z ≠ 0) : nE Z n = chE Z ∧ nR Z n = [] := by
  have e : nE Z n = chE Z := if_neg h
  exact ⟨e, by unfold nR; rw [e, if_neg h]⟩
theorem nE_two {Z : List Zo} {n : Int} (h : chE Z = 0) (h2 : ¬ (0 ≤ n ∧ n < 4)) : nE Z n = 2 ∧ nR Z n = [] := by
  have e : nE Z n = 2 := by unfold nE; rw [if_pos h, if_neg h2]
  exact ⟨e, by unfold nR; rw [e]; rfl⟩
theorem nE_ok {Z : List Zo} {n : Int} (h : chE Z = 0) (h2 : 0 ≤ n ∧ n < 4) : nE Z n = 0 ∧ nR Z n = nl Z n 4 := by
  have e : nE Z n = 0 := by unfold nE; rw [if_pos h, if_pos h2]
  exact ⟨e, by unfold nR; rw [if_pos e]⟩
theorem ret_si {fn : Func} {a : Act} {W : World} {k m : Nat} {y : Int} {A : Option Addr} {l c : Nat} {Q : Ending → World → Prop} (hr : fn.results = #[.tmp k, .tmp m]) (h2 : a.tmps.getD k undef = .slice A l c) (h3 : a.tmps.getD m undef = .int .i64 y) (hd : a.defers = [])
    (hq : Q (.returned (.tuple #[.slice A l c, .int .i64 y])) W) : bodyPost Try.prog fn Q .ret a W := by
  simp only [Array.getD_eq_getD_getElem?] at h2 h3
  exact bodyPost_ret (v := .tuple #[.slice A l c, .int .i64 y]) (by simp [results, hr, h2, h3, go_sem]; try rfl) hd hq
theorem Zs.below {w w' : World} {A : Option Addr} {Z : List Zo} (h : Zs w A Z) (hb : Below w.heap.size w w') : Zs w' A Z := fun hne => by
  obtain ⟨b, off, e, hl, hc⟩ := h hne
  exact ⟨b, off, e, Nat.lt_of_lt_of_le hl hb.size, fun k hk j hj => (hb.cell (p := ⟨b, _, none⟩) hl).trans (hc k hk j hj)⟩
theorem ZIs.below {w w' : World} {Z : List Zo} (h : ZIs w Z) (hb : Below w.heap.size w w') : ZIs w' Z := fun k hk => (h k hk).below hb
set_option maxRecDepth 100000 in
set_option maxHeartbeats 8000000 in
theorem rnodes_any (AZ : Option Addr) (cp : Nat) (Z : List Zo) (n : Int) (w : World) (hr : Zs w AZ Z) (hn : Z.length ≤ 9223372036854775807) : Calls Try.prog 16 #[.slice AZ Z.length cp, .int .i64 n] w fun e w' => (∃ A c, e = .returned (.tuple #[.slice A (nR Z n).length c, .int .i64 (nE Z n)]) ∧ OwI w.heap.size w' (.slice A (nR Z n).length c) (nR Z n)) ∧ Below w.heap.size w w' := by
  have CK := hide (rcheck_any AZ cp Z w hr hn)
  have HC := hide (fun m wr (hb : Below w.heap.size w wr) => has_any AZ cp Z m wr (hr.below hb) hn)
  have K := hide (brefl w)
  have OZ := hide (ow_nil w.heap.size w)
  clear hr
  by_cases hc : chE Z = 0
  · rw [hc] at CK
    by_cases h0 : 0 ≤ n
    · by_cases h4 : n < 4
      · have E := hide (nE_ok hc ⟨h0, h4⟩)
        obtain ⟨i0, hi0, hz0, hz1, hz2⟩ := info_parts info3
        clear hc
        go_enter Try.func16, Try.ntmps16
        go_wp2_with (go_at_call 14; refine CK.out.mono ?_; rintro e w' ⟨rfl, rfl⟩)
        go_loopw [7, 8] (fun a b wr => ∃ k : Nat, k ≤ 4 ∧ b = .int .i64 k ∧ Hid (OwI w.heap.size wr a (nl Z n k)) ∧ Hid (Below w.heap.size w wr)) (fun _ b _ => 4 - (intOf b).toNat)
        case atStart => exact ⟨0, by omega, rfl, OZ, K⟩
        case round =>
          clear OZ K
          obtain ⟨k, hk, rfl, O, K⟩ := hrel
          obtain ⟨A, cap, ev, hcp⟩ := row_form O.out
          subst ev
          by_cases hlt : k < 4
          · have hlt2 : (k : Int) < 4 := by omega
            have hk0 : (0 : Int) ≤ (k : Int) := by omega
            have C1 := hide (HC.out (n - k) _ K.out)
            by_cases h1 : hs Z (n - k) = true
            · have EH := hide (nlh_1 h1)
              rw [h1] at C1
              clear h1
              go_upto_region 11 with (go_at_call 31; refine C1.out.mono ?_; rintro e w' ⟨rfl, rfl⟩)
              clear C1
              have M := bal (brefl wr) (.cells #[.int .i64 (n - (k : Int))] 3)
              have OA := hide (row_below O.out M)
              have NB := hide (cell_one_new wr (.int .i64 (n - (k : Int))) 3)
              have SA := hide (show w.heap.size ≤ (wr.alloc (.cells #[.int .i64 (n - (k : Int))] 3)).heap.size by rw [alloc_size']; have := K.out.size; omega)
              have KA := hide (btrans K.out M)
              clear M O K
              obtain ⟨l, hl⟩ : ∃ l, l = nl Z n k := ⟨_, rfl⟩
              obtain ⟨m, hm⟩ : ∃ m, m = l.length := ⟨_, rfl⟩
              have hfl := nl_len Z n k
              rw [← hl, ← hm] at OA
              rw [← hl] at EH hfl
              rw [← hm] at hfl
              rw [← hl, ← hm]
              have HLM := hide hm
              clear hl hm hcp
              go_upto_region 12 with (at_builtin; refine wpList_append_own_at _ rfl (.tmp 29) (.tmp 33) 27 rfl w.heap.size 3 i0 _ 1 8 Try.underlying27 hi0 hz0 hz1 hz2 rfl (by omega) (.slice A m cap) m (l.map ic) rfl OA.out ⟨wr.heap.size, 0, none⟩ 1 1 [.int .i64 (n - (k : Int))] rfl rfl NB.out (by intro u hu; rw [List.mem_singleton.1 hu]; rfl) (by simp only [maxLen]; omega) (by omega) SA.out ?_; intro v4 w4 hown4 hg4 _ hat4; obtain ⟨A4, cp4, ev4, _⟩ := row_form hown4; subst ev4)
              have O := hide (show OwI w.heap.size w4 (.slice A4 (m + 1) cp4) (nlh Z n k) by
                have e3 : (nlh Z n k).length = m + 1 := by rw [EH.out, List.length_append, ← HLM.out]; rfl
                unfold OwI
                rw [e3, EH.out, List.map_append]
                exact hown4)
              have B4 := below_grown OA.out hg4 SA.out
              have K := hide (KA.out.trans B4)
              have e3 : (nlh Z n k).length = m + 1 := by rw [EH.out, List.length_append, ← HLM.out]; rfl
              rw [← e3] at O ⊢
              clear B4 hown4 hg4 hat4 OA NB SA KA e3
              generalize w4 = wr at *
              generalize A4 = A at *
              generalize cp4 = cap at *
              by_cases hkz : k = 0
              · have EL := nl_0 (Z := Z) (n := n) (d := k) (Or.inl hkz)
                rw [← EL] at O ⊢
                clear EL HC
                have hk2 : ¬ (0 : Int) < (k : Int) := by omega
                go_wp2
                go_roundw
                case rel => exact ⟨k + 1, by omega, by go_num, O, K⟩
                case measure => simp [intOf]; omega
              · have hk2 : (0 : Int) < (k : Int) := by omega
                have C2 := hide (HC.out (n + k) _ K.out)
                by_cases h2 : hs Z (n + k) = true
                · have EL := hide (nl_1 hkz h2)
                  rw [h2] at C2
                  clear h2
                  go_upto_region 13 with (go_at_call 31; refine C2.out.mono ?_; rintro e w' ⟨rfl, rfl⟩)
                  clear C2
                  obtain ⟨_, _, ev, hcp⟩ := row_form O.out
                  injection ev with ev1 ev2 ev3
                  subst ev1 ev3
                  clear ev2
                  have M := bal (brefl wr) (.cells #[.int .i64 (n + (k : Int))] 3)
                  have OA := hide (row_below O.out M)
                  have NB := hide (cell_one_new wr (.int .i64 (n + (k : Int))) 3)
                  have SA := hide (show w.heap.size ≤ (wr.alloc (.cells #[.int .i64 (n + (k : Int))] 3)).heap.size by rw [alloc_size']; have := K.out.size; omega)
                  have KA := hide (btrans K.out M)
                  clear M O K
                  obtain ⟨l, hl⟩ : ∃ l, l = nlh Z n k := ⟨_, rfl⟩
                  obtain ⟨m, hm⟩ : ∃ m, m = l.length := ⟨_, rfl⟩
                  have hfl := nlh_len Z n k
                  rw [← hl, ← hm] at OA
                  rw [← hl] at EL hfl
                  rw [← hm] at hfl
                  rw [← hl, ← hm]
                  have HLM := hide hm
                  clear hl hm hcp
                  go_upto_region 9 with (at_builtin; refine wpList_append_own_at _ rfl (.tmp 44) (.tmp 48) 27 rfl w.heap.size 3 i0 _ 1 8 Try.underlying27 hi0 hz0 hz1 hz2 rfl (by omega) (.slice A m cap) m (l.map ic) rfl OA.out ⟨wr.heap.size, 0, none⟩ 1 1 [.int .i64 (n + (k : Int))] rfl rfl NB.out (by intro u hu; rw [List.mem_singleton.1 hu]; rfl) (by simp only [maxLen]; omega) (by omega) SA.out ?_; intro v4 w4 hown4 hg4 _ hat4; obtain ⟨A4, cp4, ev4, _⟩ := row_form hown4; subst ev4)
                  have O := hide (show OwI w.heap.size w4 (.slice A4 (m + 1) cp4) (nl Z n (k + 1)) by
                    have e3 : (nl Z n (k + 1)).length = m + 1 := by rw [EL.out, List.length_append, ← HLM.out]; rfl
                    unfold OwI
                    rw [e3, EL.out, List.map_append]
                    exact hown4)
                  have B4 := below_grown OA.out hg4 SA.out
                  have K := hide (KA.out.trans B4)
                  have e3 : (nl Z n (k + 1)).length = m + 1 := by rw [EL.out, List.length_append, ← HLM.out]; rfl
                  rw [← e3] at O ⊢
                  clear B4 hown4 hg4 hat4 OA NB SA KA e3
                  generalize w4 = wr at *
                  generalize A4 = A at *
                  generalize cp4 = cap at *
                  clear HC
                  go_wp2
                  go_roundw
                  case rel => exact ⟨k + 1, by omega, by go_num, O, K⟩
                  case measure => simp [intOf]; omega
                · have h2' : hs Z (n + k) = false := by simpa using h2
                  have EL := nl_0 (Z := Z) (n := n) (d := k) (Or.inr h2')
                  rw [h2'] at C2
                  rw [← EL] at O ⊢
                  clear h2 h2' EL
                  go_wp2_with (go_at_call 31; refine C2.out.mono ?_; rintro e w' ⟨rfl, rfl⟩)
                  go_roundw
                  case rel => exact ⟨k + 1, by omega, by go_num, O, K⟩
                  case measure => simp [intOf]; omega
            · have h1' : hs Z (n - k) = false := by simpa using h1
              have EH := nlh_0 h1'
              rw [h1'] at C1
              rw [← EH] at O ⊢
              clear h1 h1' EH
              go_upto_region 12 with (go_at_call 31; refine C1.out.mono ?_; rintro e w' ⟨rfl, rfl⟩)
              clear C1
              by_cases hkz : k = 0
              · have EL := nl_0 (Z := Z) (n := n) (d := k) (Or.inl hkz)
                rw [← EL] at O ⊢
                clear EL HC
                have hk2 : ¬ (0 : Int) < (k : Int) := by omega
                go_wp2
                go_roundw
                case rel => exact ⟨k + 1, by omega, by go_num, O, K⟩
                case measure => simp [intOf]; omega
              · have hk2 : (0 : Int) < (k : Int) := by omega
                have C2 := hide (HC.out (n + k) _ K.out)
                by_cases h2 : hs Z (n + k) = true
                · have EL := hide (nl_1 hkz h2)
                  rw [h2] at C2
                  clear h2
                  go_upto_region 13 with (go_at_call 31; refine C2.out.mono ?_; rintro e w' ⟨rfl, rfl⟩)
                  clear C2
                  obtain ⟨_, _, ev, hcp⟩ := row_form O.out
                  injection ev with ev1 ev2 ev3
                  subst ev1 ev3
                  clear ev2
                  have M := bal (brefl wr) (.cells #[.int .i64 (n + (k : Int))] 3)
                  have OA := hide (row_below O.out M)
                  have NB := hide (cell_one_new wr (.int .i64 (n + (k : Int))) 3)
                  have SA := hide (show w.heap.size ≤ (wr.alloc (.cells #[.int .i64 (n + (k : Int))] 3)).heap.size by rw [alloc_size']; have := K.out.size; omega)
                  have KA := hide (btrans K.out M)
                  clear M O K
                  obtain ⟨l, hl⟩ : ∃ l, l = nlh Z n k := ⟨_, rfl⟩
                  obtain ⟨m, hm⟩ : ∃ m, m = l.length := ⟨_, rfl⟩
                  have hfl := nlh_len Z n k
                  rw [← hl, ← hm] at OA
                  rw [← hl] at EL hfl
                  rw [← hm] at hfl
                  rw [← hl, ← hm]
                  have HLM := hide hm
                  clear hl hm hcp
                  go_upto_region 9 with (at_builtin; refine wpList_append_own_at _ rfl (.tmp 44) (.tmp 48) 27 rfl w.heap.size 3 i0 _ 1 8 Try.underlying27 hi0 hz0 hz1 hz2 rfl (by omega) (.slice A m cap) m (l.map ic) rfl OA.out ⟨wr.heap.size, 0, none⟩ 1 1 [.int .i64 (n + (k : Int))] rfl rfl NB.out (by intro u hu; rw [List.mem_singleton.1 hu]; rfl) (by simp only [maxLen]; omega) (by omega) SA.out ?_; intro v4 w4 hown4 hg4 _ hat4; obtain ⟨A4, cp4, ev4, _⟩ := row_form hown4; subst ev4)
                  have O := hide (show OwI w.heap.size w4 (.slice A4 (m + 1) cp4) (nl Z n (k + 1)) by
                    have e3 : (nl Z n (k + 1)).length = m + 1 := by rw [EL.out, List.length_append, ← HLM.out]; rfl
                    unfold OwI
                    rw [e3, EL.out, List.map_append]
                    exact hown4)
                  have B4 := below_grown OA.out hg4 SA.out
                  have K := hide (KA.out.trans B4)
                  have e3 : (nl Z n (k + 1)).length = m + 1 := by rw [EL.out, List.length_append, ← HLM.out]; rfl
                  rw [← e3] at O ⊢
                  clear B4 hown4 hg4 hat4 OA NB SA KA e3
                  generalize w4 = wr at *
                  generalize A4 = A at *
                  generalize cp4 = cap at *
                  clear HC
                  go_wp2
                  go_roundw
                  case rel => exact ⟨k + 1, by omega, by go_num, O, K⟩
                  case measure => simp [intOf]; omega
                · have h2' : hs Z (n + k) = false := by simpa using h2
                  have EL := nl_0 (Z := Z) (n := n) (d := k) (Or.inr h2')
                  rw [h2'] at C2
                  rw [← EL] at O ⊢
                  clear h2 h2' EL
                  go_wp2_with (go_at_call 31; refine C2.out.mono ?_; rintro e w' ⟨rfl, rfl⟩)
                  go_roundw
                  case rel => exact ⟨k + 1, by omega, by go_num, O, K⟩
                  case measure => simp [intOf]; omega
          · obtain rfl : k = 4 := by omega
            rw [← E.out.2] at O ⊢
            have e1 := E.out.1

            clear hcp
            go_wp2
            refine ret_si Try.results16 rfl rfl rfl ⟨⟨_, _, ?_, O.out⟩, K.out⟩
            rw [e1]
      · have E := hide (nE_two hc (n := n) (by omega))
        have O := hide (show OwI w.heap.size w (.slice none (nR Z n).length 0) (nR Z n) by rw [E.out.2]; exact OZ.out)
        clear hc
        go_enter Try.func16, Try.ntmps16
        go_wp2_with (go_at_call 14; refine CK.out.mono ?_; rintro e w' ⟨rfl, rfl⟩)
        refine ret_si Try.results16 rfl rfl rfl ⟨⟨none, 0, ?_, O.out⟩, K.out⟩
        rw [E.out.1, E.out.2]; rfl
    · have E := hide (nE_two hc (n := n) (by omega))
      have O := hide (show OwI w.heap.size w (.slice none (nR Z n).length 0) (nR Z n) by rw [E.out.2]; exact OZ.out)
      clear hc
      go_enter Try.func16, Try.ntmps16
      go_wp2_with (go_at_call 14; refine CK.out.mono ?_; rintro e w' ⟨rfl, rfl⟩)
      refine ret_si Try.results16 rfl rfl rfl ⟨⟨none, 0, ?_, O.out⟩, K.out⟩
      rw [E.out.1, E.out.2]; rfl
  · have E := hide (nE_bad hc (n := n))
    have hne : (chE Z != 0) = true := by simpa using hc
    have O := hide (show OwI w.heap.size w (.slice none (nR Z n).length 0) (nR Z n) by rw [E.out.2]; exact OZ.out)
    go_enter Try.func16, Try.ntmps16
    go_wp2_with (go_at_call 14; refine CK.out.mono ?_; rintro e w' ⟨rfl, rfl⟩)
    refine ret_si Try.results16 rfl rfl rfl ⟨⟨none, 0, ?_, O.out⟩, K.out⟩
    rw [E.out.1, E.out.2]; rfl
end Go.Proofs.Ytiopfeleaifpbaa.Bd
