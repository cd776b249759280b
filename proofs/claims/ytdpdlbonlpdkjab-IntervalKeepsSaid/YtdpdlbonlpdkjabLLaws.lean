import Derived.Test.YtdpdlbonlpdkjabLMembers
namespace Go.Proofs.Ytdpdlbonlpdkjab.Iv
open Go Go.RowKit
set_option linter.unusedVariables false
theorem cnt_pred : ∀ {e : List Int} {x : Int}, x ∉ e → cnt e (x - 1) = cnt e x
  | [], x, _ => rfl
  | y :: e, x, h => by
    rw [cnt_cons, cnt_cons, cnt_pred (e := e) (fun hx => h (List.mem_cons_of_mem _ hx))]
    have : y ≠ x := fun e => h (e ▸ List.mem_cons_self)
    by_cases c : y ≤ x
    · rw [if_pos c, if_pos (by omega)]
    · rw [if_neg c, if_neg (by omega)]
theorem cnt_turn : ∀ {e : List Int} {x : Int}, asc e → x ∈ e → odd (cnt e x) = !odd (cnt e (x - 1))
  | [], x, _, h => by cases h
  | y :: e, x, ha, h => by
    have h1 := List.pairwise_cons.1 ha
    rw [cnt_cons, cnt_cons]
    rcases List.mem_cons.1 h with rfl | hx
    · rw [cnt_none (e := e) (fun z hz => h1.1 z hz), cnt_none (e := e) (fun z hz => by have := h1.1 z hz; omega), if_pos (Int.le_refl _), if_neg (by omega)]; rfl
    · have := h1.1 x hx
      rw [if_pos (by omega), if_pos (by omega), odd_succ, odd_succ, cnt_turn h1.2 hx]
theorem asc_sub_len : ∀ {e f : List Int}, asc e → (∀ x ∈ e, x ∈ f) → e.length ≤ f.length
  | [], f, _, _ => Nat.zero_le _
  | x :: e, f, ha, h => by
    have h1 := List.pairwise_cons.1 ha
    have hx := h x List.mem_cons_self
    have := asc_sub_len (e := e) (f := f.erase x) h1.2 fun z hz => (List.mem_erase_of_ne (by have := h1.1 z hz; omega)).2 (h z (List.mem_cons_of_mem _ hz))
    rw [List.length_erase_of_mem hx] at this
    have : 0 < f.length := List.length_pos_of_mem hx
    simp; omega
/-- Of two lists the result of an operation, number by number, has no more intervals than both. -/
theorem len_le {R L M : IL} (f : Bool → Bool → Bool) (hR : asc (edges R)) (hL : asc (edges L)) (hM : asc (edges M)) (h : ∀ n, mem R n = f (mem L n) (mem M n)) : R.length ≤ L.length + M.length := by
  have hs : ∀ x ∈ edges R, x ∈ edges L ++ edges M := by
    intro x hx
    rw [List.mem_append]
    rcases Classical.em (x ∈ edges L) with c | c
    · exact .inl c
    · rcases Classical.em (x ∈ edges M) with d | d
      · exact .inr d
      · exfalso
        have t := cnt_turn hR hx
        rw [← mem_cnt hR, ← mem_cnt hR, h, h, mem_cnt hL, mem_cnt hM, mem_cnt hL, mem_cnt hM, cnt_pred c, cnt_pred d] at t
        revert t
        cases f (odd (cnt (edges L) x)) (odd (cnt (edges M) x)) <;> simp
  have := asc_sub_len hR hs
  rw [List.length_append, edges_length, edges_length, edges_length] at this
  omega
theorem gap_len {R L : IL} {lo hi : Int} (h0 : lo ≤ hi) (hR : asc (edges R)) (hL : asc (edges L)) (h : ∀ n, mem R n = ((decide (lo ≤ n) && decide (n < hi)) && !mem L n)) : R.length ≤ L.length + 1 := by
  have := len_le (fun x y => x && !y) hR (oneL_asc h0) hL (fun n => by rw [h, oneL_mem])
  have h1 : (oneL lo hi).length ≤ 1 := by unfold oneL; split <;> simp
  omega
/-- A box of three ints of the call's own. -/
def Box3 (w : World) (g : Nat) (x y z : Int) : Prop := w.heap[g]? = some (.cells #[.int .i64 x, .int .i64 y, .int .i64 z] 34 (0, 0))
theorem Box3.c0 {w : World} {g : Nat} {x y z : Int} (h : Box3 w g x y z) : w.cell? ⟨g, 0, none⟩ = some (.int .i64 x) := by unfold Box3 at h; simp [World.cell?, h]
theorem Box3.c1 {w : World} {g : Nat} {x y z : Int} (h : Box3 w g x y z) : w.cell? ⟨g, 1, none⟩ = some (.int .i64 y) := by unfold Box3 at h; simp [World.cell?, h]
theorem Box3.c2 {w : World} {g : Nat} {x y z : Int} (h : Box3 w g x y z) : w.cell? ⟨g, 2, none⟩ = some (.int .i64 z) := by unfold Box3 at h; simp [World.cell?, h]
theorem Box3.lt {w : World} {g : Nat} {x y z : Int} (h : Box3 w g x y z) : g < w.heap.size := by
  rcases Nat.lt_or_ge g w.heap.size with h1 | h1
  · exact h1
  · unfold Box3 at h; rw [Array.getElem?_eq_none h1] at h; cases h
theorem Box3.below {w w' : World} {g : Nat} {x y z : Int} (h : Box3 w g x y z) (hb : Below w.heap.size w w') : Box3 w' g x y z := (hb.block g h.lt).trans h
theorem Box3.new (w : World) (x y z : Int) : Box3 (w.alloc (.cells #[.int .i64 x, .int .i64 y, .int .i64 z] 34)) w.heap.size x y z := by
  unfold Box3
  show (w.heap.push _)[w.heap.size]? = _
  simp
theorem same_is (A B : Option Addr) (L : IL) (c d : Nat) (w : World) (hr : Iv w A L) (hs : Iv w B L) (hl : L.length ≤ 2000) :
    Calls Try.prog 23 #[.slice A L.length c, .slice B L.length d] w fun e w' => e = .returned (.bool true) ∧ Below w.heap.size w w' :=
  (same_any A B L L c d w hr hs (by omega) (by omega)).mono fun e w' ⟨he, hb⟩ => ⟨by rw [he]; exact ret_bool (decide_eq_true rfl), hb⟩
set_option maxHeartbeats 4000000 in
theorem laws_good (A B : Option Addr) (L M : IL) (c d : Nat) (lo hi n : Int) (w : World) (hr : Iv w A L) (hs : Iv w B M) (hl : L.length ≤ 12) (hm : M.length ≤ 12) (h1 : chk L = 0) (h2 : chk M = 0) (h3 : lo ≤ hi) :
    Calls Try.prog 8 #[.slice A L.length c, .slice B M.length d, .agg #[.int .i64 lo, .int .i64 hi, .int .i64 n]] w fun e w' => e = .returned (.bool true) ∧ Below w.heap.size w w' := by
  have hb0 := bal (brefl w) (.cells #[.int .i64 lo, .int .i64 hi, .int .i64 n] 34)
  have X := hide (Box3.new w lo hi n)
  have QA := hide (hr.below hb0)
  have QB := hide (hs.below hb0)
  have K := hide hb0
  have HF := hide (fun W => few_is A B L.length M.length c d true W (by omega) (by omega) (by simp [hl, hm]))
  have C1 := hide h1
  have C2 := hide h2
  have HA := hide (chk_ok.1 h1)
  have HB := hide (chk_ok.1 h2)
  have hd : decide (hi < lo) = false := decide_eq_false (by omega)
  clear hr hs h1 h2 hb0
  go_enter Try.func8, Try.ntmps8
  go_wp2_with fail
  refine (HF.out _).mono ?_
  rintro e w' ⟨rfl, rfl⟩
  go_wp2_with fail
  refine (sound_is A L c true _ QA.out (by omega) (decide_eq_true C1.out)).mono ?_
  rintro e w2 ⟨rfl, hb2⟩
  replace K := hide (btrans K.out hb2)
  replace X := hide (X.out.below hb2)
  replace QA := hide (QA.out.below hb2)
  replace QB := hide (QB.out.below hb2)
  clear hb2
  go_wp2_with fail
  refine (sound_is B M d true _ QB.out (by omega) (decide_eq_true C2.out)).mono ?_
  rintro e w3 ⟨rfl, hb3⟩
  replace K := hide (btrans K.out hb3)
  replace X := hide (X.out.below hb3)
  replace QA := hide (QA.out.below hb3)
  replace QB := hide (QB.out.below hb3)
  clear hb3
  have x0 := X.out.c0
  have x1 := X.out.c1
  go_wp2_with fail
  refine (union_ok A B L M c d _ QA.out QB.out (by omega) (by omega) C1.out C2.out).mono ?_
  rintro e w4 ⟨Au, cu, Ru, rfl, ha, hmm, hle, hmi, hb4⟩
  replace K := hide (btrans K.out hb4)
  replace X := hide (X.out.below hb4)
  replace QA := hide (QA.out.below hb4)
  replace QB := hide (QB.out.below hb4)
  have Qu := hide hmi.iv
  have Hu := hide (And.intro ha hmm)
  have lu : Ru.length ≤ 24 := by have := len_le (fun x y => x || y) ha HA.out HB.out hmm; omega
  clear hb4 ha hmm hle hmi x0 x1
  go_wp2_with fail
  refine (union_ok B A M L d c _ QB.out QA.out (by omega) (by omega) C2.out C1.out).mono ?_
  rintro e w5 ⟨Av, cv, Rv, rfl, ha, hmm, hle, hmi, hb5⟩
  replace K := hide (btrans K.out hb5)
  replace X := hide (X.out.below hb5)
  replace QA := hide (QA.out.below hb5)
  replace QB := hide (QB.out.below hb5)
  replace Qu := hide (Qu.out.below hb5)
  have Qv := hide hmi.iv
  obtain rfl : Ru = Rv := il_ext Hu.out.1 ha fun n => by rw [hmm, Hu.out.2, Bool.or_comm]
  clear hb5 ha hmm hle hmi
  go_wp2_with fail
  refine (inter_ok A B L M c d _ QA.out QB.out (by omega) (by omega) C1.out C2.out).mono ?_
  rintro e w6 ⟨Ai, ci, Ri, rfl, ha, hmm, hle, hmi, hb6⟩
  replace K := hide (btrans K.out hb6)
  replace X := hide (X.out.below hb6)
  replace QA := hide (QA.out.below hb6)
  replace QB := hide (QB.out.below hb6)
  replace Qu := hide (Qu.out.below hb6)
  replace Qv := hide (Qv.out.below hb6)
  have Qi := hide hmi.iv
  have Hi := hide (And.intro ha hmm)
  have li : Ri.length ≤ 24 := by have := len_le (fun x y => x && y) ha HA.out HB.out hmm; omega
  clear hb6 ha hmm hle hmi
  go_wp2_with fail
  refine (inter_ok B A M L d c _ QB.out QA.out (by omega) (by omega) C2.out C1.out).mono ?_
  rintro e w7 ⟨Aj, cj, Rj, rfl, ha, hmm, hle, hmi, hb7⟩
  replace K := hide (btrans K.out hb7)
  replace X := hide (X.out.below hb7)
  replace QA := hide (QA.out.below hb7)
  replace QB := hide (QB.out.below hb7)
  replace Qu := hide (Qu.out.below hb7)
  replace Qv := hide (Qv.out.below hb7)
  replace Qi := hide (Qi.out.below hb7)
  have Qj := hide hmi.iv
  obtain rfl : Ri = Rj := il_ext Hi.out.1 ha fun n => by rw [hmm, Hi.out.2, Bool.and_comm]
  clear hb7 ha hmm hle hmi
  go_wp2_with fail
  refine (subtract_ok A B L M c d _ QA.out QB.out (by omega) (by omega) C1.out C2.out).mono ?_
  rintro e w8 ⟨Ad, cd, Rd, rfl, ha, hmm, hle, hmi, hb8⟩
  replace K := hide (btrans K.out hb8)
  replace X := hide (X.out.below hb8)
  replace QA := hide (QA.out.below hb8)
  replace QB := hide (QB.out.below hb8)
  replace Qu := hide (Qu.out.below hb8)
  replace Qv := hide (Qv.out.below hb8)
  replace Qi := hide (Qi.out.below hb8)
  replace Qj := hide (Qj.out.below hb8)
  have Qd := hide hmi.iv
  have Hd := hide (And.intro ha hmm)
  have ld : Rd.length ≤ 24 := by have := len_le (fun x y => x && !y) ha HA.out HB.out hmm; omega
  clear hb8 ha hmm hle hmi
  go_wp2_with fail
  refine (union_ok _ _ Rd Ri _ _ _ Qd.out Qi.out (by omega) (by omega) (chk_ok.2 Hd.out.1) (chk_ok.2 Hi.out.1)).mono ?_
  rintro e w9 ⟨Aw, cw, Rw, rfl, ha, hmm, hle, hmi, hb9⟩
  replace K := hide (btrans K.out hb9)
  replace X := hide (X.out.below hb9)
  replace QA := hide (QA.out.below hb9)
  replace QB := hide (QB.out.below hb9)
  replace Qu := hide (Qu.out.below hb9)
  replace Qv := hide (Qv.out.below hb9)
  replace Qi := hide (Qi.out.below hb9)
  replace Qj := hide (Qj.out.below hb9)
  replace Qd := hide (Qd.out.below hb9)
  have Qw := hide hmi.iv
  obtain rfl : L = Rw := il_ext HA.out ha fun n => by rw [hmm]; dsimp only; rw [Hd.out.2, Hi.out.2]; cases mem L n <;> cases mem M n <;> rfl
  clear hb9 ha hmm hle hmi
  go_wp2_with fail
  refine (inter_ok _ _ Rd Ri _ _ _ Qd.out Qi.out (by omega) (by omega) (chk_ok.2 Hd.out.1) (chk_ok.2 Hi.out.1)).mono ?_
  rintro e w10 ⟨Az, cz, Rz, rfl, ha, hmm, hle, hmi, hb10⟩
  replace K := hide (btrans K.out hb10)
  replace X := hide (X.out.below hb10)
  replace QA := hide (QA.out.below hb10)
  replace QB := hide (QB.out.below hb10)
  replace Qu := hide (Qu.out.below hb10)
  replace Qv := hide (Qv.out.below hb10)
  replace Qi := hide (Qi.out.below hb10)
  replace Qj := hide (Qj.out.below hb10)
  replace Qd := hide (Qd.out.below hb10)
  replace Qw := hide (Qw.out.below hb10)
  have Qz := hide hmi.iv
  obtain rfl : Rz = [] := il_ext ha (by unfold asc; exact List.Pairwise.nil) fun n => by rw [hmm]; dsimp only; rw [Hd.out.2, Hi.out.2]; show _ = false; cases mem _ n <;> cases mem M n <;> rfl
  clear hb10 ha hmm hle hmi
  have x0 := X.out.c0
  have x1 := X.out.c1
  go_wp2_with fail
  refine (gaps_ok _ Ru _ lo hi _ Qu.out (by omega) (chk_ok.2 Hu.out.1) h3).mono ?_
  rintro e w11 ⟨Ag, cg, Rg, rfl, ha, hmm, hle, hmi, hb11⟩
  replace K := hide (btrans K.out hb11)
  replace X := hide (X.out.below hb11)
  replace QA := hide (QA.out.below hb11)
  replace QB := hide (QB.out.below hb11)
  replace Qu := hide (Qu.out.below hb11)
  replace Qv := hide (Qv.out.below hb11)
  replace Qi := hide (Qi.out.below hb11)
  replace Qj := hide (Qj.out.below hb11)
  replace Qd := hide (Qd.out.below hb11)
  replace Qw := hide (Qw.out.below hb11)
  replace Qz := hide (Qz.out.below hb11)
  have Qg := hide hmi.iv
  have Hg := hide (And.intro ha hmm)
  have lg : Rg.length ≤ 2000 := hle
  clear hb11 ha hmm hle hmi x0 x1
  have x0 := X.out.c0
  have x1 := X.out.c1
  go_wp2_with fail
  refine (gaps_ok A _ c lo hi _ QA.out (by omega) C1.out h3).mono ?_
  rintro e w12 ⟨Ax, cx, Rx, rfl, ha, hmm, hle, hmi, hb12⟩
  replace K := hide (btrans K.out hb12)
  replace X := hide (X.out.below hb12)
  replace QA := hide (QA.out.below hb12)
  replace QB := hide (QB.out.below hb12)
  replace Qu := hide (Qu.out.below hb12)
  replace Qv := hide (Qv.out.below hb12)
  replace Qi := hide (Qi.out.below hb12)
  replace Qj := hide (Qj.out.below hb12)
  replace Qd := hide (Qd.out.below hb12)
  replace Qw := hide (Qw.out.below hb12)
  replace Qz := hide (Qz.out.below hb12)
  replace Qg := hide (Qg.out.below hb12)
  have Qx := hide hmi.iv
  have Hx := hide (And.intro ha hmm)
  have lx : Rx.length ≤ 20 := by have := gap_len h3 ha HA.out hmm; omega
  clear hb12 ha hmm hle hmi x0 x1
  have x0 := X.out.c0
  have x1 := X.out.c1
  go_wp2_with fail
  refine (gaps_ok B M d lo hi _ QB.out (by omega) C2.out h3).mono ?_
  rintro e w13 ⟨Ay, cy, Ry, rfl, ha, hmm, hle, hmi, hb13⟩
  replace K := hide (btrans K.out hb13)
  replace X := hide (X.out.below hb13)
  replace QA := hide (QA.out.below hb13)
  replace QB := hide (QB.out.below hb13)
  replace Qu := hide (Qu.out.below hb13)
  replace Qv := hide (Qv.out.below hb13)
  replace Qi := hide (Qi.out.below hb13)
  replace Qj := hide (Qj.out.below hb13)
  replace Qd := hide (Qd.out.below hb13)
  replace Qw := hide (Qw.out.below hb13)
  replace Qz := hide (Qz.out.below hb13)
  replace Qg := hide (Qg.out.below hb13)
  replace Qx := hide (Qx.out.below hb13)
  have Qy := hide hmi.iv
  have Hy := hide (And.intro ha hmm)
  have ly : Ry.length ≤ 20 := by have := gap_len h3 ha HB.out hmm; omega
  clear hb13 ha hmm hle hmi x0 x1
  go_wp2_with fail
  refine (inter_ok _ _ Rx Ry _ _ _ Qx.out Qy.out (by omega) (by omega) (chk_ok.2 Hx.out.1) (chk_ok.2 Hy.out.1)).mono ?_
  rintro e w14 ⟨Ah, ch, Rh, rfl, ha, hmm, hle, hmi, hb14⟩
  replace K := hide (btrans K.out hb14)
  replace X := hide (X.out.below hb14)
  replace QA := hide (QA.out.below hb14)
  replace QB := hide (QB.out.below hb14)
  replace Qu := hide (Qu.out.below hb14)
  replace Qv := hide (Qv.out.below hb14)
  replace Qi := hide (Qi.out.below hb14)
  replace Qj := hide (Qj.out.below hb14)
  replace Qd := hide (Qd.out.below hb14)
  replace Qw := hide (Qw.out.below hb14)
  replace Qz := hide (Qz.out.below hb14)
  replace Qg := hide (Qg.out.below hb14)
  replace Qx := hide (Qx.out.below hb14)
  replace Qy := hide (Qy.out.below hb14)
  have Qh := hide hmi.iv
  obtain rfl : Rg = Rh := il_ext Hg.out.1 ha fun n => by rw [hmm]; dsimp only; rw [Hx.out.2, Hy.out.2, Hg.out.2, Hu.out.2]; cases mem _ n <;> cases mem M n <;> cases (decide (lo ≤ n) && decide (n < hi)) <;> rfl
  clear hb14 ha hmm hle hmi
  go_wp2_with fail
  refine (same_is _ _ _ _ _ _ Qu.out Qv.out (by omega)).mono ?_
  rintro e w15 ⟨rfl, hb15⟩
  replace K := hide (btrans K.out hb15)
  replace X := hide (X.out.below hb15)
  replace QA := hide (QA.out.below hb15)
  replace QB := hide (QB.out.below hb15)
  replace Qu := hide (Qu.out.below hb15)
  replace Qv := hide (Qv.out.below hb15)
  replace Qi := hide (Qi.out.below hb15)
  replace Qj := hide (Qj.out.below hb15)
  replace Qd := hide (Qd.out.below hb15)
  replace Qw := hide (Qw.out.below hb15)
  replace Qz := hide (Qz.out.below hb15)
  replace Qg := hide (Qg.out.below hb15)
  replace Qx := hide (Qx.out.below hb15)
  replace Qy := hide (Qy.out.below hb15)
  replace Qh := hide (Qh.out.below hb15)
  clear hb15
  go_wp2_with fail
  refine (same_is _ _ _ _ _ _ Qi.out Qj.out (by omega)).mono ?_
  rintro e w16 ⟨rfl, hb16⟩
  replace K := hide (btrans K.out hb16)
  replace X := hide (X.out.below hb16)
  replace QA := hide (QA.out.below hb16)
  replace QB := hide (QB.out.below hb16)
  replace Qu := hide (Qu.out.below hb16)
  replace Qv := hide (Qv.out.below hb16)
  replace Qi := hide (Qi.out.below hb16)
  replace Qj := hide (Qj.out.below hb16)
  replace Qd := hide (Qd.out.below hb16)
  replace Qw := hide (Qw.out.below hb16)
  replace Qz := hide (Qz.out.below hb16)
  replace Qg := hide (Qg.out.below hb16)
  replace Qx := hide (Qx.out.below hb16)
  replace Qy := hide (Qy.out.below hb16)
  replace Qh := hide (Qh.out.below hb16)
  clear hb16
  go_wp2_with fail
  refine (same_is _ _ _ _ _ _ Qw.out QA.out (by omega)).mono ?_
  rintro e w17 ⟨rfl, hb17⟩
  replace K := hide (btrans K.out hb17)
  replace X := hide (X.out.below hb17)
  replace QA := hide (QA.out.below hb17)
  replace QB := hide (QB.out.below hb17)
  replace Qu := hide (Qu.out.below hb17)
  replace Qv := hide (Qv.out.below hb17)
  replace Qi := hide (Qi.out.below hb17)
  replace Qj := hide (Qj.out.below hb17)
  replace Qd := hide (Qd.out.below hb17)
  replace Qw := hide (Qw.out.below hb17)
  replace Qz := hide (Qz.out.below hb17)
  replace Qg := hide (Qg.out.below hb17)
  replace Qx := hide (Qx.out.below hb17)
  replace Qy := hide (Qy.out.below hb17)
  replace Qh := hide (Qh.out.below hb17)
  clear hb17
  go_wp2_with fail
  refine (same_is _ _ _ _ _ _ Qg.out Qh.out (by omega)).mono ?_
  rintro e w18 ⟨rfl, hb18⟩
  replace K := hide (btrans K.out hb18)
  replace X := hide (X.out.below hb18)
  replace QA := hide (QA.out.below hb18)
  replace QB := hide (QB.out.below hb18)
  replace Qu := hide (Qu.out.below hb18)
  replace Qv := hide (Qv.out.below hb18)
  replace Qi := hide (Qi.out.below hb18)
  replace Qj := hide (Qj.out.below hb18)
  replace Qd := hide (Qd.out.below hb18)
  replace Qw := hide (Qw.out.below hb18)
  replace Qz := hide (Qz.out.below hb18)
  replace Qg := hide (Qg.out.below hb18)
  replace Qx := hide (Qx.out.below hb18)
  replace Qy := hide (Qy.out.below hb18)
  replace Qh := hide (Qh.out.below hb18)
  clear hb18
  go_wp2_with fail
  refine (awake _).mono ?_
  rintro e w19 ⟨rfl, hb19⟩
  replace K := hide (btrans K.out hb19)
  replace X := hide (X.out.below hb19)
  replace QA := hide (QA.out.below hb19)
  replace QB := hide (QB.out.below hb19)
  replace Qu := hide (Qu.out.below hb19)
  replace Qv := hide (Qv.out.below hb19)
  replace Qi := hide (Qi.out.below hb19)
  replace Qj := hide (Qj.out.below hb19)
  replace Qd := hide (Qd.out.below hb19)
  replace Qw := hide (Qw.out.below hb19)
  replace Qz := hide (Qz.out.below hb19)
  replace Qg := hide (Qg.out.below hb19)
  replace Qx := hide (Qx.out.below hb19)
  replace Qy := hide (Qy.out.below hb19)
  replace Qh := hide (Qh.out.below hb19)
  clear hb19
  go_wp2_with fail
  go_ret
  exact ⟨rfl, K.out⟩
theorem laws_bad (A B : Option Addr) (L M : IL) (c d : Nat) (lo hi n : Int) (w : World) (hr : Iv w A L) (hs : Iv w B M) (hl : L.length ≤ 9223372036854775807) (hm : M.length ≤ 9223372036854775807) (h : ¬ (L.length ≤ 12 ∧ M.length ≤ 12 ∧ chk L = 0 ∧ chk M = 0 ∧ lo ≤ hi)) :
    Calls Try.prog 8 #[.slice A L.length c, .slice B M.length d, .agg #[.int .i64 lo, .int .i64 hi, .int .i64 n]] w fun e w' => e = .returned (.bool true) ∧ Below w.heap.size w w' := by
  have hb0 := bal (brefl w) (.cells #[.int .i64 lo, .int .i64 hi, .int .i64 n] 34)
  have X := hide (Box3.new w lo hi n)
  have QA := hide (hr.below hb0)
  have QB := hide (hs.below hb0)
  have K := hide hb0
  clear hr hs hb0
  by_cases h1 : L.length ≤ 12 ∧ M.length ≤ 12
  · have HF := hide (fun W => few_is A B L.length M.length c d true W (by omega) (by omega) (by simp [h1.1, h1.2]))
    by_cases h2 : chk L = 0
    · by_cases h3 : chk M = 0
      · have h4 : hi < lo := by
          rcases Int.lt_or_le hi lo with k | k
          · exact k
          · exact absurd ⟨h1.1, h1.2, h2, h3, k⟩ h
        have hd : decide (hi < lo) = true := decide_eq_true h4
        have S1 := hide (fun W (q : Iv W A L) => sound_is A L c true W q (by omega) (decide_eq_true h2))
        have S2 := hide (fun W (q : Iv W B M) => sound_is B M d true W q (by omega) (decide_eq_true h3))
        clear h h1 h2 h3 h4
        go_enter Try.func8, Try.ntmps8
        go_wp2_with fail
        refine (HF.out _).mono ?_
        rintro e w' ⟨rfl, rfl⟩
        go_wp2_with fail
        refine (S1.out _ QA.out).mono ?_
        rintro e w1 ⟨rfl, hb1⟩
        replace K := hide (btrans K.out hb1)
        replace X := hide (X.out.below hb1)
        replace QB := hide (QB.out.below hb1)
        clear hb1
        go_wp2_with fail
        refine (S2.out _ QB.out).mono ?_
        rintro e w2 ⟨rfl, hb2⟩
        replace K := hide (btrans K.out hb2)
        replace X := hide (X.out.below hb2)
        clear hb2
        have x0 := X.out.c0
        have x1 := X.out.c1
        go_wp2_with fail
        refine (awake _).mono ?_
        rintro e w3 ⟨rfl, hb3⟩
        replace K := hide (btrans K.out hb3)
        clear hb3
        go_wp2_with fail
        go_ret
        exact ⟨rfl, K.out⟩
      · have S1 := hide (fun W (q : Iv W A L) => sound_is A L c true W q (by omega) (decide_eq_true h2))
        have S2 := hide (fun W (q : Iv W B M) => sound_is B M d false W q (by omega) (decide_eq_false h3))
        clear h h1 h2 h3
        go_enter Try.func8, Try.ntmps8
        go_wp2_with fail
        refine (HF.out _).mono ?_
        rintro e w' ⟨rfl, rfl⟩
        go_wp2_with fail
        refine (S1.out _ QA.out).mono ?_
        rintro e w1 ⟨rfl, hb1⟩
        replace K := hide (btrans K.out hb1)
        replace QB := hide (QB.out.below hb1)
        clear hb1
        go_wp2_with fail
        refine (S2.out _ QB.out).mono ?_
        rintro e w2 ⟨rfl, hb2⟩
        replace K := hide (btrans K.out hb2)
        clear hb2
        go_wp2_with fail
        refine (awake _).mono ?_
        rintro e w3 ⟨rfl, hb3⟩
        replace K := hide (btrans K.out hb3)
        clear hb3
        go_wp2_with fail
        go_ret
        exact ⟨rfl, K.out⟩
    · have S1 := hide (fun W (q : Iv W A L) => sound_is A L c false W q (by omega) (decide_eq_false h2))
      clear h h1 h2
      go_enter Try.func8, Try.ntmps8
      go_wp2_with fail
      refine (HF.out _).mono ?_
      rintro e w' ⟨rfl, rfl⟩
      go_wp2_with fail
      refine (S1.out _ QA.out).mono ?_
      rintro e w1 ⟨rfl, hb1⟩
      replace K := hide (btrans K.out hb1)
      clear hb1
      go_wp2_with fail
      refine (awake _).mono ?_
      rintro e w3 ⟨rfl, hb3⟩
      replace K := hide (btrans K.out hb3)
      clear hb3
      go_wp2_with fail
      go_ret
      exact ⟨rfl, K.out⟩
  · have HF := hide (fun W => few_is A B L.length M.length c d false W (by omega) (by omega) (by
      rw [Bool.eq_false_iff]; intro e; simp at e; exact h1 e))
    clear h h1
    go_enter Try.func8, Try.ntmps8
    go_wp2_with fail
    refine (HF.out _).mono ?_
    rintro e w' ⟨rfl, rfl⟩
    go_wp2_with fail
    refine (awake _).mono ?_
    rintro e w3 ⟨rfl, hb3⟩
    replace K := hide (btrans K.out hb3)
    clear hb3
    go_wp2_with fail
    go_ret
    exact ⟨rfl, K.out⟩
theorem law_laws (A B : Option Addr) (L M : IL) (c d : Nat) (lo hi n : Int) (w : World) (hr : Iv w A L) (hs : Iv w B M) (hl : L.length ≤ 9223372036854775807) (hm : M.length ≤ 9223372036854775807) (_ : -9223372036854775808 ≤ lo ∧ lo ≤ 9223372036854775807) (_ : -9223372036854775808 ≤ hi ∧ hi ≤ 9223372036854775807) (_ : -9223372036854775808 ≤ n ∧ n ≤ 9223372036854775807) :
    Calls Try.prog 8 #[.slice A L.length c, .slice B M.length d, .agg #[.int .i64 lo, .int .i64 hi, .int .i64 n]] w fun e w' => e = .returned (.bool true) ∧ Below w.heap.size w w' := by
  by_cases h : L.length ≤ 12 ∧ M.length ≤ 12 ∧ chk L = 0 ∧ chk M = 0 ∧ lo ≤ hi
  · exact laws_good A B L M c d lo hi n w hr hs h.1 h.2.1 h.2.2.1 h.2.2.2.1 h.2.2.2.2
  · exact laws_bad A B L M c d lo hi n w hr hs hl hm h
end Go.Proofs.Ytdpdlbonlpdkjab.Iv
