import Derived.Test.YtiopfeleaifpbabW1
namespace Go.Proofs.Ytiopfeleaifpbab.Bd
open Go Go.RowKit
set_option linter.unusedVariables false
theorem ret_m2 {fn : Func} {a : Act} {W : World} {g k m : Nat} {er x y z : Int} {Q : Ending → World → Prop} (hr : fn.results = #[.cell k 23, .tmp m]) (h2 : a.tmps.getD k undef = .pointer (some ⟨g, 0, none⟩)) (h3 : a.tmps.getD m undef = .int .i64 er) (hd : a.defers = [])
    (hE : Box W g 23 #[.int .i64 x, .int .i64 y, .int .i64 z]) (hq : Q (.returned (.tuple #[.agg #[.int .i64 x, .int .i64 y, .int .i64 z], .int .i64 er])) W) : bodyPost Try.prog fn Q .ret a W := by
  have c0 := hE.cell 0
  have c1 := hE.cell 1
  have c2 := hE.cell 2
  simp at c0 c1 c2
  simp only [Array.getD_eq_getD_getElem?] at h2 h3
  exact bodyPost_ret (v := .tuple #[.agg #[.int .i64 x, .int .i64 y, .int .i64 z], .int .i64 er]) (by simp [results, hr, h2, h3, go_sem, c0, c1, c2]; try rfl) hd hq
set_option maxHeartbeats 2000000 in
theorem flo_any (m : Mk) (x : Int) (w : World) : Calls Try.prog 15 #[.agg #[.int .i64 m.lo, .int .i64 m.md, .int .i64 m.hi], .int .i64 x] w fun e w' => e = .returned (.int .i64 (flM m x)) ∧ Below w.heap.size w w' := by
  have CK := hide (fun w1 => chk_any m w1)
  obtain ⟨r, hr⟩ : ∃ r, r = flM m x := ⟨_, rfl⟩
  rw [← hr]
  have HR := hide hr
  clear hr
  by_cases hok : okM m
  · rw [chkM_zero.2 hok] at CK
    have hlo := hok.1.1
    unfold inC at hlo
    have EV := hide (show flM m x = if x = 0 then m.lo else if x = 1 then m.lo / 2 else if x = 2 then 0 else -1 from if_pos hok)
    clear hok
    obtain ⟨a, b, c⟩ := m
    simp only at hlo CK EV
    show Calls Try.prog 15 #[.agg #[.int .i64 a, .int .i64 b, .int .i64 c], .int .i64 x] w _
    obtain ⟨g, hg⟩ : ∃ g, g = w.heap.size := ⟨_, rfl⟩
    obtain ⟨W0, hW0⟩ : ∃ W0, W0 = w.alloc (.cells #[.int .i64 a, .int .i64 b, .int .i64 c] 23) := ⟨_, rfl⟩
    have X := hide (show Box W0 g 23 #[.int .i64 a, .int .i64 b, .int .i64 c] by rw [hW0, hg]; exact Box.new w 23 _)
    have K := hide (show Below w.heap.size w W0 by rw [hW0]; exact bal (brefl w) _)
    have x0 : W0.cell? ⟨g, 0, none⟩ = some (.int .i64 a) := X.out.cell 0
    have x1 : W0.cell? ⟨g, 1, none⟩ = some (.int .i64 b) := X.out.cell 1
    have x2 : W0.cell? ⟨g, 2, none⟩ = some (.int .i64 c) := X.out.cell 2
    rw [EV.out] at HR
    by_cases h0 : x = 0
    · rw [if_pos h0] at HR
      subst h0
      go_enter Try.func15, Try.ntmps15
      go_upto_region 1 with fail
      rw [← hW0, ← hg]
      clear hW0 hg
      go_wp2_with (go_at_call 13; refine (CK.out _).mono ?_; rintro e w1 ⟨rfl, hb⟩; replace K := hide (btrans K.out hb); replace X := hide (X.out.below hb); clear hb x0 x1 x2; have x0 : w1.cell? ⟨g, 0, none⟩ = some (.int .i64 a) := X.out.cell 0)
      go_ret
      exact ⟨ret_int (by rw [HR.out]), K.out⟩
    · rw [if_neg h0] at HR
      by_cases h1 : x = 1
      · rw [if_pos h1] at HR
        subst h1
        go_enter Try.func15, Try.ntmps15
        go_upto_region 1 with fail
        rw [← hW0, ← hg]
        clear hW0 hg
        go_wp2_with (go_at_call 13; refine (CK.out _).mono ?_; rintro e w1 ⟨rfl, hb⟩; replace K := hide (btrans K.out hb); replace X := hide (X.out.below hb); clear hb x0 x1 x2; have x0 : w1.cell? ⟨g, 0, none⟩ = some (.int .i64 a) := X.out.cell 0)
        go_ret
        exact ⟨ret_int (by rw [HR.out]), K.out⟩
      · rw [if_neg h1] at HR
        by_cases h2 : x = 2
        · rw [if_pos h2] at HR
          subst h2
          go_enter Try.func15, Try.ntmps15
          go_upto_region 1 with fail
          rw [← hW0, ← hg]
          clear hW0 hg
          go_wp2_with (go_at_call 13; refine (CK.out _).mono ?_; rintro e w1 ⟨rfl, hb⟩; replace K := hide (btrans K.out hb); replace X := hide (X.out.below hb); clear hb x0 x1 x2; have x0 : w1.cell? ⟨g, 0, none⟩ = some (.int .i64 a) := X.out.cell 0)
          go_ret
          exact ⟨ret_int (by rw [HR.out]), K.out⟩
        · rw [if_neg h2] at HR
          go_enter Try.func15, Try.ntmps15
          go_upto_region 1 with fail
          rw [← hW0, ← hg]
          clear hW0 hg
          go_wp2_with (go_at_call 13; refine (CK.out _).mono ?_; rintro e w1 ⟨rfl, hb⟩; replace K := hide (btrans K.out hb); replace X := hide (X.out.below hb); clear hb x0 x1 x2; have x0 : w1.cell? ⟨g, 0, none⟩ = some (.int .i64 a) := X.out.cell 0)
          go_ret
          exact ⟨ret_int (by rw [HR.out]), K.out⟩
  · have hne : (chkM m != 0) = true := by simpa using fun h => hok (chkM_zero.1 h)
    have hne2 : ¬ chkM m = 0 := fun h => hok (chkM_zero.1 h)
    rw [show flM m x = -1 from if_neg hok] at HR
    generalize chkM m = ce at *
    clear hok
    obtain ⟨a, b, c⟩ := m
    show Calls Try.prog 15 #[.agg #[.int .i64 a, .int .i64 b, .int .i64 c], .int .i64 x] w _
    obtain ⟨g, hg⟩ : ∃ g, g = w.heap.size := ⟨_, rfl⟩
    obtain ⟨W0, hW0⟩ : ∃ W0, W0 = w.alloc (.cells #[.int .i64 a, .int .i64 b, .int .i64 c] 23) := ⟨_, rfl⟩
    have X := hide (show Box W0 g 23 #[.int .i64 a, .int .i64 b, .int .i64 c] by rw [hW0, hg]; exact Box.new w 23 _)
    have K := hide (show Below w.heap.size w W0 by rw [hW0]; exact bal (brefl w) _)
    have x0 : W0.cell? ⟨g, 0, none⟩ = some (.int .i64 a) := X.out.cell 0
    have x1 : W0.cell? ⟨g, 1, none⟩ = some (.int .i64 b) := X.out.cell 1
    have x2 : W0.cell? ⟨g, 2, none⟩ = some (.int .i64 c) := X.out.cell 2
    go_enter Try.func15, Try.ntmps15
    go_upto_region 1 with fail
    rw [← hW0, ← hg]
    clear hW0 hg
    go_wp2_with (go_at_call 13; refine (CK.out _).mono ?_; rintro e w1 ⟨rfl, hb⟩; replace K := hide (btrans K.out hb); replace X := hide (X.out.below hb); clear hb x0 x1 x2; have x0 : w1.cell? ⟨g, 0, none⟩ = some (.int .i64 a) := X.out.cell 0)
    go_ret
    exact ⟨ret_int (by rw [HR.out]), K.out⟩
set_option maxHeartbeats 2000000 in
theorem rflo_any (m : Mk) (x : Int) (w : World) : Calls Try.prog 16 #[.agg #[.int .i64 m.lo, .int .i64 m.md, .int .i64 m.hi], .int .i64 x] w fun e w' => e = .returned (.int .i64 (flM m x)) ∧ Below w.heap.size w w' := by
  have CK := hide (fun w1 => rchk_any m w1)
  obtain ⟨r, hr⟩ : ∃ r, r = flM m x := ⟨_, rfl⟩
  rw [← hr]
  have HR := hide hr
  clear hr
  by_cases hok : okM m
  · rw [chkM_zero.2 hok] at CK
    have hlo := hok.1.1
    unfold inC at hlo
    have EV := hide (show flM m x = if x = 0 then m.lo else if x = 1 then m.lo / 2 else if x = 2 then 0 else -1 from if_pos hok)
    clear hok
    obtain ⟨a, b, c⟩ := m
    simp only at hlo CK EV
    show Calls Try.prog 16 #[.agg #[.int .i64 a, .int .i64 b, .int .i64 c], .int .i64 x] w _
    obtain ⟨g, hg⟩ : ∃ g, g = w.heap.size := ⟨_, rfl⟩
    obtain ⟨W0, hW0⟩ : ∃ W0, W0 = w.alloc (.cells #[.int .i64 a, .int .i64 b, .int .i64 c] 23) := ⟨_, rfl⟩
    have X := hide (show Box W0 g 23 #[.int .i64 a, .int .i64 b, .int .i64 c] by rw [hW0, hg]; exact Box.new w 23 _)
    have K := hide (show Below w.heap.size w W0 by rw [hW0]; exact bal (brefl w) _)
    have x0 : W0.cell? ⟨g, 0, none⟩ = some (.int .i64 a) := X.out.cell 0
    have x1 : W0.cell? ⟨g, 1, none⟩ = some (.int .i64 b) := X.out.cell 1
    have x2 : W0.cell? ⟨g, 2, none⟩ = some (.int .i64 c) := X.out.cell 2
    rw [EV.out] at HR
    by_cases h0 : x = 0
    · rw [if_pos h0] at HR
      subst h0
      go_enter Try.func16, Try.ntmps16
      go_upto_region 1 with fail
      rw [← hW0, ← hg]
      clear hW0 hg
      go_wp2_with (go_at_call 14; refine (CK.out _).mono ?_; rintro e w1 ⟨rfl, hb⟩; replace K := hide (btrans K.out hb); replace X := hide (X.out.below hb); clear hb x0 x1 x2; have x0 : w1.cell? ⟨g, 0, none⟩ = some (.int .i64 a) := X.out.cell 0)
      go_ret
      exact ⟨ret_int (by rw [HR.out]), K.out⟩
    · rw [if_neg h0] at HR
      by_cases h1 : x = 1
      · rw [if_pos h1] at HR
        subst h1
        go_enter Try.func16, Try.ntmps16
        go_upto_region 1 with fail
        rw [← hW0, ← hg]
        clear hW0 hg
        go_wp2_with (go_at_call 14; refine (CK.out _).mono ?_; rintro e w1 ⟨rfl, hb⟩; replace K := hide (btrans K.out hb); replace X := hide (X.out.below hb); clear hb x0 x1 x2; have x0 : w1.cell? ⟨g, 0, none⟩ = some (.int .i64 a) := X.out.cell 0)
        go_ret
        exact ⟨ret_int (by rw [HR.out]), K.out⟩
      · rw [if_neg h1] at HR
        by_cases h2 : x = 2
        · rw [if_pos h2] at HR
          subst h2
          go_enter Try.func16, Try.ntmps16
          go_upto_region 1 with fail
          rw [← hW0, ← hg]
          clear hW0 hg
          go_wp2_with (go_at_call 14; refine (CK.out _).mono ?_; rintro e w1 ⟨rfl, hb⟩; replace K := hide (btrans K.out hb); replace X := hide (X.out.below hb); clear hb x0 x1 x2; have x0 : w1.cell? ⟨g, 0, none⟩ = some (.int .i64 a) := X.out.cell 0)
          go_ret
          exact ⟨ret_int (by rw [HR.out]), K.out⟩
        · rw [if_neg h2] at HR
          go_enter Try.func16, Try.ntmps16
          go_upto_region 1 with fail
          rw [← hW0, ← hg]
          clear hW0 hg
          go_wp2_with (go_at_call 14; refine (CK.out _).mono ?_; rintro e w1 ⟨rfl, hb⟩; replace K := hide (btrans K.out hb); replace X := hide (X.out.below hb); clear hb x0 x1 x2; have x0 : w1.cell? ⟨g, 0, none⟩ = some (.int .i64 a) := X.out.cell 0)
          go_ret
          exact ⟨ret_int (by rw [HR.out]), K.out⟩
  · have hne : (chkM m != 0) = true := by simpa using fun h => hok (chkM_zero.1 h)
    have hne2 : ¬ chkM m = 0 := fun h => hok (chkM_zero.1 h)
    rw [show flM m x = -1 from if_neg hok] at HR
    generalize chkM m = ce at *
    clear hok
    obtain ⟨a, b, c⟩ := m
    show Calls Try.prog 16 #[.agg #[.int .i64 a, .int .i64 b, .int .i64 c], .int .i64 x] w _
    obtain ⟨g, hg⟩ : ∃ g, g = w.heap.size := ⟨_, rfl⟩
    obtain ⟨W0, hW0⟩ : ∃ W0, W0 = w.alloc (.cells #[.int .i64 a, .int .i64 b, .int .i64 c] 23) := ⟨_, rfl⟩
    have X := hide (show Box W0 g 23 #[.int .i64 a, .int .i64 b, .int .i64 c] by rw [hW0, hg]; exact Box.new w 23 _)
    have K := hide (show Below w.heap.size w W0 by rw [hW0]; exact bal (brefl w) _)
    have x0 : W0.cell? ⟨g, 0, none⟩ = some (.int .i64 a) := X.out.cell 0
    have x1 : W0.cell? ⟨g, 1, none⟩ = some (.int .i64 b) := X.out.cell 1
    have x2 : W0.cell? ⟨g, 2, none⟩ = some (.int .i64 c) := X.out.cell 2
    go_enter Try.func16, Try.ntmps16
    go_upto_region 1 with fail
    rw [← hW0, ← hg]
    clear hW0 hg
    go_wp2_with (go_at_call 14; refine (CK.out _).mono ?_; rintro e w1 ⟨rfl, hb⟩; replace K := hide (btrans K.out hb); replace X := hide (X.out.below hb); clear hb x0 x1 x2; have x0 : w1.cell? ⟨g, 0, none⟩ = some (.int .i64 a) := X.out.cell 0)
    go_ret
    exact ⟨ret_int (by rw [HR.out]), K.out⟩
set_option maxHeartbeats 2000000 in
theorem wak_any (m : Mk) (x : Int) (rn : Bool) (w : World) : Calls Try.prog 17 #[.agg #[.int .i64 m.lo, .int .i64 m.md, .int .i64 m.hi], .int .i64 x, .bool rn] w fun e w' => e = .returned (.bool (wkM m x rn)) ∧ Below w.heap.size w w' := by
  have CK := hide (fun w1 => chk_any m w1)
  obtain ⟨r, hr⟩ : ∃ r, r = wkM m x rn := ⟨_, rfl⟩
  rw [← hr]
  have HR := hide (show r = decide (chkM m = 0 ∧ (x < m.md ∨ (rn = true ∧ x < m.hi))) by rw [hr]; unfold wkM; exact decide_eq_decide.2 (by rw [chkM_zero]))
  clear hr
  generalize chkM m = ce at *
  obtain ⟨a, b, c⟩ := m
  simp only at HR
  show Calls Try.prog 17 #[.agg #[.int .i64 a, .int .i64 b, .int .i64 c], .int .i64 x, .bool rn] w _
  obtain ⟨g, hg⟩ : ∃ g, g = w.heap.size := ⟨_, rfl⟩
  obtain ⟨W0, hW0⟩ : ∃ W0, W0 = w.alloc (.cells #[.int .i64 a, .int .i64 b, .int .i64 c] 23) := ⟨_, rfl⟩
  have X := hide (show Box W0 g 23 #[.int .i64 a, .int .i64 b, .int .i64 c] by rw [hW0, hg]; exact Box.new w 23 _)
  have K := hide (show Below w.heap.size w W0 by rw [hW0]; exact bal (brefl w) _)
  have x0 : W0.cell? ⟨g, 0, none⟩ = some (.int .i64 a) := X.out.cell 0
  have x1 : W0.cell? ⟨g, 1, none⟩ = some (.int .i64 b) := X.out.cell 1
  have x2 : W0.cell? ⟨g, 2, none⟩ = some (.int .i64 c) := X.out.cell 2
  by_cases h0 : ce = 0
  · subst h0
    by_cases h1 : x < b
    · cases rn
      all_goals
        go_enter Try.func17, Try.ntmps17
        go_upto_region 1 with fail
        rw [← hW0, ← hg]
        clear hW0 hg
        go_wp2_with (go_at_call 13; refine (CK.out _).mono ?_; rintro e w1 ⟨rfl, hb⟩; replace K := hide (btrans K.out hb); replace X := hide (X.out.below hb); clear hb x0 x1 x2; have x1 : w1.cell? ⟨g, 1, none⟩ = some (.int .i64 b) := X.out.cell 1; have x2 : w1.cell? ⟨g, 2, none⟩ = some (.int .i64 c) := X.out.cell 2)
        go_ret
        exact ⟨ret_bool (by rw [HR.out]; simp [h1]), K.out⟩
    · by_cases h2 : x < c
      · cases rn
        all_goals
          go_enter Try.func17, Try.ntmps17
          go_upto_region 1 with fail
          rw [← hW0, ← hg]
          clear hW0 hg
          go_wp2_with (go_at_call 13; refine (CK.out _).mono ?_; rintro e w1 ⟨rfl, hb⟩; replace K := hide (btrans K.out hb); replace X := hide (X.out.below hb); clear hb x0 x1 x2; have x1 : w1.cell? ⟨g, 1, none⟩ = some (.int .i64 b) := X.out.cell 1; have x2 : w1.cell? ⟨g, 2, none⟩ = some (.int .i64 c) := X.out.cell 2)
          go_ret
          exact ⟨ret_bool (by rw [HR.out]; simp [h1, h2]), K.out⟩
      · cases rn
        all_goals
          go_enter Try.func17, Try.ntmps17
          go_upto_region 1 with fail
          rw [← hW0, ← hg]
          clear hW0 hg
          go_wp2_with (go_at_call 13; refine (CK.out _).mono ?_; rintro e w1 ⟨rfl, hb⟩; replace K := hide (btrans K.out hb); replace X := hide (X.out.below hb); clear hb x0 x1 x2; have x1 : w1.cell? ⟨g, 1, none⟩ = some (.int .i64 b) := X.out.cell 1; have x2 : w1.cell? ⟨g, 2, none⟩ = some (.int .i64 c) := X.out.cell 2)
          go_ret
          exact ⟨ret_bool (by rw [HR.out]; simp [h1, h2]), K.out⟩
  · have hne : (ce == 0) = false := by simpa using h0
    go_enter Try.func17, Try.ntmps17
    go_upto_region 1 with fail
    rw [← hW0, ← hg]
    clear hW0 hg
    go_wp2_with (go_at_call 13; refine (CK.out _).mono ?_; rintro e w1 ⟨rfl, hb⟩; replace K := hide (btrans K.out hb); replace X := hide (X.out.below hb); clear hb x0 x1 x2; have x1 : w1.cell? ⟨g, 1, none⟩ = some (.int .i64 b) := X.out.cell 1; have x2 : w1.cell? ⟨g, 2, none⟩ = some (.int .i64 c) := X.out.cell 2)
    go_ret
    exact ⟨ret_bool (by rw [HR.out]; simp [h0]), K.out⟩
set_option maxHeartbeats 2000000 in
theorem rwak_any (m : Mk) (x : Int) (rn : Bool) (w : World) : Calls Try.prog 18 #[.agg #[.int .i64 m.lo, .int .i64 m.md, .int .i64 m.hi], .int .i64 x, .bool rn] w fun e w' => e = .returned (.bool (wkM m x rn)) ∧ Below w.heap.size w w' := by
  have CK := hide (fun w1 => rchk_any m w1)
  obtain ⟨r, hr⟩ : ∃ r, r = wkM m x rn := ⟨_, rfl⟩
  rw [← hr]
  have HR := hide (show r = decide (chkM m = 0 ∧ (x < m.md ∨ (rn = true ∧ x < m.hi))) by rw [hr]; unfold wkM; exact decide_eq_decide.2 (by rw [chkM_zero]))
  clear hr
  generalize chkM m = ce at *
  obtain ⟨a, b, c⟩ := m
  simp only at HR
  show Calls Try.prog 18 #[.agg #[.int .i64 a, .int .i64 b, .int .i64 c], .int .i64 x, .bool rn] w _
  obtain ⟨g, hg⟩ : ∃ g, g = w.heap.size := ⟨_, rfl⟩
  obtain ⟨W0, hW0⟩ : ∃ W0, W0 = w.alloc (.cells #[.int .i64 a, .int .i64 b, .int .i64 c] 23) := ⟨_, rfl⟩
  have X := hide (show Box W0 g 23 #[.int .i64 a, .int .i64 b, .int .i64 c] by rw [hW0, hg]; exact Box.new w 23 _)
  have K := hide (show Below w.heap.size w W0 by rw [hW0]; exact bal (brefl w) _)
  have x0 : W0.cell? ⟨g, 0, none⟩ = some (.int .i64 a) := X.out.cell 0
  have x1 : W0.cell? ⟨g, 1, none⟩ = some (.int .i64 b) := X.out.cell 1
  have x2 : W0.cell? ⟨g, 2, none⟩ = some (.int .i64 c) := X.out.cell 2
  by_cases h0 : ce = 0
  · subst h0
    by_cases h1 : x < b
    · cases rn
      all_goals
        go_enter Try.func18, Try.ntmps18
        go_upto_region 1 with fail
        rw [← hW0, ← hg]
        clear hW0 hg
        go_wp2_with (go_at_call 14; refine (CK.out _).mono ?_; rintro e w1 ⟨rfl, hb⟩; replace K := hide (btrans K.out hb); replace X := hide (X.out.below hb); clear hb x0 x1 x2; have x1 : w1.cell? ⟨g, 1, none⟩ = some (.int .i64 b) := X.out.cell 1; have x2 : w1.cell? ⟨g, 2, none⟩ = some (.int .i64 c) := X.out.cell 2)
        go_ret
        exact ⟨ret_bool (by rw [HR.out]; simp [h1]), K.out⟩
    · by_cases h2 : x < c
      · cases rn
        all_goals
          go_enter Try.func18, Try.ntmps18
          go_upto_region 1 with fail
          rw [← hW0, ← hg]
          clear hW0 hg
          go_wp2_with (go_at_call 14; refine (CK.out _).mono ?_; rintro e w1 ⟨rfl, hb⟩; replace K := hide (btrans K.out hb); replace X := hide (X.out.below hb); clear hb x0 x1 x2; have x1 : w1.cell? ⟨g, 1, none⟩ = some (.int .i64 b) := X.out.cell 1; have x2 : w1.cell? ⟨g, 2, none⟩ = some (.int .i64 c) := X.out.cell 2)
          go_ret
          exact ⟨ret_bool (by rw [HR.out]; simp [h1, h2]), K.out⟩
      · cases rn
        all_goals
          go_enter Try.func18, Try.ntmps18
          go_upto_region 1 with fail
          rw [← hW0, ← hg]
          clear hW0 hg
          go_wp2_with (go_at_call 14; refine (CK.out _).mono ?_; rintro e w1 ⟨rfl, hb⟩; replace K := hide (btrans K.out hb); replace X := hide (X.out.below hb); clear hb x0 x1 x2; have x1 : w1.cell? ⟨g, 1, none⟩ = some (.int .i64 b) := X.out.cell 1; have x2 : w1.cell? ⟨g, 2, none⟩ = some (.int .i64 c) := X.out.cell 2)
          go_ret
          exact ⟨ret_bool (by rw [HR.out]; simp [h1, h2]), K.out⟩
  · have hne : (ce == 0) = false := by simpa using h0
    go_enter Try.func18, Try.ntmps18
    go_upto_region 1 with fail
    rw [← hW0, ← hg]
    clear hW0 hg
    go_wp2_with (go_at_call 14; refine (CK.out _).mono ?_; rintro e w1 ⟨rfl, hb⟩; replace K := hide (btrans K.out hb); replace X := hide (X.out.below hb); clear hb x0 x1 x2; have x1 : w1.cell? ⟨g, 1, none⟩ = some (.int .i64 b) := X.out.cell 1; have x2 : w1.cell? ⟨g, 2, none⟩ = some (.int .i64 c) := X.out.cell 2)
    go_ret
    exact ⟨ret_bool (by rw [HR.out]; simp [h0]), K.out⟩
end Go.Proofs.Ytiopfeleaifpbab.Bd
