import Derived.Test.YtcndbehgklkiiaaF2
namespace Go.Proofs.Ytcndbehgklkiiaa.Es
open Go Go.RowKit
set_option linter.unusedVariables false
set_option linter.unusedSimpArgs false
set_option maxHeartbeats 1000000 in
theorem set_any (n : Int) (b : Bool) (w : World) : Calls Try.prog 19 #[.agg (eC (n, b))] w fun e w' => e = .returned (.tuple #[.agg (eC (st n b).1), .int .i64 (st n b).2]) ∧ Below w.heap.size w w' := by
  cases b
  · cases hv : vl n false
    · have E := hide (show st n false = ((0, false), 1) from if_pos hv)
      have K := hide (bal (bal (brefl w) (.cells #[.int .i64 n, .bool false] 23)) (.cells #[.int .i64 0, .bool false] 23))
      have X := hide ((Box.new w 23 #[.int .i64 n, .bool false]).more (.cells #[.int .i64 0, .bool false] 23))
      have Y := hide (Box.new2 w (.cells #[.int .i64 n, .bool false] 23) 23 #[.int .i64 0, .bool false])
      have CV := hide (fun w => vl_any n false w)
      rw [hv] at CV
      unfold eC at *
      clear hv
      go_enter Try.func19, Try.ntmps19
      go_upto_region 2 with fail
      obtain ⟨g, hg⟩ : ∃ g, g = w.heap.size := ⟨_, rfl⟩
      have hz : (w.alloc (.cells #[.int .i64 n, .bool false] 23)).heap.size = g + 1 := by rw [hg]; exact alloc_size' _ _
      have HG := hide (show w.heap.size ≤ g + 1 by omega)
      rw [← hg] at X Y
      try rw [hz]
      try rw [← hg]
      clear hg hz
      generalize (w.alloc (.cells #[.int .i64 n, .bool false] 23)).alloc (.cells #[.int .i64 0, .bool false] 23) = w1 at *
      obtain ⟨x0, x1⟩ := X.out.two
      obtain ⟨y0, y1, yf0, yf1⟩ := Y.out.two2
      go_wp2_with fail
      refine (CV.out w1).mono ?_
      rintro e w2 ⟨rfl, hb⟩
      replace X := hide (X.out.below hb)
      replace Y := hide (Y.out.below hb)
      replace K := hide (btrans K.out hb)
      clear hb x0 x1 y0 y1 yf0 yf1 CV
      obtain ⟨x0, x1⟩ := X.out.two
      obtain ⟨y0, y1, yf0, yf1⟩ := Y.out.two2
      go_wp2
      refine ret_e2 Try.results19 rfl rfl rfl (by first | (with_reducible exact Y.out) | (with_reducible exact Y.out.set2 _ _) | (with_reducible exact (Y.out.set1 _).set2 _ _) | (with_reducible exact (Y.out.set2 _ _).set2 _ _) | (with_reducible exact ((Y.out.set2 _ _).set2 _ _).drew) | (with_reducible exact (Y.out.set2 _ _).drew)) ⟨by rw [E.out]; rfl, by first | (with_reducible exact K.out) | (with_reducible exact k2 K.out HG.out _ _) | (with_reducible exact k2 (bset K.out (p := ⟨_, 0, none⟩) HG.out _) HG.out _ _) | (with_reducible exact k2 (k2 K.out HG.out _ _) HG.out _ _) | (with_reducible exact below_drew (k2 (k2 K.out HG.out _ _) HG.out _ _)) | (with_reducible exact below_drew (k2 K.out HG.out _ _))⟩
    · obtain ⟨h0, h1, h2⟩ := vl_of hv
      by_cases h3 : 0 < n
      · have hu : un n false = true := by unfold un; simp; try omega
        have E := hide (show st n false = ((n, false), 0) from by unfold st un; rw [hv]; simp [h3])
        have K := hide (bal (bal (brefl w) (.cells #[.int .i64 n, .bool false] 23)) (.cells #[.int .i64 0, .bool false] 23))
        have X := hide ((Box.new w 23 #[.int .i64 n, .bool false]).more (.cells #[.int .i64 0, .bool false] 23))
        have Y := hide (Box.new2 w (.cells #[.int .i64 n, .bool false] 23) 23 #[.int .i64 0, .bool false])
        have CV := hide (fun w => vl_any n false w)
        rw [hv] at CV
        have CU := hide (fun w => un_any n false w)
        rw [hu] at CU
        unfold eC at *
        clear hv hu
        go_enter Try.func19, Try.ntmps19
        go_upto_region 2 with fail
        obtain ⟨g, hg⟩ : ∃ g, g = w.heap.size := ⟨_, rfl⟩
        have hz : (w.alloc (.cells #[.int .i64 n, .bool false] 23)).heap.size = g + 1 := by rw [hg]; exact alloc_size' _ _
        have HG := hide (show w.heap.size ≤ g + 1 by omega)
        rw [← hg] at X Y
        try rw [hz]
        try rw [← hg]
        clear hg hz
        generalize (w.alloc (.cells #[.int .i64 n, .bool false] 23)).alloc (.cells #[.int .i64 0, .bool false] 23) = w1 at *
        obtain ⟨x0, x1⟩ := X.out.two
        obtain ⟨y0, y1, yf0, yf1⟩ := Y.out.two2
        go_wp2_with fail
        refine (CV.out w1).mono ?_
        rintro e w2 ⟨rfl, hb⟩
        replace X := hide (X.out.below hb)
        replace Y := hide (Y.out.below hb)
        replace K := hide (btrans K.out hb)
        clear hb x0 x1 y0 y1 yf0 yf1 CV
        obtain ⟨x0, x1⟩ := X.out.two
        obtain ⟨y0, y1, yf0, yf1⟩ := Y.out.two2
        go_wp2_with fail
        refine (CU.out w2).mono ?_
        rintro e w3 ⟨rfl, hb⟩
        replace X := hide (X.out.below hb)
        replace Y := hide (Y.out.below hb)
        replace K := hide (btrans K.out hb)
        clear hb x0 x1 y0 y1 yf0 yf1 CU
        obtain ⟨x0, x1⟩ := X.out.two
        obtain ⟨y0, y1, yf0, yf1⟩ := Y.out.two2
        go_wp2
        refine ret_e2 Try.results19 rfl rfl rfl (by first | (with_reducible exact Y.out) | (with_reducible exact Y.out.set2 _ _) | (with_reducible exact (Y.out.set1 _).set2 _ _) | (with_reducible exact (Y.out.set2 _ _).set2 _ _) | (with_reducible exact ((Y.out.set2 _ _).set2 _ _).drew) | (with_reducible exact (Y.out.set2 _ _).drew)) ⟨by rw [E.out]; rfl, by first | (with_reducible exact K.out) | (with_reducible exact k2 K.out HG.out _ _) | (with_reducible exact k2 (bset K.out (p := ⟨_, 0, none⟩) HG.out _) HG.out _ _) | (with_reducible exact k2 (k2 K.out HG.out _ _) HG.out _ _) | (with_reducible exact below_drew (k2 (k2 K.out HG.out _ _) HG.out _ _)) | (with_reducible exact below_drew (k2 K.out HG.out _ _))⟩
      · have hw : IntKind.i64.wrap (n + 1) = n + 1 := by rw [IntKind.wrap_i64]; omega
        have hu : un n false = false := by unfold un; simp; try omega
        have E := hide (show st n false = ((n + 1, false), 0) from by unfold st un; rw [hv]; simp [h3]; omega)
        have K := hide (bal (bal (brefl w) (.cells #[.int .i64 n, .bool false] 23)) (.cells #[.int .i64 0, .bool false] 23))
        have X := hide ((Box.new w 23 #[.int .i64 n, .bool false]).more (.cells #[.int .i64 0, .bool false] 23))
        have Y := hide (Box.new2 w (.cells #[.int .i64 n, .bool false] 23) 23 #[.int .i64 0, .bool false])
        have CV := hide (fun w => vl_any n false w)
        rw [hv] at CV
        have CU := hide (fun w => un_any n false w)
        rw [hu] at CU
        have h4 : (n == 1073741824) = false := by simp; omega
        unfold eC at *
        clear hv hu
        go_enter Try.func19, Try.ntmps19
        go_upto_region 2 with fail
        obtain ⟨g, hg⟩ : ∃ g, g = w.heap.size := ⟨_, rfl⟩
        have hz : (w.alloc (.cells #[.int .i64 n, .bool false] 23)).heap.size = g + 1 := by rw [hg]; exact alloc_size' _ _
        have HG := hide (show w.heap.size ≤ g + 1 by omega)
        rw [← hg] at X Y
        try rw [hz]
        try rw [← hg]
        clear hg hz
        generalize (w.alloc (.cells #[.int .i64 n, .bool false] 23)).alloc (.cells #[.int .i64 0, .bool false] 23) = w1 at *
        obtain ⟨x0, x1⟩ := X.out.two
        obtain ⟨y0, y1, yf0, yf1⟩ := Y.out.two2
        go_wp2_with fail
        refine (CV.out w1).mono ?_
        rintro e w2 ⟨rfl, hb⟩
        replace X := hide (X.out.below hb)
        replace Y := hide (Y.out.below hb)
        replace K := hide (btrans K.out hb)
        clear hb x0 x1 y0 y1 yf0 yf1 CV
        obtain ⟨x0, x1⟩ := X.out.two
        obtain ⟨y0, y1, yf0, yf1⟩ := Y.out.two2
        go_wp2_with fail
        refine (CU.out w2).mono ?_
        rintro e w3 ⟨rfl, hb⟩
        replace X := hide (X.out.below hb)
        replace Y := hide (Y.out.below hb)
        replace K := hide (btrans K.out hb)
        clear hb x0 x1 y0 y1 yf0 yf1 CU
        obtain ⟨x0, x1⟩ := X.out.two
        obtain ⟨y0, y1, yf0, yf1⟩ := Y.out.two2
        go_wp2
        refine ret_e2 Try.results19 rfl rfl rfl (by first | (with_reducible exact Y.out) | (with_reducible exact Y.out.set2 _ _) | (with_reducible exact (Y.out.set1 _).set2 _ _) | (with_reducible exact (Y.out.set2 _ _).set2 _ _) | (with_reducible exact ((Y.out.set2 _ _).set2 _ _).drew) | (with_reducible exact (Y.out.set2 _ _).drew)) ⟨by rw [E.out]; rfl, by first | (with_reducible exact K.out) | (with_reducible exact k2 K.out HG.out _ _) | (with_reducible exact k2 (bset K.out (p := ⟨_, 0, none⟩) HG.out _) HG.out _ _) | (with_reducible exact k2 (k2 K.out HG.out _ _) HG.out _ _) | (with_reducible exact below_drew (k2 (k2 K.out HG.out _ _) HG.out _ _)) | (with_reducible exact below_drew (k2 K.out HG.out _ _))⟩
  · cases hv : vl n true
    · have E := hide (show st n true = ((0, false), 1) from if_pos hv)
      have K := hide (bal (bal (brefl w) (.cells #[.int .i64 n, .bool true] 23)) (.cells #[.int .i64 0, .bool false] 23))
      have X := hide ((Box.new w 23 #[.int .i64 n, .bool true]).more (.cells #[.int .i64 0, .bool false] 23))
      have Y := hide (Box.new2 w (.cells #[.int .i64 n, .bool true] 23) 23 #[.int .i64 0, .bool false])
      have CV := hide (fun w => vl_any n true w)
      rw [hv] at CV
      unfold eC at *
      clear hv
      go_enter Try.func19, Try.ntmps19
      go_upto_region 2 with fail
      obtain ⟨g, hg⟩ : ∃ g, g = w.heap.size := ⟨_, rfl⟩
      have hz : (w.alloc (.cells #[.int .i64 n, .bool true] 23)).heap.size = g + 1 := by rw [hg]; exact alloc_size' _ _
      have HG := hide (show w.heap.size ≤ g + 1 by omega)
      rw [← hg] at X Y
      try rw [hz]
      try rw [← hg]
      clear hg hz
      generalize (w.alloc (.cells #[.int .i64 n, .bool true] 23)).alloc (.cells #[.int .i64 0, .bool false] 23) = w1 at *
      obtain ⟨x0, x1⟩ := X.out.two
      obtain ⟨y0, y1, yf0, yf1⟩ := Y.out.two2
      go_wp2_with fail
      refine (CV.out w1).mono ?_
      rintro e w2 ⟨rfl, hb⟩
      replace X := hide (X.out.below hb)
      replace Y := hide (Y.out.below hb)
      replace K := hide (btrans K.out hb)
      clear hb x0 x1 y0 y1 yf0 yf1 CV
      obtain ⟨x0, x1⟩ := X.out.two
      obtain ⟨y0, y1, yf0, yf1⟩ := Y.out.two2
      go_wp2
      refine ret_e2 Try.results19 rfl rfl rfl (by first | (with_reducible exact Y.out) | (with_reducible exact Y.out.set2 _ _) | (with_reducible exact (Y.out.set1 _).set2 _ _) | (with_reducible exact (Y.out.set2 _ _).set2 _ _) | (with_reducible exact ((Y.out.set2 _ _).set2 _ _).drew) | (with_reducible exact (Y.out.set2 _ _).drew)) ⟨by rw [E.out]; rfl, by first | (with_reducible exact K.out) | (with_reducible exact k2 K.out HG.out _ _) | (with_reducible exact k2 (bset K.out (p := ⟨_, 0, none⟩) HG.out _) HG.out _ _) | (with_reducible exact k2 (k2 K.out HG.out _ _) HG.out _ _) | (with_reducible exact below_drew (k2 (k2 K.out HG.out _ _) HG.out _ _)) | (with_reducible exact below_drew (k2 K.out HG.out _ _))⟩
    · obtain ⟨h0, h1, h2⟩ := vl_of hv
      have h5 : 0 < n := by simpa using h2
      by_cases h3 : n = 1073741824
      · have hu : un n true = false := by unfold un; simp; try omega
        have E := hide (show st n true = ((0, false), 9) from by unfold st un; rw [hv]; simp [h3])
        have K := hide (bal (bal (brefl w) (.cells #[.int .i64 n, .bool true] 23)) (.cells #[.int .i64 0, .bool false] 23))
        have X := hide ((Box.new w 23 #[.int .i64 n, .bool true]).more (.cells #[.int .i64 0, .bool false] 23))
        have Y := hide (Box.new2 w (.cells #[.int .i64 n, .bool true] 23) 23 #[.int .i64 0, .bool false])
        have CV := hide (fun w => vl_any n true w)
        rw [hv] at CV
        have CU := hide (fun w => un_any n true w)
        rw [hu] at CU
        have h4 : (n == 1073741824) = true := by simp [h3]
        replace h3 := hide h3
        unfold eC at *
        clear hv hu
        go_enter Try.func19, Try.ntmps19
        go_upto_region 2 with fail
        obtain ⟨g, hg⟩ : ∃ g, g = w.heap.size := ⟨_, rfl⟩
        have hz : (w.alloc (.cells #[.int .i64 n, .bool true] 23)).heap.size = g + 1 := by rw [hg]; exact alloc_size' _ _
        have HG := hide (show w.heap.size ≤ g + 1 by omega)
        rw [← hg] at X Y
        try rw [hz]
        try rw [← hg]
        clear hg hz
        generalize (w.alloc (.cells #[.int .i64 n, .bool true] 23)).alloc (.cells #[.int .i64 0, .bool false] 23) = w1 at *
        obtain ⟨x0, x1⟩ := X.out.two
        obtain ⟨y0, y1, yf0, yf1⟩ := Y.out.two2
        go_wp2_with fail
        refine (CV.out w1).mono ?_
        rintro e w2 ⟨rfl, hb⟩
        replace X := hide (X.out.below hb)
        replace Y := hide (Y.out.below hb)
        replace K := hide (btrans K.out hb)
        clear hb x0 x1 y0 y1 yf0 yf1 CV
        obtain ⟨x0, x1⟩ := X.out.two
        obtain ⟨y0, y1, yf0, yf1⟩ := Y.out.two2
        go_wp2_with fail
        refine (CU.out w2).mono ?_
        rintro e w3 ⟨rfl, hb⟩
        replace X := hide (X.out.below hb)
        replace Y := hide (Y.out.below hb)
        replace K := hide (btrans K.out hb)
        clear hb x0 x1 y0 y1 yf0 yf1 CU
        obtain ⟨x0, x1⟩ := X.out.two
        obtain ⟨y0, y1, yf0, yf1⟩ := Y.out.two2
        go_wp2
        refine ret_e2 Try.results19 rfl rfl rfl (by first | (with_reducible exact Y.out) | (with_reducible exact Y.out.set2 _ _) | (with_reducible exact (Y.out.set1 _).set2 _ _) | (with_reducible exact (Y.out.set2 _ _).set2 _ _) | (with_reducible exact ((Y.out.set2 _ _).set2 _ _).drew) | (with_reducible exact (Y.out.set2 _ _).drew)) ⟨by rw [E.out]; rfl, by first | (with_reducible exact K.out) | (with_reducible exact k2 K.out HG.out _ _) | (with_reducible exact k2 (bset K.out (p := ⟨_, 0, none⟩) HG.out _) HG.out _ _) | (with_reducible exact k2 (k2 K.out HG.out _ _) HG.out _ _) | (with_reducible exact below_drew (k2 (k2 K.out HG.out _ _) HG.out _ _)) | (with_reducible exact below_drew (k2 K.out HG.out _ _))⟩
      · have hw : IntKind.i64.wrap (n + 1) = n + 1 := by rw [IntKind.wrap_i64]; omega
        have hu : un n true = false := by unfold un; simp; try omega
        have E := hide (show st n true = ((n + 1, false), 0) from by unfold st un; rw [hv]; simp [h3])
        have K := hide (bal (bal (brefl w) (.cells #[.int .i64 n, .bool true] 23)) (.cells #[.int .i64 0, .bool false] 23))
        have X := hide ((Box.new w 23 #[.int .i64 n, .bool true]).more (.cells #[.int .i64 0, .bool false] 23))
        have Y := hide (Box.new2 w (.cells #[.int .i64 n, .bool true] 23) 23 #[.int .i64 0, .bool false])
        have CV := hide (fun w => vl_any n true w)
        rw [hv] at CV
        have CU := hide (fun w => un_any n true w)
        rw [hu] at CU
        have h4 : (n == 1073741824) = false := by simp [h3]
        unfold eC at *
        clear hv hu
        go_enter Try.func19, Try.ntmps19
        go_upto_region 2 with fail
        obtain ⟨g, hg⟩ : ∃ g, g = w.heap.size := ⟨_, rfl⟩
        have hz : (w.alloc (.cells #[.int .i64 n, .bool true] 23)).heap.size = g + 1 := by rw [hg]; exact alloc_size' _ _
        have HG := hide (show w.heap.size ≤ g + 1 by omega)
        rw [← hg] at X Y
        try rw [hz]
        try rw [← hg]
        clear hg hz
        generalize (w.alloc (.cells #[.int .i64 n, .bool true] 23)).alloc (.cells #[.int .i64 0, .bool false] 23) = w1 at *
        obtain ⟨x0, x1⟩ := X.out.two
        obtain ⟨y0, y1, yf0, yf1⟩ := Y.out.two2
        go_wp2_with fail
        refine (CV.out w1).mono ?_
        rintro e w2 ⟨rfl, hb⟩
        replace X := hide (X.out.below hb)
        replace Y := hide (Y.out.below hb)
        replace K := hide (btrans K.out hb)
        clear hb x0 x1 y0 y1 yf0 yf1 CV
        obtain ⟨x0, x1⟩ := X.out.two
        obtain ⟨y0, y1, yf0, yf1⟩ := Y.out.two2
        go_wp2_with fail
        refine (CU.out w2).mono ?_
        rintro e w3 ⟨rfl, hb⟩
        replace X := hide (X.out.below hb)
        replace Y := hide (Y.out.below hb)
        replace K := hide (btrans K.out hb)
        clear hb x0 x1 y0 y1 yf0 yf1 CU
        obtain ⟨x0, x1⟩ := X.out.two
        obtain ⟨y0, y1, yf0, yf1⟩ := Y.out.two2
        go_wp2
        refine ret_e2 Try.results19 rfl rfl rfl (by first | (with_reducible exact Y.out) | (with_reducible exact Y.out.set2 _ _) | (with_reducible exact (Y.out.set1 _).set2 _ _) | (with_reducible exact (Y.out.set2 _ _).set2 _ _) | (with_reducible exact ((Y.out.set2 _ _).set2 _ _).drew) | (with_reducible exact (Y.out.set2 _ _).drew)) ⟨by rw [E.out]; rfl, by first | (with_reducible exact K.out) | (with_reducible exact k2 K.out HG.out _ _) | (with_reducible exact k2 (bset K.out (p := ⟨_, 0, none⟩) HG.out _) HG.out _ _) | (with_reducible exact k2 (k2 K.out HG.out _ _) HG.out _ _) | (with_reducible exact below_drew (k2 (k2 K.out HG.out _ _) HG.out _ _)) | (with_reducible exact below_drew (k2 K.out HG.out _ _))⟩
set_option maxHeartbeats 1000000 in
theorem rset_any (n : Int) (b : Bool) (w : World) : Calls Try.prog 20 #[.agg (eC (n, b))] w fun e w' => e = .returned (.tuple #[.agg (eC (st n b).1), .int .i64 (st n b).2]) ∧ Below w.heap.size w w' := by
  cases b
  · cases hv : vl n false
    · have E := hide (show st n false = ((0, false), 1) from if_pos hv)
      have K := hide (bal (bal (brefl w) (.cells #[.int .i64 n, .bool false] 23)) (.cells #[.int .i64 0, .bool false] 23))
      have X := hide ((Box.new w 23 #[.int .i64 n, .bool false]).more (.cells #[.int .i64 0, .bool false] 23))
      have Y := hide (Box.new2 w (.cells #[.int .i64 n, .bool false] 23) 23 #[.int .i64 0, .bool false])
      have CV := hide (fun w => rvl_any n false w)
      rw [hv] at CV
      unfold eC at *
      clear hv
      go_enter Try.func20, Try.ntmps20
      go_upto_region 1 with fail
      obtain ⟨g, hg⟩ : ∃ g, g = w.heap.size := ⟨_, rfl⟩
      have hz : (w.alloc (.cells #[.int .i64 n, .bool false] 23)).heap.size = g + 1 := by rw [hg]; exact alloc_size' _ _
      have HG := hide (show w.heap.size ≤ g + 1 by omega)
      rw [← hg] at X Y
      try rw [hz]
      try rw [← hg]
      clear hg hz
      generalize (w.alloc (.cells #[.int .i64 n, .bool false] 23)).alloc (.cells #[.int .i64 0, .bool false] 23) = w1 at *
      obtain ⟨x0, x1⟩ := X.out.two
      obtain ⟨y0, y1, yf0, yf1⟩ := Y.out.two2
      go_wp2_with fail
      refine (CV.out w1).mono ?_
      rintro e w2 ⟨rfl, hb⟩
      replace X := hide (X.out.below hb)
      replace Y := hide (Y.out.below hb)
      replace K := hide (btrans K.out hb)
      clear hb x0 x1 y0 y1 yf0 yf1 CV
      obtain ⟨x0, x1⟩ := X.out.two
      obtain ⟨y0, y1, yf0, yf1⟩ := Y.out.two2
      go_wp2
      refine ret_e2 Try.results20 rfl rfl rfl (by first | (with_reducible exact Y.out) | (with_reducible exact Y.out.set2 _ _) | (with_reducible exact (Y.out.set1 _).set2 _ _) | (with_reducible exact (Y.out.set2 _ _).set2 _ _) | (with_reducible exact ((Y.out.set2 _ _).set2 _ _).drew) | (with_reducible exact (Y.out.set2 _ _).drew)) ⟨by rw [E.out]; rfl, by first | (with_reducible exact K.out) | (with_reducible exact k2 K.out HG.out _ _) | (with_reducible exact k2 (bset K.out (p := ⟨_, 0, none⟩) HG.out _) HG.out _ _) | (with_reducible exact k2 (k2 K.out HG.out _ _) HG.out _ _) | (with_reducible exact below_drew (k2 (k2 K.out HG.out _ _) HG.out _ _)) | (with_reducible exact below_drew (k2 K.out HG.out _ _))⟩
    · obtain ⟨h0, h1, h2⟩ := vl_of hv
      by_cases h3 : 0 < n
      · have E := hide (show st n false = ((n, false), 0) from by unfold st un; rw [hv]; simp [h3])
        have K := hide (bal (bal (brefl w) (.cells #[.int .i64 n, .bool false] 23)) (.cells #[.int .i64 0, .bool false] 23))
        have X := hide ((Box.new w 23 #[.int .i64 n, .bool false]).more (.cells #[.int .i64 0, .bool false] 23))
        have Y := hide (Box.new2 w (.cells #[.int .i64 n, .bool false] 23) 23 #[.int .i64 0, .bool false])
        have CV := hide (fun w => rvl_any n false w)
        rw [hv] at CV
        unfold eC at *
        clear hv
        go_enter Try.func20, Try.ntmps20
        go_upto_region 1 with fail
        obtain ⟨g, hg⟩ : ∃ g, g = w.heap.size := ⟨_, rfl⟩
        have hz : (w.alloc (.cells #[.int .i64 n, .bool false] 23)).heap.size = g + 1 := by rw [hg]; exact alloc_size' _ _
        have HG := hide (show w.heap.size ≤ g + 1 by omega)
        rw [← hg] at X Y
        try rw [hz]
        try rw [← hg]
        clear hg hz
        generalize (w.alloc (.cells #[.int .i64 n, .bool false] 23)).alloc (.cells #[.int .i64 0, .bool false] 23) = w1 at *
        obtain ⟨x0, x1⟩ := X.out.two
        obtain ⟨y0, y1, yf0, yf1⟩ := Y.out.two2
        go_wp2_with fail
        refine (CV.out w1).mono ?_
        rintro e w2 ⟨rfl, hb⟩
        replace X := hide (X.out.below hb)
        replace Y := hide (Y.out.below hb)
        replace K := hide (btrans K.out hb)
        clear hb x0 x1 y0 y1 yf0 yf1 CV
        obtain ⟨x0, x1⟩ := X.out.two
        obtain ⟨y0, y1, yf0, yf1⟩ := Y.out.two2
        go_wp2
        refine ret_e2 Try.results20 rfl rfl rfl (by first | (with_reducible exact Y.out) | (with_reducible exact Y.out.set2 _ _) | (with_reducible exact (Y.out.set1 _).set2 _ _) | (with_reducible exact (Y.out.set2 _ _).set2 _ _) | (with_reducible exact ((Y.out.set2 _ _).set2 _ _).drew) | (with_reducible exact (Y.out.set2 _ _).drew)) ⟨by rw [E.out]; rfl, by first | (with_reducible exact K.out) | (with_reducible exact k2 K.out HG.out _ _) | (with_reducible exact k2 (bset K.out (p := ⟨_, 0, none⟩) HG.out _) HG.out _ _) | (with_reducible exact k2 (k2 K.out HG.out _ _) HG.out _ _) | (with_reducible exact below_drew (k2 (k2 K.out HG.out _ _) HG.out _ _)) | (with_reducible exact below_drew (k2 K.out HG.out _ _))⟩
      · have hw : IntKind.i64.wrap (n + 1) = n + 1 := by rw [IntKind.wrap_i64]; omega
        have E := hide (show st n false = ((n + 1, false), 0) from by unfold st un; rw [hv]; simp [h3]; omega)
        have K := hide (bal (bal (brefl w) (.cells #[.int .i64 n, .bool false] 23)) (.cells #[.int .i64 0, .bool false] 23))
        have X := hide ((Box.new w 23 #[.int .i64 n, .bool false]).more (.cells #[.int .i64 0, .bool false] 23))
        have Y := hide (Box.new2 w (.cells #[.int .i64 n, .bool false] 23) 23 #[.int .i64 0, .bool false])
        have CV := hide (fun w => rvl_any n false w)
        rw [hv] at CV
        have h4 : (n == 1073741824) = false := by simp; omega
        unfold eC at *
        clear hv
        go_enter Try.func20, Try.ntmps20
        go_upto_region 1 with fail
        obtain ⟨g, hg⟩ : ∃ g, g = w.heap.size := ⟨_, rfl⟩
        have hz : (w.alloc (.cells #[.int .i64 n, .bool false] 23)).heap.size = g + 1 := by rw [hg]; exact alloc_size' _ _
        have HG := hide (show w.heap.size ≤ g + 1 by omega)
        rw [← hg] at X Y
        try rw [hz]
        try rw [← hg]
        clear hg hz
        generalize (w.alloc (.cells #[.int .i64 n, .bool false] 23)).alloc (.cells #[.int .i64 0, .bool false] 23) = w1 at *
        obtain ⟨x0, x1⟩ := X.out.two
        obtain ⟨y0, y1, yf0, yf1⟩ := Y.out.two2
        go_wp2_with fail
        refine (CV.out w1).mono ?_
        rintro e w2 ⟨rfl, hb⟩
        replace X := hide (X.out.below hb)
        replace Y := hide (Y.out.below hb)
        replace K := hide (btrans K.out hb)
        clear hb x0 x1 y0 y1 yf0 yf1 CV
        obtain ⟨x0, x1⟩ := X.out.two
        obtain ⟨y0, y1, yf0, yf1⟩ := Y.out.two2
        go_wp2
        refine ret_e2 Try.results20 rfl rfl rfl (by first | (with_reducible exact Y.out) | (with_reducible exact Y.out.set2 _ _) | (with_reducible exact (Y.out.set1 _).set2 _ _) | (with_reducible exact (Y.out.set2 _ _).set2 _ _) | (with_reducible exact ((Y.out.set2 _ _).set2 _ _).drew) | (with_reducible exact (Y.out.set2 _ _).drew)) ⟨by rw [E.out]; rfl, by first | (with_reducible exact K.out) | (with_reducible exact k2 K.out HG.out _ _) | (with_reducible exact k2 (bset K.out (p := ⟨_, 0, none⟩) HG.out _) HG.out _ _) | (with_reducible exact k2 (k2 K.out HG.out _ _) HG.out _ _) | (with_reducible exact below_drew (k2 (k2 K.out HG.out _ _) HG.out _ _)) | (with_reducible exact below_drew (k2 K.out HG.out _ _))⟩
  · cases hv : vl n true
    · have E := hide (show st n true = ((0, false), 1) from if_pos hv)
      have K := hide (bal (bal (brefl w) (.cells #[.int .i64 n, .bool true] 23)) (.cells #[.int .i64 0, .bool false] 23))
      have X := hide ((Box.new w 23 #[.int .i64 n, .bool true]).more (.cells #[.int .i64 0, .bool false] 23))
      have Y := hide (Box.new2 w (.cells #[.int .i64 n, .bool true] 23) 23 #[.int .i64 0, .bool false])
      have CV := hide (fun w => rvl_any n true w)
      rw [hv] at CV
      unfold eC at *
      clear hv
      go_enter Try.func20, Try.ntmps20
      go_upto_region 1 with fail
      obtain ⟨g, hg⟩ : ∃ g, g = w.heap.size := ⟨_, rfl⟩
      have hz : (w.alloc (.cells #[.int .i64 n, .bool true] 23)).heap.size = g + 1 := by rw [hg]; exact alloc_size' _ _
      have HG := hide (show w.heap.size ≤ g + 1 by omega)
      rw [← hg] at X Y
      try rw [hz]
      try rw [← hg]
      clear hg hz
      generalize (w.alloc (.cells #[.int .i64 n, .bool true] 23)).alloc (.cells #[.int .i64 0, .bool false] 23) = w1 at *
      obtain ⟨x0, x1⟩ := X.out.two
      obtain ⟨y0, y1, yf0, yf1⟩ := Y.out.two2
      go_wp2_with fail
      refine (CV.out w1).mono ?_
      rintro e w2 ⟨rfl, hb⟩
      replace X := hide (X.out.below hb)
      replace Y := hide (Y.out.below hb)
      replace K := hide (btrans K.out hb)
      clear hb x0 x1 y0 y1 yf0 yf1 CV
      obtain ⟨x0, x1⟩ := X.out.two
      obtain ⟨y0, y1, yf0, yf1⟩ := Y.out.two2
      go_wp2
      refine ret_e2 Try.results20 rfl rfl rfl (by first | (with_reducible exact Y.out) | (with_reducible exact Y.out.set2 _ _) | (with_reducible exact (Y.out.set1 _).set2 _ _) | (with_reducible exact (Y.out.set2 _ _).set2 _ _) | (with_reducible exact ((Y.out.set2 _ _).set2 _ _).drew) | (with_reducible exact (Y.out.set2 _ _).drew)) ⟨by rw [E.out]; rfl, by first | (with_reducible exact K.out) | (with_reducible exact k2 K.out HG.out _ _) | (with_reducible exact k2 (bset K.out (p := ⟨_, 0, none⟩) HG.out _) HG.out _ _) | (with_reducible exact k2 (k2 K.out HG.out _ _) HG.out _ _) | (with_reducible exact below_drew (k2 (k2 K.out HG.out _ _) HG.out _ _)) | (with_reducible exact below_drew (k2 K.out HG.out _ _))⟩
    · obtain ⟨h0, h1, h2⟩ := vl_of hv
      have h5 : 0 < n := by simpa using h2
      by_cases h3 : n = 1073741824
      · have E := hide (show st n true = ((0, false), 9) from by unfold st un; rw [hv]; simp [h3])
        have K := hide (bal (bal (brefl w) (.cells #[.int .i64 n, .bool true] 23)) (.cells #[.int .i64 0, .bool false] 23))
        have X := hide ((Box.new w 23 #[.int .i64 n, .bool true]).more (.cells #[.int .i64 0, .bool false] 23))
        have Y := hide (Box.new2 w (.cells #[.int .i64 n, .bool true] 23) 23 #[.int .i64 0, .bool false])
        have CV := hide (fun w => rvl_any n true w)
        rw [hv] at CV
        have h4 : (n == 1073741824) = true := by simp [h3]
        replace h3 := hide h3
        unfold eC at *
        clear hv
        go_enter Try.func20, Try.ntmps20
        go_upto_region 1 with fail
        obtain ⟨g, hg⟩ : ∃ g, g = w.heap.size := ⟨_, rfl⟩
        have hz : (w.alloc (.cells #[.int .i64 n, .bool true] 23)).heap.size = g + 1 := by rw [hg]; exact alloc_size' _ _
        have HG := hide (show w.heap.size ≤ g + 1 by omega)
        rw [← hg] at X Y
        try rw [hz]
        try rw [← hg]
        clear hg hz
        generalize (w.alloc (.cells #[.int .i64 n, .bool true] 23)).alloc (.cells #[.int .i64 0, .bool false] 23) = w1 at *
        obtain ⟨x0, x1⟩ := X.out.two
        obtain ⟨y0, y1, yf0, yf1⟩ := Y.out.two2
        go_wp2_with fail
        refine (CV.out w1).mono ?_
        rintro e w2 ⟨rfl, hb⟩
        replace X := hide (X.out.below hb)
        replace Y := hide (Y.out.below hb)
        replace K := hide (btrans K.out hb)
        clear hb x0 x1 y0 y1 yf0 yf1 CV
        obtain ⟨x0, x1⟩ := X.out.two
        obtain ⟨y0, y1, yf0, yf1⟩ := Y.out.two2
        go_wp2
        refine ret_e2 Try.results20 rfl rfl rfl (by first | (with_reducible exact Y.out) | (with_reducible exact Y.out.set2 _ _) | (with_reducible exact (Y.out.set1 _).set2 _ _) | (with_reducible exact (Y.out.set2 _ _).set2 _ _) | (with_reducible exact ((Y.out.set2 _ _).set2 _ _).drew) | (with_reducible exact (Y.out.set2 _ _).drew)) ⟨by rw [E.out]; rfl, by first | (with_reducible exact K.out) | (with_reducible exact k2 K.out HG.out _ _) | (with_reducible exact k2 (bset K.out (p := ⟨_, 0, none⟩) HG.out _) HG.out _ _) | (with_reducible exact k2 (k2 K.out HG.out _ _) HG.out _ _) | (with_reducible exact below_drew (k2 (k2 K.out HG.out _ _) HG.out _ _)) | (with_reducible exact below_drew (k2 K.out HG.out _ _))⟩
      · have hw : IntKind.i64.wrap (n + 1) = n + 1 := by rw [IntKind.wrap_i64]; omega
        have E := hide (show st n true = ((n + 1, false), 0) from by unfold st un; rw [hv]; simp [h3])
        have K := hide (bal (bal (brefl w) (.cells #[.int .i64 n, .bool true] 23)) (.cells #[.int .i64 0, .bool false] 23))
        have X := hide ((Box.new w 23 #[.int .i64 n, .bool true]).more (.cells #[.int .i64 0, .bool false] 23))
        have Y := hide (Box.new2 w (.cells #[.int .i64 n, .bool true] 23) 23 #[.int .i64 0, .bool false])
        have CV := hide (fun w => rvl_any n true w)
        rw [hv] at CV
        have h4 : (n == 1073741824) = false := by simp [h3]
        unfold eC at *
        clear hv
        go_enter Try.func20, Try.ntmps20
        go_upto_region 1 with fail
        obtain ⟨g, hg⟩ : ∃ g, g = w.heap.size := ⟨_, rfl⟩
        have hz : (w.alloc (.cells #[.int .i64 n, .bool true] 23)).heap.size = g + 1 := by rw [hg]; exact alloc_size' _ _
        have HG := hide (show w.heap.size ≤ g + 1 by omega)
        rw [← hg] at X Y
        try rw [hz]
        try rw [← hg]
        clear hg hz
        generalize (w.alloc (.cells #[.int .i64 n, .bool true] 23)).alloc (.cells #[.int .i64 0, .bool false] 23) = w1 at *
        obtain ⟨x0, x1⟩ := X.out.two
        obtain ⟨y0, y1, yf0, yf1⟩ := Y.out.two2
        go_wp2_with fail
        refine (CV.out w1).mono ?_
        rintro e w2 ⟨rfl, hb⟩
        replace X := hide (X.out.below hb)
        replace Y := hide (Y.out.below hb)
        replace K := hide (btrans K.out hb)
        clear hb x0 x1 y0 y1 yf0 yf1 CV
        obtain ⟨x0, x1⟩ := X.out.two
        obtain ⟨y0, y1, yf0, yf1⟩ := Y.out.two2
        go_wp2
        refine ret_e2 Try.results20 rfl rfl rfl (by first | (with_reducible exact Y.out) | (with_reducible exact Y.out.set2 _ _) | (with_reducible exact (Y.out.set1 _).set2 _ _) | (with_reducible exact (Y.out.set2 _ _).set2 _ _) | (with_reducible exact ((Y.out.set2 _ _).set2 _ _).drew) | (with_reducible exact (Y.out.set2 _ _).drew)) ⟨by rw [E.out]; rfl, by first | (with_reducible exact K.out) | (with_reducible exact k2 K.out HG.out _ _) | (with_reducible exact k2 (bset K.out (p := ⟨_, 0, none⟩) HG.out _) HG.out _ _) | (with_reducible exact k2 (k2 K.out HG.out _ _) HG.out _ _) | (with_reducible exact below_drew (k2 (k2 K.out HG.out _ _) HG.out _ _)) | (with_reducible exact below_drew (k2 K.out HG.out _ _))⟩
set_option maxHeartbeats 1000000 in
theorem smp_any (n : Int) (b : Bool) (w : World) : Calls Try.prog 21 #[.agg (eC (n, b))] w fun e w' => e = .returned (.tuple #[.int .i64 (sm n b).1, .int .i64 (sm n b).2]) ∧ Below w.heap.size w w' := by
  cases b
  · cases hv : vl n false
    · have E := hide (show sm n false = (0, 1) from if_pos hv)
      have K := hide (bal (brefl w) (.cells #[.int .i64 n, .bool false] 23))
      have X := hide (Box.new w 23 #[.int .i64 n, .bool false])
      have CV := hide (fun w => vl_any n false w)
      rw [hv] at CV
      unfold eC at *
      clear hv
      go_enter Try.func21, Try.ntmps21
      go_upto_region 1 with fail
      obtain ⟨g, hg⟩ : ∃ g, g = w.heap.size := ⟨_, rfl⟩
      rw [← hg] at X
      try rw [← hg]
      clear hg
      generalize w.alloc (.cells #[.int .i64 n, .bool false] 23) = w1 at *
      obtain ⟨x0, x1⟩ := X.out.two
      go_wp2_with fail
      refine (CV.out w1).mono ?_
      rintro e w2 ⟨rfl, hb⟩
      replace X := hide (X.out.below hb)
      replace K := hide (btrans K.out hb)
      clear hb x0 x1 CV
      obtain ⟨x0, x1⟩ := X.out.two
      go_wp2
      go_ret2
      exact ⟨by rw [E.out]; rfl, K.out⟩
    · obtain ⟨h0, h1, h2⟩ := vl_of hv
      by_cases h3 : 0 < n
      · have hu : un n false = true := by unfold un; simp [h3]
        have hw : IntKind.i64.wrap (n - 1) = n - 1 := by rw [IntKind.wrap_i64]; omega
        have E := hide (show sm n false = (n - 1, 0) from by unfold sm un; rw [hv]; simp [h3])
        have K := hide (bal (brefl w) (.cells #[.int .i64 n, .bool false] 23))
        have X := hide (Box.new w 23 #[.int .i64 n, .bool false])
        have CV := hide (fun w => vl_any n false w)
        rw [hv] at CV
        have CU := hide (fun w => un_any n false w)
        rw [hu] at CU
        unfold eC at *
        clear hv hu
        go_enter Try.func21, Try.ntmps21
        go_upto_region 1 with fail
        obtain ⟨g, hg⟩ : ∃ g, g = w.heap.size := ⟨_, rfl⟩
        rw [← hg] at X
        try rw [← hg]
        clear hg
        generalize w.alloc (.cells #[.int .i64 n, .bool false] 23) = w1 at *
        obtain ⟨x0, x1⟩ := X.out.two
        go_wp2_with fail
        refine (CV.out w1).mono ?_
        rintro e w2 ⟨rfl, hb⟩
        replace X := hide (X.out.below hb)
        replace K := hide (btrans K.out hb)
        clear hb x0 x1 CV
        obtain ⟨x0, x1⟩ := X.out.two
        go_wp2_with fail
        refine (CU.out w2).mono ?_
        rintro e w3 ⟨rfl, hb⟩
        replace X := hide (X.out.below hb)
        replace K := hide (btrans K.out hb)
        clear hb x0 x1 CU
        obtain ⟨x0, x1⟩ := X.out.two
        go_wp2
        go_ret2
        exact ⟨by rw [E.out]; rfl, K.out⟩
      · have hu : un n false = false := by unfold un; simp; omega
        have E := hide (show sm n false = (n, 0) from by unfold sm un; rw [hv]; simp; omega)
        have K := hide (bal (brefl w) (.cells #[.int .i64 n, .bool false] 23))
        have X := hide (Box.new w 23 #[.int .i64 n, .bool false])
        have CV := hide (fun w => vl_any n false w)
        rw [hv] at CV
        have CU := hide (fun w => un_any n false w)
        rw [hu] at CU
        unfold eC at *
        clear hv hu
        go_enter Try.func21, Try.ntmps21
        go_upto_region 1 with fail
        obtain ⟨g, hg⟩ : ∃ g, g = w.heap.size := ⟨_, rfl⟩
        rw [← hg] at X
        try rw [← hg]
        clear hg
        generalize w.alloc (.cells #[.int .i64 n, .bool false] 23) = w1 at *
        obtain ⟨x0, x1⟩ := X.out.two
        go_wp2_with fail
        refine (CV.out w1).mono ?_
        rintro e w2 ⟨rfl, hb⟩
        replace X := hide (X.out.below hb)
        replace K := hide (btrans K.out hb)
        clear hb x0 x1 CV
        obtain ⟨x0, x1⟩ := X.out.two
        go_wp2_with fail
        refine (CU.out w2).mono ?_
        rintro e w3 ⟨rfl, hb⟩
        replace X := hide (X.out.below hb)
        replace K := hide (btrans K.out hb)
        clear hb x0 x1 CU
        obtain ⟨x0, x1⟩ := X.out.two
        go_wp2
        go_ret2
        exact ⟨by rw [E.out]; rfl, K.out⟩
  · cases hv : vl n true
    · have E := hide (show sm n true = (0, 1) from if_pos hv)
      have K := hide (bal (brefl w) (.cells #[.int .i64 n, .bool true] 23))
      have X := hide (Box.new w 23 #[.int .i64 n, .bool true])
      have CV := hide (fun w => vl_any n true w)
      rw [hv] at CV
      unfold eC at *
      clear hv
      go_enter Try.func21, Try.ntmps21
      go_upto_region 1 with fail
      obtain ⟨g, hg⟩ : ∃ g, g = w.heap.size := ⟨_, rfl⟩
      rw [← hg] at X
      try rw [← hg]
      clear hg
      generalize w.alloc (.cells #[.int .i64 n, .bool true] 23) = w1 at *
      obtain ⟨x0, x1⟩ := X.out.two
      go_wp2_with fail
      refine (CV.out w1).mono ?_
      rintro e w2 ⟨rfl, hb⟩
      replace X := hide (X.out.below hb)
      replace K := hide (btrans K.out hb)
      clear hb x0 x1 CV
      obtain ⟨x0, x1⟩ := X.out.two
      go_wp2
      go_ret2
      exact ⟨by rw [E.out]; rfl, K.out⟩
    · obtain ⟨h0, h1, h2⟩ := vl_of hv
      have h5 : 0 < n := by simpa using h2
      have hu : un n true = false := by unfold un; simp
      have E := hide (show sm n true = (n, 0) from by unfold sm un; rw [hv]; simp)
      have K := hide (bal (brefl w) (.cells #[.int .i64 n, .bool true] 23))
      have X := hide (Box.new w 23 #[.int .i64 n, .bool true])
      have CV := hide (fun w => vl_any n true w)
      rw [hv] at CV
      have CU := hide (fun w => un_any n true w)
      rw [hu] at CU
      unfold eC at *
      clear hv hu
      go_enter Try.func21, Try.ntmps21
      go_upto_region 1 with fail
      obtain ⟨g, hg⟩ : ∃ g, g = w.heap.size := ⟨_, rfl⟩
      rw [← hg] at X
      try rw [← hg]
      clear hg
      generalize w.alloc (.cells #[.int .i64 n, .bool true] 23) = w1 at *
      obtain ⟨x0, x1⟩ := X.out.two
      go_wp2_with fail
      refine (CV.out w1).mono ?_
      rintro e w2 ⟨rfl, hb⟩
      replace X := hide (X.out.below hb)
      replace K := hide (btrans K.out hb)
      clear hb x0 x1 CV
      obtain ⟨x0, x1⟩ := X.out.two
      go_wp2_with fail
      refine (CU.out w2).mono ?_
      rintro e w3 ⟨rfl, hb⟩
      replace X := hide (X.out.below hb)
      replace K := hide (btrans K.out hb)
      clear hb x0 x1 CU
      obtain ⟨x0, x1⟩ := X.out.two
      go_wp2
      go_ret2
      exact ⟨by rw [E.out]; rfl, K.out⟩
set_option maxHeartbeats 1000000 in
theorem rsmp_any (n : Int) (b : Bool) (w : World) : Calls Try.prog 22 #[.agg (eC (n, b))] w fun e w' => e = .returned (.tuple #[.int .i64 (sm n b).1, .int .i64 (sm n b).2]) ∧ Below w.heap.size w w' := by
  cases b
  · cases hv : vl n false
    · have E := hide (show sm n false = (0, 1) from if_pos hv)
      have K := hide (bal (brefl w) (.cells #[.int .i64 n, .bool false] 23))
      have X := hide (Box.new w 23 #[.int .i64 n, .bool false])
      have CV := hide (fun w => rvl_any n false w)
      rw [hv] at CV
      unfold eC at *
      clear hv
      go_enter Try.func22, Try.ntmps22
      go_upto_region 1 with fail
      obtain ⟨g, hg⟩ : ∃ g, g = w.heap.size := ⟨_, rfl⟩
      rw [← hg] at X
      try rw [← hg]
      clear hg
      generalize w.alloc (.cells #[.int .i64 n, .bool false] 23) = w1 at *
      obtain ⟨x0, x1⟩ := X.out.two
      go_wp2_with fail
      refine (CV.out w1).mono ?_
      rintro e w2 ⟨rfl, hb⟩
      replace X := hide (X.out.below hb)
      replace K := hide (btrans K.out hb)
      clear hb x0 x1 CV
      obtain ⟨x0, x1⟩ := X.out.two
      go_wp2
      go_ret2
      exact ⟨by rw [E.out]; rfl, K.out⟩
    · obtain ⟨h0, h1, h2⟩ := vl_of hv
      by_cases h3 : 0 < n
      · have hw : IntKind.i64.wrap (n - 1) = n - 1 := by rw [IntKind.wrap_i64]; omega
        have E := hide (show sm n false = (n - 1, 0) from by unfold sm un; rw [hv]; simp [h3])
        have K := hide (bal (brefl w) (.cells #[.int .i64 n, .bool false] 23))
        have X := hide (Box.new w 23 #[.int .i64 n, .bool false])
        have CV := hide (fun w => rvl_any n false w)
        rw [hv] at CV
        unfold eC at *
        clear hv
        go_enter Try.func22, Try.ntmps22
        go_upto_region 1 with fail
        obtain ⟨g, hg⟩ : ∃ g, g = w.heap.size := ⟨_, rfl⟩
        rw [← hg] at X
        try rw [← hg]
        clear hg
        generalize w.alloc (.cells #[.int .i64 n, .bool false] 23) = w1 at *
        obtain ⟨x0, x1⟩ := X.out.two
        go_wp2_with fail
        refine (CV.out w1).mono ?_
        rintro e w2 ⟨rfl, hb⟩
        replace X := hide (X.out.below hb)
        replace K := hide (btrans K.out hb)
        clear hb x0 x1 CV
        obtain ⟨x0, x1⟩ := X.out.two
        go_wp2
        go_ret2
        exact ⟨by rw [E.out]; rfl, K.out⟩
      · have E := hide (show sm n false = (n, 0) from by unfold sm un; rw [hv]; simp; omega)
        have K := hide (bal (brefl w) (.cells #[.int .i64 n, .bool false] 23))
        have X := hide (Box.new w 23 #[.int .i64 n, .bool false])
        have CV := hide (fun w => rvl_any n false w)
        rw [hv] at CV
        unfold eC at *
        clear hv
        go_enter Try.func22, Try.ntmps22
        go_upto_region 1 with fail
        obtain ⟨g, hg⟩ : ∃ g, g = w.heap.size := ⟨_, rfl⟩
        rw [← hg] at X
        try rw [← hg]
        clear hg
        generalize w.alloc (.cells #[.int .i64 n, .bool false] 23) = w1 at *
        obtain ⟨x0, x1⟩ := X.out.two
        go_wp2_with fail
        refine (CV.out w1).mono ?_
        rintro e w2 ⟨rfl, hb⟩
        replace X := hide (X.out.below hb)
        replace K := hide (btrans K.out hb)
        clear hb x0 x1 CV
        obtain ⟨x0, x1⟩ := X.out.two
        go_wp2
        go_ret2
        exact ⟨by rw [E.out]; rfl, K.out⟩
  · cases hv : vl n true
    · have E := hide (show sm n true = (0, 1) from if_pos hv)
      have K := hide (bal (brefl w) (.cells #[.int .i64 n, .bool true] 23))
      have X := hide (Box.new w 23 #[.int .i64 n, .bool true])
      have CV := hide (fun w => rvl_any n true w)
      rw [hv] at CV
      unfold eC at *
      clear hv
      go_enter Try.func22, Try.ntmps22
      go_upto_region 1 with fail
      obtain ⟨g, hg⟩ : ∃ g, g = w.heap.size := ⟨_, rfl⟩
      rw [← hg] at X
      try rw [← hg]
      clear hg
      generalize w.alloc (.cells #[.int .i64 n, .bool true] 23) = w1 at *
      obtain ⟨x0, x1⟩ := X.out.two
      go_wp2_with fail
      refine (CV.out w1).mono ?_
      rintro e w2 ⟨rfl, hb⟩
      replace X := hide (X.out.below hb)
      replace K := hide (btrans K.out hb)
      clear hb x0 x1 CV
      obtain ⟨x0, x1⟩ := X.out.two
      go_wp2
      go_ret2
      exact ⟨by rw [E.out]; rfl, K.out⟩
    · obtain ⟨h0, h1, h2⟩ := vl_of hv
      have h5 : 0 < n := by simpa using h2
      have E := hide (show sm n true = (n, 0) from by unfold sm un; rw [hv]; simp)
      have K := hide (bal (brefl w) (.cells #[.int .i64 n, .bool true] 23))
      have X := hide (Box.new w 23 #[.int .i64 n, .bool true])
      have CV := hide (fun w => rvl_any n true w)
      rw [hv] at CV
      unfold eC at *
      clear hv
      go_enter Try.func22, Try.ntmps22
      go_upto_region 1 with fail
      obtain ⟨g, hg⟩ : ∃ g, g = w.heap.size := ⟨_, rfl⟩
      rw [← hg] at X
      try rw [← hg]
      clear hg
      generalize w.alloc (.cells #[.int .i64 n, .bool true] 23) = w1 at *
      obtain ⟨x0, x1⟩ := X.out.two
      go_wp2_with fail
      refine (CV.out w1).mono ?_
      rintro e w2 ⟨rfl, hb⟩
      replace X := hide (X.out.below hb)
      replace K := hide (btrans K.out hb)
      clear hb x0 x1 CV
      obtain ⟨x0, x1⟩ := X.out.two
      go_wp2
      go_ret2
      exact ⟨by rw [E.out]; rfl, K.out⟩
end Go.Proofs.Ytcndbehgklkiiaa.Es
