import Derived.Test.YtcndbehgklkiiaaF2
namespace Go.Proofs.Ytcndbehgklkiiaa.Es
open Go Go.RowKit
set_option linter.unusedVariables false
set_option linter.unusedSimpArgs false
set_option maxHeartbeats 1000000 in
theorem chk_any (n : Int) (b : Bool) (s : Int) (w : World) : Calls Try.prog 23 #[.agg (eC (n, b)), .int .i64 s] w fun e w' => e = .returned (.tuple #[.agg (eC (ck n b s).1), .int .i64 (ck n b s).2.1, .int .i64 (ck n b s).2.2]) ∧ Below w.heap.size w w' := by
  cases b
  · cases hv : vl n false
    · have E := hide (show ck n false s = ((0, false), 0, 1) from if_pos hv)
      have K := hide (bal (bal (brefl w) (.cells #[.int .i64 n, .bool false] 23)) (.cells #[.int .i64 0, .bool false] 23))
      have X := hide ((Box.new w 23 #[.int .i64 n, .bool false]).more (.cells #[.int .i64 0, .bool false] 23))
      have Y := hide (Box.new2 w (.cells #[.int .i64 n, .bool false] 23) 23 #[.int .i64 0, .bool false])
      have CV := hide (fun w => vl_any n false w)
      rw [hv] at CV
      unfold eC at *
      clear hv
      go_enter Try.func23, Try.ntmps23
      go_upto_region 2 with fail
      obtain ⟨g, hg⟩ : ∃ g, g = w.heap.size := ⟨_, rfl⟩
      have hz : (w.alloc (.cells #[.int .i64 n, .bool false] 23)).heap.size = g + 1 := by rw [hg]; exact alloc_size' _ _
      have HG := hide (show w.heap.size ≤ g + 1 by omega)
      rw [← hg] at X Y
      try rw [hz]
      try rw [← hg]
      clear hg hz
      generalize (w.alloc (.cells #[.int .i64 n, .bool false] 23)).alloc (.cells #[.int .i64 0, .bool false] 23) = w1 at *
      obtain ⟨x0, x1⟩ := X.out.two
      obtain ⟨y0, y1, yf0, yf1⟩ := Y.out.two2
      go_wp2_with fail
      refine (CV.out w1).mono ?_
      rintro e w2 ⟨rfl, hb⟩
      replace X := hide (X.out.below hb)
      replace Y := hide (Y.out.below hb)
      replace K := hide (btrans K.out hb)
      clear hb x0 x1 y0 y1 yf0 yf1 CV
      obtain ⟨x0, x1⟩ := X.out.two
      obtain ⟨y0, y1, yf0, yf1⟩ := Y.out.two2
      go_wp2
      refine ret_e3 Try.results23 rfl rfl rfl rfl (by first | (with_reducible exact Y.out) | (with_reducible exact Y.out.set2 _ _) | (with_reducible exact (Y.out.set1 _).set2 _ _) | (with_reducible exact (Y.out.set2 _ _).set2 _ _) | (with_reducible exact ((Y.out.set2 _ _).set2 _ _).drew) | (with_reducible exact (Y.out.set2 _ _).drew)) ⟨by rw [E.out]; rfl, by first | (with_reducible exact K.out) | (with_reducible exact k2 K.out HG.out _ _) | (with_reducible exact k2 (bset K.out (p := ⟨_, 0, none⟩) HG.out _) HG.out _ _) | (with_reducible exact k2 (k2 K.out HG.out _ _) HG.out _ _) | (with_reducible exact below_drew (k2 (k2 K.out HG.out _ _) HG.out _ _)) | (with_reducible exact below_drew (k2 K.out HG.out _ _))⟩
    · obtain ⟨h0, h1, h2⟩ := vl_of hv
      by_cases h3 : s < 0
      · have E := hide (show ck n false s = ((0, false), 0, 2) from by unfold ck; rw [hv]; simp [h3]; try omega)
        have K := hide (bal (bal (brefl w) (.cells #[.int .i64 n, .bool false] 23)) (.cells #[.int .i64 0, .bool false] 23))
        have X := hide ((Box.new w 23 #[.int .i64 n, .bool false]).more (.cells #[.int .i64 0, .bool false] 23))
        have Y := hide (Box.new2 w (.cells #[.int .i64 n, .bool false] 23) 23 #[.int .i64 0, .bool false])
        have CV := hide (fun w => vl_any n false w)
        rw [hv] at CV
        unfold eC at *
        clear hv
        go_enter Try.func23, Try.ntmps23
        go_upto_region 2 with fail
        obtain ⟨g, hg⟩ : ∃ g, g = w.heap.size := ⟨_, rfl⟩
        have hz : (w.alloc (.cells #[.int .i64 n, .bool false] 23)).heap.size = g + 1 := by rw [hg]; exact alloc_size' _ _
        have HG := hide (show w.heap.size ≤ g + 1 by omega)
        rw [← hg] at X Y
        try rw [hz]
        try rw [← hg]
        clear hg hz
        generalize (w.alloc (.cells #[.int .i64 n, .bool false] 23)).alloc (.cells #[.int .i64 0, .bool false] 23) = w1 at *
        obtain ⟨x0, x1⟩ := X.out.two
        obtain ⟨y0, y1, yf0, yf1⟩ := Y.out.two2
        go_wp2_with fail
        refine (CV.out w1).mono ?_
        rintro e w2 ⟨rfl, hb⟩
        replace X := hide (X.out.below hb)
        replace Y := hide (Y.out.below hb)
        replace K := hide (btrans K.out hb)
        clear hb x0 x1 y0 y1 yf0 yf1 CV
        obtain ⟨x0, x1⟩ := X.out.two
        obtain ⟨y0, y1, yf0, yf1⟩ := Y.out.two2
        go_wp2
        refine ret_e3 Try.results23 rfl rfl rfl rfl (by first | (with_reducible exact Y.out) | (with_reducible exact Y.out.set2 _ _) | (with_reducible exact (Y.out.set1 _).set2 _ _) | (with_reducible exact (Y.out.set2 _ _).set2 _ _) | (with_reducible exact ((Y.out.set2 _ _).set2 _ _).drew) | (with_reducible exact (Y.out.set2 _ _).drew)) ⟨by rw [E.out]; rfl, by first | (with_reducible exact K.out) | (with_reducible exact k2 K.out HG.out _ _) | (with_reducible exact k2 (bset K.out (p := ⟨_, 0, none⟩) HG.out _) HG.out _ _) | (with_reducible exact k2 (k2 K.out HG.out _ _) HG.out _ _) | (with_reducible exact below_drew (k2 (k2 K.out HG.out _ _) HG.out _ _)) | (with_reducible exact below_drew (k2 K.out HG.out _ _))⟩
      · by_cases h4 : n < s
        · have E := hide (show ck n false s = ((0, false), 0, 2) from by unfold ck; rw [hv]; simp [h4]; try omega)
          have K := hide (bal (bal (brefl w) (.cells #[.int .i64 n, .bool false] 23)) (.cells #[.int .i64 0, .bool false] 23))
          have X := hide ((Box.new w 23 #[.int .i64 n, .bool false]).more (.cells #[.int .i64 0, .bool false] 23))
          have Y := hide (Box.new2 w (.cells #[.int .i64 n, .bool false] 23) 23 #[.int .i64 0, .bool false])
          have CV := hide (fun w => vl_any n false w)
          rw [hv] at CV
          unfold eC at *
          clear hv
          go_enter Try.func23, Try.ntmps23
          go_upto_region 2 with fail
          obtain ⟨g, hg⟩ : ∃ g, g = w.heap.size := ⟨_, rfl⟩
          have hz : (w.alloc (.cells #[.int .i64 n, .bool false] 23)).heap.size = g + 1 := by rw [hg]; exact alloc_size' _ _
          have HG := hide (show w.heap.size ≤ g + 1 by omega)
          rw [← hg] at X Y
          try rw [hz]
          try rw [← hg]
          clear hg hz
          generalize (w.alloc (.cells #[.int .i64 n, .bool false] 23)).alloc (.cells #[.int .i64 0, .bool false] 23) = w1 at *
          obtain ⟨x0, x1⟩ := X.out.two
          obtain ⟨y0, y1, yf0, yf1⟩ := Y.out.two2
          go_wp2_with fail
          refine (CV.out w1).mono ?_
          rintro e w2 ⟨rfl, hb⟩
          replace X := hide (X.out.below hb)
          replace Y := hide (Y.out.below hb)
          replace K := hide (btrans K.out hb)
          clear hb x0 x1 y0 y1 yf0 yf1 CV
          obtain ⟨x0, x1⟩ := X.out.two
          obtain ⟨y0, y1, yf0, yf1⟩ := Y.out.two2
          go_wp2
          refine ret_e3 Try.results23 rfl rfl rfl rfl (by first | (with_reducible exact Y.out) | (with_reducible exact Y.out.set2 _ _) | (with_reducible exact (Y.out.set1 _).set2 _ _) | (with_reducible exact (Y.out.set2 _ _).set2 _ _) | (with_reducible exact ((Y.out.set2 _ _).set2 _ _).drew) | (with_reducible exact (Y.out.set2 _ _).drew)) ⟨by rw [E.out]; rfl, by first | (with_reducible exact K.out) | (with_reducible exact k2 K.out HG.out _ _) | (with_reducible exact k2 (bset K.out (p := ⟨_, 0, none⟩) HG.out _) HG.out _ _) | (with_reducible exact k2 (k2 K.out HG.out _ _) HG.out _ _) | (with_reducible exact below_drew (k2 (k2 K.out HG.out _ _) HG.out _ _)) | (with_reducible exact below_drew (k2 K.out HG.out _ _))⟩
        · by_cases h5 : s = n
          · have E := hide (show ck n false s = ((n, false), s, 0) from by unfold ck; rw [hv]; simp [h3, h4, h5]; try omega)
            have K := hide (bal (bal (brefl w) (.cells #[.int .i64 n, .bool false] 23)) (.cells #[.int .i64 0, .bool false] 23))
            have X := hide ((Box.new w 23 #[.int .i64 n, .bool false]).more (.cells #[.int .i64 0, .bool false] 23))
            have Y := hide (Box.new2 w (.cells #[.int .i64 n, .bool false] 23) 23 #[.int .i64 0, .bool false])
            have CV := hide (fun w => vl_any n false w)
            rw [hv] at CV
            have h6 : (s == n) = true := by simp [h5]
            replace h5 := hide h5
            unfold eC at *
            clear hv
            go_enter Try.func23, Try.ntmps23
            go_upto_region 2 with fail
            obtain ⟨g, hg⟩ : ∃ g, g = w.heap.size := ⟨_, rfl⟩
            have hz : (w.alloc (.cells #[.int .i64 n, .bool false] 23)).heap.size = g + 1 := by rw [hg]; exact alloc_size' _ _
            have HG := hide (show w.heap.size ≤ g + 1 by omega)
            rw [← hg] at X Y
            try rw [hz]
            try rw [← hg]
            clear hg hz
            generalize (w.alloc (.cells #[.int .i64 n, .bool false] 23)).alloc (.cells #[.int .i64 0, .bool false] 23) = w1 at *
            obtain ⟨x0, x1⟩ := X.out.two
            obtain ⟨y0, y1, yf0, yf1⟩ := Y.out.two2
            go_wp2_with fail
            refine (CV.out w1).mono ?_
            rintro e w2 ⟨rfl, hb⟩
            replace X := hide (X.out.below hb)
            replace Y := hide (Y.out.below hb)
            replace K := hide (btrans K.out hb)
            clear hb x0 x1 y0 y1 yf0 yf1 CV
            obtain ⟨x0, x1⟩ := X.out.two
            obtain ⟨y0, y1, yf0, yf1⟩ := Y.out.two2
            go_wp2
            refine ret_e3 Try.results23 rfl rfl rfl rfl (by first | (with_reducible exact Y.out) | (with_reducible exact Y.out.set2 _ _) | (with_reducible exact (Y.out.set1 _).set2 _ _) | (with_reducible exact (Y.out.set2 _ _).set2 _ _) | (with_reducible exact ((Y.out.set2 _ _).set2 _ _).drew) | (with_reducible exact (Y.out.set2 _ _).drew)) ⟨by rw [E.out]; rfl, by first | (with_reducible exact K.out) | (with_reducible exact k2 K.out HG.out _ _) | (with_reducible exact k2 (bset K.out (p := ⟨_, 0, none⟩) HG.out _) HG.out _ _) | (with_reducible exact k2 (k2 K.out HG.out _ _) HG.out _ _) | (with_reducible exact below_drew (k2 (k2 K.out HG.out _ _) HG.out _ _)) | (with_reducible exact below_drew (k2 K.out HG.out _ _))⟩
          · have E := hide (show ck n false s = ((n, true), n, 15) from by unfold ck; rw [hv]; simp [h3, h4, h5]; try omega)
            have K := hide (bal (bal (brefl w) (.cells #[.int .i64 n, .bool false] 23)) (.cells #[.int .i64 0, .bool false] 23))
            have X := hide ((Box.new w 23 #[.int .i64 n, .bool false]).more (.cells #[.int .i64 0, .bool false] 23))
            have Y := hide (Box.new2 w (.cells #[.int .i64 n, .bool false] 23) 23 #[.int .i64 0, .bool false])
            have CV := hide (fun w => vl_any n false w)
            rw [hv] at CV
            have h6 : (s == n) = false := by simp [h5]
            unfold eC at *
            clear hv
            go_enter Try.func23, Try.ntmps23
            go_upto_region 2 with fail
            obtain ⟨g, hg⟩ : ∃ g, g = w.heap.size := ⟨_, rfl⟩
            have hz : (w.alloc (.cells #[.int .i64 n, .bool false] 23)).heap.size = g + 1 := by rw [hg]; exact alloc_size' _ _
            have HG := hide (show w.heap.size ≤ g + 1 by omega)
            rw [← hg] at X Y
            try rw [hz]
            try rw [← hg]
            clear hg hz
            generalize (w.alloc (.cells #[.int .i64 n, .bool false] 23)).alloc (.cells #[.int .i64 0, .bool false] 23) = w1 at *
            obtain ⟨x0, x1⟩ := X.out.two
            obtain ⟨y0, y1, yf0, yf1⟩ := Y.out.two2
            go_wp2_with fail
            refine (CV.out w1).mono ?_
            rintro e w2 ⟨rfl, hb⟩
            replace X := hide (X.out.below hb)
            replace Y := hide (Y.out.below hb)
            replace K := hide (btrans K.out hb)
            clear hb x0 x1 y0 y1 yf0 yf1 CV
            obtain ⟨x0, x1⟩ := X.out.two
            obtain ⟨y0, y1, yf0, yf1⟩ := Y.out.two2
            go_upto_region 1 with fail
            go_region
            go_wp2
            refine ret_e3 Try.results23 rfl rfl rfl rfl (by first | (with_reducible exact Y.out) | (with_reducible exact Y.out.set2 _ _) | (with_reducible exact (Y.out.set1 _).set2 _ _) | (with_reducible exact (Y.out.set2 _ _).set2 _ _) | (with_reducible exact ((Y.out.set2 _ _).set2 _ _).drew) | (with_reducible exact (Y.out.set2 _ _).drew)) ⟨by rw [E.out]; rfl, by first | (with_reducible exact K.out) | (with_reducible exact k2 K.out HG.out _ _) | (with_reducible exact k2 (bset K.out (p := ⟨_, 0, none⟩) HG.out _) HG.out _ _) | (with_reducible exact k2 (k2 K.out HG.out _ _) HG.out _ _) | (with_reducible exact below_drew (k2 (k2 K.out HG.out _ _) HG.out _ _)) | (with_reducible exact below_drew (k2 K.out HG.out _ _))⟩
  · cases hv : vl n true
    · have E := hide (show ck n true s = ((0, false), 0, 1) from if_pos hv)
      have K := hide (bal (bal (brefl w) (.cells #[.int .i64 n, .bool true] 23)) (.cells #[.int .i64 0, .bool false] 23))
      have X := hide ((Box.new w 23 #[.int .i64 n, .bool true]).more (.cells #[.int .i64 0, .bool false] 23))
      have Y := hide (Box.new2 w (.cells #[.int .i64 n, .bool true] 23) 23 #[.int .i64 0, .bool false])
      have CV := hide (fun w => vl_any n true w)
      rw [hv] at CV
      unfold eC at *
      clear hv
      go_enter Try.func23, Try.ntmps23
      go_upto_region 2 with fail
      obtain ⟨g, hg⟩ : ∃ g, g = w.heap.size := ⟨_, rfl⟩
      have hz : (w.alloc (.cells #[.int .i64 n, .bool true] 23)).heap.size = g + 1 := by rw [hg]; exact alloc_size' _ _
      have HG := hide (show w.heap.size ≤ g + 1 by omega)
      rw [← hg] at X Y
      try rw [hz]
      try rw [← hg]
      clear hg hz
      generalize (w.alloc (.cells #[.int .i64 n, .bool true] 23)).alloc (.cells #[.int .i64 0, .bool false] 23) = w1 at *
      obtain ⟨x0, x1⟩ := X.out.two
      obtain ⟨y0, y1, yf0, yf1⟩ := Y.out.two2
      go_wp2_with fail
      refine (CV.out w1).mono ?_
      rintro e w2 ⟨rfl, hb⟩
      replace X := hide (X.out.below hb)
      replace Y := hide (Y.out.below hb)
      replace K := hide (btrans K.out hb)
      clear hb x0 x1 y0 y1 yf0 yf1 CV
      obtain ⟨x0, x1⟩ := X.out.two
      obtain ⟨y0, y1, yf0, yf1⟩ := Y.out.two2
      go_wp2
      refine ret_e3 Try.results23 rfl rfl rfl rfl (by first | (with_reducible exact Y.out) | (with_reducible exact Y.out.set2 _ _) | (with_reducible exact (Y.out.set1 _).set2 _ _) | (with_reducible exact (Y.out.set2 _ _).set2 _ _) | (with_reducible exact ((Y.out.set2 _ _).set2 _ _).drew) | (with_reducible exact (Y.out.set2 _ _).drew)) ⟨by rw [E.out]; rfl, by first | (with_reducible exact K.out) | (with_reducible exact k2 K.out HG.out _ _) | (with_reducible exact k2 (bset K.out (p := ⟨_, 0, none⟩) HG.out _) HG.out _ _) | (with_reducible exact k2 (k2 K.out HG.out _ _) HG.out _ _) | (with_reducible exact below_drew (k2 (k2 K.out HG.out _ _) HG.out _ _)) | (with_reducible exact below_drew (k2 K.out HG.out _ _))⟩
    · obtain ⟨h0, h1, h2⟩ := vl_of hv
      by_cases h3 : s < 0
      · have E := hide (show ck n true s = ((0, false), 0, 2) from by unfold ck; rw [hv]; simp [h3]; try omega)
        have K := hide (bal (bal (brefl w) (.cells #[.int .i64 n, .bool true] 23)) (.cells #[.int .i64 0, .bool false] 23))
        have X := hide ((Box.new w 23 #[.int .i64 n, .bool true]).more (.cells #[.int .i64 0, .bool false] 23))
        have Y := hide (Box.new2 w (.cells #[.int .i64 n, .bool true] 23) 23 #[.int .i64 0, .bool false])
        have CV := hide (fun w => vl_any n true w)
        rw [hv] at CV
        unfold eC at *
        clear hv
        go_enter Try.func23, Try.ntmps23
        go_upto_region 2 with fail
        obtain ⟨g, hg⟩ : ∃ g, g = w.heap.size := ⟨_, rfl⟩
        have hz : (w.alloc (.cells #[.int .i64 n, .bool true] 23)).heap.size = g + 1 := by rw [hg]; exact alloc_size' _ _
        have HG := hide (show w.heap.size ≤ g + 1 by omega)
        rw [← hg] at X Y
        try rw [hz]
        try rw [← hg]
        clear hg hz
        generalize (w.alloc (.cells #[.int .i64 n, .bool true] 23)).alloc (.cells #[.int .i64 0, .bool false] 23) = w1 at *
        obtain ⟨x0, x1⟩ := X.out.two
        obtain ⟨y0, y1, yf0, yf1⟩ := Y.out.two2
        go_wp2_with fail
        refine (CV.out w1).mono ?_
        rintro e w2 ⟨rfl, hb⟩
        replace X := hide (X.out.below hb)
        replace Y := hide (Y.out.below hb)
        replace K := hide (btrans K.out hb)
        clear hb x0 x1 y0 y1 yf0 yf1 CV
        obtain ⟨x0, x1⟩ := X.out.two
        obtain ⟨y0, y1, yf0, yf1⟩ := Y.out.two2
        go_wp2
        refine ret_e3 Try.results23 rfl rfl rfl rfl (by first | (with_reducible exact Y.out) | (with_reducible exact Y.out.set2 _ _) | (with_reducible exact (Y.out.set1 _).set2 _ _) | (with_reducible exact (Y.out.set2 _ _).set2 _ _) | (with_reducible exact ((Y.out.set2 _ _).set2 _ _).drew) | (with_reducible exact (Y.out.set2 _ _).drew)) ⟨by rw [E.out]; rfl, by first | (with_reducible exact K.out) | (with_reducible exact k2 K.out HG.out _ _) | (with_reducible exact k2 (bset K.out (p := ⟨_, 0, none⟩) HG.out _) HG.out _ _) | (with_reducible exact k2 (k2 K.out HG.out _ _) HG.out _ _) | (with_reducible exact below_drew (k2 (k2 K.out HG.out _ _) HG.out _ _)) | (with_reducible exact below_drew (k2 K.out HG.out _ _))⟩
      · by_cases h4 : n < s
        · have E := hide (show ck n true s = ((0, false), 0, 2) from by unfold ck; rw [hv]; simp [h4]; try omega)
          have K := hide (bal (bal (brefl w) (.cells #[.int .i64 n, .bool true] 23)) (.cells #[.int .i64 0, .bool false] 23))
          have X := hide ((Box.new w 23 #[.int .i64 n, .bool true]).more (.cells #[.int .i64 0, .bool false] 23))
          have Y := hide (Box.new2 w (.cells #[.int .i64 n, .bool true] 23) 23 #[.int .i64 0, .bool false])
          have CV := hide (fun w => vl_any n true w)
          rw [hv] at CV
          unfold eC at *
          clear hv
          go_enter Try.func23, Try.ntmps23
          go_upto_region 2 with fail
          obtain ⟨g, hg⟩ : ∃ g, g = w.heap.size := ⟨_, rfl⟩
          have hz : (w.alloc (.cells #[.int .i64 n, .bool true] 23)).heap.size = g + 1 := by rw [hg]; exact alloc_size' _ _
          have HG := hide (show w.heap.size ≤ g + 1 by omega)
          rw [← hg] at X Y
          try rw [hz]
          try rw [← hg]
          clear hg hz
          generalize (w.alloc (.cells #[.int .i64 n, .bool true] 23)).alloc (.cells #[.int .i64 0, .bool false] 23) = w1 at *
          obtain ⟨x0, x1⟩ := X.out.two
          obtain ⟨y0, y1, yf0, yf1⟩ := Y.out.two2
          go_wp2_with fail
          refine (CV.out w1).mono ?_
          rintro e w2 ⟨rfl, hb⟩
          replace X := hide (X.out.below hb)
          replace Y := hide (Y.out.below hb)
          replace K := hide (btrans K.out hb)
          clear hb x0 x1 y0 y1 yf0 yf1 CV
          obtain ⟨x0, x1⟩ := X.out.two
          obtain ⟨y0, y1, yf0, yf1⟩ := Y.out.two2
          go_wp2
          refine ret_e3 Try.results23 rfl rfl rfl rfl (by first | (with_reducible exact Y.out) | (with_reducible exact Y.out.set2 _ _) | (with_reducible exact (Y.out.set1 _).set2 _ _) | (with_reducible exact (Y.out.set2 _ _).set2 _ _) | (with_reducible exact ((Y.out.set2 _ _).set2 _ _).drew) | (with_reducible exact (Y.out.set2 _ _).drew)) ⟨by rw [E.out]; rfl, by first | (with_reducible exact K.out) | (with_reducible exact k2 K.out HG.out _ _) | (with_reducible exact k2 (bset K.out (p := ⟨_, 0, none⟩) HG.out _) HG.out _ _) | (with_reducible exact k2 (k2 K.out HG.out _ _) HG.out _ _) | (with_reducible exact below_drew (k2 (k2 K.out HG.out _ _) HG.out _ _)) | (with_reducible exact below_drew (k2 K.out HG.out _ _))⟩
        · by_cases h5 : s = n
          · have E := hide (show ck n true s = ((n, true), s, 0) from by unfold ck; rw [hv]; simp [h3, h4, h5]; try omega)
            have K := hide (bal (bal (brefl w) (.cells #[.int .i64 n, .bool true] 23)) (.cells #[.int .i64 0, .bool false] 23))
            have X := hide ((Box.new w 23 #[.int .i64 n, .bool true]).more (.cells #[.int .i64 0, .bool false] 23))
            have Y := hide (Box.new2 w (.cells #[.int .i64 n, .bool true] 23) 23 #[.int .i64 0, .bool false])
            have CV := hide (fun w => vl_any n true w)
            rw [hv] at CV
            have h6 : (s == n) = true := by simp [h5]
            replace h5 := hide h5
            unfold eC at *
            clear hv
            go_enter Try.func23, Try.ntmps23
            go_upto_region 2 with fail
            obtain ⟨g, hg⟩ : ∃ g, g = w.heap.size := ⟨_, rfl⟩
            have hz : (w.alloc (.cells #[.int .i64 n, .bool true] 23)).heap.size = g + 1 := by rw [hg]; exact alloc_size' _ _
            have HG := hide (show w.heap.size ≤ g + 1 by omega)
            rw [← hg] at X Y
            try rw [hz]
            try rw [← hg]
            clear hg hz
            generalize (w.alloc (.cells #[.int .i64 n, .bool true] 23)).alloc (.cells #[.int .i64 0, .bool false] 23) = w1 at *
            obtain ⟨x0, x1⟩ := X.out.two
            obtain ⟨y0, y1, yf0, yf1⟩ := Y.out.two2
            go_wp2_with fail
            refine (CV.out w1).mono ?_
            rintro e w2 ⟨rfl, hb⟩
            replace X := hide (X.out.below hb)
            replace Y := hide (Y.out.below hb)
            replace K := hide (btrans K.out hb)
            clear hb x0 x1 y0 y1 yf0 yf1 CV
            obtain ⟨x0, x1⟩ := X.out.two
            obtain ⟨y0, y1, yf0, yf1⟩ := Y.out.two2
            go_wp2
            refine ret_e3 Try.results23 rfl rfl rfl rfl (by first | (with_reducible exact Y.out) | (with_reducible exact Y.out.set2 _ _) | (with_reducible exact (Y.out.set1 _).set2 _ _) | (with_reducible exact (Y.out.set2 _ _).set2 _ _) | (with_reducible exact ((Y.out.set2 _ _).set2 _ _).drew) | (with_reducible exact (Y.out.set2 _ _).drew)) ⟨by rw [E.out]; rfl, by first | (with_reducible exact K.out) | (with_reducible exact k2 K.out HG.out _ _) | (with_reducible exact k2 (bset K.out (p := ⟨_, 0, none⟩) HG.out _) HG.out _ _) | (with_reducible exact k2 (k2 K.out HG.out _ _) HG.out _ _) | (with_reducible exact below_drew (k2 (k2 K.out HG.out _ _) HG.out _ _)) | (with_reducible exact below_drew (k2 K.out HG.out _ _))⟩
          · have E := hide (show ck n true s = ((n, true), n, 15) from by unfold ck; rw [hv]; simp [h3, h4, h5]; try omega)
            have K := hide (bal (bal (brefl w) (.cells #[.int .i64 n, .bool true] 23)) (.cells #[.int .i64 0, .bool false] 23))
            have X := hide ((Box.new w 23 #[.int .i64 n, .bool true]).more (.cells #[.int .i64 0, .bool false] 23))
            have Y := hide (Box.new2 w (.cells #[.int .i64 n, .bool true] 23) 23 #[.int .i64 0, .bool false])
            have CV := hide (fun w => vl_any n true w)
            rw [hv] at CV
            have h6 : (s == n) = false := by simp [h5]
            unfold eC at *
            clear hv
            go_enter Try.func23, Try.ntmps23
            go_upto_region 2 with fail
            obtain ⟨g, hg⟩ : ∃ g, g = w.heap.size := ⟨_, rfl⟩
            have hz : (w.alloc (.cells #[.int .i64 n, .bool true] 23)).heap.size = g + 1 := by rw [hg]; exact alloc_size' _ _
            have HG := hide (show w.heap.size ≤ g + 1 by omega)
            rw [← hg] at X Y
            try rw [hz]
            try rw [← hg]
            clear hg hz
            generalize (w.alloc (.cells #[.int .i64 n, .bool true] 23)).alloc (.cells #[.int .i64 0, .bool false] 23) = w1 at *
            obtain ⟨x0, x1⟩ := X.out.two
            obtain ⟨y0, y1, yf0, yf1⟩ := Y.out.two2
            go_wp2_with fail
            refine (CV.out w1).mono ?_
            rintro e w2 ⟨rfl, hb⟩
            replace X := hide (X.out.below hb)
            replace Y := hide (Y.out.below hb)
            replace K := hide (btrans K.out hb)
            clear hb x0 x1 y0 y1 yf0 yf1 CV
            obtain ⟨x0, x1⟩ := X.out.two
            obtain ⟨y0, y1, yf0, yf1⟩ := Y.out.two2
            go_upto_region 1 with fail
            go_region
            go_wp2
            refine ret_e3 Try.results23 rfl rfl rfl rfl (by first | (with_reducible exact Y.out) | (with_reducible exact Y.out.set2 _ _) | (with_reducible exact (Y.out.set1 _).set2 _ _) | (with_reducible exact (Y.out.set2 _ _).set2 _ _) | (with_reducible exact ((Y.out.set2 _ _).set2 _ _).drew) | (with_reducible exact (Y.out.set2 _ _).drew)) ⟨by rw [E.out]; rfl, by first | (with_reducible exact K.out) | (with_reducible exact k2 K.out HG.out _ _) | (with_reducible exact k2 (bset K.out (p := ⟨_, 0, none⟩) HG.out _) HG.out _ _) | (with_reducible exact k2 (k2 K.out HG.out _ _) HG.out _ _) | (with_reducible exact below_drew (k2 (k2 K.out HG.out _ _) HG.out _ _)) | (with_reducible exact below_drew (k2 K.out HG.out _ _))⟩
set_option maxHeartbeats 1000000 in
theorem rchk_any (n : Int) (b : Bool) (s : Int) (w : World) : Calls Try.prog 24 #[.agg (eC (n, b)), .int .i64 s] w fun e w' => e = .returned (.tuple #[.agg (eC (ck n b s).1), .int .i64 (ck n b s).2.1, .int .i64 (ck n b s).2.2]) ∧ Below w.heap.size w w' := by
  cases b
  · cases hv : vl n false
    · have E := hide (show ck n false s = ((0, false), 0, 1) from if_pos hv)
      have K := hide (bal (bal (brefl w) (.cells #[.int .i64 n, .bool false] 23)) (.cells #[.int .i64 0, .bool false] 23))
      have X := hide ((Box.new w 23 #[.int .i64 n, .bool false]).more (.cells #[.int .i64 0, .bool false] 23))
      have Y := hide (Box.new2 w (.cells #[.int .i64 n, .bool false] 23) 23 #[.int .i64 0, .bool false])
      have CV := hide (fun w => rvl_any n false w)
      rw [hv] at CV
      unfold eC at *
      clear hv
      go_enter Try.func24, Try.ntmps24
      go_upto_region 1 with fail
      obtain ⟨g, hg⟩ : ∃ g, g = w.heap.size := ⟨_, rfl⟩
      have hz : (w.alloc (.cells #[.int .i64 n, .bool false] 23)).heap.size = g + 1 := by rw [hg]; exact alloc_size' _ _
      have HG := hide (show w.heap.size ≤ g + 1 by omega)
      rw [← hg] at X Y
      try rw [hz]
      try rw [← hg]
      clear hg hz
      generalize (w.alloc (.cells #[.int .i64 n, .bool false] 23)).alloc (.cells #[.int .i64 0, .bool false] 23) = w1 at *
      obtain ⟨x0, x1⟩ := X.out.two
      obtain ⟨y0, y1, yf0, yf1⟩ := Y.out.two2
      go_wp2_with fail
      refine (CV.out w1).mono ?_
      rintro e w2 ⟨rfl, hb⟩
      replace X := hide (X.out.below hb)
      replace Y := hide (Y.out.below hb)
      replace K := hide (btrans K.out hb)
      clear hb x0 x1 y0 y1 yf0 yf1 CV
      obtain ⟨x0, x1⟩ := X.out.two
      obtain ⟨y0, y1, yf0, yf1⟩ := Y.out.two2
      go_wp2
      refine ret_e3 Try.results24 rfl rfl rfl rfl (by first | (with_reducible exact Y.out) | (with_reducible exact Y.out.set2 _ _) | (with_reducible exact (Y.out.set1 _).set2 _ _) | (with_reducible exact (Y.out.set2 _ _).set2 _ _) | (with_reducible exact ((Y.out.set2 _ _).set2 _ _).drew) | (with_reducible exact (Y.out.set2 _ _).drew)) ⟨by rw [E.out]; rfl, by first | (with_reducible exact K.out) | (with_reducible exact k2 K.out HG.out _ _) | (with_reducible exact k2 (bset K.out (p := ⟨_, 0, none⟩) HG.out _) HG.out _ _) | (with_reducible exact k2 (k2 K.out HG.out _ _) HG.out _ _) | (with_reducible exact below_drew (k2 (k2 K.out HG.out _ _) HG.out _ _)) | (with_reducible exact below_drew (k2 K.out HG.out _ _))⟩
    · obtain ⟨h0, h1, h2⟩ := vl_of hv
      by_cases h3 : s < 0
      · have E := hide (show ck n false s = ((0, false), 0, 2) from by unfold ck; rw [hv]; simp [h3]; try omega)
        have K := hide (bal (bal (brefl w) (.cells #[.int .i64 n, .bool false] 23)) (.cells #[.int .i64 0, .bool false] 23))
        have X := hide ((Box.new w 23 #[.int .i64 n, .bool false]).more (.cells #[.int .i64 0, .bool false] 23))
        have Y := hide (Box.new2 w (.cells #[.int .i64 n, .bool false] 23) 23 #[.int .i64 0, .bool false])
        have CV := hide (fun w => rvl_any n false w)
        rw [hv] at CV
        unfold eC at *
        clear hv
        go_enter Try.func24, Try.ntmps24
        go_upto_region 1 with fail
        obtain ⟨g, hg⟩ : ∃ g, g = w.heap.size := ⟨_, rfl⟩
        have hz : (w.alloc (.cells #[.int .i64 n, .bool false] 23)).heap.size = g + 1 := by rw [hg]; exact alloc_size' _ _
        have HG := hide (show w.heap.size ≤ g + 1 by omega)
        rw [← hg] at X Y
        try rw [hz]
        try rw [← hg]
        clear hg hz
        generalize (w.alloc (.cells #[.int .i64 n, .bool false] 23)).alloc (.cells #[.int .i64 0, .bool false] 23) = w1 at *
        obtain ⟨x0, x1⟩ := X.out.two
        obtain ⟨y0, y1, yf0, yf1⟩ := Y.out.two2
        go_wp2_with fail
        refine (CV.out w1).mono ?_
        rintro e w2 ⟨rfl, hb⟩
        replace X := hide (X.out.below hb)
        replace Y := hide (Y.out.below hb)
        replace K := hide (btrans K.out hb)
        clear hb x0 x1 y0 y1 yf0 yf1 CV
        obtain ⟨x0, x1⟩ := X.out.two
        obtain ⟨y0, y1, yf0, yf1⟩ := Y.out.two2
        go_wp2
        refine ret_e3 Try.results24 rfl rfl rfl rfl (by first | (with_reducible exact Y.out) | (with_reducible exact Y.out.set2 _ _) | (with_reducible exact (Y.out.set1 _).set2 _ _) | (with_reducible exact (Y.out.set2 _ _).set2 _ _) | (with_reducible exact ((Y.out.set2 _ _).set2 _ _).drew) | (with_reducible exact (Y.out.set2 _ _).drew)) ⟨by rw [E.out]; rfl, by first | (with_reducible exact K.out) | (with_reducible exact k2 K.out HG.out _ _) | (with_reducible exact k2 (bset K.out (p := ⟨_, 0, none⟩) HG.out _) HG.out _ _) | (with_reducible exact k2 (k2 K.out HG.out _ _) HG.out _ _) | (with_reducible exact below_drew (k2 (k2 K.out HG.out _ _) HG.out _ _)) | (with_reducible exact below_drew (k2 K.out HG.out _ _))⟩
      · by_cases h4 : n < s
        · have E := hide (show ck n false s = ((0, false), 0, 2) from by unfold ck; rw [hv]; simp [h4]; try omega)
          have K := hide (bal (bal (brefl w) (.cells #[.int .i64 n, .bool false] 23)) (.cells #[.int .i64 0, .bool false] 23))
          have X := hide ((Box.new w 23 #[.int .i64 n, .bool false]).more (.cells #[.int .i64 0, .bool false] 23))
          have Y := hide (Box.new2 w (.cells #[.int .i64 n, .bool false] 23) 23 #[.int .i64 0, .bool false])
          have CV := hide (fun w => rvl_any n false w)
          rw [hv] at CV
          unfold eC at *
          clear hv
          go_enter Try.func24, Try.ntmps24
          go_upto_region 1 with fail
          obtain ⟨g, hg⟩ : ∃ g, g = w.heap.size := ⟨_, rfl⟩
          have hz : (w.alloc (.cells #[.int .i64 n, .bool false] 23)).heap.size = g + 1 := by rw [hg]; exact alloc_size' _ _
          have HG := hide (show w.heap.size ≤ g + 1 by omega)
          rw [← hg] at X Y
          try rw [hz]
          try rw [← hg]
          clear hg hz
          generalize (w.alloc (.cells #[.int .i64 n, .bool false] 23)).alloc (.cells #[.int .i64 0, .bool false] 23) = w1 at *
          obtain ⟨x0, x1⟩ := X.out.two
          obtain ⟨y0, y1, yf0, yf1⟩ := Y.out.two2
          go_wp2_with fail
          refine (CV.out w1).mono ?_
          rintro e w2 ⟨rfl, hb⟩
          replace X := hide (X.out.below hb)
          replace Y := hide (Y.out.below hb)
          replace K := hide (btrans K.out hb)
          clear hb x0 x1 y0 y1 yf0 yf1 CV
          obtain ⟨x0, x1⟩ := X.out.two
          obtain ⟨y0, y1, yf0, yf1⟩ := Y.out.two2
          go_wp2
          refine ret_e3 Try.results24 rfl rfl rfl rfl (by first | (with_reducible exact Y.out) | (with_reducible exact Y.out.set2 _ _) | (with_reducible exact (Y.out.set1 _).set2 _ _) | (with_reducible exact (Y.out.set2 _ _).set2 _ _) | (with_reducible exact ((Y.out.set2 _ _).set2 _ _).drew) | (with_reducible exact (Y.out.set2 _ _).drew)) ⟨by rw [E.out]; rfl, by first | (with_reducible exact K.out) | (with_reducible exact k2 K.out HG.out _ _) | (with_reducible exact k2 (bset K.out (p := ⟨_, 0, none⟩) HG.out _) HG.out _ _) | (with_reducible exact k2 (k2 K.out HG.out _ _) HG.out _ _) | (with_reducible exact below_drew (k2 (k2 K.out HG.out _ _) HG.out _ _)) | (with_reducible exact below_drew (k2 K.out HG.out _ _))⟩
        · by_cases h5 : s = n
          · have E := hide (show ck n false s = ((n, false), s, 0) from by unfold ck; rw [hv]; simp [h3, h4, h5]; try omega)
            have K := hide (bal (bal (brefl w) (.cells #[.int .i64 n, .bool false] 23)) (.cells #[.int .i64 0, .bool false] 23))
            have X := hide ((Box.new w 23 #[.int .i64 n, .bool false]).more (.cells #[.int .i64 0, .bool false] 23))
            have Y := hide (Box.new2 w (.cells #[.int .i64 n, .bool false] 23) 23 #[.int .i64 0, .bool false])
            have CV := hide (fun w => rvl_any n false w)
            rw [hv] at CV
            have h6 : (s == n) = true := by simp [h5]
            replace h5 := hide h5
            unfold eC at *
            clear hv
            go_enter Try.func24, Try.ntmps24
            go_upto_region 1 with fail
            obtain ⟨g, hg⟩ : ∃ g, g = w.heap.size := ⟨_, rfl⟩
            have hz : (w.alloc (.cells #[.int .i64 n, .bool false] 23)).heap.size = g + 1 := by rw [hg]; exact alloc_size' _ _
            have HG := hide (show w.heap.size ≤ g + 1 by omega)
            rw [← hg] at X Y
            try rw [hz]
            try rw [← hg]
            clear hg hz
            generalize (w.alloc (.cells #[.int .i64 n, .bool false] 23)).alloc (.cells #[.int .i64 0, .bool false] 23) = w1 at *
            obtain ⟨x0, x1⟩ := X.out.two
            obtain ⟨y0, y1, yf0, yf1⟩ := Y.out.two2
            go_wp2_with fail
            refine (CV.out w1).mono ?_
            rintro e w2 ⟨rfl, hb⟩
            replace X := hide (X.out.below hb)
            replace Y := hide (Y.out.below hb)
            replace K := hide (btrans K.out hb)
            clear hb x0 x1 y0 y1 yf0 yf1 CV
            obtain ⟨x0, x1⟩ := X.out.two
            obtain ⟨y0, y1, yf0, yf1⟩ := Y.out.two2
            go_wp2
            refine ret_e3 Try.results24 rfl rfl rfl rfl (by first | (with_reducible exact Y.out) | (with_reducible exact Y.out.set2 _ _) | (with_reducible exact (Y.out.set1 _).set2 _ _) | (with_reducible exact (Y.out.set2 _ _).set2 _ _) | (with_reducible exact ((Y.out.set2 _ _).set2 _ _).drew) | (with_reducible exact (Y.out.set2 _ _).drew)) ⟨by rw [E.out]; rfl, by first | (with_reducible exact K.out) | (with_reducible exact k2 K.out HG.out _ _) | (with_reducible exact k2 (bset K.out (p := ⟨_, 0, none⟩) HG.out _) HG.out _ _) | (with_reducible exact k2 (k2 K.out HG.out _ _) HG.out _ _) | (with_reducible exact below_drew (k2 (k2 K.out HG.out _ _) HG.out _ _)) | (with_reducible exact below_drew (k2 K.out HG.out _ _))⟩
          · have E := hide (show ck n false s = ((n, true), n, 15) from by unfold ck; rw [hv]; simp [h3, h4, h5]; try omega)
            have K := hide (bal (bal (brefl w) (.cells #[.int .i64 n, .bool false] 23)) (.cells #[.int .i64 0, .bool false] 23))
            have X := hide ((Box.new w 23 #[.int .i64 n, .bool false]).more (.cells #[.int .i64 0, .bool false] 23))
            have Y := hide (Box.new2 w (.cells #[.int .i64 n, .bool false] 23) 23 #[.int .i64 0, .bool false])
            have CV := hide (fun w => rvl_any n false w)
            rw [hv] at CV
            have h6 : (s == n) = false := by simp [h5]
            unfold eC at *
            clear hv
            go_enter Try.func24, Try.ntmps24
            go_upto_region 1 with fail
            obtain ⟨g, hg⟩ : ∃ g, g = w.heap.size := ⟨_, rfl⟩
            have hz : (w.alloc (.cells #[.int .i64 n, .bool false] 23)).heap.size = g + 1 := by rw [hg]; exact alloc_size' _ _
            have HG := hide (show w.heap.size ≤ g + 1 by omega)
            rw [← hg] at X Y
            try rw [hz]
            try rw [← hg]
            clear hg hz
            generalize (w.alloc (.cells #[.int .i64 n, .bool false] 23)).alloc (.cells #[.int .i64 0, .bool false] 23) = w1 at *
            obtain ⟨x0, x1⟩ := X.out.two
            obtain ⟨y0, y1, yf0, yf1⟩ := Y.out.two2
            go_wp2_with fail
            refine (CV.out w1).mono ?_
            rintro e w2 ⟨rfl, hb⟩
            replace X := hide (X.out.below hb)
            replace Y := hide (Y.out.below hb)
            replace K := hide (btrans K.out hb)
            clear hb x0 x1 y0 y1 yf0 yf1 CV
            obtain ⟨x0, x1⟩ := X.out.two
            obtain ⟨y0, y1, yf0, yf1⟩ := Y.out.two2
            go_upto_region 7 with fail
            go_region
            go_wp2
            refine ret_e3 Try.results24 rfl rfl rfl rfl (by first | (with_reducible exact Y.out) | (with_reducible exact Y.out.set2 _ _) | (with_reducible exact (Y.out.set1 _).set2 _ _) | (with_reducible exact (Y.out.set2 _ _).set2 _ _) | (with_reducible exact ((Y.out.set2 _ _).set2 _ _).drew) | (with_reducible exact (Y.out.set2 _ _).drew)) ⟨by rw [E.out]; rfl, by first | (with_reducible exact K.out) | (with_reducible exact k2 K.out HG.out _ _) | (with_reducible exact k2 (bset K.out (p := ⟨_, 0, none⟩) HG.out _) HG.out _ _) | (with_reducible exact k2 (k2 K.out HG.out _ _) HG.out _ _) | (with_reducible exact below_drew (k2 (k2 K.out HG.out _ _) HG.out _ _)) | (with_reducible exact below_drew (k2 K.out HG.out _ _))⟩
  · cases hv : vl n true
    · have E := hide (show ck n true s = ((0, false), 0, 1) from if_pos hv)
      have K := hide (bal (bal (brefl w) (.cells #[.int .i64 n, .bool true] 23)) (.cells #[.int .i64 0, .bool false] 23))
      have X := hide ((Box.new w 23 #[.int .i64 n, .bool true]).more (.cells #[.int .i64 0, .bool false] 23))
      have Y := hide (Box.new2 w (.cells #[.int .i64 n, .bool true] 23) 23 #[.int .i64 0, .bool false])
      have CV := hide (fun w => rvl_any n true w)
      rw [hv] at CV
      unfold eC at *
      clear hv
      go_enter Try.func24, Try.ntmps24
      go_upto_region 1 with fail
      obtain ⟨g, hg⟩ : ∃ g, g = w.heap.size := ⟨_, rfl⟩
      have hz : (w.alloc (.cells #[.int .i64 n, .bool true] 23)).heap.size = g + 1 := by rw [hg]; exact alloc_size' _ _
      have HG := hide (show w.heap.size ≤ g + 1 by omega)
      rw [← hg] at X Y
      try rw [hz]
      try rw [← hg]
      clear hg hz
      generalize (w.alloc (.cells #[.int .i64 n, .bool true] 23)).alloc (.cells #[.int .i64 0, .bool false] 23) = w1 at *
      obtain ⟨x0, x1⟩ := X.out.two
      obtain ⟨y0, y1, yf0, yf1⟩ := Y.out.two2
      go_wp2_with fail
      refine (CV.out w1).mono ?_
      rintro e w2 ⟨rfl, hb⟩
      replace X := hide (X.out.below hb)
      replace Y := hide (Y.out.below hb)
      replace K := hide (btrans K.out hb)
      clear hb x0 x1 y0 y1 yf0 yf1 CV
      obtain ⟨x0, x1⟩ := X.out.two
      obtain ⟨y0, y1, yf0, yf1⟩ := Y.out.two2
      go_wp2
      refine ret_e3 Try.results24 rfl rfl rfl rfl (by first | (with_reducible exact Y.out) | (with_reducible exact Y.out.set2 _ _) | (with_reducible exact (Y.out.set1 _).set2 _ _) | (with_reducible exact (Y.out.set2 _ _).set2 _ _) | (with_reducible exact ((Y.out.set2 _ _).set2 _ _).drew) | (with_reducible exact (Y.out.set2 _ _).drew)) ⟨by rw [E.out]; rfl, by first | (with_reducible exact K.out) | (with_reducible exact k2 K.out HG.out _ _) | (with_reducible exact k2 (bset K.out (p := ⟨_, 0, none⟩) HG.out _) HG.out _ _) | (with_reducible exact k2 (k2 K.out HG.out _ _) HG.out _ _) | (with_reducible exact below_drew (k2 (k2 K.out HG.out _ _) HG.out _ _)) | (with_reducible exact below_drew (k2 K.out HG.out _ _))⟩
    · obtain ⟨h0, h1, h2⟩ := vl_of hv
      by_cases h3 : s < 0
      · have E := hide (show ck n true s = ((0, false), 0, 2) from by unfold ck; rw [hv]; simp [h3]; try omega)
        have K := hide (bal (bal (brefl w) (.cells #[.int .i64 n, .bool true] 23)) (.cells #[.int .i64 0, .bool false] 23))
        have X := hide ((Box.new w 23 #[.int .i64 n, .bool true]).more (.cells #[.int .i64 0, .bool false] 23))
        have Y := hide (Box.new2 w (.cells #[.int .i64 n, .bool true] 23) 23 #[.int .i64 0, .bool false])
        have CV := hide (fun w => rvl_any n true w)
        rw [hv] at CV
        unfold eC at *
        clear hv
        go_enter Try.func24, Try.ntmps24
        go_upto_region 1 with fail
        obtain ⟨g, hg⟩ : ∃ g, g = w.heap.size := ⟨_, rfl⟩
        have hz : (w.alloc (.cells #[.int .i64 n, .bool true] 23)).heap.size = g + 1 := by rw [hg]; exact alloc_size' _ _
        have HG := hide (show w.heap.size ≤ g + 1 by omega)
        rw [← hg] at X Y
        try rw [hz]
        try rw [← hg]
        clear hg hz
        generalize (w.alloc (.cells #[.int .i64 n, .bool true] 23)).alloc (.cells #[.int .i64 0, .bool false] 23) = w1 at *
        obtain ⟨x0, x1⟩ := X.out.two
        obtain ⟨y0, y1, yf0, yf1⟩ := Y.out.two2
        go_wp2_with fail
        refine (CV.out w1).mono ?_
        rintro e w2 ⟨rfl, hb⟩
        replace X := hide (X.out.below hb)
        replace Y := hide (Y.out.below hb)
        replace K := hide (btrans K.out hb)
        clear hb x0 x1 y0 y1 yf0 yf1 CV
        obtain ⟨x0, x1⟩ := X.out.two
        obtain ⟨y0, y1, yf0, yf1⟩ := Y.out.two2
        go_wp2
        refine ret_e3 Try.results24 rfl rfl rfl rfl (by first | (with_reducible exact Y.out) | (with_reducible exact Y.out.set2 _ _) | (with_reducible exact (Y.out.set1 _).set2 _ _) | (with_reducible exact (Y.out.set2 _ _).set2 _ _) | (with_reducible exact ((Y.out.set2 _ _).set2 _ _).drew) | (with_reducible exact (Y.out.set2 _ _).drew)) ⟨by rw [E.out]; rfl, by first | (with_reducible exact K.out) | (with_reducible exact k2 K.out HG.out _ _) | (with_reducible exact k2 (bset K.out (p := ⟨_, 0, none⟩) HG.out _) HG.out _ _) | (with_reducible exact k2 (k2 K.out HG.out _ _) HG.out _ _) | (with_reducible exact below_drew (k2 (k2 K.out HG.out _ _) HG.out _ _)) | (with_reducible exact below_drew (k2 K.out HG.out _ _))⟩
      · by_cases h4 : n < s
        · have E := hide (show ck n true s = ((0, false), 0, 2) from by unfold ck; rw [hv]; simp [h4]; try omega)
          have K := hide (bal (bal (brefl w) (.cells #[.int .i64 n, .bool true] 23)) (.cells #[.int .i64 0, .bool false] 23))
          have X := hide ((Box.new w 23 #[.int .i64 n, .bool true]).more (.cells #[.int .i64 0, .bool false] 23))
          have Y := hide (Box.new2 w (.cells #[.int .i64 n, .bool true] 23) 23 #[.int .i64 0, .bool false])
          have CV := hide (fun w => rvl_any n true w)
          rw [hv] at CV
          unfold eC at *
          clear hv
          go_enter Try.func24, Try.ntmps24
          go_upto_region 1 with fail
          obtain ⟨g, hg⟩ : ∃ g, g = w.heap.size := ⟨_, rfl⟩
          have hz : (w.alloc (.cells #[.int .i64 n, .bool true] 23)).heap.size = g + 1 := by rw [hg]; exact alloc_size' _ _
          have HG := hide (show w.heap.size ≤ g + 1 by omega)
          rw [← hg] at X Y
          try rw [hz]
          try rw [← hg]
          clear hg hz
          generalize (w.alloc (.cells #[.int .i64 n, .bool true] 23)).alloc (.cells #[.int .i64 0, .bool false] 23) = w1 at *
          obtain ⟨x0, x1⟩ := X.out.two
          obtain ⟨y0, y1, yf0, yf1⟩ := Y.out.two2
          go_wp2_with fail
          refine (CV.out w1).mono ?_
          rintro e w2 ⟨rfl, hb⟩
          replace X := hide (X.out.below hb)
          replace Y := hide (Y.out.below hb)
          replace K := hide (btrans K.out hb)
          clear hb x0 x1 y0 y1 yf0 yf1 CV
          obtain ⟨x0, x1⟩ := X.out.two
          obtain ⟨y0, y1, yf0, yf1⟩ := Y.out.two2
          go_wp2
          refine ret_e3 Try.results24 rfl rfl rfl rfl (by first | (with_reducible exact Y.out) | (with_reducible exact Y.out.set2 _ _) | (with_reducible exact (Y.out.set1 _).set2 _ _) | (with_reducible exact (Y.out.set2 _ _).set2 _ _) | (with_reducible exact ((Y.out.set2 _ _).set2 _ _).drew) | (with_reducible exact (Y.out.set2 _ _).drew)) ⟨by rw [E.out]; rfl, by first | (with_reducible exact K.out) | (with_reducible exact k2 K.out HG.out _ _) | (with_reducible exact k2 (bset K.out (p := ⟨_, 0, none⟩) HG.out _) HG.out _ _) | (with_reducible exact k2 (k2 K.out HG.out _ _) HG.out _ _) | (with_reducible exact below_drew (k2 (k2 K.out HG.out _ _) HG.out _ _)) | (with_reducible exact below_drew (k2 K.out HG.out _ _))⟩
        · by_cases h5 : s = n
          · have E := hide (show ck n true s = ((n, true), s, 0) from by unfold ck; rw [hv]; simp [h3, h4, h5]; try omega)
            have K := hide (bal (bal (brefl w) (.cells #[.int .i64 n, .bool true] 23)) (.cells #[.int .i64 0, .bool false] 23))
            have X := hide ((Box.new w 23 #[.int .i64 n, .bool true]).more (.cells #[.int .i64 0, .bool false] 23))
            have Y := hide (Box.new2 w (.cells #[.int .i64 n, .bool true] 23) 23 #[.int .i64 0, .bool false])
            have CV := hide (fun w => rvl_any n true w)
            rw [hv] at CV
            have h6 : (s == n) = true := by simp [h5]
            replace h5 := hide h5
            unfold eC at *
            clear hv
            go_enter Try.func24, Try.ntmps24
            go_upto_region 1 with fail
            obtain ⟨g, hg⟩ : ∃ g, g = w.heap.size := ⟨_, rfl⟩
            have hz : (w.alloc (.cells #[.int .i64 n, .bool true] 23)).heap.size = g + 1 := by rw [hg]; exact alloc_size' _ _
            have HG := hide (show w.heap.size ≤ g + 1 by omega)
            rw [← hg] at X Y
            try rw [hz]
            try rw [← hg]
            clear hg hz
            generalize (w.alloc (.cells #[.int .i64 n, .bool true] 23)).alloc (.cells #[.int .i64 0, .bool false] 23) = w1 at *
            obtain ⟨x0, x1⟩ := X.out.two
            obtain ⟨y0, y1, yf0, yf1⟩ := Y.out.two2
            go_wp2_with fail
            refine (CV.out w1).mono ?_
            rintro e w2 ⟨rfl, hb⟩
            replace X := hide (X.out.below hb)
            replace Y := hide (Y.out.below hb)
            replace K := hide (btrans K.out hb)
            clear hb x0 x1 y0 y1 yf0 yf1 CV
            obtain ⟨x0, x1⟩ := X.out.two
            obtain ⟨y0, y1, yf0, yf1⟩ := Y.out.two2
            go_wp2
            refine ret_e3 Try.results24 rfl rfl rfl rfl (by first | (with_reducible exact Y.out) | (with_reducible exact Y.out.set2 _ _) | (with_reducible exact (Y.out.set1 _).set2 _ _) | (with_reducible exact (Y.out.set2 _ _).set2 _ _) | (with_reducible exact ((Y.out.set2 _ _).set2 _ _).drew) | (with_reducible exact (Y.out.set2 _ _).drew)) ⟨by rw [E.out]; rfl, by first | (with_reducible exact K.out) | (with_reducible exact k2 K.out HG.out _ _) | (with_reducible exact k2 (bset K.out (p := ⟨_, 0, none⟩) HG.out _) HG.out _ _) | (with_reducible exact k2 (k2 K.out HG.out _ _) HG.out _ _) | (with_reducible exact below_drew (k2 (k2 K.out HG.out _ _) HG.out _ _)) | (with_reducible exact below_drew (k2 K.out HG.out _ _))⟩
          · have E := hide (show ck n true s = ((n, true), n, 15) from by unfold ck; rw [hv]; simp [h3, h4, h5]; try omega)
            have K := hide (bal (bal (brefl w) (.cells #[.int .i64 n, .bool true] 23)) (.cells #[.int .i64 0, .bool false] 23))
            have X := hide ((Box.new w 23 #[.int .i64 n, .bool true]).more (.cells #[.int .i64 0, .bool false] 23))
            have Y := hide (Box.new2 w (.cells #[.int .i64 n, .bool true] 23) 23 #[.int .i64 0, .bool false])
            have CV := hide (fun w => rvl_any n true w)
            rw [hv] at CV
            have h6 : (s == n) = false := by simp [h5]
            unfold eC at *
            clear hv
            go_enter Try.func24, Try.ntmps24
            go_upto_region 1 with fail
            obtain ⟨g, hg⟩ : ∃ g, g = w.heap.size := ⟨_, rfl⟩
            have hz : (w.alloc (.cells #[.int .i64 n, .bool true] 23)).heap.size = g + 1 := by rw [hg]; exact alloc_size' _ _
            have HG := hide (show w.heap.size ≤ g + 1 by omega)
            rw [← hg] at X Y
            try rw [hz]
            try rw [← hg]
            clear hg hz
            generalize (w.alloc (.cells #[.int .i64 n, .bool true] 23)).alloc (.cells #[.int .i64 0, .bool false] 23) = w1 at *
            obtain ⟨x0, x1⟩ := X.out.two
            obtain ⟨y0, y1, yf0, yf1⟩ := Y.out.two2
            go_wp2_with fail
            refine (CV.out w1).mono ?_
            rintro e w2 ⟨rfl, hb⟩
            replace X := hide (X.out.below hb)
            replace Y := hide (Y.out.below hb)
            replace K := hide (btrans K.out hb)
            clear hb x0 x1 y0 y1 yf0 yf1 CV
            obtain ⟨x0, x1⟩ := X.out.two
            obtain ⟨y0, y1, yf0, yf1⟩ := Y.out.two2
            go_upto_region 7 with fail
            go_region
            go_wp2
            refine ret_e3 Try.results24 rfl rfl rfl rfl (by first | (with_reducible exact Y.out) | (with_reducible exact Y.out.set2 _ _) | (with_reducible exact (Y.out.set1 _).set2 _ _) | (with_reducible exact (Y.out.set2 _ _).set2 _ _) | (with_reducible exact ((Y.out.set2 _ _).set2 _ _).drew) | (with_reducible exact (Y.out.set2 _ _).drew)) ⟨by rw [E.out]; rfl, by first | (with_reducible exact K.out) | (with_reducible exact k2 K.out HG.out _ _) | (with_reducible exact k2 (bset K.out (p := ⟨_, 0, none⟩) HG.out _) HG.out _ _) | (with_reducible exact k2 (k2 K.out HG.out _ _) HG.out _ _) | (with_reducible exact below_drew (k2 (k2 K.out HG.out _ _) HG.out _ _)) | (with_reducible exact below_drew (k2 K.out HG.out _ _))⟩
end Go.Proofs.Ytcndbehgklkiiaa.Es
