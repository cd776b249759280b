import Derived.Test.YtkcopcmoaloecaaT3
namespace Go.Proofs.Ytkcopcmoaloecaa.Fp
open Go Go.RowKit
set_option linter.unusedVariables false
set_option linter.unusedSimpArgs false
set_option maxHeartbeats 2000000 in
theorem rcw_any : FB 19 cwB := by
  intro wr rg pr sh fi be bu en wb tr ow on ca ba di fu mi w
  have K := hide (bal (brefl w) (.cells #[.bool wr, .bool rg, .int .i64 pr, .bool sh, .bool fi, .bool be, .bool bu, .int .i64 en, .bool wb, .bool tr, .bool ow, .bool on, .bool ca, .bool ba, .bool di, .bool fu, .int .i64 mi] 23))
  go_enter Try.func19, Try.ntmps19
  go_wp2
  go_ret
  exact ⟨rfl, K.out⟩
set_option maxHeartbeats 4000000 in
theorem roc_any : FB 25 hcB := by
  intro wr rg pr sh fi be bu en wb tr ow on ca ba di fu mi w
  have K := hide (bal (brefl w) (.cells #[.bool wr, .bool rg, .int .i64 pr, .bool sh, .bool fi, .bool be, .bool bu, .int .i64 en, .bool wb, .bool tr, .bool ow, .bool on, .bool ca, .bool ba, .bool di, .bool fu, .int .i64 mi] 23))
  have X := hide (CB.new w wr rg pr sh fi be bu en wb tr ow on ca ba di fu mi)
  have e0 : hcB ⟨wr, rg, pr, sh, fi, be, bu, en, wb, tr, ow, on, ca, ba, di, fu, mi⟩ = ((en == 2) || (((en == 1) || (en == 3)) && ow)) := by unfold hcB swB pgB; dsimp only; cases ow <;> simp
  obtain ⟨b, hb⟩ : ∃ b, b = ((en == 2) || (((en == 1) || (en == 3)) && ow)) := ⟨_, rfl⟩
  rw [e0, ← hb]
  have Hb := hide hb
  clear e0 hb
  go_enter Try.func25, Try.ntmps25
  go_upto_region 1 with fail
  obtain ⟨W0, hW0⟩ : ∃ W0, W0 = w.alloc (.cells #[.bool wr, .bool rg, .int .i64 pr, .bool sh, .bool fi, .bool be, .bool bu, .int .i64 en, .bool wb, .bool tr, .bool ow, .bool on, .bool ca, .bool ba, .bool di, .bool fu, .int .i64 mi] 23) := ⟨_, rfl⟩
  rw [← hW0] at X K
  obtain ⟨g2, hg2⟩ : ∃ g2, g2 = w.heap.size := ⟨_, rfl⟩
  rw [← hg2] at X
  rw [← hW0, ← hg2]
  clear hW0 hg2
  obtain ⟨x0, x1, x2, x3, x4, x5, x6, x7, x8, x9, x10, x11, x12, x13, x14, x15, x16⟩ := X.out.cells
  by_cases hp1 : en = 2
  · go_wp2
    go_ret
    exact ⟨ret_bool (by rw [Hb.out]; first | rfl | (simp [*]; done)), K.out⟩
  · by_cases hp2 : en = 1
    · cases ow
      · go_wp2
        go_ret
        exact ⟨ret_bool (by rw [Hb.out]; first | rfl | (simp [*]; done)), K.out⟩
      · go_wp2
        go_ret
        exact ⟨ret_bool (by rw [Hb.out]; first | rfl | (simp [*]; done)), K.out⟩
    · by_cases hp3 : en = 3
      · cases ow
        · go_wp2
          go_ret
          exact ⟨ret_bool (by rw [Hb.out]; first | rfl | (simp [*]; done)), K.out⟩
        · go_wp2
          go_ret
          exact ⟨ret_bool (by rw [Hb.out]; first | rfl | (simp [*]; done)), K.out⟩
      · go_wp2
        go_ret
        exact ⟨ret_bool (by rw [Hb.out]; first | rfl | (simp [*]; done)), K.out⟩
end Go.Proofs.Ytkcopcmoaloecaa.Fp
