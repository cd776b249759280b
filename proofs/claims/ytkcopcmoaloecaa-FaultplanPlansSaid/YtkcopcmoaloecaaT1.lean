import Derived.Test.YtkcopcmoaloecaaBx
namespace Go.Proofs.Ytkcopcmoaloecaa.Fp
open Go Go.RowKit
set_option linter.unusedVariables false
set_option linter.unusedSimpArgs false
set_option maxHeartbeats 2000000 in
theorem cw_any : FB 32 cwB := by
  intro wr rg pr sh fi be bu en wb tr ow on ca ba di fu mi w
  have K := hide (bal (brefl w) (.cells #[.bool wr, .bool rg, .int .i64 pr, .bool sh, .bool fi, .bool be, .bool bu, .int .i64 en, .bool wb, .bool tr, .bool ow, .bool on, .bool ca, .bool ba, .bool di, .bool fu, .int .i64 mi] 23))
  go_enter Try.func32, Try.ntmps32
  go_wp2
  go_ret
  exact ⟨rfl, K.out⟩
set_option maxHeartbeats 2000000 in
theorem pg_any : FB 31 pgB := by
  intro wr rg pr sh fi be bu en wb tr ow on ca ba di fu mi w
  have K := hide (bal (brefl w) (.cells #[.bool wr, .bool rg, .int .i64 pr, .bool sh, .bool fi, .bool be, .bool bu, .int .i64 en, .bool wb, .bool tr, .bool ow, .bool on, .bool ca, .bool ba, .bool di, .bool fu, .int .i64 mi] 23))
  go_enter Try.func31, Try.ntmps31
  go_wp2
  go_ret
  exact ⟨rfl, K.out⟩
set_option maxHeartbeats 2000000 in
theorem sw_any : FB 46 swB := by
  intro wr rg pr sh fi be bu en wb tr ow on ca ba di fu mi w
  have K := hide (bal (brefl w) (.cells #[.bool wr, .bool rg, .int .i64 pr, .bool sh, .bool fi, .bool be, .bool bu, .int .i64 en, .bool wb, .bool tr, .bool ow, .bool on, .bool ca, .bool ba, .bool di, .bool fu, .int .i64 mi] 23))
  go_enter Try.func46, Try.ntmps46
  go_wp2
  go_ret
  exact ⟨rfl, K.out⟩
set_option maxHeartbeats 2000000 in
theorem r0_any : FB 33 (rl 0) := by
  intro wr rg pr sh fi be bu en wb tr ow on ca ba di fu mi w
  have K := hide (bal (brefl w) (.cells #[.bool wr, .bool rg, .int .i64 pr, .bool sh, .bool fi, .bool be, .bool bu, .int .i64 en, .bool wb, .bool tr, .bool ow, .bool on, .bool ca, .bool ba, .bool di, .bool fu, .int .i64 mi] 23))
  go_enter Try.func33, Try.ntmps33
  go_wp2
  go_ret
  exact ⟨rfl, K.out⟩
set_option maxHeartbeats 2000000 in
theorem r5_any : FB 41 (rl 5) := by
  intro wr rg pr sh fi be bu en wb tr ow on ca ba di fu mi w
  have K := hide (bal (brefl w) (.cells #[.bool wr, .bool rg, .int .i64 pr, .bool sh, .bool fi, .bool be, .bool bu, .int .i64 en, .bool wb, .bool tr, .bool ow, .bool on, .bool ca, .bool ba, .bool di, .bool fu, .int .i64 mi] 23))
  go_enter Try.func41, Try.ntmps41
  go_wp2
  go_ret
  exact ⟨rfl, K.out⟩
set_option maxHeartbeats 2000000 in
theorem r12_any : FB 47 (rl 12) := by
  intro wr rg pr sh fi be bu en wb tr ow on ca ba di fu mi w
  have K := hide (bal (brefl w) (.cells #[.bool wr, .bool rg, .int .i64 pr, .bool sh, .bool fi, .bool be, .bool bu, .int .i64 en, .bool wb, .bool tr, .bool ow, .bool on, .bool ca, .bool ba, .bool di, .bool fu, .int .i64 mi] 23))
  go_enter Try.func47, Try.ntmps47
  go_wp2
  go_ret
  exact ⟨rfl, K.out⟩
set_option maxHeartbeats 2000000 in
theorem r13_any : FB 48 (rl 13) := by
  intro wr rg pr sh fi be bu en wb tr ow on ca ba di fu mi w
  have K := hide (bal (brefl w) (.cells #[.bool wr, .bool rg, .int .i64 pr, .bool sh, .bool fi, .bool be, .bool bu, .int .i64 en, .bool wb, .bool tr, .bool ow, .bool on, .bool ca, .bool ba, .bool di, .bool fu, .int .i64 mi] 23))
  go_enter Try.func48, Try.ntmps48
  go_wp2
  go_ret
  exact ⟨rfl, K.out⟩
set_option maxHeartbeats 2000000 in
theorem r14_any : FB 49 (rl 14) := by
  intro wr rg pr sh fi be bu en wb tr ow on ca ba di fu mi w
  have K := hide (bal (brefl w) (.cells #[.bool wr, .bool rg, .int .i64 pr, .bool sh, .bool fi, .bool be, .bool bu, .int .i64 en, .bool wb, .bool tr, .bool ow, .bool on, .bool ca, .bool ba, .bool di, .bool fu, .int .i64 mi] 23))
  go_enter Try.func49, Try.ntmps49
  go_wp2
  go_ret
  exact ⟨rfl, K.out⟩
set_option maxHeartbeats 2000000 in
theorem r15_any : FB 50 (rl 15) := by
  intro wr rg pr sh fi be bu en wb tr ow on ca ba di fu mi w
  have K := hide (bal (brefl w) (.cells #[.bool wr, .bool rg, .int .i64 pr, .bool sh, .bool fi, .bool be, .bool bu, .int .i64 en, .bool wb, .bool tr, .bool ow, .bool on, .bool ca, .bool ba, .bool di, .bool fu, .int .i64 mi] 23))
  go_enter Try.func50, Try.ntmps50
  go_wp2
  go_ret
  exact ⟨rfl, K.out⟩
end Go.Proofs.Ytkcopcmoaloecaa.Fp
