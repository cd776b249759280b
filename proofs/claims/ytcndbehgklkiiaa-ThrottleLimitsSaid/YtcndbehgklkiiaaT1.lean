import Derived.Test.YtcndbehgklkiiaaT0
namespace Go.Proofs.Ytcndbehgklkiiaa.Ac
open Go Go.RowKit
set_option linter.unusedVariables false
set_option linter.unusedSimpArgs false
/-- how many frames count -/
def cN (L : List F4) : Nat := L.countP cnt
theorem cN_snoc (L : List F4) (f : F4) : cN (L ++ [f]) = cN L + (if cnt f then 1 else 0) := by
  unfold cN
  rw [List.countP_append]
  simp [List.countP_cons]
theorem fA_snoc {L : List F4} {k : Nat} (h : k < L.length) : L.take (k + 1) = L.take k ++ [fA L k] := by
  rw [fA_get h, List.take_succ_eq_append_getElem h]
theorem cN_le (L : List F4) : cN L ≤ L.length := List.countP_le_length
set_option maxRecDepth 100000 in
set_option maxHeartbeats 4000000 in
theorem count_any (A : Option Addr) (c : Nat) (L : List F4) (w : World) (h : Fs w A L) (hn : L.length ≤ 1000) : Calls Try.prog 34 #[.slice A L.length c] w fun e w' => e = .returned (.int .i64 (cN L : Nat)) ∧ Below w.heap.size w w' := by
  have HR := hide h
  have K := hide (brefl w)
  clear h
  go_enter Try.func34, Try.ntmps34
  go_wp2
  go_loopw [3, 8] (fun u i wr => ∃ k : Nat, k ≤ L.length ∧ u = .int .i64 (cN (L.take k) : Nat) ∧ i = .int .i64 k ∧ Hid (Below w.heap.size w wr)) (fun u i _ => L.length - (intOf i).toNat)
  case atStart => exact ⟨0, Nat.zero_le _, rfl, rfl, K⟩
  case round =>
    clear K
    obtain ⟨k, hk, rfl, rfl, K⟩ := hrel
    by_cases hlt : k < L.length
    · have hl2 : (k : Int) < (L.length : Int) := by omega
      have hk0 : (0 : Int) ≤ (k : Int) := by omega
      obtain ⟨b, o, rfl, hb, ya⟩ := HR.out.all K.out hlt
      have US := hide (cN_snoc (L.take k) (fA L k))
      rw [← fA_snoc hlt] at US
      have UL := cN_le (L.take k)
      rw [List.length_take] at UL
      have C := hide (fun w => cnt_any (fA L k) w)
      rcases hft : fA L k with ⟨fk, fp, fd, fs⟩
      rw [hft] at ya US C
      obtain ⟨u, hu⟩ : ∃ u, u = cN (L.take k) := ⟨_, rfl⟩
      rw [← hu] at US UL ⊢
      clear hu
      have u0 : u ≤ 1000 := by omega
      clear UL hft
      have YA := hide ya
      clear ya
      unfold frC at YA
      unfold frV at C
      dsimp only at YA C
      generalize cnt ⟨fk, fp, fd, fs⟩ = cc at *
      replace K := hide (bal K.out (.cells #[.int .i64 fk, .int .i64 fp, .int .i64 0, .int .i64 0, .int .i64 0, .int .i64 0, .int .i64 0, .int .i64 0, .int .i64 0, .int .i64 fs, .bool fd, .bool false, .bool false, .int .i64 0, .slice none 0 0, .slice none 0 0] 50))
      have Z := hide (Box.new wr 50 #[.int .i64 fk, .int .i64 fp, .int .i64 0, .int .i64 0, .int .i64 0, .int .i64 0, .int .i64 0, .int .i64 0, .int .i64 0, .int .i64 fs, .bool fd, .bool false, .bool false, .int .i64 0, .slice none 0 0, .slice none 0 0])
      go_upto_region 5 with (refine wpList_load_at (by kernel_rfl) 50 (.tmp 10) rfl ⟨b, o + k * 16, none⟩ rfl [.int .i64 fk, .int .i64 fp, .int .i64 0, .int .i64 0, .int .i64 0, .int .i64 0, .int .i64 0, .int .i64 0, .int .i64 0, .int .i64 fs, .bool fd, .bool false, .bool false, .int .i64 0, .slice none 0 0, .slice none 0 0] _ YA.out Try.underlying50 rfl info_50 ?_)
      obtain ⟨g7, hg7⟩ : ∃ g, g = wr.heap.size := ⟨_, rfl⟩
      rw [← hg7] at Z ⊢
      clear hg7 YA
      generalize wr.alloc (.cells #[.int .i64 fk, .int .i64 fp, .int .i64 0, .int .i64 0, .int .i64 0, .int .i64 0, .int .i64 0, .int .i64 0, .int .i64 0, .int .i64 fs, .bool fd, .bool false, .bool false, .int .i64 0, .slice none 0 0, .slice none 0 0] 50) = w5 at *
      have ZA := hide (Z.out.at (L := [.int .i64 fk, .int .i64 fp, .int .i64 0, .int .i64 0, .int .i64 0, .int .i64 0, .int .i64 0, .int .i64 0, .int .i64 0, .int .i64 fs, .bool fd, .bool false, .bool false, .int .i64 0, .slice none 0 0, .slice none 0 0]))
      go_wp2_with first | (refine wpList_load_at (by kernel_rfl) 50 (.tmp 5) rfl ⟨g7, 0, none⟩ rfl [.int .i64 fk, .int .i64 fp, .int .i64 0, .int .i64 0, .int .i64 0, .int .i64 0, .int .i64 0, .int .i64 0, .int .i64 0, .int .i64 fs, .bool fd, .bool false, .bool false, .int .i64 0, .slice none 0 0, .slice none 0 0] _ ZA.out Try.underlying50 rfl info_50 ?_) | fail
      refine (C.out _).mono ?_
      rintro e w6 ⟨rfl, hb⟩
      replace K := hide (btrans K.out hb)
      clear hb Z C ZA
      cases cc
      · have US2 := hide (US.out.trans (by rw [if_neg (by decide)]))
        clear US
        go_wp2
        go_roundw
        case rel => first | exact ⟨k + 1, by omega, by rw [US2.out]; rfl, by go_num, K⟩ | ((repeat apply Exists.intro); exact ⟨⟨k + 1, by omega, by rw [US2.out]; rfl, by go_num, K⟩, rfl⟩)
        case measure => simp [intOf]; omega
      · have US2 := hide (US.out.trans (by rw [if_pos rfl]))
        clear US
        go_wp2
        go_roundw
        case rel => first | exact ⟨k + 1, by omega, by rw [US2.out]; go_num, by go_num, K⟩ | ((repeat apply Exists.intro); exact ⟨⟨k + 1, by omega, by rw [US2.out]; go_num, by go_num, K⟩, rfl⟩)
        case measure => simp [intOf]; omega
    · obtain rfl : k = L.length := by omega
      rw [List.take_length]
      go_wp2
      go_ret
      exact ⟨rfl, K.out⟩
theorem allowed_any (A : Option Addr) (c : Nat) (L : List F4) (m : Int) (w : World) (h : Fs w A L) (hn : L.length ≤ 1000) : Calls Try.prog 33 #[.slice A L.length c, .int .i64 m] w fun e w' => e = .returned (.bool (decide ((cN L : Int) < m))) ∧ Below w.heap.size w w' := by
  have C := hide (count_any A c L w h hn)
  clear h
  go_enter Try.func33, Try.ntmps33
  go_wp2_with fail
  refine C.out.mono ?_
  rintro e w1 ⟨rfl, hb⟩
  have K := hide hb
  clear hb C
  go_wp2
  go_ret
  exact ⟨rfl, K.out⟩
end Go.Proofs.Ytcndbehgklkiiaa.Ac
