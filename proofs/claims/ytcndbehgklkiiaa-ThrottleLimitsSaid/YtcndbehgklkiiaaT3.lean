import Derived.Test.YtcndbehgklkiiaaT2
namespace Go.Proofs.Ytcndbehgklkiiaa.Ac
open Go Go.RowKit
set_option linter.unusedVariables false
set_option linter.unusedSimpArgs false
def encSk (o : Int × Int × Bool × Int) : List Value := [.int .u8 o.1, .int .u8 o.2.1, .bool o.2.2.1, .int .i64 o.2.2.2]
def okSk (o : Int × Int × Bool × Int) : Prop := (0 ≤ o.1 ∧ o.1 < 256) ∧ (0 ≤ o.2.1 ∧ o.2.1 < 256) ∧ i64r o.2.2.2
def RdSk (w : World) (A : Option Addr) (L : List (Int × Int × Bool × Int)) : Prop := L ≠ [] → ∃ b off, A = some ⟨b, off, none⟩ ∧ b < w.heap.size ∧ ∀ k, k < L.length → ∀ j, j < 4 → w.cell? ⟨b, off + (k * 4 + j), none⟩ = (encSk (L.getD k (0, 0, false, 0)))[j]?
def sk0 : Int × Int × Bool × Int := (0, 0, false, 0)
def skA (L : List (Int × Int × Bool × Int)) (k : Nat) : Int × Int × Bool × Int := L.getD k (0, 0, false, 0)
def skF (o : Int × Int × Bool × Int) : F4 := ⟨o.1, o.2.1, o.2.2.1, o.2.2.2⟩
theorem RdSk.cells {w w' : World} {A : Option Addr} {L : List (Int × Int × Bool × Int)} (h : RdSk w A L) (hb : Below w.heap.size w w') {k : Nat} (hk : k < L.length) : ∃ b off, A = some ⟨b, off, none⟩ ∧ b < w.heap.size ∧
    w'.cell? ⟨b, off + k * 4, none⟩ = some (.int .u8 (skA L k).1) ∧ w'.cell? ⟨b, off + k * 4 + 1, none⟩ = some (.int .u8 (skA L k).2.1) ∧ w'.cell? ⟨b, off + k * 4 + 2, none⟩ = some (.bool (skA L k).2.2.1) ∧ w'.cell? ⟨b, off + k * 4 + 3, none⟩ = some (.int .i64 (skA L k).2.2.2) := by
  obtain ⟨b, off, e, hl, hc⟩ := h (by rintro rfl; simp at hk)
  have c := fun j hj => (hb.cell (p := ⟨b, off + (k * 4 + j), none⟩) hl).trans (hc k hk j hj)
  exact ⟨b, off, e, hl, c 0 (by omega), c 1 (by omega), c 2 (by omega), c 3 (by omega)⟩
theorem RdSk.below {w w' : World} {A : Option Addr} {L : List (Int × Int × Bool × Int)} (h : RdSk w A L) (hb : Below w.heap.size w w') : RdSk w' A L := fun hn => by
  obtain ⟨b, off, e, hlt, hc⟩ := h hn
  exact ⟨b, off, e, Nat.lt_of_lt_of_le hlt hb.size, fun k hk j hj => (hb.cell (p := ⟨b, _, none⟩) hlt).trans (hc k hk j hj)⟩
theorem skA_get {L : List (Int × Int × Bool × Int)} {k : Nat} (h : k < L.length) : skA L k = L[k] := by
  unfold skA
  rw [List.getD_eq_getElem?_getD, List.getElem?_eq_getElem h]; rfl
theorem sk_snoc {L : List (Int × Int × Bool × Int)} {k : Nat} (h : k < L.length) : (L.take (k + 1)).map skF = (L.take k).map skF ++ [skF (skA L k)] := by
  rw [skA_get h, List.take_succ_eq_append_getElem h, List.map_append]; rfl
/-- what Frames answers -/
def FrR (w : World) (L : List F4) (e : Ending) (w' : World) : Prop := ∃ A c, e = .returned (.slice A L.length c) ∧ L.length ≤ c ∧ OwF w.heap.size w' (.slice A L.length c) L ∧ Below w.heap.size w w'
set_option maxRecDepth 100000 in
set_option maxHeartbeats 4000000 in
theorem frames_any (A : Option Addr) (c : Nat) (L : List (Int × Int × Bool × Int)) (w : World) (h : RdSk w A L) (hn : L.length ≤ 1000) (hok : ∀ k, k < L.length → okSk (skA L k)) : Calls Try.prog 31 #[.slice A L.length c] w fun e w' => FrR w (L.map skF) e w' := by
  have HR := hide h
  have HO := hide hok
  have K := hide (brefl w)
  have O0 := hide (owf_nil w.heap.size w)
  obtain ⟨i0, hi0, hz0, hz1, hz2⟩ := info_parts info50
  obtain ⟨B, hB⟩ : ∃ B, B = w.heap.size := ⟨_, rfl⟩
  rw [← hB] at O0
  have HB := hide hB
  have SB := hide (show B ≤ w.heap.size by omega)
  clear h hok
  unfold FrR
  rw [← hB]
  have K : Hid (Below B w w) := hide (by rw [hB]; exact brefl w)
  go_enter Try.func31, Try.ntmps31
  go_wp2
  go_loopw [3, 8] (fun u i wr => ∃ (k : Nat) (P : List F4) (A1 : Option Addr) (cap1 : Nat), k ≤ L.length ∧ u = .slice A1 k cap1 ∧ i = .int .i64 k ∧ Hid (P = (L.take k).map skF) ∧ Hid (P.length = k) ∧ Hid (k ≤ cap1) ∧ Hid (wr.ownsRow B 50 16 (.slice A1 k cap1) k (frs P)) ∧ Hid (Below B w wr)) (fun u i _ => L.length - (intOf i).toNat)
  case atStart => exact ⟨0, [], none, 0, Nat.zero_le _, rfl, rfl, hide (by simp), hide rfl, hide (Nat.le_refl _), O0, K⟩
  case round =>
    clear K O0
    obtain ⟨k, P, A1, cap1, hk, rfl, rfl, PP, PL, PC, O, K⟩ := hrel
    by_cases hlt : k < L.length
    · have hl2 : (k : Int) < (L.length : Int) := by omega
      have hk0 : (0 : Int) ≤ (k : Int) := by omega
      have hkb : k ≤ 1000 := by omega
      obtain ⟨b, o, rfl, hb, y0, y1, y2, y3⟩ := HR.out.cells (show Below w.heap.size w wr by rw [← HB.out]; exact K.out) hlt
      have PN := hide (sk_snoc hlt)
      rw [← PP.out] at PN
      have OK := HO.out k hlt
      unfold okSk at OK
      obtain ⟨⟨q0, q1⟩, ⟨q2, q3⟩, q4⟩ := OK
      rcases hx : skA L k with ⟨x0, x1, x2, x3⟩
      rw [hx] at y0 y1 y2 y3 PN q0 q1 q2 q3
      dsimp only at y0 y1 y2 y3 q0 q1 q2 q3
      clear hx PP q4
      have hw0 : IntKind.i64.wrap x0 = x0 := by rw [IntKind.wrap_i64]; omega
      have hw1 : IntKind.i64.wrap x1 = x1 := by rw [IntKind.wrap_i64]; omega
      have M1 := bal (brefl wr) (.cells #[.int .u8 x0, .int .u8 x1, .bool x2, .int .i64 x3] 70)
      have SA1 : B ≤ wr.heap.size := Nat.le_trans SB.out K.out.size
      have Z := hide (Box.new wr 70 #[.int .u8 x0, .int .u8 x1, .bool x2, .int .i64 x3])
      have O1 := hide (row_below O.out M1)
      have K1 := hide (K.out.trans (M1.mono SA1))
      have SA2 := hide (show B ≤ (wr.alloc (.cells #[.int .u8 x0, .int .u8 x1, .bool x2, .int .i64 x3] 70)).heap.size by rw [alloc_size']; omega)
      clear M1 K O SA1
      go_upto_region 5 with fail
      obtain ⟨g7, hg7⟩ : ∃ g, g = wr.heap.size := ⟨_, rfl⟩
      rw [← hg7] at Z ⊢
      clear hg7 y0 y1 y2 y3
      generalize wr.alloc (.cells #[.int .u8 x0, .int .u8 x1, .bool x2, .int .i64 x3] 70) = w5 at *
      have z0 : w5.cell? ⟨g7, 0, none⟩ = some (.int .u8 x0) := Z.out.cell 0
      have z1 : w5.cell? ⟨g7, 1, none⟩ = some (.int .u8 x1) := Z.out.cell 1
      have z2 : w5.cell? ⟨g7, 2, none⟩ = some (.bool x2) := Z.out.cell 2
      have z3 : w5.cell? ⟨g7, 3, none⟩ = some (.int .i64 x3) := Z.out.cell 3
      have M := bal (brefl w5) (.cells #[.int .i64 x0, .int .i64 x1, .int .i64 0, .int .i64 0, .int .i64 0, .int .i64 0, .int .i64 0, .int .i64 0, .int .i64 0, .int .i64 x3, .bool x2, .bool false, .bool false, .int .i64 0, .slice none 0 0, .slice none 0 0] 50)
      have OA := hide (row_below O1.out M)
      have NB := hide ((Box.new w5 50 #[.int .i64 x0, .int .i64 x1, .int .i64 0, .int .i64 0, .int .i64 0, .int .i64 0, .int .i64 0, .int .i64 0, .int .i64 0, .int .i64 x3, .bool x2, .bool false, .bool false, .int .i64 0, .slice none 0 0, .slice none 0 0]).at (L := [.int .i64 x0, .int .i64 x1, .int .i64 0, .int .i64 0, .int .i64 0, .int .i64 0, .int .i64 0, .int .i64 0, .int .i64 0, .int .i64 x3, .bool x2, .bool false, .bool false, .int .i64 0, .slice none 0 0, .slice none 0 0]))
      have SA := hide (show B ≤ (w5.alloc (.cells #[.int .i64 x0, .int .i64 x1, .int .i64 0, .int .i64 0, .int .i64 0, .int .i64 0, .int .i64 0, .int .i64 0, .int .i64 0, .int .i64 x3, .bool x2, .bool false, .bool false, .int .i64 0, .slice none 0 0, .slice none 0 0] 50)).heap.size by rw [alloc_size']; have := SA2.out; omega)
      have KA := hide (K1.out.trans (M.mono SA2.out))
      have ON := hide (frC_one ⟨x0, x1, x2, x3⟩)
      clear M O1 K1
      go_upto_region 6 with (at_builtin; refine wpList_append_own_at _ rfl (.tmp 12) (.tmp 24) 44 rfl B 50 i0 _ 16 144 Try.underlying44 hi0 hz0 hz1 hz2 rfl (by omega) (.slice A1 k cap1) k (frs P) rfl OA.out ⟨w5.heap.size, 0, none⟩ 1 1 [.int .i64 x0, .int .i64 x1, .int .i64 0, .int .i64 0, .int .i64 0, .int .i64 0, .int .i64 0, .int .i64 0, .int .i64 0, .int .i64 x3, .bool x2, .bool false, .bool false, .int .i64 0, .slice none 0 0, .slice none 0 0] rfl rfl NB.out ON.out (by simp only [maxLen]; omega) (by omega) SA.out ?_; intro v4 w4 hown4 hg4 _ hat4; obtain ⟨A4, cp4, ev4, hc4⟩ := row_form hown4; subst ev4)
      have O := hide (show w4.ownsRow B 50 16 (.slice A4 (k + 1) cp4) (k + 1) (frs (P ++ [⟨x0, x1, x2, x3⟩])) by rw [frs_append]; exact hown4)
      have B4 := below_grown (B := 0) OA.out hg4 SA.out
      have K := hide (KA.out.trans B4)
      have PL2 := hide (show (P ++ [(⟨x0, x1, x2, x3⟩ : F4)]).length = k + 1 by rw [List.length_append, PL.out]; rfl)
      have PN2 := hide (show P ++ [(⟨x0, x1, x2, x3⟩ : F4)] = (L.take (k + 1)).map skF from PN.out.symm)
      have PC2 := hide hc4
      clear B4 hown4 hg4 hat4 OA NB SA KA hc4 PC PN PL SA2 ON Z z0 z1 z2 z3
      generalize P ++ [(⟨x0, x1, x2, x3⟩ : F4)] = P2 at *
      go_wp2
      go_roundw
      case rel => first | exact ⟨k + 1, P2, A4, cp4, by omega, rfl, by go_num, PN2, PL2, PC2, O, K⟩ | ((repeat apply Exists.intro); exact ⟨⟨k + 1, P2, A4, cp4, by omega, rfl, by go_num, PN2, PL2, PC2, O, K⟩, rfl⟩)
      case measure => simp [intOf]; omega
    · obtain rfl : k = L.length := by omega
      have EP := hide (PP.out.trans (by rw [List.take_length]))
      go_wp2
      go_ret
      have e1 : (L.map skF).length = L.length := List.length_map ..
      refine ⟨A1, cap1, by rw [e1]; rfl, by rw [e1]; exact PC.out, ?_, K.out⟩
      unfold OwF
      rw [e1, ← EP.out]
      exact O.out
end Go.Proofs.Ytcndbehgklkiiaa.Ac
