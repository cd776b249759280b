import Derived.Test.YtiopfeleaifpbabZ1
namespace Go.Proofs.Ytiopfeleaifpbab.Bd
open Go Go.RowKit
set_option linter.unusedVariables false
set_option linter.unusedSimpArgs false
-- A LIST OF ZONES
structure Zo where
  p : Pm
  v : Nat → Value
  L : Fl
def z0 : Zo := ⟨p0, nv, nf⟩
def zAt (Z : List Zo) (k : Nat) : Zo := Z.getD k z0
/-- a slice that reads as zones -/
def Zs (w : World) (A : Option Addr) (Z : List Zo) : Prop := Z ≠ [] → ∃ b off, A = some ⟨b, off, none⟩ ∧ b < w.heap.size ∧ ∀ k, k < Z.length → ∀ j, j < 10 → w.cell? ⟨b, off + k * 10 + j, none⟩ = (znC (zAt Z k).p (zAt Z k).v)[j]?
def ZIs (w : World) (Z : List Zo) : Prop := ∀ k, k < Z.length → ZIn w (zAt Z k).p (zAt Z k).v (zAt Z k).L
theorem Zs.cells {w w' : World} {A : Option Addr} {Z : List Zo} (h : Zs w A Z) (hb : Below w.heap.size w w') {k : Nat} (hk : k < Z.length) : ∃ b off, A = some ⟨b, off, none⟩ ∧ b < w.heap.size ∧ ∀ j, j < 10 → w'.cell? ⟨b, off + k * 10 + j, none⟩ = (znC (zAt Z k).p (zAt Z k).v)[j]? := by
  obtain ⟨b, off, e, hl, hc⟩ := h (by rintro rfl; simp at hk)
  exact ⟨b, off, e, hl, fun j hj => (hb.cell (p := ⟨b, _, none⟩) hl).trans (hc k hk j hj)⟩
theorem ZIn.forms {w : World} {p : Pm} {v : Nat → Value} {L : Fl} (h : ZIn w p v L) : ∃ A0 c0 A1 c1 A2 c2 A3 c3 A4 c4, v 0 = .slice A0 (L 0).length c0 ∧ v 1 = .slice A1 (L 1).length c1 ∧ v 2 = .slice A2 (L 2).length c2 ∧ v 3 = .slice A3 (L 3).length c3 ∧ v 4 = .slice A4 (L 4).length c4 := by
  obtain ⟨A0, c0, e0, _⟩ := h.rd 0 (by omega)
  obtain ⟨A1, c1, e1, _⟩ := h.rd 1 (by omega)
  obtain ⟨A2, c2, e2, _⟩ := h.rd 2 (by omega)
  obtain ⟨A3, c3, e3, _⟩ := h.rd 3 (by omega)
  obtain ⟨A4, c4, e4, _⟩ := h.rd 4 (by omega)
  exact ⟨A0, c0, A1, c1, A2, c2, A3, c3, A4, c4, e0, e1, e2, e3, e4⟩
/-- the sums over the first k zones -/
def sN (Z : List Zo) : Nat → Int
  | 0 => 0
  | k + 1 => sN Z k + if (zAt Z k).p.kd = 0 then (zAt Z k).p.mn else 0
def sA (Z : List Zo) : Nat → Int
  | 0 => 0
  | k + 1 => sA Z k + (zAt Z k).p.mn
def okZ (Z : List Zo) : Prop := Z.length ≤ 6 ∧ ∀ k, k < Z.length → inC (zAt Z k).p.mn
theorem s_bd {Z : List Zo} : ∀ {k}, (∀ j, j < k → inC (zAt Z j).p.mn) → 0 ≤ sN Z k ∧ sN Z k ≤ k * 4096 ∧ 0 ≤ sA Z k ∧ sA Z k ≤ k * 4096
  | 0, _ => by simp [sN, sA]
  | k + 1, h => by
    have ih := s_bd (Z := Z) (k := k) (fun j hj => h j (by omega))
    have h1 := h k (by omega)
    unfold inC at h1
    have e1 : sN Z (k + 1) = sN Z k + if (zAt Z k).p.kd = 0 then (zAt Z k).p.mn else 0 := rfl
    have e2 : sA Z (k + 1) = sA Z k + (zAt Z k).p.mn := rfl
    rw [e1, e2]
    split <;> omega
instance (Z : List Zo) : Decidable (okZ Z) := by unfold okZ; infer_instance
/-- what Reserve answers -/
def rE (Z : List Zo) : Int := if okZ Z then 0 else 2
def rN (Z : List Zo) : Int := if okZ Z then sN Z Z.length else 0
def rA (Z : List Zo) : Int := if okZ Z then sA Z Z.length else 0
theorem r_no {Z : List Zo} (h : ¬ okZ Z) : rE Z = 2 ∧ rN Z = 0 ∧ rA Z = 0 := ⟨if_neg h, if_neg h, if_neg h⟩
theorem r_yes {Z : List Zo} (h : okZ Z) : rE Z = 0 ∧ rN Z = sN Z Z.length ∧ rA Z = sA Z Z.length := ⟨if_pos h, if_pos h, if_pos h⟩
theorem ret_iii {fn : Func} {a : Act} {W : World} {k m n : Nat} {x y z : Int} {Q : Ending → World → Prop} (hr : fn.results = #[.tmp k, .tmp m, .tmp n]) (h2 : a.tmps.getD k undef = .int .i64 x) (h3 : a.tmps.getD m undef = .int .i64 y) (h4 : a.tmps.getD n undef = .int .i64 z) (hd : a.defers = [])
    (hq : Q (.returned (.tuple #[.int .i64 x, .int .i64 y, .int .i64 z])) W) : bodyPost Try.prog fn Q .ret a W := by
  simp only [Array.getD_eq_getD_getElem?] at h2 h3 h4
  exact bodyPost_ret (v := .tuple #[.int .i64 x, .int .i64 y, .int .i64 z]) (by simp [results, hr, h2, h3, h4, go_sem]; try rfl) hd hq
set_option maxRecDepth 100000 in
set_option maxHeartbeats 8000000 in
theorem reserve_any (A : Option Addr) (cp : Nat) (Z : List Zo) (w : World) (hr : Zs w A Z) (hz : ZIs w Z) (hn : Z.length ≤ 9223372036854775807) : Calls Try.prog 24 #[.slice A Z.length cp] w fun e w' => e = .returned (.tuple #[.int .i64 (rN Z), .int .i64 (rA Z), .int .i64 (rE Z)]) ∧ Below w.heap.size w w' := by
  have HR := hide hr
  have HZ := hide hz
  have IC := hide (fun n w => isc_any n w)
  clear hr hz
  by_cases h6 : Z.length ≤ 6
  · have d6 : ¬ (6 : Int) < (Z.length : Int) := by omega
    have K0 := hide (brefl w)
    go_enter Try.func24, Try.ntmps24
    go_wp2
    go_loopw [5, 6, 14] (fun a b c wr => ∃ k : Nat, k ≤ Z.length ∧ a = .int .i64 (sN Z k) ∧ b = .int .i64 (sA Z k) ∧ c = .int .i64 k ∧ Hid (Below w.heap.size w wr) ∧ Hid (∀ j, j < k → inC (zAt Z j).p.mn)) (fun _ _ c _ => Z.length - (intOf c).toNat)
    case atStart => exact ⟨0, Nat.zero_le _, rfl, rfl, rfl, K0, hide (fun j h => by omega)⟩
    case round =>
      clear K0
      obtain ⟨k, hk, rfl, rfl, rfl, K, N⟩ := hrel
      by_cases hlt : k < Z.length
      · have hl2 : (k : Int) < (Z.length : Int) := by omega
        have hk0 : (0 : Int) ≤ (k : Int) := by omega
        obtain ⟨b, off, rfl, hbl, hcs⟩ := HR.out.cells K.out hlt
        obtain ⟨A0, c0, A1, c1, A2, c2, A3, c3, A4, c4, e0, e1, e2, e3, e4⟩ := (HZ.out k hlt).forms
        have EN := hide (show sN Z (k + 1) = sN Z k + if (zAt Z k).p.kd = 0 then (zAt Z k).p.mn else 0 from rfl)
        have EA := hide (show sA Z (k + 1) = sA Z k + (zAt Z k).p.mn from rfl)
        have bd := s_bd N.out
        have N2 := hide (show ∀ (h : inC (zAt Z k).p.mn) (j : Nat), j < k + 1 → inC (zAt Z j).p.mn from fun h j hj => by
          by_cases e : j = k
          · rw [e]; exact h
          · exact N.out j (by omega))
        have NO := hide (show ¬ inC (zAt Z k).p.mn → ¬ okZ Z from fun h o => h (o.2 k hlt))
        have y0 := hcs 0 (by omega); have y1 := hcs 1 (by omega); have y2 := hcs 2 (by omega); have y3 := hcs 3 (by omega); have y4 := hcs 4 (by omega)
        have y5 := hcs 5 (by omega); have y6 := hcs 6 (by omega); have y7 := hcs 7 (by omega); have y8 := hcs 8 (by omega); have y9 := hcs 9 (by omega)
        generalize (zAt Z k).L = L at *
        generalize (zAt Z k).p = p at *
        generalize (zAt Z k).v = v at *
        obtain ⟨a, ha⟩ : ∃ a, a = sN Z k := ⟨_, rfl⟩
        obtain ⟨s, hs⟩ : ∃ s, s = sA Z k := ⟨_, rfl⟩
        rw [← ha, ← hs] at bd ⊢
        rw [← ha] at EN
        rw [← hs] at EA
        unfold znC at y0 y1 y2 y3 y4 y5 y6 y7 y8 y9
        rw [e0, e1, e2, e3, e4] at y0 y1 y2 y3 y4 y5 y6 y7 y8 y9
        simp at y0 y1 y2 y3 y4 y5 y6 y7 y8 y9
        generalize (L 0).length = n0 at *
        generalize (L 1).length = n1 at *
        generalize (L 2).length = n2 at *
        generalize (L 3).length = n3 at *
        generalize (L 4).length = n4 at *
        clear hcs e0 e1 e2 e3 e4 ha hs N
        obtain ⟨nd, kd, st, ct, mn⟩ := p
        simp only at y0 y1 y2 y3 y4 EN EA N2 NO
        have M := bal (brefl wr) (.cells #[.int .i64 nd, .int .i64 kd, .int .i64 st, .int .i64 ct, .int .i64 mn, .slice A0 n0 c0, .slice A1 n1 c1, .slice A2 n2 c2, .slice A3 n3 c3, .slice A4 n4 c4] 44)
        have X := hide (Box.new wr 44 #[.int .i64 nd, .int .i64 kd, .int .i64 st, .int .i64 ct, .int .i64 mn, .slice A0 n0 c0, .slice A1 n1 c1, .slice A2 n2 c2, .slice A3 n3 c3, .slice A4 n4 c4])
        replace K := hide (K.out.trans (M.mono K.out.size))
        clear M
        go_upto_region 7 with fail
        obtain ⟨g, hg⟩ : ∃ g, g = wr.heap.size := ⟨_, rfl⟩
        rw [← hg] at X ⊢
        generalize wr.alloc (.cells #[.int .i64 nd, .int .i64 kd, .int .i64 st, .int .i64 ct, .int .i64 mn, .slice A0 n0 c0, .slice A1 n1 c1, .slice A2 n2 c2, .slice A3 n3 c3, .slice A4 n4 c4] 44) = wx at *
        clear hg y0 y1 y2 y3 y4 y5 y6 y7 y8 y9
        have x1 : wx.cell? ⟨g, 1, none⟩ = some (.int .i64 kd) := X.out.cell 1
        have x4 : wx.cell? ⟨g, 4, none⟩ = some (.int .i64 mn) := X.out.cell 4
        by_cases hi : inC mn
        · have di := decide_eq_true hi
          have N3 := hide (N2.out hi)
          unfold inC at hi
          obtain ⟨hi0, hi1⟩ := hi
          obtain ⟨bd1, bd2, bd3, bd4⟩ := bd
          by_cases hkd : kd = 0
          · rw [if_pos hkd] at EN
            subst hkd
            go_wp2_with (go_at_call 26; refine (IC.out _ _).mono ?_; rintro e w' ⟨rfl, rfl⟩)
            go_roundw
            case rel => exact ⟨k + 1, by omega, by rw [EN.out], by rw [EA.out], by go_num, K, N3⟩
            case measure => simp [intOf]; omega
          · rw [if_neg hkd, Int.add_zero] at EN
            have dk : (kd == 0) = false := by simpa using hkd
            go_wp2_with (go_at_call 26; refine (IC.out _ _).mono ?_; rintro e w' ⟨rfl, rfl⟩)
            go_roundw
            case rel => exact ⟨k + 1, by omega, by rw [EN.out], by rw [EA.out], by go_num, K, N3⟩
            case measure => simp [intOf]; omega
        · have di := decide_eq_false hi
          have RN := hide (r_no (NO.out hi))
          clear hi
          go_wp2_with (go_at_call 26; refine (IC.out _ _).mono ?_; rintro e w' ⟨rfl, rfl⟩)
          exact ret_iii Try.results24 rfl rfl rfl rfl ⟨by rw [RN.out.1, RN.out.2.1, RN.out.2.2], K.out⟩
      · obtain rfl : k = Z.length := by omega
        have RN := hide (r_yes ⟨h6, N.out⟩)
        go_wp2
        exact ret_iii Try.results24 rfl rfl rfl rfl ⟨by rw [RN.out.1, RN.out.2.1, RN.out.2.2], K.out⟩
  · have d6 : (6 : Int) < (Z.length : Int) := by omega
    have RN := hide (r_no (Z := Z) (fun o => h6 o.1))
    go_enter Try.func24, Try.ntmps24
    go_wp2
    exact ret_iii Try.results24 rfl rfl rfl rfl ⟨by rw [RN.out.1, RN.out.2.1, RN.out.2.2], brefl w⟩
end Go.Proofs.Ytiopfeleaifpbab.Bd
