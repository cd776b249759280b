import Derived.Test.YtnegigcjeoenmaaKm1
import Derived.Test.YtnegigcjeoenmaaLFa
namespace Go.Proofs.Ytnegigcjeoenmaa.Dv
open Go Go.RowKit
set_option linter.unusedVariables false
/-- a device of one's own at g, four bools at ob -/
structure Ka (w : World) (g ob : Nat) (D : Dev) (v1 v2 v3 : Value) (a0 a1 a2 a3 : Bool) (W : World) : Prop where
  below : Below w.heap.size w W
  box : Box W g 28 #[.int .i64 D.dep, .int .i64 D.nxt, v1, v2, v3]
  hb : OwnB w.heap.size W v1 D.bl
  hc : OwnC w.heap.size W v2 D.ca
  hq : OwnQ w.heap.size W v3 D.qu
  arr : Box W ob 53 #[.bool a0, .bool a1, .bool a2, .bool a3]
section
variable {w W W' : World} {g ob : Nat} {D : Dev} {v1 v2 v3 : Value} {a0 a1 a2 a3 : Bool}
theorem Ka.on (x : Ka w g ob D v1 v2 v3 a0 a1 a2 a3 W) (hb : Below W.heap.size W W') : Ka w g ob D v1 v2 v3 a0 a1 a2 a3 W' :=
  ⟨btrans x.below hb, x.box.below hb, x.hb.below hb, x.hc.below hb, x.hq.below hb, x.arr.below hb⟩
theorem Ka.kp4 (x : Ka w g ob D v1 v2 v3 a0 a1 a2 a3 W) (hk : Kp w.heap.size 4 W W') : Ka w g ob D v1 v2 v3 a0 a1 a2 a3 W' :=
  ⟨x.below.trans hk.below, x.box.kp hk (by decide), x.hb.kp hk (by decide) (by decide), x.hc.kp hk (by decide) (by decide), x.hq.kp hk (by decide) (by decide), x.arr.kp hk (by decide)⟩
theorem Ka.set (x : Ka w g ob D v1 v2 v3 a0 a1 a2 a3 W) (hob : w.heap.size ≤ ob) (i : Nat) (b0 b1 b2 b3 : Bool) (h : (#[.bool a0, .bool a1, .bool a2, .bool a3] : Array Value).setIfInBounds i (.bool true) = #[.bool b0, .bool b1, .bool b2, .bool b3]) : Ka w g ob D v1 v2 v3 b0 b1 b2 b3 (W.setCell ⟨ob, i, none⟩ (.bool true)) := by
  have hk : Kp w.heap.size 53 W (W.setCell ⟨ob, i, none⟩ (.bool true)) := Kp.boxset x.arr hob i _
  exact ⟨x.below.trans hk.below, x.box.kp hk (by decide), x.hb.kp hk (by decide) (by decide), x.hc.kp hk (by decide) (by decide), x.hq.kp hk (by decide) (by decide), h ▸ x.arr.put i (.bool true)⟩
theorem Ka.is (x : Ka w g ob D v1 v2 v3 a0 a1 a2 a3 W) : DevIn W (.agg #[.int .i64 D.dep, .int .i64 D.nxt, v1, v2, v3]) D := DevOwn.is (B := w.heap.size) ⟨_, _, _, rfl, x.hb, x.hc, x.hq⟩
end
theorem arr_at {W : World} {ob k : Nat} {f : Nat → Bool} (h : Box W ob 53 #[.bool (f 0), .bool (f 1), .bool (f 2), .bool (f 3)]) (hk : k < 4) : W.cell? ⟨ob, k, none⟩ = some (.bool (f k)) := by
  rw [h.cell]
  match k, hk with
  | 0, _ => rfl
  | 1, _ => rfl
  | 2, _ => rfl
  | 3, _ => rfl
theorem info4 : (Try.prog.info? 4).map (fun i => (i.zero, i.size, i.bytes)) = some (some (.bool false), 1, 1) := by kernel_rfl
theorem row_kp4 {B : Nat} {W : World} {rb n : Nat} {f : Nat → Value} (h : W.rowIs rb 4 n f) (hB : B ≤ rb) (i : Nat) (u : Value) : Kp B 4 W (W.setCell ⟨rb, i, none⟩ u) := by
  obtain ⟨c, hb, hn, hc⟩ := h
  exact Kp.boxset (cs := c) hb hB i u
theorem row_rdt {W : World} {rb : Nat} {L : List Bool} (h : W.rowIs rb 4 40 (fun _ => .bool true)) (hL : L = List.replicate 40 true) : RdT W (some ⟨rb, 0, none⟩) L := fun _ => by
  refine ⟨rb, 0, rfl, h.lt, fun k hk => ?_⟩
  have hk' : k < 40 := by rw [hL] at hk; simpa using hk
  rw [Nat.zero_add, h.cell hk', hL, List.getD_eq_getElem?_getD, List.getElem?_replicate, if_pos hk']; rfl
set_option maxHeartbeats 4000000 in
set_option maxRecDepth 100000 in
theorem law_keepsall (A : Option Addr) (L : List Ac) (c : Nat) (w : World) (hr : RdA w A L) (hl : L.length ≤ 9223372036854775807) :
    Calls Try.prog 8 #[.slice A L.length c] w fun e w' => e = .returned (.bool true) ∧ Below w.heap.size w w' := by
  have AW := hide (fun W => awake_any W)
  have RA := hide hr
  clear hr
  rcases Nat.lt_or_ge 40 L.length with h40 | h40
  · have hd : decide ((40 : Int) < (L.length : Int)) = true := decide_eq_true (by omega)
    go_enter Try.func8, Try.ntmps8
    go_wp2_with fail
    refine (AW.out w).mono ?_
    rintro e w1 ⟨rfl, hb1⟩
    go_wp2_with fail
    refine (AW.out w1).mono ?_
    rintro e w9 ⟨rfl, hb9⟩
    go_wp2_with fail
    go_ret
    exact ⟨rfl, btrans hb1 hb9⟩
  have hd : decide ((40 : Int) < (L.length : Int)) = false := decide_eq_false (by omega)
  have PL := hide (fun W (hb : Below w.heap.size w W) => play_any A L c W (fun hn => by
    obtain ⟨b, off, e, hlb, hc⟩ := RA.out hn
    refine ⟨b, off, e, Nat.lt_of_lt_of_le hlb hb.size, fun k hk => ?_⟩
    obtain ⟨b', off', e', _, h1, h2⟩ := RA.out.cells hb hk
    rw [e] at e'; injection e' with e'; injection e' with e1 e2; subst e1 e2
    exact ⟨h1, h2⟩) h40)
  unfold PlR at PL
  obtain ⟨zz, hzz⟩ : ∃ zz : Array Value, zz = madeCells #[.bool false] 40 := ⟨_, rfl⟩
  have hmk : ∀ w, (Instr.makeSlice 44 (.int .i64 40) (.int .i64 40)).run Try.prog w = .ok (.slice (some ⟨w.heap.size, 0, none⟩) 40 40) (w.alloc (.cells zz 4)) := fun w => by
    have := run_make_row' (P := Try.prog) 44 4 (.bool false) 1 Try.underlying44 info4 rfl .i64 .i64 40 (by omega) (by omega) w
    rw [hzz]; exact this
  have MK := hide (fun (W : World) => (show (W.alloc (.cells zz 4)).rowIs W.heap.size 4 40 (fun j => if j < 0 then .bool true else .bool false) by
    rw [hzz]; exact (World.rowIs_made W (.bool false) 40 4).congr fun i _ => by simp))
  have HMK := hide hmk
  clear hzz hmk
  go_enter Try.func8, Try.ntmps8
  go_wp2_with fail
  refine (AW.out w).mono ?_
  rintro e w1 ⟨rfl, hb1⟩
  go_wp2_with fail
  refine (PL.out w1 hb1).mono ?_
  rintro e w2 ⟨D, v, rfl, P, ho, hb2⟩
  have PD := hide P
  have BIG := hide P.big
  obtain ⟨vb, vc, vq, rfl, ob', oc, oq⟩ := ho
  obtain ⟨E1, g1, rfl, _⟩ := ob'.form
  obtain ⟨E2, g2, rfl, _⟩ := oc.form
  obtain ⟨E3, g3, rfl, _⟩ := oq.form
  have hs1 := hb1.size
  have MO := bal (bal (brefl w2) (.cells #[.int .i64 D.dep, .int .i64 D.nxt, .slice E1 D.bl.length g1, .slice E2 D.ca.length g2, .slice E3 D.qu.length g3] 28)) (.cells #[.bool false, .bool false, .bool false, .bool false] 53)
  have KA0 := hide (show Ka w w2.heap.size (w2.heap.size + 1) D (.slice E1 D.bl.length g1) (.slice E2 D.ca.length g2) (.slice E3 D.qu.length g3) (ow D.qu 0 0) (ow D.qu 0 1) (ow D.qu 0 2) (ow D.qu 0 3) ((w2.alloc (.cells #[.int .i64 D.dep, .int .i64 D.nxt, .slice E1 D.bl.length g1, .slice E2 D.ca.length g2, .slice E3 D.qu.length g3] 28)).alloc (.cells #[.bool false, .bool false, .bool false, .bool false] 53)) from
    ⟨btrans hb1 (btrans hb2 MO), (Box.new w2 28 #[.int .i64 D.dep, .int .i64 D.nxt, .slice E1 D.bl.length g1, .slice E2 D.ca.length g2, .slice E3 D.qu.length g3]).more _, (ob'.mono hs1).below MO, (oc.mono hs1).below MO, (oq.mono hs1).below MO, Box.new2 _ _ _ _⟩)
  have hob : w.heap.size ≤ w2.heap.size + 1 := by have := hb2.size; omega
  clear P ob' oc oq hb1 hb2 MO PL hs1
  go_upto_region 8 with fail
  obtain ⟨g, hg⟩ : ∃ g, g = w2.heap.size := ⟨_, rfl⟩
  obtain ⟨ob, hob'⟩ : ∃ ob, ob = g + 1 := ⟨_, rfl⟩
  rw [← hg] at KA0 hob ⊢
  rw [← hob'] at KA0 hob ⊢
  generalize (w2.alloc (.cells #[.int .i64 D.dep, .int .i64 D.nxt, .slice E1 D.bl.length g1, .slice E2 D.ca.length g2, .slice E3 D.qu.length g3] 28)).alloc (.cells #[.bool false, .bool false, .bool false, .bool false] 53) = w3 at *
  clear hg hob'
  go_loopw [7, 33] (fun _ i wr => ∃ k : Nat, k ≤ D.qu.length ∧ i = .int .i64 k ∧ Hid (Ka w g ob D (.slice E1 D.bl.length g1) (.slice E2 D.ca.length g2) (.slice E3 D.qu.length g3) (ow D.qu k 0) (ow D.qu k 1) (ow D.qu k 2) (ow D.qu k 3) wr)) (fun _ i _ => D.qu.length - (intOf i).toNat)
  case atStart => exact ⟨0, Nat.zero_le _, rfl, KA0⟩
  case round =>
    clear KA0
    obtain ⟨k, hk, rfl, KA⟩ := hrel
    have hqlen : D.qu.length ≤ 4 := by have h4 := PD.out.vd.ql; have h5 := PD.out.dep; omega
    by_cases hlt : k < D.qu.length
    · have hlt1 : (k : Int) < (D.qu.length : Int) := by omega
      have hlt2 : ¬ (D.qu.length : Int) ≤ (k : Int) := by omega
      have hk0 : (0 : Int) ≤ (k : Int) := by omega
      obtain ⟨gq, u, hgq, _, c0, c1, c2, c3, hu⟩ := KA.out.hq.cellsF hlt
      subst hgq
      obtain ⟨z0, z1, z2, l, hqk⟩ : ∃ z0 z1 z2 l, qAt D.qu k = (z0, z1, z2, l) := ⟨_, _, _, _, rfl⟩
      have hrq := PD.out.vd.qr _ (qAt_mem hlt)
      rw [hqk] at c0 c1 c2 hu hrq
      simp only at c0 c1 c2 hu hrq
      obtain ⟨A6, d6, rfl⟩ := hu.form
      have hzb := req_b hrq
      rw [PD.out.bl] at hzb
      have KA1 := hide (KA.out.on (bal (brefl wr) (.cells #[.int .i64 z0, .int .i64 z1, .int .i64 z2, .slice A6 l.length d6] 39)))
      obtain ⟨o0, H0⟩ : ∃ o, o = ow D.qu k 0 := ⟨_, rfl⟩
      obtain ⟨o1, H1⟩ : ∃ o, o = ow D.qu k 1 := ⟨_, rfl⟩
      obtain ⟨o2, H2⟩ : ∃ o, o = ow D.qu k 2 := ⟨_, rfl⟩
      obtain ⟨o3, H3⟩ : ∃ o, o = ow D.qu k 3 := ⟨_, rfl⟩
      rw [← H0, ← H1, ← H2, ← H3] at KA1
      replace H0 := hide H0
      replace H1 := hide H1
      replace H2 := hide H2
      replace H3 := hide H3
      clear hu hrq KA
      by_cases h2 : z1 = 2
      · subst h2
        have hn : z2 = 0 ∨ z2 = 1 ∨ z2 = 2 ∨ z2 = 3 := by omega
        clear hzb
        rcases hn with rfl | rfl | rfl | rfl
        · have N0 := hide (show ow D.qu (k + 1) 0 = true by rw [ow_snoc hlt, hqk, ← H0.out]; simp)
          have N1 := hide (show ow D.qu (k + 1) 1 = o1 by rw [ow_snoc hlt, hqk, ← H1.out]; simp)
          have N2 := hide (show ow D.qu (k + 1) 2 = o2 by rw [ow_snoc hlt, hqk, ← H2.out]; simp)
          have N3 := hide (show ow D.qu (k + 1) 3 = o3 by rw [ow_snoc hlt, hqk, ← H3.out]; simp)
          clear hqk
          have fa := KA1.out.arr.frozen 0
          have ca := KA1.out.arr.cell 0
          simp at ca
          go_wp2
          have KS := hide (KA1.out.set hob 0 true o1 o2 o3 rfl)
          go_roundw
          case rel => exact ⟨k + 1, by omega, by go_num, hide (by rw [N0.out, N1.out, N2.out, N3.out]; exact KS.out)⟩
          case measure => simp [intOf]; omega
        · have N0 := hide (show ow D.qu (k + 1) 0 = o0 by rw [ow_snoc hlt, hqk, ← H0.out]; simp)
          have N1 := hide (show ow D.qu (k + 1) 1 = true by rw [ow_snoc hlt, hqk, ← H1.out]; simp)
          have N2 := hide (show ow D.qu (k + 1) 2 = o2 by rw [ow_snoc hlt, hqk, ← H2.out]; simp)
          have N3 := hide (show ow D.qu (k + 1) 3 = o3 by rw [ow_snoc hlt, hqk, ← H3.out]; simp)
          clear hqk
          have fa := KA1.out.arr.frozen 1
          have ca := KA1.out.arr.cell 1
          simp at ca
          go_wp2
          have KS := hide (KA1.out.set hob 1 o0 true o2 o3 rfl)
          go_roundw
          case rel => exact ⟨k + 1, by omega, by go_num, hide (by rw [N0.out, N1.out, N2.out, N3.out]; exact KS.out)⟩
          case measure => simp [intOf]; omega
        · have N0 := hide (show ow D.qu (k + 1) 0 = o0 by rw [ow_snoc hlt, hqk, ← H0.out]; simp)
          have N1 := hide (show ow D.qu (k + 1) 1 = o1 by rw [ow_snoc hlt, hqk, ← H1.out]; simp)
          have N2 := hide (show ow D.qu (k + 1) 2 = true by rw [ow_snoc hlt, hqk, ← H2.out]; simp)
          have N3 := hide (show ow D.qu (k + 1) 3 = o3 by rw [ow_snoc hlt, hqk, ← H3.out]; simp)
          clear hqk
          have fa := KA1.out.arr.frozen 2
          have ca := KA1.out.arr.cell 2
          simp at ca
          go_wp2
          have KS := hide (KA1.out.set hob 2 o0 o1 true o3 rfl)
          go_roundw
          case rel => exact ⟨k + 1, by omega, by go_num, hide (by rw [N0.out, N1.out, N2.out, N3.out]; exact KS.out)⟩
          case measure => simp [intOf]; omega
        · have N0 := hide (show ow D.qu (k + 1) 0 = o0 by rw [ow_snoc hlt, hqk, ← H0.out]; simp)
          have N1 := hide (show ow D.qu (k + 1) 1 = o1 by rw [ow_snoc hlt, hqk, ← H1.out]; simp)
          have N2 := hide (show ow D.qu (k + 1) 2 = o2 by rw [ow_snoc hlt, hqk, ← H2.out]; simp)
          have N3 := hide (show ow D.qu (k + 1) 3 = true by rw [ow_snoc hlt, hqk, ← H3.out]; simp)
          clear hqk
          have fa := KA1.out.arr.frozen 3
          have ca := KA1.out.arr.cell 3
          simp at ca
          go_wp2
          have KS := hide (KA1.out.set hob 3 o0 o1 o2 true rfl)
          go_roundw
          case rel => exact ⟨k + 1, by omega, by go_num, hide (by rw [N0.out, N1.out, N2.out, N3.out]; exact KS.out)⟩
          case measure => simp [intOf]; omega
      · have hd2 : (z1 == 2) = false := by simpa using h2
        have N0 := hide (show ow D.qu (k + 1) 0 = o0 by rw [ow_snoc hlt, hqk, ← H0.out]; simp [hd2])
        have N1 := hide (show ow D.qu (k + 1) 1 = o1 by rw [ow_snoc hlt, hqk, ← H1.out]; simp [hd2])
        have N2 := hide (show ow D.qu (k + 1) 2 = o2 by rw [ow_snoc hlt, hqk, ← H2.out]; simp [hd2])
        have N3 := hide (show ow D.qu (k + 1) 3 = o3 by rw [ow_snoc hlt, hqk, ← H3.out]; simp [hd2])
        clear hqk h2 hzb
        go_wp2
        go_roundw
        case rel => exact ⟨k + 1, by omega, by go_num, hide (by rw [N0.out, N1.out, N2.out, N3.out]; exact KA1.out)⟩
        case measure => simp [intOf]; omega
    · obtain rfl : k = D.qu.length := by omega
      have hmk := HMK.out
      go_upto_region 15 with fail
      clear hmk hlt hk
      have RI := hide (MK.out wr)
      have KA1 := hide (KA.out.on (bal (brefl wr) (.cells zz 4)))
      have hrb : w.heap.size ≤ wr.heap.size := KA.out.below.size
      obtain ⟨rb, hrbe⟩ : ∃ rb, rb = wr.heap.size := ⟨_, rfl⟩
      rw [← hrbe] at RI hrb ⊢
      generalize wr.alloc (.cells zz 4) = w4 at *
      clear hrbe KA
      go_loopw [9, 57] (fun _ i wr => ∃ k : Nat, k ≤ 40 ∧ i = .int .i64 k ∧ Hid (wr.rowIs rb 4 40 (fun j => if j < k then .bool true else .bool false)) ∧ Hid (Ka w g ob D (.slice E1 D.bl.length g1) (.slice E2 D.ca.length g2) (.slice E3 D.qu.length g3) (ow D.qu D.qu.length 0) (ow D.qu D.qu.length 1) (ow D.qu D.qu.length 2) (ow D.qu D.qu.length 3) wr)) (fun _ i _ => 40 - (intOf i).toNat)
      case atStart => exact ⟨0, Nat.zero_le _, rfl, RI, KA1⟩
      case round =>
        clear RI KA1
        obtain ⟨k, hk, rfl, RI, KA⟩ := hrel
        by_cases hlt : k < 40
        · have c0 := RI.out.cell hlt
          rw [if_neg (by omega)] at c0
          have f0 := RI.out.frozen k
          have hk0 : (0 : Int) ≤ (k : Int) := by omega
          have hk1 : (k : Int) < 40 := by omega
          go_wp2
          go_roundw
          case rel => exact ⟨k + 1, by omega, by go_num, hide ((RI.out.set k (.bool true)).congr fun j _ => by by_cases e : j = k <;> by_cases e2 : j < k <;> simp [e, e2] <;> omega), hide (KA.out.kp4 (row_kp4 RI.out hrb k _))⟩
          case measure => simp [intOf]; omega
        · obtain rfl : k = 40 := by omega
          obtain ⟨ps, hps⟩ : ∃ ps, ps = List.replicate 40 true := ⟨_, rfl⟩
          have RT := hide (row_rdt (RI.out.congr fun j hj => by simp [hj]) hps)
          have hpl : ps.length = 40 := by rw [hps]; simp
          have hk0c := chk_of PD.out.vd
          have S1 := hide (fun W (hb : Below wr.heap.size wr W) => crash_any _ D (some ⟨rb, 0, none⟩) ps 40 W (KA.out.is.below hb) BIG.out (RT.out.below hb) (by omega))
          have S2 := hide (fun W (hb : Below wr.heap.size wr W) => crash_any _ D none [] 0 W (KA.out.is.below hb) BIG.out (fun h => absurd rfl h) (by simp))
          unfold DvR2 at S1 S2
          rw [hk0c, hpl] at S1
          rw [hk0c] at S2
          simp only [if_true, List.length_nil] at S1 S2
          obtain ⟨Fa, hFa⟩ : ∃ Fa, Fa = crD D ps := ⟨_, rfl⟩
          obtain ⟨Fb, hFb⟩ : ∃ Fb, Fb = crD D [] := ⟨_, rfl⟩
          rw [← hFa] at S1
          rw [← hFb] at S2
          have hbl := PD.out.bl
          have DUA := hide (fun (i : Nat) (hi : i < 4) (ho : ow D.qu D.qu.length (i : Int) = false) => (show duD Fa (i : Int) = ctD D (i : Int) by rw [hFa, hps]; exact du_all PD.out.vd (by omega) (los_40 PD.out) ho))
          have DUB := hide (fun (i : Nat) (hi : i < 4) => (show duD Fb (i : Int) = duD D (i : Int) by rw [hFb]; exact du_none PD.out.vd (by omega)))
          have BGA := hide (show Big Fa by rw [hFa]; exact big_crD PD.out.vd)
          have BGB := hide (show Big Fb by rw [hFb]; exact big_crD PD.out.vd)
          have CHA := hide (show chD Fa = 0 by rw [hFa]; exact ch_cr PD.out.vd)
          have QA := hide (show ((Fa.qu.length : Int) == 0) = true by rw [hFa]; rfl)
          have NA := hide (show (Fa.nxt == D.nxt) = true by rw [hFa]; show (D.nxt == D.nxt) = true; simp)
          clear hFa hFb hps hpl hk0c hbl RI RT hk hlt hrb
          have KW0 := hide (brefl wr)
          obtain ⟨x0, x1, x2, x3, x4⟩ := box5_cells (W' := wr) KA.out.box
          go_wp2_with fail
          refine (S1.out wr (brefl wr)).mono ?_
          rintro e w5 ⟨v1, rfl, ho1, hb5⟩
          obtain ⟨ub, uc, uq, rfl, ob1, oc1, oq1⟩ := ho1
          obtain ⟨P1, p1, rfl, _⟩ := ob1.form
          obtain ⟨P2, p2, rfl, _⟩ := oc1.form
          obtain ⟨P3, p3, rfl, _⟩ := oq1.form
          have MO := bal (brefl w5) (.cells #[.int .i64 Fa.dep, .int .i64 Fa.nxt, .slice P1 Fa.bl.length p1, .slice P2 Fa.ca.length p2, .slice P3 Fa.qu.length p3] 28)
          have INA := hide ((DevOwn.is (B := wr.heap.size) (w := w5) (D := Fa) ⟨_, _, _, rfl, ob1, oc1, oq1⟩).below MO)
          have BA := hide (Box.new w5 28 #[.int .i64 Fa.dep, .int .i64 Fa.nxt, .slice P1 Fa.bl.length p1, .slice P2 Fa.ca.length p2, .slice P3 Fa.qu.length p3])
          have K6 := hide (btrans hb5 MO)
          clear ob1 oc1 oq1 hb5 MO x0 x1 x2 x3 x4
          go_upto_region 20 with fail
          obtain ⟨ga, hga⟩ : ∃ ga, ga = w5.heap.size := ⟨_, rfl⟩
          rw [← hga] at BA ⊢
          generalize w5.alloc (.cells #[.int .i64 Fa.dep, .int .i64 Fa.nxt, .slice P1 Fa.bl.length p1, .slice P2 Fa.ca.length p2, .slice P3 Fa.qu.length p3] 28) = w6 at *
          clear hga
          obtain ⟨x0, x1, x2, x3, x4⟩ := box5_cells (W' := w6) (KA.out.box.below K6.out)
          go_wp2_with fail
          refine (S2.out w6 K6.out).mono ?_
          rintro e w7 ⟨v1, rfl, ho1, hb7⟩
          obtain ⟨ub, uc, uq, rfl, ob1, oc1, oq1⟩ := ho1
          obtain ⟨R1, r1, rfl, _⟩ := ob1.form
          obtain ⟨R2, r2, rfl, _⟩ := oc1.form
          obtain ⟨R3, r3, rfl, _⟩ := oq1.form
          have MO := bal (brefl w7) (.cells #[.int .i64 Fb.dep, .int .i64 Fb.nxt, .slice R1 Fb.bl.length r1, .slice R2 Fb.ca.length r2, .slice R3 Fb.qu.length r3] 28)
          have MO2 := btrans hb7 MO
          have INB := hide ((DevOwn.is (B := w6.heap.size) (w := w7) (D := Fb) ⟨_, _, _, rfl, ob1, oc1, oq1⟩).below MO)
          have BB := hide (Box.new w7 28 #[.int .i64 Fb.dep, .int .i64 Fb.nxt, .slice R1 Fb.bl.length r1, .slice R2 Fb.ca.length r2, .slice R3 Fb.qu.length r3])
          replace INA := hide (INA.out.below MO2)
          replace BA := hide (BA.out.below MO2)
          have K8 := hide (btrans K6.out MO2)
          clear ob1 oc1 oq1 hb7 MO MO2 x0 x1 x2 x3 x4 S1 S2 K6
          go_upto_region 24 with fail
          obtain ⟨gb, hgb⟩ : ∃ gb, gb = w7.heap.size := ⟨_, rfl⟩
          rw [← hgb] at BB ⊢
          generalize w7.alloc (.cells #[.int .i64 Fb.dep, .int .i64 Fb.nxt, .slice R1 Fb.bl.length r1, .slice R2 Fb.ca.length r2, .slice R3 Fb.qu.length r3] 28) = w8 at *
          clear hgb
          have KA8 := hide (KA.out.on K8.out)
          have UA0 := hide (fun (b : Int) W (hb : Below w8.heap.size w8 W) => durable_any _ Fa b W (INA.out.below hb) BGA.out)
          have UB0 := hide (fun (b : Int) W (hb : Below w8.heap.size w8 W) => durable_any _ Fb b W (INB.out.below hb) BGB.out)
          have UD0 := hide (fun (b : Int) W (hb : Below w8.heap.size w8 W) => durable_any _ D b W (KA8.out.is.below hb) BIG.out)
          have CD0 := hide (fun (b : Int) W (hb : Below w8.heap.size w8 W) => contentD_any _ D b W (KA8.out.is.below hb) BIG.out)
          have CHC := hide (fun W (hb : Below w8.heap.size w8 W) => choices_any _ Fa W (INA.out.below hb) BGA.out)
          rw [CHA.out] at CHC
          unfold ByR at UA0 UB0 UD0 CD0
          clear KA K8 INA INB KW0 CHA BGA BGB
          go_loopw [14, 81] (fun _ i wr => ∃ k : Nat, k ≤ 4 ∧ i = .int .i64 k ∧ Hid (Below w8.heap.size w8 wr)) (fun _ i _ => 4 - (intOf i).toNat)
          case atStart => exact ⟨0, Nat.zero_le _, rfl, hide (brefl _)⟩
          case round =>
            obtain ⟨k, hk, rfl, KW⟩ := hrel
            by_cases hlt : k < 4
            · have hlt1 : (k : Int) < 4 := by omega
              have hlt2 : ¬ (4 : Int) ≤ (k : Int) := by omega
              have hk0 : (0 : Int) ≤ (k : Int) := by omega
              have UA := hide (fun W hb => UA0.out (k : Int) W hb)
              have UB := hide (fun W hb => UB0.out (k : Int) W hb)
              have UD := hide (fun W hb => UD0.out (k : Int) W hb)
              have CD := hide (fun W hb => CD0.out (k : Int) W hb)
              rw [DUB.out k hlt] at UB
              have DUAk := hide (DUA.out k hlt)
              have HL1 := hide (ct_le D (k : Int))
              have HL2 := hide (du_le D (k : Int))
              have CE0 := hide (fun W (hb : Below w8.heap.size w8 W) => (by
                have a := KA8.out.on hb
                have p := BA.out.below hb
                have q := BB.out.below hb
                exact ⟨arr_at (f := fun i => ow D.qu D.qu.length (i : Int)) a.arr hlt, p.cell 0, p.cell 1, p.cell 2, p.cell 3, p.cell 4, a.box.cell 0, a.box.cell 1, a.box.cell 2, a.box.cell 3, a.box.cell 4, q.cell 0, q.cell 1, q.cell 2, q.cell 3, q.cell 4⟩ : (fun W => W.cell? ⟨ob, k, none⟩ = some (.bool (ow D.qu D.qu.length (k : Int))) ∧ W.cell? ⟨ga, 0, none⟩ = some (.int .i64 Fa.dep) ∧ W.cell? ⟨ga, 1, none⟩ = some (.int .i64 Fa.nxt) ∧ W.cell? ⟨ga, 2, none⟩ = some (.slice P1 Fa.bl.length p1) ∧ W.cell? ⟨ga, 3, none⟩ = some (.slice P2 Fa.ca.length p2) ∧ W.cell? ⟨ga, 4, none⟩ = some (.slice P3 Fa.qu.length p3) ∧ W.cell? ⟨g, 0, none⟩ = some (.int .i64 D.dep) ∧ W.cell? ⟨g, 1, none⟩ = some (.int .i64 D.nxt) ∧ W.cell? ⟨g, 2, none⟩ = some (.slice E1 D.bl.length g1) ∧ W.cell? ⟨g, 3, none⟩ = some (.slice E2 D.ca.length g2) ∧ W.cell? ⟨g, 4, none⟩ = some (.slice E3 D.qu.length g3) ∧ W.cell? ⟨gb, 0, none⟩ = some (.int .i64 Fb.dep) ∧ W.cell? ⟨gb, 1, none⟩ = some (.int .i64 Fb.nxt) ∧ W.cell? ⟨gb, 2, none⟩ = some (.slice R1 Fb.bl.length r1) ∧ W.cell? ⟨gb, 3, none⟩ = some (.slice R2 Fb.ca.length r2) ∧ W.cell? ⟨gb, 4, none⟩ = some (.slice R3 Fb.qu.length r3)) W))
              clear UA0 UB0 UD0 CD0 DUA DUB
              go_upto_region 26 with fail
              cases hbo : ow D.qu D.qu.length (k : Int) with
              | true =>
                have CE := CE0
                rw [hbo] at CE
                clear CE0 hbo DUAk UA CD HL1
                generalize duD D (k : Int) = l2 at *
                refine wp_region_noPanic ?_
                refine wp_region_held_drew (S := (fun W => W.cell? ⟨ob, k, none⟩ = some (.bool true) ∧ W.cell? ⟨ga, 0, none⟩ = some (.int .i64 Fa.dep) ∧ W.cell? ⟨ga, 1, none⟩ = some (.int .i64 Fa.nxt) ∧ W.cell? ⟨ga, 2, none⟩ = some (.slice P1 Fa.bl.length p1) ∧ W.cell? ⟨ga, 3, none⟩ = some (.slice P2 Fa.ca.length p2) ∧ W.cell? ⟨ga, 4, none⟩ = some (.slice P3 Fa.qu.length p3) ∧ W.cell? ⟨g, 0, none⟩ = some (.int .i64 D.dep) ∧ W.cell? ⟨g, 1, none⟩ = some (.int .i64 D.nxt) ∧ W.cell? ⟨g, 2, none⟩ = some (.slice E1 D.bl.length g1) ∧ W.cell? ⟨g, 3, none⟩ = some (.slice E2 D.ca.length g2) ∧ W.cell? ⟨g, 4, none⟩ = some (.slice E3 D.qu.length g3) ∧ W.cell? ⟨gb, 0, none⟩ = some (.int .i64 Fb.dep) ∧ W.cell? ⟨gb, 1, none⟩ = some (.int .i64 Fb.nxt) ∧ W.cell? ⟨gb, 2, none⟩ = some (.slice R1 Fb.bl.length r1) ∧ W.cell? ⟨gb, 3, none⟩ = some (.slice R2 Fb.ca.length r2) ∧ W.cell? ⟨gb, 4, none⟩ = some (.slice R3 Fb.qu.length r3))) (by kernel_rfl) ?_ (fun hHeld => ?_)
                · exact CE.out _ (btrans KW.out (below_drew (brefl wr)))
                have KK := hide (btrans KW.out (below_drew (brefl wr)))
                generalize wr.drew = wz at *
                refine wpAnyH_take (i := 0) (oi := ⟨some 84, _, _, _, _, _⟩) (v := ?_) rfl (by kernel_rfl) (by kernel_rfl) (by kernel_rfl) (fun _ _ _ h => h) (Or.inl ⟨by kernel_rfl, ?_⟩) (by assumption) ?_
                rotate_left 1
                · (intro w hSw; (try dsimp only at hSw); go_simp) <;> (with_reducible rfl)
                (try simp only [Act.put, List.setIfInBounds_toArray, List.set_cons_succ, List.set_cons_zero])
                refine wpAnyH_take (i := 1) (oi := ⟨some 85, _, _, _, _, _⟩) (v := ?_) rfl (by kernel_rfl) (by kernel_rfl) (by kernel_rfl) (fun _ _ _ h => h) (Or.inl ⟨by kernel_rfl, ?_⟩) (by assumption) ?_
                rotate_left 1
                · (intro w hSw; (try dsimp only at hSw); go_simp) <;> (with_reducible rfl)
                (try simp only [Act.put, List.setIfInBounds_toArray, List.set_cons_succ, List.set_cons_zero])
                refine wpAnyH_take (i := 2) (oi := ⟨some 86, _, _, _, _, _⟩) (v := ?_) rfl (by kernel_rfl) (by kernel_rfl) (by kernel_rfl) (fun _ _ _ h => h) (Or.inl ⟨by kernel_rfl, ?_⟩) (by assumption) ?_
                rotate_left 1
                · (intro w hSw; (try dsimp only at hSw); go_simp) <;> (with_reducible rfl)
                (try simp only [Act.put, List.setIfInBounds_toArray, List.set_cons_succ, List.set_cons_zero])
                refine wpAnyH_take (i := 3) (oi := ⟨some 87, _, _, _, _, _⟩) (v := ?_) rfl (by kernel_rfl) (by kernel_rfl) (by kernel_rfl) (fun _ _ _ h => h) (Or.inl ⟨by kernel_rfl, ?_⟩) (by assumption) ?_
                rotate_left 1
                · (intro w hSw; (try dsimp only at hSw); go_simp) <;> (with_reducible rfl)
                (try simp only [Act.put, List.setIfInBounds_toArray, List.set_cons_succ, List.set_cons_zero])
                refine wpAnyH_take (i := 4) (oi := ⟨some 88, _, _, _, _, _⟩) (v := ?_) rfl (by kernel_rfl) (by kernel_rfl) (by kernel_rfl) (fun _ _ _ h => h) (Or.inl ⟨by kernel_rfl, ?_⟩) (by assumption) ?_
                rotate_left 1
                · (intro w hSw; (try dsimp only at hSw); go_simp) <;> (with_reducible rfl)
                (try simp only [Act.put, List.setIfInBounds_toArray, List.set_cons_succ, List.set_cons_zero])
                refine wpAnyH_take (i := 5) (oi := ⟨some 89, _, _, _, _, _⟩) (v := undef) rfl (by kernel_rfl) (by kernel_rfl) (by kernel_rfl) (fun _ _ _ h => h) (Or.inr ⟨by kernel_rfl, rfl⟩) (by assumption) ?_
                (try simp only [Act.put, List.setIfInBounds_toArray, List.set_cons_succ, List.set_cons_zero])
                refine wpAnyH_take (i := 6) (oi := ⟨some 90, _, _, _, _, _⟩) (v := undef) rfl (by kernel_rfl) (by kernel_rfl) (by kernel_rfl) (fun _ _ _ h => h) (Or.inr ⟨by kernel_rfl, rfl⟩) (by assumption) ?_
                (try simp only [Act.put, List.setIfInBounds_toArray, List.set_cons_succ, List.set_cons_zero])
                refine wpAnyH_take (i := 7) (oi := ⟨some 91, _, _, _, _, _⟩) (v := undef) rfl (by kernel_rfl) (by kernel_rfl) (by kernel_rfl) (fun _ _ _ h => h) (Or.inr ⟨by kernel_rfl, rfl⟩) (by assumption) ?_
                (try simp only [Act.put, List.setIfInBounds_toArray, List.set_cons_succ, List.set_cons_zero])
                refine wpAnyH_take (i := 8) (oi := ⟨some 92, _, _, _, _, _⟩) (v := undef) rfl (by kernel_rfl) (by kernel_rfl) (by kernel_rfl) (fun _ _ _ h => h) (Or.inr ⟨by kernel_rfl, rfl⟩) (by assumption) ?_
                (try simp only [Act.put, List.setIfInBounds_toArray, List.set_cons_succ, List.set_cons_zero])
                refine wpAnyH_take (i := 9) (oi := ⟨some 93, _, _, _, _, _⟩) (v := undef) rfl (by kernel_rfl) (by kernel_rfl) (by kernel_rfl) (fun _ _ _ h => h) (Or.inr ⟨by kernel_rfl, rfl⟩) (by assumption) ?_
                (try simp only [Act.put, List.setIfInBounds_toArray, List.set_cons_succ, List.set_cons_zero])
                refine wpAnyH_take (i := 10) (oi := ⟨some 94, _, _, _, _, _⟩) (v := undef) rfl (by kernel_rfl) (by kernel_rfl) (by kernel_rfl) (fun _ _ _ h => h) (Or.inr ⟨by kernel_rfl, rfl⟩) (by assumption) ?_
                (try simp only [Act.put, List.setIfInBounds_toArray, List.set_cons_succ, List.set_cons_zero])
                refine wpAnyH_take (i := 11) (oi := ⟨some 95, _, _, _, _, _⟩) (v := undef) rfl (by kernel_rfl) (by kernel_rfl) (by kernel_rfl) (fun _ _ _ h => h) (Or.inr ⟨by kernel_rfl, rfl⟩) (by assumption) ?_
                (try simp only [Act.put, List.setIfInBounds_toArray, List.set_cons_succ, List.set_cons_zero])
                refine wpAnyH_take (i := 12) (oi := ⟨some 96, _, _, _, _, _⟩) (v := undef) rfl (by kernel_rfl) (by kernel_rfl) (by kernel_rfl) (fun _ _ _ h => h) (Or.inr ⟨by kernel_rfl, rfl⟩) (by assumption) ?_
                (try simp only [Act.put, List.setIfInBounds_toArray, List.set_cons_succ, List.set_cons_zero])
                refine wpAnyH_take (i := 13) (oi := ⟨some 97, _, _, _, _, _⟩) (v := ?_) rfl (by kernel_rfl) (by kernel_rfl) (by kernel_rfl) (fun _ _ _ h => h) (Or.inl ⟨by kernel_rfl, ?_⟩) (by assumption) ?_
                rotate_left 1
                · (intro w hSw; (try dsimp only at hSw); go_simp) <;> (with_reducible rfl)
                (try simp only [Act.put, List.setIfInBounds_toArray, List.set_cons_succ, List.set_cons_zero])
                refine wpAnyH_take (i := 14) (oi := ⟨some 98, _, _, _, _, _⟩) (v := ?_) rfl (by kernel_rfl) (by kernel_rfl) (by kernel_rfl) (fun _ _ _ h => h) (Or.inl ⟨by kernel_rfl, ?_⟩) (by assumption) ?_
                rotate_left 1
                · (intro w hSw; (try dsimp only at hSw); go_simp) <;> (with_reducible rfl)
                (try simp only [Act.put, List.setIfInBounds_toArray, List.set_cons_succ, List.set_cons_zero])
                refine wpAnyH_take (i := 15) (oi := ⟨some 99, _, _, _, _, _⟩) (v := ?_) rfl (by kernel_rfl) (by kernel_rfl) (by kernel_rfl) (fun _ _ _ h => h) (Or.inl ⟨by kernel_rfl, ?_⟩) (by assumption) ?_
                rotate_left 1
                · (intro w hSw; (try dsimp only at hSw); go_simp) <;> (with_reducible rfl)
                (try simp only [Act.put, List.setIfInBounds_toArray, List.set_cons_succ, List.set_cons_zero])
                refine wpAnyH_take (i := 16) (oi := ⟨some 100, _, _, _, _, _⟩) (v := ?_) rfl (by kernel_rfl) (by kernel_rfl) (by kernel_rfl) (fun _ _ _ h => h) (Or.inl ⟨by kernel_rfl, ?_⟩) (by assumption) ?_
                rotate_left 1
                · (intro w hSw; (try dsimp only at hSw); go_simp) <;> (with_reducible rfl)
                (try simp only [Act.put, List.setIfInBounds_toArray, List.set_cons_succ, List.set_cons_zero])
                refine wpAnyH_take (i := 18) (oi := ⟨some 102, _, _, _, _, _⟩) (v := ?_) rfl (by kernel_rfl) (by kernel_rfl) (by kernel_rfl) (fun _ _ _ h => h) (Or.inl ⟨by kernel_rfl, ?_⟩) (by assumption) ?_
                rotate_left 1
                · (intro w hSw; (try dsimp only at hSw); go_simp) <;> (with_reducible rfl)
                (try simp only [Act.put, List.setIfInBounds_toArray, List.set_cons_succ, List.set_cons_zero])
                refine wpAnyH_take (i := 19) (oi := ⟨some 103, _, _, _, _, _⟩) (v := ?_) rfl (by kernel_rfl) (by kernel_rfl) (by kernel_rfl) (fun _ _ _ h => h) (Or.inl ⟨by kernel_rfl, ?_⟩) (by assumption) ?_
                rotate_left 1
                · (intro w hSw; (try dsimp only at hSw); go_simp) <;> (with_reducible rfl)
                (try simp only [Act.put, List.setIfInBounds_toArray, List.set_cons_succ, List.set_cons_zero])
                refine wpAnyH_ready (rs := [17]) (by kernel_rfl) (by simp) ?_
                refine AllReadyH.cons (o := _) rfl (fun K' hK => ?_) AllReadyH.nil
                go_simp
                refine (UB.out _ KK.out).mono ?_
                rintro e y17 ⟨u, rfl, hu, hb⟩
                obtain ⟨A17, d17, rfl⟩ := hu.form
                have Q1 := hide (bs_own hu)
                replace KK := hide (btrans KK.out hb)
                clear hu hb
                refine hK.out _ _ ?_ (fun hHeld => ?_)
                · exact CE.out _ KK.out
                clear hK K'
                (try simp only [Act.put, List.setIfInBounds_toArray, List.set_cons_succ, List.set_cons_zero])
                refine wpAnyH_ready (rs := [20]) (by kernel_rfl) (by simp) ?_
                refine AllReadyH.cons (o := _) rfl (fun K' hK => ?_) AllReadyH.nil
                go_simp
                refine (UD.out _ KK.out).mono ?_
                rintro e y20 ⟨u, rfl, hu, hb⟩
                obtain ⟨A20, d20, rfl⟩ := hu.form
                have Q2 := hide (bs_own hu)
                replace KK := hide (btrans KK.out hb)
                replace Q1 := hide (Q1.out.below hb)
                clear hu hb
                refine hK.out _ _ ?_ (fun hHeld => ?_)
                · exact CE.out _ KK.out
                clear hK K'
                (try simp only [Act.put, List.setIfInBounds_toArray, List.set_cons_succ, List.set_cons_zero])
                refine wpAnyH_ready (rs := [21]) (by kernel_rfl) (by simp) ?_
                refine AllReadyH.cons (o := _) rfl (fun K' hK => ?_) AllReadyH.nil
                go_simp
                refine (sbytes _ _ _ _ _ _ Q1.out Q2.out HL2.out).mono ?_
                rintro e y21 ⟨rfl, hb⟩
                replace KK := hide (btrans KK.out hb)
                clear hb Q1 Q2
                refine hK.out _ _ ?_ (fun hHeld => ?_)
                · exact CE.out _ KK.out
                clear hK K'
                (try simp only [Act.put, List.setIfInBounds_toArray, List.set_cons_succ, List.set_cons_zero])
                refine wpAnyH_take (i := 22) (oi := ⟨some 106, _, _, _, _, _⟩) (v := ?_) rfl (by kernel_rfl) (by kernel_rfl) (by kernel_rfl) (fun _ _ _ h => h) (Or.inl ⟨by kernel_rfl, ?_⟩) (by assumption) ?_
                rotate_left 1
                · (intro w hSw; (try dsimp only at hSw); go_simp) <;> (with_reducible rfl)
                (try simp only [Act.put, List.setIfInBounds_toArray, List.set_cons_succ, List.set_cons_zero])
                refine wpAnyH_take (i := 23) (oi := ⟨some 107, _, _, _, _, _⟩) (v := ?_) rfl (by kernel_rfl) (by kernel_rfl) (by kernel_rfl) (fun _ _ _ h => h) (Or.inl ⟨by kernel_rfl, ?_⟩) (by assumption) ?_
                rotate_left 1
                · (intro w hSw; (try dsimp only at hSw); go_simp) <;> (with_reducible rfl)
                (try simp only [Act.put, List.setIfInBounds_toArray, List.set_cons_succ, List.set_cons_zero])
                refine wpAnyH_done (by kernel_rfl) ?_ _
                refine NoPanic.normal ?_
                go_wp2
                go_roundw
                case rel => exact ⟨k + 1, by omega, by go_num, KK⟩
                case measure => simp [intOf]; omega
              | false =>
                have CE := CE0
                rw [hbo] at CE
                rw [DUAk.out hbo] at UA
                clear CE0 hbo DUAk
                generalize ctD D (k : Int) = l1 at *
                generalize duD D (k : Int) = l2 at *
                refine wp_region_noPanic ?_
                refine wp_region_held_drew (S := (fun W => W.cell? ⟨ob, k, none⟩ = some (.bool false) ∧ W.cell? ⟨ga, 0, none⟩ = some (.int .i64 Fa.dep) ∧ W.cell? ⟨ga, 1, none⟩ = some (.int .i64 Fa.nxt) ∧ W.cell? ⟨ga, 2, none⟩ = some (.slice P1 Fa.bl.length p1) ∧ W.cell? ⟨ga, 3, none⟩ = some (.slice P2 Fa.ca.length p2) ∧ W.cell? ⟨ga, 4, none⟩ = some (.slice P3 Fa.qu.length p3) ∧ W.cell? ⟨g, 0, none⟩ = some (.int .i64 D.dep) ∧ W.cell? ⟨g, 1, none⟩ = some (.int .i64 D.nxt) ∧ W.cell? ⟨g, 2, none⟩ = some (.slice E1 D.bl.length g1) ∧ W.cell? ⟨g, 3, none⟩ = some (.slice E2 D.ca.length g2) ∧ W.cell? ⟨g, 4, none⟩ = some (.slice E3 D.qu.length g3) ∧ W.cell? ⟨gb, 0, none⟩ = some (.int .i64 Fb.dep) ∧ W.cell? ⟨gb, 1, none⟩ = some (.int .i64 Fb.nxt) ∧ W.cell? ⟨gb, 2, none⟩ = some (.slice R1 Fb.bl.length r1) ∧ W.cell? ⟨gb, 3, none⟩ = some (.slice R2 Fb.ca.length r2) ∧ W.cell? ⟨gb, 4, none⟩ = some (.slice R3 Fb.qu.length r3))) (by kernel_rfl) ?_ (fun hHeld => ?_)
                · exact CE.out _ (btrans KW.out (below_drew (brefl wr)))
                have KK := hide (btrans KW.out (below_drew (brefl wr)))
                generalize wr.drew = wz at *
                refine wpAnyH_take (i := 0) (oi := ⟨some 84, _, _, _, _, _⟩) (v := ?_) rfl (by kernel_rfl) (by kernel_rfl) (by kernel_rfl) (fun _ _ _ h => h) (Or.inl ⟨by kernel_rfl, ?_⟩) (by assumption) ?_
                rotate_left 1
                · (intro w hSw; (try dsimp only at hSw); go_simp) <;> (with_reducible rfl)
                (try simp only [Act.put, List.setIfInBounds_toArray, List.set_cons_succ, List.set_cons_zero])
                refine wpAnyH_take (i := 1) (oi := ⟨some 85, _, _, _, _, _⟩) (v := ?_) rfl (by kernel_rfl) (by kernel_rfl) (by kernel_rfl) (fun _ _ _ h => h) (Or.inl ⟨by kernel_rfl, ?_⟩) (by assumption) ?_
                rotate_left 1
                · (intro w hSw; (try dsimp only at hSw); go_simp) <;> (with_reducible rfl)
                (try simp only [Act.put, List.setIfInBounds_toArray, List.set_cons_succ, List.set_cons_zero])
                refine wpAnyH_take (i := 2) (oi := ⟨some 86, _, _, _, _, _⟩) (v := ?_) rfl (by kernel_rfl) (by kernel_rfl) (by kernel_rfl) (fun _ _ _ h => h) (Or.inl ⟨by kernel_rfl, ?_⟩) (by assumption) ?_
                rotate_left 1
                · (intro w hSw; (try dsimp only at hSw); go_simp) <;> (with_reducible rfl)
                (try simp only [Act.put, List.setIfInBounds_toArray, List.set_cons_succ, List.set_cons_zero])
                refine wpAnyH_take (i := 3) (oi := ⟨some 87, _, _, _, _, _⟩) (v := ?_) rfl (by kernel_rfl) (by kernel_rfl) (by kernel_rfl) (fun _ _ _ h => h) (Or.inl ⟨by kernel_rfl, ?_⟩) (by assumption) ?_
                rotate_left 1
                · (intro w hSw; (try dsimp only at hSw); go_simp) <;> (with_reducible rfl)
                (try simp only [Act.put, List.setIfInBounds_toArray, List.set_cons_succ, List.set_cons_zero])
                refine wpAnyH_take (i := 4) (oi := ⟨some 88, _, _, _, _, _⟩) (v := ?_) rfl (by kernel_rfl) (by kernel_rfl) (by kernel_rfl) (fun _ _ _ h => h) (Or.inl ⟨by kernel_rfl, ?_⟩) (by assumption) ?_
                rotate_left 1
                · (intro w hSw; (try dsimp only at hSw); go_simp) <;> (with_reducible rfl)
                (try simp only [Act.put, List.setIfInBounds_toArray, List.set_cons_succ, List.set_cons_zero])
                refine wpAnyH_take (i := 5) (oi := ⟨some 89, _, _, _, _, _⟩) (v := ?_) rfl (by kernel_rfl) (by kernel_rfl) (by kernel_rfl) (fun _ _ _ h => h) (Or.inl ⟨by kernel_rfl, ?_⟩) (by assumption) ?_
                rotate_left 1
                · (intro w hSw; (try dsimp only at hSw); go_simp) <;> (with_reducible rfl)
                (try simp only [Act.put, List.setIfInBounds_toArray, List.set_cons_succ, List.set_cons_zero])
                refine wpAnyH_take (i := 6) (oi := ⟨some 90, _, _, _, _, _⟩) (v := ?_) rfl (by kernel_rfl) (by kernel_rfl) (by kernel_rfl) (fun _ _ _ h => h) (Or.inl ⟨by kernel_rfl, ?_⟩) (by assumption) ?_
                rotate_left 1
                · (intro w hSw; (try dsimp only at hSw); go_simp) <;> (with_reducible rfl)
                (try simp only [Act.put, List.setIfInBounds_toArray, List.set_cons_succ, List.set_cons_zero])
                refine wpAnyH_take (i := 8) (oi := ⟨some 92, _, _, _, _, _⟩) (v := ?_) rfl (by kernel_rfl) (by kernel_rfl) (by kernel_rfl) (fun _ _ _ h => h) (Or.inl ⟨by kernel_rfl, ?_⟩) (by assumption) ?_
                rotate_left 1
                · (intro w hSw; (try dsimp only at hSw); go_simp) <;> (with_reducible rfl)
                (try simp only [Act.put, List.setIfInBounds_toArray, List.set_cons_succ, List.set_cons_zero])
                refine wpAnyH_take (i := 9) (oi := ⟨some 93, _, _, _, _, _⟩) (v := ?_) rfl (by kernel_rfl) (by kernel_rfl) (by kernel_rfl) (fun _ _ _ h => h) (Or.inl ⟨by kernel_rfl, ?_⟩) (by assumption) ?_
                rotate_left 1
                · (intro w hSw; (try dsimp only at hSw); go_simp) <;> (with_reducible rfl)
                (try simp only [Act.put, List.setIfInBounds_toArray, List.set_cons_succ, List.set_cons_zero])
                refine wpAnyH_ready (rs := [7]) (by kernel_rfl) (by simp) ?_
                refine AllReadyH.cons (o := _) rfl (fun K' hK => ?_) AllReadyH.nil
                go_simp
                refine (UA.out _ KK.out).mono ?_
                rintro e y7 ⟨u, rfl, hu, hb⟩
                obtain ⟨A7, d7, rfl⟩ := hu.form
                have P1 := hide (bs_own hu)
                replace KK := hide (btrans KK.out hb)
                clear hu hb
                refine hK.out _ _ ?_ (fun hHeld => ?_)
                · exact CE.out _ KK.out
                clear hK K'
                (try simp only [Act.put, List.setIfInBounds_toArray, List.set_cons_succ, List.set_cons_zero])
                refine wpAnyH_ready (rs := [10]) (by kernel_rfl) (by simp) ?_
                refine AllReadyH.cons (o := _) rfl (fun K' hK => ?_) AllReadyH.nil
                go_simp
                refine (CD.out _ KK.out).mono ?_
                rintro e y10 ⟨u, rfl, hu, hb⟩
                obtain ⟨A10, d10, rfl⟩ := hu.form
                have P2 := hide (bs_own hu)
                replace KK := hide (btrans KK.out hb)
                replace P1 := hide (P1.out.below hb)
                clear hu hb
                refine hK.out _ _ ?_ (fun hHeld => ?_)
                · exact CE.out _ KK.out
                clear hK K'
                (try simp only [Act.put, List.setIfInBounds_toArray, List.set_cons_succ, List.set_cons_zero])
                refine wpAnyH_ready (rs := [11]) (by kernel_rfl) (by simp) ?_
                refine AllReadyH.cons (o := _) rfl (fun K' hK => ?_) AllReadyH.nil
                go_simp
                refine (sbytes _ _ _ _ _ _ P1.out P2.out HL1.out).mono ?_
                rintro e y11 ⟨rfl, hb⟩
                replace KK := hide (btrans KK.out hb)
                clear hb P1 P2
                refine hK.out _ _ ?_ (fun hHeld => ?_)
                · exact CE.out _ KK.out
                clear hK K'
                (try simp only [Act.put, List.setIfInBounds_toArray, List.set_cons_succ, List.set_cons_zero])
                refine wpAnyH_take (i := 12) (oi := ⟨some 96, _, _, _, _, _⟩) (v := ?_) rfl (by kernel_rfl) (by kernel_rfl) (by kernel_rfl) (fun _ _ _ h => h) (Or.inl ⟨by kernel_rfl, ?_⟩) (by assumption) ?_
                rotate_left 1
                · (intro w hSw; (try dsimp only at hSw); go_simp) <;> (with_reducible rfl)
                (try simp only [Act.put, List.setIfInBounds_toArray, List.set_cons_succ, List.set_cons_zero])
                refine wpAnyH_take (i := 13) (oi := ⟨some 97, _, _, _, _, _⟩) (v := ?_) rfl (by kernel_rfl) (by kernel_rfl) (by kernel_rfl) (fun _ _ _ h => h) (Or.inl ⟨by kernel_rfl, ?_⟩) (by assumption) ?_
                rotate_left 1
                · (intro w hSw; (try dsimp only at hSw); go_simp) <;> (with_reducible rfl)
                (try simp only [Act.put, List.setIfInBounds_toArray, List.set_cons_succ, List.set_cons_zero])
                refine wpAnyH_take (i := 14) (oi := ⟨some 98, _, _, _, _, _⟩) (v := ?_) rfl (by kernel_rfl) (by kernel_rfl) (by kernel_rfl) (fun _ _ _ h => h) (Or.inl ⟨by kernel_rfl, ?_⟩) (by assumption) ?_
                rotate_left 1
                · (intro w hSw; (try dsimp only at hSw); go_simp) <;> (with_reducible rfl)
                (try simp only [Act.put, List.setIfInBounds_toArray, List.set_cons_succ, List.set_cons_zero])
                refine wpAnyH_take (i := 15) (oi := ⟨some 99, _, _, _, _, _⟩) (v := ?_) rfl (by kernel_rfl) (by kernel_rfl) (by kernel_rfl) (fun _ _ _ h => h) (Or.inl ⟨by kernel_rfl, ?_⟩) (by assumption) ?_
                rotate_left 1
                · (intro w hSw; (try dsimp only at hSw); go_simp) <;> (with_reducible rfl)
                (try simp only [Act.put, List.setIfInBounds_toArray, List.set_cons_succ, List.set_cons_zero])
                refine wpAnyH_take (i := 16) (oi := ⟨some 100, _, _, _, _, _⟩) (v := ?_) rfl (by kernel_rfl) (by kernel_rfl) (by kernel_rfl) (fun _ _ _ h => h) (Or.inl ⟨by kernel_rfl, ?_⟩) (by assumption) ?_
                rotate_left 1
                · (intro w hSw; (try dsimp only at hSw); go_simp) <;> (with_reducible rfl)
                (try simp only [Act.put, List.setIfInBounds_toArray, List.set_cons_succ, List.set_cons_zero])
                refine wpAnyH_take (i := 18) (oi := ⟨some 102, _, _, _, _, _⟩) (v := ?_) rfl (by kernel_rfl) (by kernel_rfl) (by kernel_rfl) (fun _ _ _ h => h) (Or.inl ⟨by kernel_rfl, ?_⟩) (by assumption) ?_
                rotate_left 1
                · (intro w hSw; (try dsimp only at hSw); go_simp) <;> (with_reducible rfl)
                (try simp only [Act.put, List.setIfInBounds_toArray, List.set_cons_succ, List.set_cons_zero])
                refine wpAnyH_take (i := 19) (oi := ⟨some 103, _, _, _, _, _⟩) (v := ?_) rfl (by kernel_rfl) (by kernel_rfl) (by kernel_rfl) (fun _ _ _ h => h) (Or.inl ⟨by kernel_rfl, ?_⟩) (by assumption) ?_
                rotate_left 1
                · (intro w hSw; (try dsimp only at hSw); go_simp) <;> (with_reducible rfl)
                (try simp only [Act.put, List.setIfInBounds_toArray, List.set_cons_succ, List.set_cons_zero])
                refine wpAnyH_ready (rs := [17]) (by kernel_rfl) (by simp) ?_
                refine AllReadyH.cons (o := _) rfl (fun K' hK => ?_) AllReadyH.nil
                go_simp
                refine (UB.out _ KK.out).mono ?_
                rintro e y17 ⟨u, rfl, hu, hb⟩
                obtain ⟨A17, d17, rfl⟩ := hu.form
                have Q1 := hide (bs_own hu)
                replace KK := hide (btrans KK.out hb)
                clear hu hb
                refine hK.out _ _ ?_ (fun hHeld => ?_)
                · exact CE.out _ KK.out
                clear hK K'
                (try simp only [Act.put, List.setIfInBounds_toArray, List.set_cons_succ, List.set_cons_zero])
                refine wpAnyH_ready (rs := [20]) (by kernel_rfl) (by simp) ?_
                refine AllReadyH.cons (o := _) rfl (fun K' hK => ?_) AllReadyH.nil
                go_simp
                refine (UD.out _ KK.out).mono ?_
                rintro e y20 ⟨u, rfl, hu, hb⟩
                obtain ⟨A20, d20, rfl⟩ := hu.form
                have Q2 := hide (bs_own hu)
                replace KK := hide (btrans KK.out hb)
                replace Q1 := hide (Q1.out.below hb)
                clear hu hb
                refine hK.out _ _ ?_ (fun hHeld => ?_)
                · exact CE.out _ KK.out
                clear hK K'
                (try simp only [Act.put, List.setIfInBounds_toArray, List.set_cons_succ, List.set_cons_zero])
                refine wpAnyH_ready (rs := [21]) (by kernel_rfl) (by simp) ?_
                refine AllReadyH.cons (o := _) rfl (fun K' hK => ?_) AllReadyH.nil
                go_simp
                refine (sbytes _ _ _ _ _ _ Q1.out Q2.out HL2.out).mono ?_
                rintro e y21 ⟨rfl, hb⟩
                replace KK := hide (btrans KK.out hb)
                clear hb Q1 Q2
                refine hK.out _ _ ?_ (fun hHeld => ?_)
                · exact CE.out _ KK.out
                clear hK K'
                (try simp only [Act.put, List.setIfInBounds_toArray, List.set_cons_succ, List.set_cons_zero])
                refine wpAnyH_take (i := 22) (oi := ⟨some 106, _, _, _, _, _⟩) (v := ?_) rfl (by kernel_rfl) (by kernel_rfl) (by kernel_rfl) (fun _ _ _ h => h) (Or.inl ⟨by kernel_rfl, ?_⟩) (by assumption) ?_
                rotate_left 1
                · (intro w hSw; (try dsimp only at hSw); go_simp) <;> (with_reducible rfl)
                (try simp only [Act.put, List.setIfInBounds_toArray, List.set_cons_succ, List.set_cons_zero])
                refine wpAnyH_take (i := 23) (oi := ⟨some 107, _, _, _, _, _⟩) (v := ?_) rfl (by kernel_rfl) (by kernel_rfl) (by kernel_rfl) (fun _ _ _ h => h) (Or.inl ⟨by kernel_rfl, ?_⟩) (by assumption) ?_
                rotate_left 1
                · (intro w hSw; (try dsimp only at hSw); go_simp) <;> (with_reducible rfl)
                (try simp only [Act.put, List.setIfInBounds_toArray, List.set_cons_succ, List.set_cons_zero])
                refine wpAnyH_done (by kernel_rfl) ?_ _
                refine NoPanic.normal ?_
                go_wp2
                go_roundw
                case rel => exact ⟨k + 1, by omega, by go_num, KK⟩
                case measure => simp [intOf]; omega
            · obtain rfl : k = 4 := by omega
              obtain ⟨x0, x1, x2, x3, x4⟩ := box5_cells (W' := wr) (BA.out.below KW.out)
              have HB := hide (btrans KA8.out.below KW.out)
              go_wp2_with fail
              refine (CHC.out wr KW.out).mono ?_
              rintro e w9 ⟨rfl, hb9⟩
              have BA9 := hide (BA.out.below (btrans KW.out hb9))
              have a1 := BA9.out.cell 1
              have a4 := BA9.out.cell 4
              have d1' := (KA8.out.box.below (btrans KW.out hb9)).cell 1
              simp at a1 a4 d1'
              have K9 := hide (btrans HB.out hb9)
              have qa := QA.out
              have na := NA.out
              clear x0 x1 x2 x3 x4 hb9
              go_wp2
              go_ret
              exact ⟨rfl, K9.out⟩
end Go.Proofs.Ytnegigcjeoenmaa.Dv
