import Derived.Test.YtclkflnonckajaaL5
import Derived.Test.YtclkflnonckajaaMath2
namespace Go.Proofs.Ytclkflnonckajaa.Ac
open Go Go.RowKit
set_option linter.unusedVariables false
set_option linter.unusedSimpArgs false
theorem kc_as_sm {L : List A5} {x : Int} {f : Nat → Int} : ∀ n : Nat, kc L x f n = sm (fun j => if 0 < j ∧ pa L j = x then f j else 0) n
  | 0 => rfl
  | n + 1 => by show kc L x f n + _ = sm _ n + _; rw [kc_as_sm n]
theorem sm_zero : ∀ n : Nat, sm (fun _ => 0) n = 0
  | 0 => rfl
  | n + 1 => by show sm (fun _ => 0) n + 0 = 0; rw [sm_zero n]; rfl
theorem sm_swap {F : Nat → Nat → Int} (m : Nat) : ∀ n : Nat, sm (fun x => sm (fun j => F x j) m) n = sm (fun j => sm (fun x => F x j) n) m
  | 0 => (sm_zero m).symm
  | n + 1 => by
    show sm _ n + sm (fun j => F n j) m = sm (fun j => sm (fun x => F x j) n + F n j) m
    rw [sm_add (f := fun j => sm (fun x => F x j) n) (g := fun j => F n j), sm_swap m n]
theorem sm_sub {f g : Nat → Int} : ∀ n : Nat, sm (fun i => f i - g i) n = sm f n - sm g n
  | 0 => rfl
  | n + 1 => by show sm _ n + (f n - g n) = (sm f n + f n) - (sm g n + g n); rw [sm_sub n]; omega
theorem sm_pt {p : Nat} (z : Int) (n : Nat) (h : p < n) : sm (fun x => if (p : Int) = (x : Nat) then z else 0) n = z := by
  have e : sm (fun x => if (p : Int) = (x : Nat) then z else 0) n = sm (fun x => if x = p then z else 0) n := sm_congr n fun i _ => by
    show (if (p : Int) = (i : Nat) then z else 0) = (if i = p then z else 0)
    by_cases c : i = p
    · rw [if_pos c, if_pos (by rw [c])]
    · rw [if_neg c, if_neg (by omega)]
  rw [e, sm_one (fun _ => z), if_pos h]
theorem sm_tail {f : Nat → Int} : ∀ n : Nat, sm (fun j => if 0 < j then f j else 0) (n + 1) = sm f (n + 1) - f 0
  | 0 => by show (0 : Int) + (if 0 < 0 then f 0 else 0) = 0 + f 0 - f 0; rw [if_neg (by omega)]; omega
  | n + 1 => by
    show sm _ (n + 1) + (if 0 < n + 1 then f (n + 1) else 0) = sm f (n + 1) + f (n + 1) - f 0
    rw [sm_tail n, if_pos (by omega)]; omega
/-- the own usages add up to that of the root -/
theorem own_sum {L : List A5} (V : Vd L) : sm (own L) L.length = us L 0 := by
  have e1 : sm (own L) L.length = sm (us L) L.length - sm (fun x => kc L (x : Nat) (us L) L.length) L.length := sm_sub (f := us L) (g := fun x => kc L (x : Nat) (us L) L.length) L.length
  have e2 : sm (fun x => kc L (x : Nat) (us L) L.length) L.length = sm (fun x => sm (fun j => if 0 < j ∧ pa L j = (x : Nat) then us L j else 0) L.length) L.length := sm_congr _ fun x _ => kc_as_sm _
  rw [e1, e2, sm_swap (F := fun x j => if 0 < j ∧ pa L j = (x : Nat) then us L j else 0)]
  have e3 : sm (fun j => sm (fun x => if 0 < j ∧ pa L j = (x : Nat) then us L j else 0) L.length) L.length = sm (fun j => if 0 < j then us L j else 0) L.length := sm_congr _ fun j hj => by
    show sm (fun x => if 0 < j ∧ pa L j = (x : Nat) then us L j else 0) L.length = if 0 < j then us L j else 0
    by_cases h0 : 0 < j
    · have hp := V.tr.2 j hj h0
      rw [if_pos h0]
      refine Eq.trans ?_ (sm_pt (p := (pa L j).toNat) (us L j) L.length (by omega))
      refine sm_congr _ fun x _ => ?_
      show (if 0 < j ∧ pa L j = (x : Nat) then us L j else 0) = (if ((pa L j).toNat : Int) = (x : Nat) then us L j else 0)
      by_cases c : pa L j = (x : Nat)
      · rw [if_pos ⟨h0, c⟩, if_pos (by omega)]
      · rw [if_neg (fun h => c h.2), if_neg (by omega)]
    · rw [if_neg h0]
      exact (sm_congr _ fun x _ => if_neg (fun (h : 0 < j ∧ pa L j = (x : Nat)) => h0 h.1)).trans (sm_zero L.length)
  rw [e3]
  obtain ⟨n, hn⟩ : ∃ n, L.length = n + 1 := ⟨L.length - 1, by have := V.len.1; omega⟩
  rw [hn, sm_tail]
  omega
theorem own_bd {L : List A5} (V : Vd L) (i : Nat) (hi : i ≤ L.length) : 0 ≤ sm (own L) i ∧ sm (own L) i ≤ 8388608 := by
  have h1 := sm_nonneg (f := own L) i (fun j hj => V.sta j (by omega))
  have h2 := sm_le (f := own L) 1048576 i (fun j hj => (own_in V (k := j) (by omega)).2)
  have := V.len.2
  omega
theorem uc_vd {L : List A5} {a n : Int} (h : ucE L a n = 0) : Vd (adL L a (-n)) ∧ ucL L a n = adL L a (-n) := by
  by_cases h0 : arE L a n = 0
  · obtain ⟨q, hi⟩ := arE_ok h0
    have V := vd_of q.1
    by_cases ho : n > own L a.toNat
    · have := (uc_stop h0 ho).1; omega
    · refine ⟨vd_ad V q.2.1 q.2.2 (fun x hx => ?_) (by omega), (uc_ok h0 ho).2⟩
      have hxr := (PIn.pth V q.2.1 q.2.2).mem x hx
      have := V.lim x.toNat (by omega)
      unfold inr at hi
      omega
  · have := (uc_bad h0).1; omega
theorem cell_lt {w : World} {b o : Nat} {v : Value} (h : w.cell? ⟨b, o, none⟩ = some v) : b < w.heap.size := by
  rcases Nat.lt_or_ge b w.heap.size with h1 | h1
  · exact h1
  · exfalso
    have h2 : w.heap[b]? = Option.none := Array.getElem?_eq_none h1
    simp [World.cell?, h2] at h
set_option maxRecDepth 100000 in
set_option maxHeartbeats 40000000 in
theorem law_limits (A : Option Addr) (cp : Nat) (L : List A5) (AO : Option Addr) (co : Nat) (O : List O3) (W : World) (h : AIn W A L cp) (ho : OpsR W AO O) (hol : O.length ≤ 9223372036854775807) : Calls Try.prog 6 #[.slice A L.length cp, .slice AO O.length co] W fun e w' => e = .returned (.bool true) ∧ Below W.heap.size W w' := by
  have HO := hide (fun k (hk : k < O.length) w' (hb : Below W.heap.size W w') => ho.cells hb hk)
  clear ho
  have AWK := hide (fun w => awake_any w)
  have C0 := hide (fun w => few_any A L.length cp w h.len)
  have HR := hide (fun w' (hb : Below W.heap.size W w') => h.rd.below hb)
  have HCP := hide h.cap
  have HN := hide h.len
  have K := hide (brefl W)
  by_cases h20 : (L.length : Int) ≤ 20
  · have d20 := decide_eq_true h20
    rw [d20] at C0
    clear h20 d20 h
    by_cases h40 : (40 : Int) < (O.length : Int)
    · have HN' := hide hol
      go_enter Try.func6, Try.ntmps6
      go_wp2_with fail
      refine (AWK.out _).mono ?_
      rintro e w1 ⟨rfl, hb⟩
      replace K := hide (btrans K.out hb)
      clear hb
      go_wp2_with fail
      refine (C0.out _).mono ?_
      rintro e w2 ⟨rfl, rfl⟩
      go_wp2_with fail
      refine (AWK.out _).mono ?_
      rintro e w8 ⟨rfl, hb⟩
      replace K := hide (btrans K.out hb)
      clear hb
      go_wp2
      go_ret
      exact ⟨rfl, K.out⟩
    · have ho40 : O.length ≤ 40 := by omega
      by_cases hc : chE L = 0
      · have HM0 := hide (vd_of hc)
        have HCC := hide hc
        clear hc
        go_enter Try.func6, Try.ntmps6
        go_wp2_with fail
        refine (AWK.out _).mono ?_
        rintro e w1 ⟨rfl, hb⟩
        replace K := hide (btrans K.out hb)
        clear hb
        go_wp2_with fail
        refine (C0.out _).mono ?_
        rintro e w2 ⟨rfl, rfl⟩
        go_wp2_with fail
        refine (check_any A cp L _ (HR.out _ K.out) HCP.out HN.out).mono ?_
        rintro e w2b ⟨rfl, hb⟩
        replace K := hide (btrans K.out hb)
        clear hb
        rw [HCC.out]
        clear HCC
        go_wp2
        go_loopw [0, 36] (fun s c wr => ∃ (k : Nat) (M : List A5) (AM : Option Addr) (cM : Nat), k ≤ O.length ∧ c = .int .i64 k ∧ s = .slice AM M.length cM ∧ Hid (As wr AM M) ∧ Hid (M.length ≤ cM) ∧ Hid (M.length ≤ 9223372036854775807) ∧ Hid (M.length = L.length) ∧ Hid (Vd M) ∧ Hid (Below W.heap.size W wr)) (fun _ c _ => O.length - (intOf c).toNat)
        case atStart => exact ⟨0, L, A, cp, Nat.zero_le _, rfl, rfl, hide (HR.out _ K.out), HCP, HN, hide rfl, HM0, K⟩
        case round =>
          clear K HM0
          obtain ⟨k, M, AM, cM, hk, rfl, rfl, RM, CM, NM, NL, HM, K⟩ := hrel
          by_cases hlt : k < O.length
          · have hl2 : (k : Int) < (O.length : Int) := by omega
            have hk0 : (0 : Int) ≤ (k : Int) := by omega
            have hm8 := HM.out.len.2
            obtain ⟨b, off, rfl, hbl, y0, y1, y2⟩ := HO.out k hlt _ K.out
            generalize oAt O k = o at *
            obtain ⟨ot, oa, on⟩ := o
            simp only at y0 y1 y2
            have M0 := bal (brefl wr) (.cells #[.bool ot, .int .i64 oa, .int .i64 on] 34)
            have X := hide (Box.new wr 34 #[.bool ot, .int .i64 oa, .int .i64 on])
            replace K := hide (btrans K.out M0)
            replace RM := hide (fun w' (hb : Below (wr.alloc (.cells #[.bool ot, .int .i64 oa, .int .i64 on] 34)).heap.size (wr.alloc (.cells #[.bool ot, .int .i64 oa, .int .i64 on] 34)) w') => (RM.out.below M0).below hb)
            clear M0
            go_upto_region 6 with fail
            obtain ⟨g6, hg6⟩ : ∃ g6, g6 = wr.heap.size := ⟨_, rfl⟩
            rw [← hg6] at X ⊢
            generalize wr.alloc (.cells #[.bool ot, .int .i64 oa, .int .i64 on] 34) = w3 at *
            clear hg6 y0 y1 y2
            have K3 := hide (brefl w3)
            have x0 := X.out.cell 0
            have x1 := X.out.cell 1
            have x2 := X.out.cell 2
            simp at x0 x1 x2
            cases ot with
            | false =>
              go_wp2_with fail
              refine (charge_unf AM cM M oa on _ (RM.out _ K3.out) CM.out NM.out).mono ?_
              rintro e w4 ⟨A4, c4, rfl, hO, hb⟩
              replace K := hide (btrans K.out hb)
              replace K3 := hide (btrans K3.out hb)
              replace X := hide (X.out.below hb)
              clear x0 x1 x2
              have x0 := X.out.cell 0
              have x1 := X.out.cell 1
              have x2 := X.out.cell 2
              simp at x0 x1 x2
              by_cases he : cgE M oa on = 0
              · have _u := trivial
                have HVG := hide (And.intro (cg_0 he).2.2.2.1 (cg_0 he).2.2.2.2.1)
                rw [HVG.out.2] at hO ⊢
                rw [he]
                have RG0 := OwA.as hO
                have HCG := hide (OwA.cap hO)
                have RG := hide (fun w' (h : Below w4.heap.size w4 w') => RG0.below h)
                have HV := hide HVG.out.1
                have HCH := hide (chE_0 HV.out)
                have NG := hide (adL_len (L := M) (a := oa) (n := on))
                have NGL := hide (show (adL M oa (on)).length ≤ 9223372036854775807 by rw [adL_len]; exact NM.out)
                have HF := hide (fun i (hi : i < M.length) => And.intro (adL_pa (L := M) (a := oa) (n := on) hi) (And.intro (adL_mn (L := M) (a := oa) (n := on) hi) (And.intro (adL_lo (L := M) (a := oa) (n := on) hi) (adL_mx (L := M) (a := oa) (n := on) hi))))
                clear hb hO RG0 HVG he
                generalize adL M oa (on) = G at *
                rw [NG.out]
                rw [NG.out] at HCG
                have CKG := hide (check_any A4 c4 G _ (RG.out _ (brefl _)) (by rw [NG.out]; exact HCG.out) NGL.out)
                rw [NG.out, HCH.out] at CKG
                go_wp2_with fail
                refine CKG.out.mono ?_
                rintro e wc ⟨rfl, hb⟩
                clear CKG
                replace K := hide (btrans K.out hb)
                replace K3 := hide (btrans K3.out hb)
                replace RG := hide (fun w' (h : Below wc.heap.size wc w') => RG.out w' (btrans hb h))
                clear hb x0 x1 x2 X
                have KC := hide (brefl wc)
                go_wp2
                go_loopw [10, 75] (fun s c wr => ∃ i : Nat, i ≤ M.length ∧ c = .int .i64 i ∧ s = .int .i64 (sm (own G) i) ∧ Hid (Below W.heap.size W wr) ∧ Hid (Below wc.heap.size wc wr) ∧ Hid (Below w3.heap.size w3 wr)) (fun _ c _ => M.length - (intOf c).toNat)
                case atStart => exact ⟨0, Nat.zero_le _, rfl, rfl, K, KC, K3⟩
                case round =>
                  clear K KC K3
                  obtain ⟨i, hi, rfl, rfl, K, KC, K3⟩ := hrel
                  by_cases hil : i < M.length
                  · have hil2 : (i : Int) < (M.length : Int) := by omega
                    have hi0 : (0 : Int) ≤ (i : Int) := by omega
                    have hiG : i < G.length := by rw [NG.out]; exact hil
                    obtain ⟨bg, og, hAg, hbg, z0, z1, z2, z3, z4⟩ := (RG.out _ (brefl _)).cells KC.out hiG
                    obtain ⟨bm, om, hAm, hbm, v0, v1, v2, v3, v4⟩ := (RM.out _ (brefl _)).cells K3.out hil
                    subst hAg
                    subst hAm
                    obtain ⟨f0, f1, f2, f3⟩ := HF.out i hil
                    rw [← f0] at v0
                    rw [← f1] at v2
                    rw [← f2] at v3
                    rw [← f3] at v4
                    have glim := HV.out.lim i hiG
                    have gow := own_in HV.out hiG
                    have gbd := own_bd HV.out i (by rw [NG.out]; omega)
                    have gu1 := (HV.out.rg i hiG).1.1
                    unfold inr at gu1
                    have KCI := hide (fun (j : Nat) (hj : j ≤ M.length) => kc_bd (L := G) (x := (i : Int)) (f := us G) j (by have := HV.out.len.2; rw [NG.out] at this; omega) (fun l hl => (HV.out.rg l (by rw [NG.out]; omega)).1.1))
                    have SNX := hide (show sm (own G) (i + 1) = sm (own G) i + own G i from rfl)
                    have OWD := hide (show own G i = us G i - kc G (i : Int) (us G) M.length by unfold own; rw [NG.out])
                    have OWF := hide (show oR G (i : Int) = own G i from oR_ok ⟨HCH.out, by omega, by rw [NG.out]; exact hil2⟩)
                    have OWG := hide (fun w' (h : Below wc.heap.size wc w') => ownf_any (some ⟨bg, og, none⟩) c4 G (i : Int) w' (RG.out _ h) (by rw [NG.out]; exact HCG.out) NGL.out)
                    rw [NG.out, OWF.out] at OWG
                    clear OWF v1 hbg hbm
                    generalize hsi : sm (own G) i = si at *
                    have HSI := hide hsi
                    clear hsi
                    generalize hgp : pa G i = gp at *
                    generalize hgu : us G i = gu at *
                    generalize hgm : mn G i = gm at *
                    generalize hgl : lo G i = gl at *
                    generalize hgx : mx G i = gx at *
                    clear hgp hgu hgm hgl hgx f0 f1 f2 f3
                    have M0 := bal (brefl wr) (.cells #[.int .i64 gp, .int .i64 gu, .int .i64 gm, .int .i64 gl, .int .i64 gx] 42)
                    have X := hide (Box.new wr 42 #[.int .i64 gp, .int .i64 gu, .int .i64 gm, .int .i64 gl, .int .i64 gx])
                    have VV := hide (fun w' (h : Below wr.heap.size wr w') => (⟨(h.cell (p := ⟨bm, om + i * 5, none⟩) (cell_lt v0)).trans v0, (h.cell (p := ⟨bm, om + i * 5 + 2, none⟩) (cell_lt v2)).trans v2, (h.cell (p := ⟨bm, om + i * 5 + 3, none⟩) (cell_lt v3)).trans v3, (h.cell (p := ⟨bm, om + i * 5 + 4, none⟩) (cell_lt v4)).trans v4⟩ : w'.cell? ⟨bm, om + i * 5, none⟩ = some (.int .i64 gp) ∧ w'.cell? ⟨bm, om + i * 5 + 2, none⟩ = some (.int .i64 gm) ∧ w'.cell? ⟨bm, om + i * 5 + 3, none⟩ = some (.int .i64 gl) ∧ w'.cell? ⟨bm, om + i * 5 + 4, none⟩ = some (.int .i64 gx)))
                    replace VV := hide (fun w' (h : Below (wr.alloc (.cells #[.int .i64 gp, .int .i64 gu, .int .i64 gm, .int .i64 gl, .int .i64 gx] 42)).heap.size (wr.alloc (.cells #[.int .i64 gp, .int .i64 gu, .int .i64 gm, .int .i64 gl, .int .i64 gx] 42)) w') => VV.out w' (btrans M0 h))
                    replace K := hide (btrans K.out M0)
                    replace KC := hide (btrans KC.out M0)
                    replace K3 := hide (btrans K3.out M0)
                    clear M0 v0 v2 v3 v4
                    go_upto_region 16 with fail
                    obtain ⟨q, hq⟩ : ∃ q, q = wr.heap.size := ⟨_, rfl⟩
                    rw [← hq] at X ⊢
                    generalize wr.alloc (.cells #[.int .i64 gp, .int .i64 gu, .int .i64 gm, .int .i64 gl, .int .i64 gx] 42) = wy at *
                    clear hq z0 z1 z2 z3 z4
                    have x1 := X.out.cell 1
                    simp at x1
                    have KY := hide (brefl wy)
                    have NN0 := hide (show gu = gu - kc G (i : Int) (us G) 0 by show gu = gu - 0; omega)
                    go_wp2
                    clear x1
                    go_loopw [13, 84] (fun s c wr => ∃ (j : Nat) (nn : Int), j ≤ M.length ∧ c = .int .i64 j ∧ s = .int .i64 nn ∧ Hid (nn = gu - kc G (i : Int) (us G) j) ∧ Hid (Below wy.heap.size wy wr)) (fun _ c _ => M.length - (intOf c).toNat)
                    case atStart => exact ⟨0, gu, Nat.zero_le _, rfl, rfl, NN0, KY⟩
                    case round =>
                      clear NN0 KY
                      obtain ⟨j, nn, hj, rfl, rfl, NN, KY⟩ := hrel
                      by_cases hjl : j < M.length
                      · have hjl2 : (j : Int) < (M.length : Int) := by omega
                        have hj0 : (0 : Int) ≤ (j : Int) := by omega
                        have hjG : j < G.length := by rw [NG.out]; exact hjl
                        obtain ⟨b9, o9, eA, _, z0, z1, z2, z3, z4⟩ := (RG.out _ (brefl _)).cells (btrans KC.out KY.out) hjG
                        injection eA with eA
                        injection eA with e01 e02
                        subst e01 e02
                        have kb := KCI.out j (by omega)
                        have nb : nn = gu - kc G (i : Int) (us G) j := NN.out
                        have uj := (HV.out.rg j hjG).1.1
                        unfold inr at uj
                        have n1 : -8388608 ≤ nn := by omega
                        have n2 : nn ≤ 1048576 := by omega
                        have YES := hide (fun (h0 : 0 < j) (hp : pa G j = i) => kc_yes (f := us G) h0 hp)
                        have NO := hide (fun (hp : pa G j ≠ i) => kc_no (f := us G) hp)
                        have NO0 := hide (fun (h : j = 0) => (by subst h; exact kc_1 : kc G (i : Int) (us G) (j + 1) = 0))
                        have NZ0 := hide (fun (h : j = 0) => (by subst h; rfl : kc G (i : Int) (us G) j = 0))
                        have NNH := hide nb
                        clear nb kb NN
                        generalize pa G j = jp at *
                        generalize us G j = ju at *
                        generalize mn G j = jm at *
                        generalize lo G j = jl at *
                        generalize mx G j = jx at *
                        have M0 := bal (brefl wr) (.cells #[.int .i64 jp, .int .i64 ju, .int .i64 jm, .int .i64 jl, .int .i64 jx] 42)
                        have XJ := hide (Box.new wr 42 #[.int .i64 jp, .int .i64 ju, .int .i64 jm, .int .i64 jl, .int .i64 jx])
                        replace KY := hide (btrans KY.out M0)
                        clear M0
                        go_upto_region 20 with fail
                        obtain ⟨q2, hq2⟩ : ∃ q2, q2 = wr.heap.size := ⟨_, rfl⟩
                        rw [← hq2] at XJ ⊢
                        generalize wr.alloc (.cells #[.int .i64 jp, .int .i64 ju, .int .i64 jm, .int .i64 jl, .int .i64 jx] 42) = wv at *
                        clear hq2 z0 z1 z2 z3 z4
                        have y0 := XJ.out.cell 0
                        have y1 := XJ.out.cell 1
                        simp at y0 y1
                        by_cases h0 : j = 0
                        · have d0 : ¬ 0 < j := by omega
                          have d0' : ¬ (0 : Int) < (j : Int) := by omega
                          have E := hide (show nn = gu - kc G (i : Int) (us G) (j + 1) by rw [NO0.out h0, NNH.out, NZ0.out h0])
                          clear YES NO NO0 NZ0 NNH h0
                          go_wp2
                          go_roundw
                          case rel => exact ⟨j + 1, nn, by omega, by go_num, rfl, E, KY⟩
                          case measure => simp [intOf]; omega
                        · have d0 : 0 < j := by omega
                          have d0' : (0 : Int) < (j : Int) := by omega
                          by_cases hp : jp = i
                          · have E := hide (show nn - ju = gu - kc G (i : Int) (us G) (j + 1) by rw [YES.out d0 hp, NNH.out]; omega)
                            rw [hp] at y0
                            clear YES NO NO0 NZ0 NNH h0 hp
                            go_wp2
                            go_roundw
                            case rel => exact ⟨j + 1, nn - ju, by omega, by go_num, rfl, E, KY⟩
                            case measure => simp [intOf]; omega
                          · have dp : (jp == (i : Int)) = false := by simpa using hp
                            have E := hide (show nn = gu - kc G (i : Int) (us G) (j + 1) by rw [NO.out hp, NNH.out])
                            clear YES NO NO0 NZ0 NNH h0 hp
                            go_wp2
                            go_roundw
                            case rel => exact ⟨j + 1, nn, by omega, by go_num, rfl, E, KY⟩
                            case measure => simp [intOf]; omega
                      · obtain rfl : j = M.length := by omega
                        have NO := hide (NN.out.trans OWD.out.symm)
                        have nz : nn = own G i := NO.out
                        have SNX2 := hide (show sm (own G) (i + 1) = si + nn by rw [SNX.out, nz])
                        rw [← nz] at gow OWG
                        clear NN OWD SNX nz NO
                        obtain ⟨g1, g2⟩ := gow
                        obtain ⟨g3, g4⟩ := gbd
                        have SS := hide (fun w' (h : Below wr.heap.size wr w') => (⟨(((X.out.below KY.out).below h).cell 0), (((X.out.below KY.out).below h).cell 1), (((X.out.below KY.out).below h).cell 2), (((X.out.below KY.out).below h).cell 3), (((X.out.below KY.out).below h).cell 4), VV.out w' (btrans KY.out h)⟩ : (fun W' => W'.cell? ⟨q, 0, none⟩ = some (.int .i64 gp) ∧ W'.cell? ⟨q, 1, none⟩ = some (.int .i64 gu) ∧ W'.cell? ⟨q, 2, none⟩ = some (.int .i64 gm) ∧ W'.cell? ⟨q, 3, none⟩ = some (.int .i64 gl) ∧ W'.cell? ⟨q, 4, none⟩ = some (.int .i64 gx) ∧ W'.cell? ⟨bm, om + i * 5, none⟩ = some (.int .i64 gp) ∧ W'.cell? ⟨bm, om + i * 5 + 2, none⟩ = some (.int .i64 gm) ∧ W'.cell? ⟨bm, om + i * 5 + 3, none⟩ = some (.int .i64 gl) ∧ W'.cell? ⟨bm, om + i * 5 + 4, none⟩ = some (.int .i64 gx)) w'))
                        replace OWG := hide (fun w' (h : Below wr.heap.size wr w') => OWG.out w' (btrans (btrans KC.out KY.out) h))
                        have KZ := hide (show Below wr.heap.size wr wr.drew from below_drewN (brefl wr) 1)
                        have dlim : decide (gx < gu) = false := decide_eq_false (by omega)
                        have dneg : decide (nn < 0) = false := decide_eq_false (by omega)
                        go_upto_region 23 with fail
                        refine wp_region_noPanic ?_
                        refine wp_region_held_drew (S := (fun W' => W'.cell? ⟨q, 0, none⟩ = some (.int .i64 gp) ∧ W'.cell? ⟨q, 1, none⟩ = some (.int .i64 gu) ∧ W'.cell? ⟨q, 2, none⟩ = some (.int .i64 gm) ∧ W'.cell? ⟨q, 3, none⟩ = some (.int .i64 gl) ∧ W'.cell? ⟨q, 4, none⟩ = some (.int .i64 gx) ∧ W'.cell? ⟨bm, om + i * 5, none⟩ = some (.int .i64 gp) ∧ W'.cell? ⟨bm, om + i * 5 + 2, none⟩ = some (.int .i64 gm) ∧ W'.cell? ⟨bm, om + i * 5 + 3, none⟩ = some (.int .i64 gl) ∧ W'.cell? ⟨bm, om + i * 5 + 4, none⟩ = some (.int .i64 gx))) (by kernel_rfl) ?_ (fun hHeld => ?_)
                        · exact SS.out _ KZ.out
                        generalize wr.drew = wd at *
                        refine wpAnyH_take (i := 0) (oi := ⟨some 102, _, _, _, _, _⟩) (v := ?_) rfl (by kernel_rfl) (by kernel_rfl) (by kernel_rfl) (fun _ _ _ h => h) (Or.inl ⟨by kernel_rfl, ?_⟩) (by assumption) ?_
                        rotate_left 1
                        · (intro w hSw; (try dsimp only at hSw); go_simp) <;> (with_reducible rfl)
                        (try simp only [Act.put, List.setIfInBounds_toArray, List.set_cons_succ, List.set_cons_zero])
                        refine wpAnyH_take (i := 1) (oi := ⟨some 103, _, _, _, _, _⟩) (v := ?_) rfl (by kernel_rfl) (by kernel_rfl) (by kernel_rfl) (fun _ _ _ h => h) (Or.inl ⟨by kernel_rfl, ?_⟩) (by assumption) ?_
                        rotate_left 1
                        · (intro w hSw; (try dsimp only at hSw); go_simp) <;> (with_reducible rfl)
                        (try simp only [Act.put, List.setIfInBounds_toArray, List.set_cons_succ, List.set_cons_zero])
                        refine wpAnyH_take (i := 2) (oi := ⟨some 104, _, _, _, _, _⟩) (v := ?_) rfl (by kernel_rfl) (by kernel_rfl) (by kernel_rfl) (fun _ _ _ h => h) (Or.inl ⟨by kernel_rfl, ?_⟩) (by assumption) ?_
                        rotate_left 1
                        · (intro w hSw; (try dsimp only at hSw); go_simp) <;> (with_reducible rfl)
                        (try simp only [Act.put, List.setIfInBounds_toArray, List.set_cons_succ, List.set_cons_zero])
                        refine wpAnyH_take (i := 3) (oi := ⟨some 105, _, _, _, _, _⟩) (v := ?_) rfl (by kernel_rfl) (by kernel_rfl) (by kernel_rfl) (fun _ _ _ h => h) (Or.inl ⟨by kernel_rfl, ?_⟩) (by assumption) ?_
                        rotate_left 1
                        · (intro w hSw; (try dsimp only at hSw); go_simp) <;> (with_reducible rfl)
                        (try simp only [Act.put, List.setIfInBounds_toArray, List.set_cons_succ, List.set_cons_zero])
                        refine wpAnyH_take (i := 4) (oi := ⟨some 106, _, _, _, _, _⟩) (v := ?_) rfl (by kernel_rfl) (by kernel_rfl) (by kernel_rfl) (fun _ _ _ h => h) (Or.inl ⟨by kernel_rfl, ?_⟩) (by assumption) ?_
                        rotate_left 1
                        · (intro w hSw; (try dsimp only at hSw); go_simp) <;> (with_reducible rfl)
                        (try simp only [Act.put, List.setIfInBounds_toArray, List.set_cons_succ, List.set_cons_zero])
                        refine wpAnyH_take (i := 5) (oi := ⟨some 107, _, _, _, _, _⟩) (v := ?_) rfl (by kernel_rfl) (by kernel_rfl) (by kernel_rfl) (fun _ _ _ h => h) (Or.inl ⟨by kernel_rfl, ?_⟩) (by assumption) ?_
                        rotate_left 1
                        · (intro w hSw; (try dsimp only at hSw); go_simp) <;> (with_reducible rfl)
                        (try simp only [Act.put, List.setIfInBounds_toArray, List.set_cons_succ, List.set_cons_zero])
                        refine wpAnyH_take (i := 6) (oi := ⟨some 108, _, _, _, _, _⟩) (v := ?_) rfl (by kernel_rfl) (by kernel_rfl) (by kernel_rfl) (fun _ _ _ h => h) (Or.inl ⟨by kernel_rfl, ?_⟩) (by assumption) ?_
                        rotate_left 1
                        · (intro w hSw; (try dsimp only at hSw); go_simp) <;> (with_reducible rfl)
                        (try simp only [Act.put, List.setIfInBounds_toArray, List.set_cons_succ, List.set_cons_zero])
                        refine wpAnyH_take (i := 7) (oi := ⟨some 109, _, _, _, _, _⟩) (v := ?_) rfl (by kernel_rfl) (by kernel_rfl) (by kernel_rfl) (fun _ _ _ h => h) (Or.inl ⟨by kernel_rfl, ?_⟩) (by assumption) ?_
                        rotate_left 1
                        · (intro w hSw; (try dsimp only at hSw); go_simp) <;> (with_reducible rfl)
                        (try simp only [Act.put, List.setIfInBounds_toArray, List.set_cons_succ, List.set_cons_zero])
                        refine wpAnyH_take (i := 8) (oi := ⟨some 110, _, _, _, _, _⟩) (v := ?_) rfl (by kernel_rfl) (by kernel_rfl) (by kernel_rfl) (fun _ _ _ h => h) (Or.inl ⟨by kernel_rfl, ?_⟩) (by assumption) ?_
                        rotate_left 1
                        · (intro w hSw; (try dsimp only at hSw); go_simp) <;> (with_reducible rfl)
                        (try simp only [Act.put, List.setIfInBounds_toArray, List.set_cons_succ, List.set_cons_zero])
                        refine wpAnyH_take (i := 9) (oi := ⟨some 111, _, _, _, _, _⟩) (v := ?_) rfl (by kernel_rfl) (by kernel_rfl) (by kernel_rfl) (fun _ _ _ h => h) (Or.inl ⟨by kernel_rfl, ?_⟩) (by assumption) ?_
                        rotate_left 1
                        · (intro w hSw; (try dsimp only at hSw); go_simp) <;> (with_reducible rfl)
                        (try simp only [Act.put, List.setIfInBounds_toArray, List.set_cons_succ, List.set_cons_zero])
                        refine wpAnyH_take (i := 10) (oi := ⟨some 112, _, _, _, _, _⟩) (v := ?_) rfl (by kernel_rfl) (by kernel_rfl) (by kernel_rfl) (fun _ _ _ h => h) (Or.inl ⟨by kernel_rfl, ?_⟩) (by assumption) ?_
                        rotate_left 1
                        · (intro w hSw; (try dsimp only at hSw); go_simp) <;> (with_reducible rfl)
                        (try simp only [Act.put, List.setIfInBounds_toArray, List.set_cons_succ, List.set_cons_zero])
                        refine wpAnyH_take (i := 11) (oi := ⟨some 113, _, _, _, _, _⟩) (v := ?_) rfl (by kernel_rfl) (by kernel_rfl) (by kernel_rfl) (fun _ _ _ h => h) (Or.inl ⟨by kernel_rfl, ?_⟩) (by assumption) ?_
                        rotate_left 1
                        · (intro w hSw; (try dsimp only at hSw); go_simp) <;> (with_reducible rfl)
                        (try simp only [Act.put, List.setIfInBounds_toArray, List.set_cons_succ, List.set_cons_zero])
                        refine wpAnyH_take (i := 12) (oi := ⟨some 114, _, _, _, _, _⟩) (v := ?_) rfl (by kernel_rfl) (by kernel_rfl) (by kernel_rfl) (fun _ _ _ h => h) (Or.inl ⟨by kernel_rfl, ?_⟩) (by assumption) ?_
                        rotate_left 1
                        · (intro w hSw; (try dsimp only at hSw); go_simp) <;> (with_reducible rfl)
                        (try simp only [Act.put, List.setIfInBounds_toArray, List.set_cons_succ, List.set_cons_zero])
                        refine wpAnyH_ready (rs := [13]) (by kernel_rfl) (by simp) ?_
                        refine AllReadyH.cons (o := _) rfl (fun K' hK => ?_) AllReadyH.nil
                        go_simp
                        refine (OWG.out _ KZ.out).mono ?_
                        rintro e wk ⟨rfl, hb⟩
                        replace KZ := hide (btrans KZ.out hb)
                        clear hb
                        refine hK.out _ _ ?_ (fun hHeld => ?_)
                        · exact SS.out _ KZ.out
                        clear hK K'
                        (try simp only [Act.put, List.setIfInBounds_toArray, List.set_cons_succ, List.set_cons_zero])
                        refine wpAnyH_take (i := 14) (oi := ⟨some 116, _, _, _, _, _⟩) (v := ?_) rfl (by kernel_rfl) (by kernel_rfl) (by kernel_rfl) (fun _ _ _ h => h) (Or.inl ⟨by kernel_rfl, ?_⟩) (by assumption) ?_
                        rotate_left 1
                        · (intro w hSw; (try dsimp only at hSw); go_simp) <;> (with_reducible rfl)
                        (try simp only [Act.put, List.setIfInBounds_toArray, List.set_cons_succ, List.set_cons_zero])
                        refine wpAnyH_take (i := 15) (oi := ⟨some 117, _, _, _, _, _⟩) (v := ?_) rfl (by kernel_rfl) (by kernel_rfl) (by kernel_rfl) (fun _ _ _ h => h) (Or.inl ⟨by kernel_rfl, ?_⟩) (by assumption) ?_
                        rotate_left 1
                        · (intro w hSw; (try dsimp only at hSw); go_simp) <;> (with_reducible rfl)
                        (try simp only [Act.put, List.setIfInBounds_toArray, List.set_cons_succ, List.set_cons_zero])
                        refine wpAnyH_take (i := 16) (oi := ⟨some 118, _, _, _, _, _⟩) (v := ?_) rfl (by kernel_rfl) (by kernel_rfl) (by kernel_rfl) (fun _ _ _ h => h) (Or.inl ⟨by kernel_rfl, ?_⟩) (by assumption) ?_
                        rotate_left 1
                        · (intro w hSw; (try dsimp only at hSw); go_simp) <;> (with_reducible rfl)
                        (try simp only [Act.put, List.setIfInBounds_toArray, List.set_cons_succ, List.set_cons_zero])
                        refine wpAnyH_take (i := 17) (oi := ⟨some 119, _, _, _, _, _⟩) (v := ?_) rfl (by kernel_rfl) (by kernel_rfl) (by kernel_rfl) (fun _ _ _ h => h) (Or.inl ⟨by kernel_rfl, ?_⟩) (by assumption) ?_
                        rotate_left 1
                        · (intro w hSw; (try dsimp only at hSw); go_simp) <;> (with_reducible rfl)
                        (try simp only [Act.put, List.setIfInBounds_toArray, List.set_cons_succ, List.set_cons_zero])
                        refine wpAnyH_take (i := 18) (oi := ⟨some 120, _, _, _, _, _⟩) (v := ?_) rfl (by kernel_rfl) (by kernel_rfl) (by kernel_rfl) (fun _ _ _ h => h) (Or.inl ⟨by kernel_rfl, ?_⟩) (by assumption) ?_
                        rotate_left 1
                        · (intro w hSw; (try dsimp only at hSw); go_simp) <;> (with_reducible rfl)
                        (try simp only [Act.put, List.setIfInBounds_toArray, List.set_cons_succ, List.set_cons_zero])
                        refine wpAnyH_take (i := 19) (oi := ⟨some 121, _, _, _, _, _⟩) (v := ?_) rfl (by kernel_rfl) (by kernel_rfl) (by kernel_rfl) (fun _ _ _ h => h) (Or.inl ⟨by kernel_rfl, ?_⟩) (by assumption) ?_
                        rotate_left 1
                        · (intro w hSw; (try dsimp only at hSw); go_simp) <;> (with_reducible rfl)
                        (try simp only [Act.put, List.setIfInBounds_toArray, List.set_cons_succ, List.set_cons_zero])
                        refine wpAnyH_take (i := 20) (oi := ⟨some 122, _, _, _, _, _⟩) (v := ?_) rfl (by kernel_rfl) (by kernel_rfl) (by kernel_rfl) (fun _ _ _ h => h) (Or.inl ⟨by kernel_rfl, ?_⟩) (by assumption) ?_
                        rotate_left 1
                        · (intro w hSw; (try dsimp only at hSw); go_simp) <;> (with_reducible rfl)
                        (try simp only [Act.put, List.setIfInBounds_toArray, List.set_cons_succ, List.set_cons_zero])
                        refine wpAnyH_take (i := 21) (oi := ⟨some 123, _, _, _, _, _⟩) (v := ?_) rfl (by kernel_rfl) (by kernel_rfl) (by kernel_rfl) (fun _ _ _ h => h) (Or.inl ⟨by kernel_rfl, ?_⟩) (by assumption) ?_
                        rotate_left 1
                        · (intro w hSw; (try dsimp only at hSw); go_simp) <;> (with_reducible rfl)
                        (try simp only [Act.put, List.setIfInBounds_toArray, List.set_cons_succ, List.set_cons_zero])
                        refine wpAnyH_take (i := 22) (oi := ⟨some 124, _, _, _, _, _⟩) (v := ?_) rfl (by kernel_rfl) (by kernel_rfl) (by kernel_rfl) (fun _ _ _ h => h) (Or.inl ⟨by kernel_rfl, ?_⟩) (by assumption) ?_
                        rotate_left 1
                        · (intro w hSw; (try dsimp only at hSw); go_simp) <;> (with_reducible rfl)
                        (try simp only [Act.put, List.setIfInBounds_toArray, List.set_cons_succ, List.set_cons_zero])
                        refine wpAnyH_take (i := 23) (oi := ⟨some 125, _, _, _, _, _⟩) (v := ?_) rfl (by kernel_rfl) (by kernel_rfl) (by kernel_rfl) (fun _ _ _ h => h) (Or.inl ⟨by kernel_rfl, ?_⟩) (by assumption) ?_
                        rotate_left 1
                        · (intro w hSw; (try dsimp only at hSw); go_simp) <;> (with_reducible rfl)
                        (try simp only [Act.put, List.setIfInBounds_toArray, List.set_cons_succ, List.set_cons_zero])
                        refine wpAnyH_take (i := 24) (oi := ⟨some 126, _, _, _, _, _⟩) (v := ?_) rfl (by kernel_rfl) (by kernel_rfl) (by kernel_rfl) (fun _ _ _ h => h) (Or.inl ⟨by kernel_rfl, ?_⟩) (by assumption) ?_
                        rotate_left 1
                        · (intro w hSw; (try dsimp only at hSw); go_simp) <;> (with_reducible rfl)
                        (try simp only [Act.put, List.setIfInBounds_toArray, List.set_cons_succ, List.set_cons_zero])
                        refine wpAnyH_take (i := 25) (oi := ⟨some 127, _, _, _, _, _⟩) (v := ?_) rfl (by kernel_rfl) (by kernel_rfl) (by kernel_rfl) (fun _ _ _ h => h) (Or.inl ⟨by kernel_rfl, ?_⟩) (by assumption) ?_
                        rotate_left 1
                        · (intro w hSw; (try dsimp only at hSw); go_simp) <;> (with_reducible rfl)
                        (try simp only [Act.put, List.setIfInBounds_toArray, List.set_cons_succ, List.set_cons_zero])
                        refine wpAnyH_take (i := 26) (oi := ⟨some 128, _, _, _, _, _⟩) (v := ?_) rfl (by kernel_rfl) (by kernel_rfl) (by kernel_rfl) (fun _ _ _ h => h) (Or.inl ⟨by kernel_rfl, ?_⟩) (by assumption) ?_
                        rotate_left 1
                        · (intro w hSw; (try dsimp only at hSw); go_simp) <;> (with_reducible rfl)
                        (try simp only [Act.put, List.setIfInBounds_toArray, List.set_cons_succ, List.set_cons_zero])
                        refine wpAnyH_take (i := 27) (oi := ⟨some 129, _, _, _, _, _⟩) (v := ?_) rfl (by kernel_rfl) (by kernel_rfl) (by kernel_rfl) (fun _ _ _ h => h) (Or.inl ⟨by kernel_rfl, ?_⟩) (by assumption) ?_
                        rotate_left 1
                        · (intro w hSw; (try dsimp only at hSw); go_simp) <;> (with_reducible rfl)
                        (try simp only [Act.put, List.setIfInBounds_toArray, List.set_cons_succ, List.set_cons_zero])
                        refine wpAnyH_take (i := 28) (oi := ⟨some 130, _, _, _, _, _⟩) (v := ?_) rfl (by kernel_rfl) (by kernel_rfl) (by kernel_rfl) (fun _ _ _ h => h) (Or.inl ⟨by kernel_rfl, ?_⟩) (by assumption) ?_
                        rotate_left 1
                        · (intro w hSw; (try dsimp only at hSw); go_simp) <;> (with_reducible rfl)
                        (try simp only [Act.put, List.setIfInBounds_toArray, List.set_cons_succ, List.set_cons_zero])
                        refine wpAnyH_take (i := 29) (oi := ⟨some 131, _, _, _, _, _⟩) (v := ?_) rfl (by kernel_rfl) (by kernel_rfl) (by kernel_rfl) (fun _ _ _ h => h) (Or.inl ⟨by kernel_rfl, ?_⟩) (by assumption) ?_
                        rotate_left 1
                        · (intro w hSw; (try dsimp only at hSw); go_simp) <;> (with_reducible rfl)
                        (try simp only [Act.put, List.setIfInBounds_toArray, List.set_cons_succ, List.set_cons_zero])
                        refine wpAnyH_take (i := 30) (oi := ⟨some 132, _, _, _, _, _⟩) (v := ?_) rfl (by kernel_rfl) (by kernel_rfl) (by kernel_rfl) (fun _ _ _ h => h) (Or.inl ⟨by kernel_rfl, ?_⟩) (by assumption) ?_
                        rotate_left 1
                        · (intro w hSw; (try dsimp only at hSw); go_simp) <;> (with_reducible rfl)
                        (try simp only [Act.put, List.setIfInBounds_toArray, List.set_cons_succ, List.set_cons_zero])
                        refine wpAnyH_take (i := 31) (oi := ⟨some 133, _, _, _, _, _⟩) (v := ?_) rfl (by kernel_rfl) (by kernel_rfl) (by kernel_rfl) (fun _ _ _ h => h) (Or.inl ⟨by kernel_rfl, ?_⟩) (by assumption) ?_
                        rotate_left 1
                        · (intro w hSw; (try dsimp only at hSw); go_simp) <;> (with_reducible rfl)
                        (try simp only [Act.put, List.setIfInBounds_toArray, List.set_cons_succ, List.set_cons_zero])
                        refine wpAnyH_take (i := 32) (oi := ⟨some 134, _, _, _, _, _⟩) (v := ?_) rfl (by kernel_rfl) (by kernel_rfl) (by kernel_rfl) (fun _ _ _ h => h) (Or.inl ⟨by kernel_rfl, ?_⟩) (by assumption) ?_
                        rotate_left 1
                        · (intro w hSw; (try dsimp only at hSw); go_simp) <;> (with_reducible rfl)
                        (try simp only [Act.put, List.setIfInBounds_toArray, List.set_cons_succ, List.set_cons_zero])
                        refine wpAnyH_take (i := 33) (oi := ⟨some 135, _, _, _, _, _⟩) (v := ?_) rfl (by kernel_rfl) (by kernel_rfl) (by kernel_rfl) (fun _ _ _ h => h) (Or.inl ⟨by kernel_rfl, ?_⟩) (by assumption) ?_
                        rotate_left 1
                        · (intro w hSw; (try dsimp only at hSw); go_simp) <;> (with_reducible rfl)
                        (try simp only [Act.put, List.setIfInBounds_toArray, List.set_cons_succ, List.set_cons_zero])
                        refine wpAnyH_take (i := 34) (oi := ⟨some 136, _, _, _, _, _⟩) (v := ?_) rfl (by kernel_rfl) (by kernel_rfl) (by kernel_rfl) (fun _ _ _ h => h) (Or.inl ⟨by kernel_rfl, ?_⟩) (by assumption) ?_
                        rotate_left 1
                        · (intro w hSw; (try dsimp only at hSw); go_simp) <;> (with_reducible rfl)
                        (try simp only [Act.put, List.setIfInBounds_toArray, List.set_cons_succ, List.set_cons_zero])
                        refine wpAnyH_take (i := 35) (oi := ⟨some 137, _, _, _, _, _⟩) (v := ?_) rfl (by kernel_rfl) (by kernel_rfl) (by kernel_rfl) (fun _ _ _ h => h) (Or.inl ⟨by kernel_rfl, ?_⟩) (by assumption) ?_
                        rotate_left 1
                        · (intro w hSw; (try dsimp only at hSw); go_simp) <;> (with_reducible rfl)
                        (try simp only [Act.put, List.setIfInBounds_toArray, List.set_cons_succ, List.set_cons_zero])
                        refine wpAnyH_take (i := 36) (oi := ⟨some 138, _, _, _, _, _⟩) (v := ?_) rfl (by kernel_rfl) (by kernel_rfl) (by kernel_rfl) (fun _ _ _ h => h) (Or.inl ⟨by kernel_rfl, ?_⟩) (by assumption) ?_
                        rotate_left 1
                        · (intro w hSw; (try dsimp only at hSw); go_simp) <;> (with_reducible rfl)
                        (try simp only [Act.put, List.setIfInBounds_toArray, List.set_cons_succ, List.set_cons_zero])
                        refine wpAnyH_take (i := 37) (oi := ⟨some 139, _, _, _, _, _⟩) (v := ?_) rfl (by kernel_rfl) (by kernel_rfl) (by kernel_rfl) (fun _ _ _ h => h) (Or.inl ⟨by kernel_rfl, ?_⟩) (by assumption) ?_
                        rotate_left 1
                        · (intro w hSw; (try dsimp only at hSw); go_simp) <;> (with_reducible rfl)
                        (try simp only [Act.put, List.setIfInBounds_toArray, List.set_cons_succ, List.set_cons_zero])
                        refine wpAnyH_take (i := 38) (oi := ⟨some 140, _, _, _, _, _⟩) (v := ?_) rfl (by kernel_rfl) (by kernel_rfl) (by kernel_rfl) (fun _ _ _ h => h) (Or.inl ⟨by kernel_rfl, ?_⟩) (by assumption) ?_
                        rotate_left 1
                        · (intro w hSw; (try dsimp only at hSw); go_simp) <;> (with_reducible rfl)
                        (try simp only [Act.put, List.setIfInBounds_toArray, List.set_cons_succ, List.set_cons_zero])
                        refine wpAnyH_take (i := 39) (oi := ⟨some 141, _, _, _, _, _⟩) (v := ?_) rfl (by kernel_rfl) (by kernel_rfl) (by kernel_rfl) (fun _ _ _ h => h) (Or.inl ⟨by kernel_rfl, ?_⟩) (by assumption) ?_
                        rotate_left 1
                        · (intro w hSw; (try dsimp only at hSw); go_simp) <;> (with_reducible rfl)
                        (try simp only [Act.put, List.setIfInBounds_toArray, List.set_cons_succ, List.set_cons_zero])
                        refine wpAnyH_take (i := 40) (oi := ⟨some 142, _, _, _, _, _⟩) (v := ?_) rfl (by kernel_rfl) (by kernel_rfl) (by kernel_rfl) (fun _ _ _ h => h) (Or.inl ⟨by kernel_rfl, ?_⟩) (by assumption) ?_
                        rotate_left 1
                        · (intro w hSw; (try dsimp only at hSw); go_simp) <;> (with_reducible rfl)
                        (try simp only [Act.put, List.setIfInBounds_toArray, List.set_cons_succ, List.set_cons_zero])
                        refine wpAnyH_take (i := 41) (oi := ⟨some 143, _, _, _, _, _⟩) (v := ?_) rfl (by kernel_rfl) (by kernel_rfl) (by kernel_rfl) (fun _ _ _ h => h) (Or.inl ⟨by kernel_rfl, ?_⟩) (by assumption) ?_
                        rotate_left 1
                        · (intro w hSw; (try dsimp only at hSw); go_simp) <;> (with_reducible rfl)
                        (try simp only [Act.put, List.setIfInBounds_toArray, List.set_cons_succ, List.set_cons_zero])
                        refine wpAnyH_take (i := 42) (oi := ⟨some 144, _, _, _, _, _⟩) (v := ?_) rfl (by kernel_rfl) (by kernel_rfl) (by kernel_rfl) (fun _ _ _ h => h) (Or.inl ⟨by kernel_rfl, ?_⟩) (by assumption) ?_
                        rotate_left 1
                        · (intro w hSw; (try dsimp only at hSw); go_simp) <;> (with_reducible rfl)
                        (try simp only [Act.put, List.setIfInBounds_toArray, List.set_cons_succ, List.set_cons_zero])
                        refine wpAnyH_take (i := 43) (oi := ⟨some 145, _, _, _, _, _⟩) (v := ?_) rfl (by kernel_rfl) (by kernel_rfl) (by kernel_rfl) (fun _ _ _ h => h) (Or.inl ⟨by kernel_rfl, ?_⟩) (by assumption) ?_
                        rotate_left 1
                        · (intro w hSw; (try dsimp only at hSw); go_simp) <;> (with_reducible rfl)
                        (try simp only [Act.put, List.setIfInBounds_toArray, List.set_cons_succ, List.set_cons_zero])
                        refine wpAnyH_take (i := 44) (oi := ⟨some 146, _, _, _, _, _⟩) (v := ?_) rfl (by kernel_rfl) (by kernel_rfl) (by kernel_rfl) (fun _ _ _ h => h) (Or.inl ⟨by kernel_rfl, ?_⟩) (by assumption) ?_
                        rotate_left 1
                        · (intro w hSw; (try dsimp only at hSw); go_simp) <;> (with_reducible rfl)
                        (try simp only [Act.put, List.setIfInBounds_toArray, List.set_cons_succ, List.set_cons_zero])
                        refine wpAnyH_take (i := 45) (oi := ⟨some 147, _, _, _, _, _⟩) (v := ?_) rfl (by kernel_rfl) (by kernel_rfl) (by kernel_rfl) (fun _ _ _ h => h) (Or.inl ⟨by kernel_rfl, ?_⟩) (by assumption) ?_
                        rotate_left 1
                        · (intro w hSw; (try dsimp only at hSw); go_simp) <;> (with_reducible rfl)
                        (try simp only [Act.put, List.setIfInBounds_toArray, List.set_cons_succ, List.set_cons_zero])
                        refine wpAnyH_take (i := 46) (oi := ⟨some 148, _, _, _, _, _⟩) (v := ?_) rfl (by kernel_rfl) (by kernel_rfl) (by kernel_rfl) (fun _ _ _ h => h) (Or.inl ⟨by kernel_rfl, ?_⟩) (by assumption) ?_
                        rotate_left 1
                        · (intro w hSw; (try dsimp only at hSw); go_simp) <;> (with_reducible rfl)
                        (try simp only [Act.put, List.setIfInBounds_toArray, List.set_cons_succ, List.set_cons_zero])
                        refine wpAnyH_take (i := 47) (oi := ⟨some 149, _, _, _, _, _⟩) (v := ?_) rfl (by kernel_rfl) (by kernel_rfl) (by kernel_rfl) (fun _ _ _ h => h) (Or.inl ⟨by kernel_rfl, ?_⟩) (by assumption) ?_
                        rotate_left 1
                        · (intro w hSw; (try dsimp only at hSw); go_simp) <;> (with_reducible rfl)
                        (try simp only [Act.put, List.setIfInBounds_toArray, List.set_cons_succ, List.set_cons_zero])
                        refine wpAnyH_take (i := 48) (oi := ⟨some 150, _, _, _, _, _⟩) (v := ?_) rfl (by kernel_rfl) (by kernel_rfl) (by kernel_rfl) (fun _ _ _ h => h) (Or.inl ⟨by kernel_rfl, ?_⟩) (by assumption) ?_
                        rotate_left 1
                        · (intro w hSw; (try dsimp only at hSw); go_simp) <;> (with_reducible rfl)
                        (try simp only [Act.put, List.setIfInBounds_toArray, List.set_cons_succ, List.set_cons_zero])
                        refine wpAnyH_take (i := 49) (oi := ⟨some 151, _, _, _, _, _⟩) (v := ?_) rfl (by kernel_rfl) (by kernel_rfl) (by kernel_rfl) (fun _ _ _ h => h) (Or.inl ⟨by kernel_rfl, ?_⟩) (by assumption) ?_
                        rotate_left 1
                        · (intro w hSw; (try dsimp only at hSw); go_simp) <;> (with_reducible rfl)
                        (try simp only [Act.put, List.setIfInBounds_toArray, List.set_cons_succ, List.set_cons_zero])
                        refine wpAnyH_take (i := 50) (oi := ⟨some 152, _, _, _, _, _⟩) (v := ?_) rfl (by kernel_rfl) (by kernel_rfl) (by kernel_rfl) (fun _ _ _ h => h) (Or.inl ⟨by kernel_rfl, ?_⟩) (by assumption) ?_
                        rotate_left 1
                        · (intro w hSw; (try dsimp only at hSw); go_simp) <;> (with_reducible rfl)
                        (try simp only [Act.put, List.setIfInBounds_toArray, List.set_cons_succ, List.set_cons_zero])
                        refine wpAnyH_take (i := 51) (oi := ⟨some 153, _, _, _, _, _⟩) (v := ?_) rfl (by kernel_rfl) (by kernel_rfl) (by kernel_rfl) (fun _ _ _ h => h) (Or.inl ⟨by kernel_rfl, ?_⟩) (by assumption) ?_
                        rotate_left 1
                        · (intro w hSw; (try dsimp only at hSw); go_simp) <;> (with_reducible rfl)
                        (try simp only [Act.put, List.setIfInBounds_toArray, List.set_cons_succ, List.set_cons_zero])
                        refine wpAnyH_take (i := 52) (oi := ⟨some 154, _, _, _, _, _⟩) (v := ?_) rfl (by kernel_rfl) (by kernel_rfl) (by kernel_rfl) (fun _ _ _ h => h) (Or.inl ⟨by kernel_rfl, ?_⟩) (by assumption) ?_
                        rotate_left 1
                        · (intro w hSw; (try dsimp only at hSw); go_simp) <;> (with_reducible rfl)
                        (try simp only [Act.put, List.setIfInBounds_toArray, List.set_cons_succ, List.set_cons_zero])
                        refine wpAnyH_take (i := 53) (oi := ⟨some 155, _, _, _, _, _⟩) (v := ?_) rfl (by kernel_rfl) (by kernel_rfl) (by kernel_rfl) (fun _ _ _ h => h) (Or.inl ⟨by kernel_rfl, ?_⟩) (by assumption) ?_
                        rotate_left 1
                        · (intro w hSw; (try dsimp only at hSw); go_simp) <;> (with_reducible rfl)
                        (try simp only [Act.put, List.setIfInBounds_toArray, List.set_cons_succ, List.set_cons_zero])
                        refine wpAnyH_take (i := 54) (oi := ⟨some 156, _, _, _, _, _⟩) (v := ?_) rfl (by kernel_rfl) (by kernel_rfl) (by kernel_rfl) (fun _ _ _ h => h) (Or.inl ⟨by kernel_rfl, ?_⟩) (by assumption) ?_
                        rotate_left 1
                        · (intro w hSw; (try dsimp only at hSw); go_simp) <;> (with_reducible rfl)
                        (try simp only [Act.put, List.setIfInBounds_toArray, List.set_cons_succ, List.set_cons_zero])
                        refine wpAnyH_take (i := 55) (oi := ⟨some 157, _, _, _, _, _⟩) (v := ?_) rfl (by kernel_rfl) (by kernel_rfl) (by kernel_rfl) (fun _ _ _ h => h) (Or.inl ⟨by kernel_rfl, ?_⟩) (by assumption) ?_
                        rotate_left 1
                        · (intro w hSw; (try dsimp only at hSw); go_simp) <;> (with_reducible rfl)
                        (try simp only [Act.put, List.setIfInBounds_toArray, List.set_cons_succ, List.set_cons_zero])
                        refine wpAnyH_done (by kernel_rfl) ?_ _
                        refine NoPanic.normal ?_
                        go_wp2
                        go_roundw
                        case rel => exact ⟨i + 1, by omega, by go_num, by rw [SNX2.out], hide (btrans (btrans K.out KY.out) KZ.out), hide (btrans (btrans KC.out KY.out) KZ.out), hide (btrans (btrans K3.out KY.out) KZ.out)⟩
                        case measure => simp [intOf]; omega
                  · obtain rfl : i = M.length := by omega
                    have OS := hide (own_sum HV.out)
                    rw [NG.out] at OS
                    have TR := hide (show tR G = us G 0 from if_pos HCH.out)
                    have TTG := hide (tot_any A4 c4 G _ (RG.out _ KC.out) (by rw [NG.out]; exact HCG.out) NGL.out)
                    rw [NG.out, TR.out, ← OS.out] at TTG
                    go_wp2_with fail
                    refine TTG.out.mono ?_
                    rintro e wt ⟨rfl, hb⟩
                    clear TTG
                    have RG2 := hide (RG.out _ (btrans KC.out hb))
                    replace K := hide (btrans K.out hb)
                    clear hb OS TR
                    have NGH := hide (show G.length = L.length from NG.out.trans NL.out)
                    generalize sm (own G) M.length = z at *
                    have NGS := NG.out
                    go_wp2
                    go_roundw
                    case rel => exact ⟨k + 1, G, A4, c4, by omega, by go_num, by rw [NG.out], RG2, hide (by rw [NG.out]; exact HCG.out), NGL, NGH, HV, K⟩
                    case measure => simp [intOf]; omega
              · have _u := trivial
                have de : (cgE M oa on != 0) = true := by simpa using he
                have RM2 := hide (RM.out _ K3.out)
                clear hb hO he
                generalize cgE M oa on = ce at *
                go_wp2
                go_roundw
                case rel => exact ⟨k + 1, M, AM, cM, by omega, by go_num, rfl, RM2, CM, NM, NL, HM, K⟩
                case measure => simp [intOf]; omega
            | true =>
              go_wp2_with fail
              refine (charge_unf AM cM M oa on _ (RM.out _ K3.out) CM.out NM.out).mono ?_
              rintro e w4 ⟨A4, c4, rfl, hO, hb⟩
              replace K := hide (btrans K.out hb)
              replace K3 := hide (btrans K3.out hb)
              replace X := hide (X.out.below hb)
              clear hb hO
              clear x0 x1 x2
              have x0 := X.out.cell 0
              have x1 := X.out.cell 1
              have x2 := X.out.cell 2
              simp at x0 x1 x2
              go_wp2_with fail
              refine (uncharge_unf AM cM M oa on _ (RM.out _ K3.out) CM.out NM.out).mono ?_
              rintro e w6 ⟨A6, c6, rfl, hO, hb⟩
              replace K := hide (btrans K.out hb)
              replace K3 := hide (btrans K3.out hb)
              replace X := hide (X.out.below hb)
              clear x0 x1 x2
              have x0 := X.out.cell 0
              have x1 := X.out.cell 1
              have x2 := X.out.cell 2
              simp at x0 x1 x2
              by_cases he : ucE M oa on = 0
              · have _u := trivial
                have HVG := hide (And.intro (uc_vd he).1 (uc_vd he).2)
                rw [HVG.out.2] at hO ⊢
                rw [he]
                have RG0 := OwA.as hO
                have HCG := hide (OwA.cap hO)
                have RG := hide (fun w' (h : Below w6.heap.size w6 w') => RG0.below h)
                have HV := hide HVG.out.1
                have HCH := hide (chE_0 HV.out)
                have NG := hide (adL_len (L := M) (a := oa) (n := -on))
                have NGL := hide (show (adL M oa (-on)).length ≤ 9223372036854775807 by rw [adL_len]; exact NM.out)
                have HF := hide (fun i (hi : i < M.length) => And.intro (adL_pa (L := M) (a := oa) (n := -on) hi) (And.intro (adL_mn (L := M) (a := oa) (n := -on) hi) (And.intro (adL_lo (L := M) (a := oa) (n := -on) hi) (adL_mx (L := M) (a := oa) (n := -on) hi))))
                clear hb hO RG0 HVG he
                generalize adL M oa (-on) = G at *
                rw [NG.out]
                rw [NG.out] at HCG
                have CKG := hide (check_any A6 c6 G _ (RG.out _ (brefl _)) (by rw [NG.out]; exact HCG.out) NGL.out)
                rw [NG.out, HCH.out] at CKG
                go_wp2_with fail
                refine CKG.out.mono ?_
                rintro e wc ⟨rfl, hb⟩
                clear CKG
                replace K := hide (btrans K.out hb)
                replace K3 := hide (btrans K3.out hb)
                replace RG := hide (fun w' (h : Below wc.heap.size wc w') => RG.out w' (btrans hb h))
                clear hb x0 x1 x2 X
                have KC := hide (brefl wc)
                go_wp2
                go_loopw [10, 75] (fun s c wr => ∃ i : Nat, i ≤ M.length ∧ c = .int .i64 i ∧ s = .int .i64 (sm (own G) i) ∧ Hid (Below W.heap.size W wr) ∧ Hid (Below wc.heap.size wc wr) ∧ Hid (Below w3.heap.size w3 wr)) (fun _ c _ => M.length - (intOf c).toNat)
                case atStart => exact ⟨0, Nat.zero_le _, rfl, rfl, K, KC, K3⟩
                case round =>
                  clear K KC K3
                  obtain ⟨i, hi, rfl, rfl, K, KC, K3⟩ := hrel
                  by_cases hil : i < M.length
                  · have hil2 : (i : Int) < (M.length : Int) := by omega
                    have hi0 : (0 : Int) ≤ (i : Int) := by omega
                    have hiG : i < G.length := by rw [NG.out]; exact hil
                    obtain ⟨bg, og, hAg, hbg, z0, z1, z2, z3, z4⟩ := (RG.out _ (brefl _)).cells KC.out hiG
                    obtain ⟨bm, om, hAm, hbm, v0, v1, v2, v3, v4⟩ := (RM.out _ (brefl _)).cells K3.out hil
                    subst hAg
                    subst hAm
                    obtain ⟨f0, f1, f2, f3⟩ := HF.out i hil
                    rw [← f0] at v0
                    rw [← f1] at v2
                    rw [← f2] at v3
                    rw [← f3] at v4
                    have glim := HV.out.lim i hiG
                    have gow := own_in HV.out hiG
                    have gbd := own_bd HV.out i (by rw [NG.out]; omega)
                    have gu1 := (HV.out.rg i hiG).1.1
                    unfold inr at gu1
                    have KCI := hide (fun (j : Nat) (hj : j ≤ M.length) => kc_bd (L := G) (x := (i : Int)) (f := us G) j (by have := HV.out.len.2; rw [NG.out] at this; omega) (fun l hl => (HV.out.rg l (by rw [NG.out]; omega)).1.1))
                    have SNX := hide (show sm (own G) (i + 1) = sm (own G) i + own G i from rfl)
                    have OWD := hide (show own G i = us G i - kc G (i : Int) (us G) M.length by unfold own; rw [NG.out])
                    have OWF := hide (show oR G (i : Int) = own G i from oR_ok ⟨HCH.out, by omega, by rw [NG.out]; exact hil2⟩)
                    have OWG := hide (fun w' (h : Below wc.heap.size wc w') => ownf_any (some ⟨bg, og, none⟩) c6 G (i : Int) w' (RG.out _ h) (by rw [NG.out]; exact HCG.out) NGL.out)
                    rw [NG.out, OWF.out] at OWG
                    clear OWF v1 hbg hbm
                    generalize hsi : sm (own G) i = si at *
                    have HSI := hide hsi
                    clear hsi
                    generalize hgp : pa G i = gp at *
                    generalize hgu : us G i = gu at *
                    generalize hgm : mn G i = gm at *
                    generalize hgl : lo G i = gl at *
                    generalize hgx : mx G i = gx at *
                    clear hgp hgu hgm hgl hgx f0 f1 f2 f3
                    have M0 := bal (brefl wr) (.cells #[.int .i64 gp, .int .i64 gu, .int .i64 gm, .int .i64 gl, .int .i64 gx] 42)
                    have X := hide (Box.new wr 42 #[.int .i64 gp, .int .i64 gu, .int .i64 gm, .int .i64 gl, .int .i64 gx])
                    have VV := hide (fun w' (h : Below wr.heap.size wr w') => (⟨(h.cell (p := ⟨bm, om + i * 5, none⟩) (cell_lt v0)).trans v0, (h.cell (p := ⟨bm, om + i * 5 + 2, none⟩) (cell_lt v2)).trans v2, (h.cell (p := ⟨bm, om + i * 5 + 3, none⟩) (cell_lt v3)).trans v3, (h.cell (p := ⟨bm, om + i * 5 + 4, none⟩) (cell_lt v4)).trans v4⟩ : w'.cell? ⟨bm, om + i * 5, none⟩ = some (.int .i64 gp) ∧ w'.cell? ⟨bm, om + i * 5 + 2, none⟩ = some (.int .i64 gm) ∧ w'.cell? ⟨bm, om + i * 5 + 3, none⟩ = some (.int .i64 gl) ∧ w'.cell? ⟨bm, om + i * 5 + 4, none⟩ = some (.int .i64 gx)))
                    replace VV := hide (fun w' (h : Below (wr.alloc (.cells #[.int .i64 gp, .int .i64 gu, .int .i64 gm, .int .i64 gl, .int .i64 gx] 42)).heap.size (wr.alloc (.cells #[.int .i64 gp, .int .i64 gu, .int .i64 gm, .int .i64 gl, .int .i64 gx] 42)) w') => VV.out w' (btrans M0 h))
                    replace K := hide (btrans K.out M0)
                    replace KC := hide (btrans KC.out M0)
                    replace K3 := hide (btrans K3.out M0)
                    clear M0 v0 v2 v3 v4
                    go_upto_region 16 with fail
                    obtain ⟨q, hq⟩ : ∃ q, q = wr.heap.size := ⟨_, rfl⟩
                    rw [← hq] at X ⊢
                    generalize wr.alloc (.cells #[.int .i64 gp, .int .i64 gu, .int .i64 gm, .int .i64 gl, .int .i64 gx] 42) = wy at *
                    clear hq z0 z1 z2 z3 z4
                    have x1 := X.out.cell 1
                    simp at x1
                    have KY := hide (brefl wy)
                    have NN0 := hide (show gu = gu - kc G (i : Int) (us G) 0 by show gu = gu - 0; omega)
                    go_wp2
                    clear x1
                    go_loopw [13, 84] (fun s c wr => ∃ (j : Nat) (nn : Int), j ≤ M.length ∧ c = .int .i64 j ∧ s = .int .i64 nn ∧ Hid (nn = gu - kc G (i : Int) (us G) j) ∧ Hid (Below wy.heap.size wy wr)) (fun _ c _ => M.length - (intOf c).toNat)
                    case atStart => exact ⟨0, gu, Nat.zero_le _, rfl, rfl, NN0, KY⟩
                    case round =>
                      clear NN0 KY
                      obtain ⟨j, nn, hj, rfl, rfl, NN, KY⟩ := hrel
                      by_cases hjl : j < M.length
                      · have hjl2 : (j : Int) < (M.length : Int) := by omega
                        have hj0 : (0 : Int) ≤ (j : Int) := by omega
                        have hjG : j < G.length := by rw [NG.out]; exact hjl
                        obtain ⟨b9, o9, eA, _, z0, z1, z2, z3, z4⟩ := (RG.out _ (brefl _)).cells (btrans KC.out KY.out) hjG
                        injection eA with eA
                        injection eA with e01 e02
                        subst e01 e02
                        have kb := KCI.out j (by omega)
                        have nb : nn = gu - kc G (i : Int) (us G) j := NN.out
                        have uj := (HV.out.rg j hjG).1.1
                        unfold inr at uj
                        have n1 : -8388608 ≤ nn := by omega
                        have n2 : nn ≤ 1048576 := by omega
                        have YES := hide (fun (h0 : 0 < j) (hp : pa G j = i) => kc_yes (f := us G) h0 hp)
                        have NO := hide (fun (hp : pa G j ≠ i) => kc_no (f := us G) hp)
                        have NO0 := hide (fun (h : j = 0) => (by subst h; exact kc_1 : kc G (i : Int) (us G) (j + 1) = 0))
                        have NZ0 := hide (fun (h : j = 0) => (by subst h; rfl : kc G (i : Int) (us G) j = 0))
                        have NNH := hide nb
                        clear nb kb NN
                        generalize pa G j = jp at *
                        generalize us G j = ju at *
                        generalize mn G j = jm at *
                        generalize lo G j = jl at *
                        generalize mx G j = jx at *
                        have M0 := bal (brefl wr) (.cells #[.int .i64 jp, .int .i64 ju, .int .i64 jm, .int .i64 jl, .int .i64 jx] 42)
                        have XJ := hide (Box.new wr 42 #[.int .i64 jp, .int .i64 ju, .int .i64 jm, .int .i64 jl, .int .i64 jx])
                        replace KY := hide (btrans KY.out M0)
                        clear M0
                        go_upto_region 20 with fail
                        obtain ⟨q2, hq2⟩ : ∃ q2, q2 = wr.heap.size := ⟨_, rfl⟩
                        rw [← hq2] at XJ ⊢
                        generalize wr.alloc (.cells #[.int .i64 jp, .int .i64 ju, .int .i64 jm, .int .i64 jl, .int .i64 jx] 42) = wv at *
                        clear hq2 z0 z1 z2 z3 z4
                        have y0 := XJ.out.cell 0
                        have y1 := XJ.out.cell 1
                        simp at y0 y1
                        by_cases h0 : j = 0
                        · have d0 : ¬ 0 < j := by omega
                          have d0' : ¬ (0 : Int) < (j : Int) := by omega
                          have E := hide (show nn = gu - kc G (i : Int) (us G) (j + 1) by rw [NO0.out h0, NNH.out, NZ0.out h0])
                          clear YES NO NO0 NZ0 NNH h0
                          go_wp2
                          go_roundw
                          case rel => exact ⟨j + 1, nn, by omega, by go_num, rfl, E, KY⟩
                          case measure => simp [intOf]; omega
                        · have d0 : 0 < j := by omega
                          have d0' : (0 : Int) < (j : Int) := by omega
                          by_cases hp : jp = i
                          · have E := hide (show nn - ju = gu - kc G (i : Int) (us G) (j + 1) by rw [YES.out d0 hp, NNH.out]; omega)
                            rw [hp] at y0
                            clear YES NO NO0 NZ0 NNH h0 hp
                            go_wp2
                            go_roundw
                            case rel => exact ⟨j + 1, nn - ju, by omega, by go_num, rfl, E, KY⟩
                            case measure => simp [intOf]; omega
                          · have dp : (jp == (i : Int)) = false := by simpa using hp
                            have E := hide (show nn = gu - kc G (i : Int) (us G) (j + 1) by rw [NO.out hp, NNH.out])
                            clear YES NO NO0 NZ0 NNH h0 hp
                            go_wp2
                            go_roundw
                            case rel => exact ⟨j + 1, nn, by omega, by go_num, rfl, E, KY⟩
                            case measure => simp [intOf]; omega
                      · obtain rfl : j = M.length := by omega
                        have NO := hide (NN.out.trans OWD.out.symm)
                        have nz : nn = own G i := NO.out
                        have SNX2 := hide (show sm (own G) (i + 1) = si + nn by rw [SNX.out, nz])
                        rw [← nz] at gow OWG
                        clear NN OWD SNX nz NO
                        obtain ⟨g1, g2⟩ := gow
                        obtain ⟨g3, g4⟩ := gbd
                        have SS := hide (fun w' (h : Below wr.heap.size wr w') => (⟨(((X.out.below KY.out).below h).cell 0), (((X.out.below KY.out).below h).cell 1), (((X.out.below KY.out).below h).cell 2), (((X.out.below KY.out).below h).cell 3), (((X.out.below KY.out).below h).cell 4), VV.out w' (btrans KY.out h)⟩ : (fun W' => W'.cell? ⟨q, 0, none⟩ = some (.int .i64 gp) ∧ W'.cell? ⟨q, 1, none⟩ = some (.int .i64 gu) ∧ W'.cell? ⟨q, 2, none⟩ = some (.int .i64 gm) ∧ W'.cell? ⟨q, 3, none⟩ = some (.int .i64 gl) ∧ W'.cell? ⟨q, 4, none⟩ = some (.int .i64 gx) ∧ W'.cell? ⟨bm, om + i * 5, none⟩ = some (.int .i64 gp) ∧ W'.cell? ⟨bm, om + i * 5 + 2, none⟩ = some (.int .i64 gm) ∧ W'.cell? ⟨bm, om + i * 5 + 3, none⟩ = some (.int .i64 gl) ∧ W'.cell? ⟨bm, om + i * 5 + 4, none⟩ = some (.int .i64 gx)) w'))
                        replace OWG := hide (fun w' (h : Below wr.heap.size wr w') => OWG.out w' (btrans (btrans KC.out KY.out) h))
                        have KZ := hide (show Below wr.heap.size wr wr.drew from below_drewN (brefl wr) 1)
                        have dlim : decide (gx < gu) = false := decide_eq_false (by omega)
                        have dneg : decide (nn < 0) = false := decide_eq_false (by omega)
                        go_upto_region 23 with fail
                        refine wp_region_noPanic ?_
                        refine wp_region_held_drew (S := (fun W' => W'.cell? ⟨q, 0, none⟩ = some (.int .i64 gp) ∧ W'.cell? ⟨q, 1, none⟩ = some (.int .i64 gu) ∧ W'.cell? ⟨q, 2, none⟩ = some (.int .i64 gm) ∧ W'.cell? ⟨q, 3, none⟩ = some (.int .i64 gl) ∧ W'.cell? ⟨q, 4, none⟩ = some (.int .i64 gx) ∧ W'.cell? ⟨bm, om + i * 5, none⟩ = some (.int .i64 gp) ∧ W'.cell? ⟨bm, om + i * 5 + 2, none⟩ = some (.int .i64 gm) ∧ W'.cell? ⟨bm, om + i * 5 + 3, none⟩ = some (.int .i64 gl) ∧ W'.cell? ⟨bm, om + i * 5 + 4, none⟩ = some (.int .i64 gx))) (by kernel_rfl) ?_ (fun hHeld => ?_)
                        · exact SS.out _ KZ.out
                        generalize wr.drew = wd at *
                        refine wpAnyH_take (i := 0) (oi := ⟨some 102, _, _, _, _, _⟩) (v := ?_) rfl (by kernel_rfl) (by kernel_rfl) (by kernel_rfl) (fun _ _ _ h => h) (Or.inl ⟨by kernel_rfl, ?_⟩) (by assumption) ?_
                        rotate_left 1
                        · (intro w hSw; (try dsimp only at hSw); go_simp) <;> (with_reducible rfl)
                        (try simp only [Act.put, List.setIfInBounds_toArray, List.set_cons_succ, List.set_cons_zero])
                        refine wpAnyH_take (i := 1) (oi := ⟨some 103, _, _, _, _, _⟩) (v := ?_) rfl (by kernel_rfl) (by kernel_rfl) (by kernel_rfl) (fun _ _ _ h => h) (Or.inl ⟨by kernel_rfl, ?_⟩) (by assumption) ?_
                        rotate_left 1
                        · (intro w hSw; (try dsimp only at hSw); go_simp) <;> (with_reducible rfl)
                        (try simp only [Act.put, List.setIfInBounds_toArray, List.set_cons_succ, List.set_cons_zero])
                        refine wpAnyH_take (i := 2) (oi := ⟨some 104, _, _, _, _, _⟩) (v := ?_) rfl (by kernel_rfl) (by kernel_rfl) (by kernel_rfl) (fun _ _ _ h => h) (Or.inl ⟨by kernel_rfl, ?_⟩) (by assumption) ?_
                        rotate_left 1
                        · (intro w hSw; (try dsimp only at hSw); go_simp) <;> (with_reducible rfl)
                        (try simp only [Act.put, List.setIfInBounds_toArray, List.set_cons_succ, List.set_cons_zero])
                        refine wpAnyH_take (i := 3) (oi := ⟨some 105, _, _, _, _, _⟩) (v := ?_) rfl (by kernel_rfl) (by kernel_rfl) (by kernel_rfl) (fun _ _ _ h => h) (Or.inl ⟨by kernel_rfl, ?_⟩) (by assumption) ?_
                        rotate_left 1
                        · (intro w hSw; (try dsimp only at hSw); go_simp) <;> (with_reducible rfl)
                        (try simp only [Act.put, List.setIfInBounds_toArray, List.set_cons_succ, List.set_cons_zero])
                        refine wpAnyH_take (i := 4) (oi := ⟨some 106, _, _, _, _, _⟩) (v := ?_) rfl (by kernel_rfl) (by kernel_rfl) (by kernel_rfl) (fun _ _ _ h => h) (Or.inl ⟨by kernel_rfl, ?_⟩) (by assumption) ?_
                        rotate_left 1
                        · (intro w hSw; (try dsimp only at hSw); go_simp) <;> (with_reducible rfl)
                        (try simp only [Act.put, List.setIfInBounds_toArray, List.set_cons_succ, List.set_cons_zero])
                        refine wpAnyH_take (i := 5) (oi := ⟨some 107, _, _, _, _, _⟩) (v := ?_) rfl (by kernel_rfl) (by kernel_rfl) (by kernel_rfl) (fun _ _ _ h => h) (Or.inl ⟨by kernel_rfl, ?_⟩) (by assumption) ?_
                        rotate_left 1
                        · (intro w hSw; (try dsimp only at hSw); go_simp) <;> (with_reducible rfl)
                        (try simp only [Act.put, List.setIfInBounds_toArray, List.set_cons_succ, List.set_cons_zero])
                        refine wpAnyH_take (i := 6) (oi := ⟨some 108, _, _, _, _, _⟩) (v := ?_) rfl (by kernel_rfl) (by kernel_rfl) (by kernel_rfl) (fun _ _ _ h => h) (Or.inl ⟨by kernel_rfl, ?_⟩) (by assumption) ?_
                        rotate_left 1
                        · (intro w hSw; (try dsimp only at hSw); go_simp) <;> (with_reducible rfl)
                        (try simp only [Act.put, List.setIfInBounds_toArray, List.set_cons_succ, List.set_cons_zero])
                        refine wpAnyH_take (i := 7) (oi := ⟨some 109, _, _, _, _, _⟩) (v := ?_) rfl (by kernel_rfl) (by kernel_rfl) (by kernel_rfl) (fun _ _ _ h => h) (Or.inl ⟨by kernel_rfl, ?_⟩) (by assumption) ?_
                        rotate_left 1
                        · (intro w hSw; (try dsimp only at hSw); go_simp) <;> (with_reducible rfl)
                        (try simp only [Act.put, List.setIfInBounds_toArray, List.set_cons_succ, List.set_cons_zero])
                        refine wpAnyH_take (i := 8) (oi := ⟨some 110, _, _, _, _, _⟩) (v := ?_) rfl (by kernel_rfl) (by kernel_rfl) (by kernel_rfl) (fun _ _ _ h => h) (Or.inl ⟨by kernel_rfl, ?_⟩) (by assumption) ?_
                        rotate_left 1
                        · (intro w hSw; (try dsimp only at hSw); go_simp) <;> (with_reducible rfl)
                        (try simp only [Act.put, List.setIfInBounds_toArray, List.set_cons_succ, List.set_cons_zero])
                        refine wpAnyH_take (i := 9) (oi := ⟨some 111, _, _, _, _, _⟩) (v := ?_) rfl (by kernel_rfl) (by kernel_rfl) (by kernel_rfl) (fun _ _ _ h => h) (Or.inl ⟨by kernel_rfl, ?_⟩) (by assumption) ?_
                        rotate_left 1
                        · (intro w hSw; (try dsimp only at hSw); go_simp) <;> (with_reducible rfl)
                        (try simp only [Act.put, List.setIfInBounds_toArray, List.set_cons_succ, List.set_cons_zero])
                        refine wpAnyH_take (i := 10) (oi := ⟨some 112, _, _, _, _, _⟩) (v := ?_) rfl (by kernel_rfl) (by kernel_rfl) (by kernel_rfl) (fun _ _ _ h => h) (Or.inl ⟨by kernel_rfl, ?_⟩) (by assumption) ?_
                        rotate_left 1
                        · (intro w hSw; (try dsimp only at hSw); go_simp) <;> (with_reducible rfl)
                        (try simp only [Act.put, List.setIfInBounds_toArray, List.set_cons_succ, List.set_cons_zero])
                        refine wpAnyH_take (i := 11) (oi := ⟨some 113, _, _, _, _, _⟩) (v := ?_) rfl (by kernel_rfl) (by kernel_rfl) (by kernel_rfl) (fun _ _ _ h => h) (Or.inl ⟨by kernel_rfl, ?_⟩) (by assumption) ?_
                        rotate_left 1
                        · (intro w hSw; (try dsimp only at hSw); go_simp) <;> (with_reducible rfl)
                        (try simp only [Act.put, List.setIfInBounds_toArray, List.set_cons_succ, List.set_cons_zero])
                        refine wpAnyH_take (i := 12) (oi := ⟨some 114, _, _, _, _, _⟩) (v := ?_) rfl (by kernel_rfl) (by kernel_rfl) (by kernel_rfl) (fun _ _ _ h => h) (Or.inl ⟨by kernel_rfl, ?_⟩) (by assumption) ?_
                        rotate_left 1
                        · (intro w hSw; (try dsimp only at hSw); go_simp) <;> (with_reducible rfl)
                        (try simp only [Act.put, List.setIfInBounds_toArray, List.set_cons_succ, List.set_cons_zero])
                        refine wpAnyH_ready (rs := [13]) (by kernel_rfl) (by simp) ?_
                        refine AllReadyH.cons (o := _) rfl (fun K' hK => ?_) AllReadyH.nil
                        go_simp
                        refine (OWG.out _ KZ.out).mono ?_
                        rintro e wk ⟨rfl, hb⟩
                        replace KZ := hide (btrans KZ.out hb)
                        clear hb
                        refine hK.out _ _ ?_ (fun hHeld => ?_)
                        · exact SS.out _ KZ.out
                        clear hK K'
                        (try simp only [Act.put, List.setIfInBounds_toArray, List.set_cons_succ, List.set_cons_zero])
                        refine wpAnyH_take (i := 14) (oi := ⟨some 116, _, _, _, _, _⟩) (v := ?_) rfl (by kernel_rfl) (by kernel_rfl) (by kernel_rfl) (fun _ _ _ h => h) (Or.inl ⟨by kernel_rfl, ?_⟩) (by assumption) ?_
                        rotate_left 1
                        · (intro w hSw; (try dsimp only at hSw); go_simp) <;> (with_reducible rfl)
                        (try simp only [Act.put, List.setIfInBounds_toArray, List.set_cons_succ, List.set_cons_zero])
                        refine wpAnyH_take (i := 15) (oi := ⟨some 117, _, _, _, _, _⟩) (v := ?_) rfl (by kernel_rfl) (by kernel_rfl) (by kernel_rfl) (fun _ _ _ h => h) (Or.inl ⟨by kernel_rfl, ?_⟩) (by assumption) ?_
                        rotate_left 1
                        · (intro w hSw; (try dsimp only at hSw); go_simp) <;> (with_reducible rfl)
                        (try simp only [Act.put, List.setIfInBounds_toArray, List.set_cons_succ, List.set_cons_zero])
                        refine wpAnyH_take (i := 16) (oi := ⟨some 118, _, _, _, _, _⟩) (v := ?_) rfl (by kernel_rfl) (by kernel_rfl) (by kernel_rfl) (fun _ _ _ h => h) (Or.inl ⟨by kernel_rfl, ?_⟩) (by assumption) ?_
                        rotate_left 1
                        · (intro w hSw; (try dsimp only at hSw); go_simp) <;> (with_reducible rfl)
                        (try simp only [Act.put, List.setIfInBounds_toArray, List.set_cons_succ, List.set_cons_zero])
                        refine wpAnyH_take (i := 17) (oi := ⟨some 119, _, _, _, _, _⟩) (v := ?_) rfl (by kernel_rfl) (by kernel_rfl) (by kernel_rfl) (fun _ _ _ h => h) (Or.inl ⟨by kernel_rfl, ?_⟩) (by assumption) ?_
                        rotate_left 1
                        · (intro w hSw; (try dsimp only at hSw); go_simp) <;> (with_reducible rfl)
                        (try simp only [Act.put, List.setIfInBounds_toArray, List.set_cons_succ, List.set_cons_zero])
                        refine wpAnyH_take (i := 18) (oi := ⟨some 120, _, _, _, _, _⟩) (v := ?_) rfl (by kernel_rfl) (by kernel_rfl) (by kernel_rfl) (fun _ _ _ h => h) (Or.inl ⟨by kernel_rfl, ?_⟩) (by assumption) ?_
                        rotate_left 1
                        · (intro w hSw; (try dsimp only at hSw); go_simp) <;> (with_reducible rfl)
                        (try simp only [Act.put, List.setIfInBounds_toArray, List.set_cons_succ, List.set_cons_zero])
                        refine wpAnyH_take (i := 19) (oi := ⟨some 121, _, _, _, _, _⟩) (v := ?_) rfl (by kernel_rfl) (by kernel_rfl) (by kernel_rfl) (fun _ _ _ h => h) (Or.inl ⟨by kernel_rfl, ?_⟩) (by assumption) ?_
                        rotate_left 1
                        · (intro w hSw; (try dsimp only at hSw); go_simp) <;> (with_reducible rfl)
                        (try simp only [Act.put, List.setIfInBounds_toArray, List.set_cons_succ, List.set_cons_zero])
                        refine wpAnyH_take (i := 20) (oi := ⟨some 122, _, _, _, _, _⟩) (v := ?_) rfl (by kernel_rfl) (by kernel_rfl) (by kernel_rfl) (fun _ _ _ h => h) (Or.inl ⟨by kernel_rfl, ?_⟩) (by assumption) ?_
                        rotate_left 1
                        · (intro w hSw; (try dsimp only at hSw); go_simp) <;> (with_reducible rfl)
                        (try simp only [Act.put, List.setIfInBounds_toArray, List.set_cons_succ, List.set_cons_zero])
                        refine wpAnyH_take (i := 21) (oi := ⟨some 123, _, _, _, _, _⟩) (v := ?_) rfl (by kernel_rfl) (by kernel_rfl) (by kernel_rfl) (fun _ _ _ h => h) (Or.inl ⟨by kernel_rfl, ?_⟩) (by assumption) ?_
                        rotate_left 1
                        · (intro w hSw; (try dsimp only at hSw); go_simp) <;> (with_reducible rfl)
                        (try simp only [Act.put, List.setIfInBounds_toArray, List.set_cons_succ, List.set_cons_zero])
                        refine wpAnyH_take (i := 22) (oi := ⟨some 124, _, _, _, _, _⟩) (v := ?_) rfl (by kernel_rfl) (by kernel_rfl) (by kernel_rfl) (fun _ _ _ h => h) (Or.inl ⟨by kernel_rfl, ?_⟩) (by assumption) ?_
                        rotate_left 1
                        · (intro w hSw; (try dsimp only at hSw); go_simp) <;> (with_reducible rfl)
                        (try simp only [Act.put, List.setIfInBounds_toArray, List.set_cons_succ, List.set_cons_zero])
                        refine wpAnyH_take (i := 23) (oi := ⟨some 125, _, _, _, _, _⟩) (v := ?_) rfl (by kernel_rfl) (by kernel_rfl) (by kernel_rfl) (fun _ _ _ h => h) (Or.inl ⟨by kernel_rfl, ?_⟩) (by assumption) ?_
                        rotate_left 1
                        · (intro w hSw; (try dsimp only at hSw); go_simp) <;> (with_reducible rfl)
                        (try simp only [Act.put, List.setIfInBounds_toArray, List.set_cons_succ, List.set_cons_zero])
                        refine wpAnyH_take (i := 24) (oi := ⟨some 126, _, _, _, _, _⟩) (v := ?_) rfl (by kernel_rfl) (by kernel_rfl) (by kernel_rfl) (fun _ _ _ h => h) (Or.inl ⟨by kernel_rfl, ?_⟩) (by assumption) ?_
                        rotate_left 1
                        · (intro w hSw; (try dsimp only at hSw); go_simp) <;> (with_reducible rfl)
                        (try simp only [Act.put, List.setIfInBounds_toArray, List.set_cons_succ, List.set_cons_zero])
                        refine wpAnyH_take (i := 25) (oi := ⟨some 127, _, _, _, _, _⟩) (v := ?_) rfl (by kernel_rfl) (by kernel_rfl) (by kernel_rfl) (fun _ _ _ h => h) (Or.inl ⟨by kernel_rfl, ?_⟩) (by assumption) ?_
                        rotate_left 1
                        · (intro w hSw; (try dsimp only at hSw); go_simp) <;> (with_reducible rfl)
                        (try simp only [Act.put, List.setIfInBounds_toArray, List.set_cons_succ, List.set_cons_zero])
                        refine wpAnyH_take (i := 26) (oi := ⟨some 128, _, _, _, _, _⟩) (v := ?_) rfl (by kernel_rfl) (by kernel_rfl) (by kernel_rfl) (fun _ _ _ h => h) (Or.inl ⟨by kernel_rfl, ?_⟩) (by assumption) ?_
                        rotate_left 1
                        · (intro w hSw; (try dsimp only at hSw); go_simp) <;> (with_reducible rfl)
                        (try simp only [Act.put, List.setIfInBounds_toArray, List.set_cons_succ, List.set_cons_zero])
                        refine wpAnyH_take (i := 27) (oi := ⟨some 129, _, _, _, _, _⟩) (v := ?_) rfl (by kernel_rfl) (by kernel_rfl) (by kernel_rfl) (fun _ _ _ h => h) (Or.inl ⟨by kernel_rfl, ?_⟩) (by assumption) ?_
                        rotate_left 1
                        · (intro w hSw; (try dsimp only at hSw); go_simp) <;> (with_reducible rfl)
                        (try simp only [Act.put, List.setIfInBounds_toArray, List.set_cons_succ, List.set_cons_zero])
                        refine wpAnyH_take (i := 28) (oi := ⟨some 130, _, _, _, _, _⟩) (v := ?_) rfl (by kernel_rfl) (by kernel_rfl) (by kernel_rfl) (fun _ _ _ h => h) (Or.inl ⟨by kernel_rfl, ?_⟩) (by assumption) ?_
                        rotate_left 1
                        · (intro w hSw; (try dsimp only at hSw); go_simp) <;> (with_reducible rfl)
                        (try simp only [Act.put, List.setIfInBounds_toArray, List.set_cons_succ, List.set_cons_zero])
                        refine wpAnyH_take (i := 29) (oi := ⟨some 131, _, _, _, _, _⟩) (v := ?_) rfl (by kernel_rfl) (by kernel_rfl) (by kernel_rfl) (fun _ _ _ h => h) (Or.inl ⟨by kernel_rfl, ?_⟩) (by assumption) ?_
                        rotate_left 1
                        · (intro w hSw; (try dsimp only at hSw); go_simp) <;> (with_reducible rfl)
                        (try simp only [Act.put, List.setIfInBounds_toArray, List.set_cons_succ, List.set_cons_zero])
                        refine wpAnyH_take (i := 30) (oi := ⟨some 132, _, _, _, _, _⟩) (v := ?_) rfl (by kernel_rfl) (by kernel_rfl) (by kernel_rfl) (fun _ _ _ h => h) (Or.inl ⟨by kernel_rfl, ?_⟩) (by assumption) ?_
                        rotate_left 1
                        · (intro w hSw; (try dsimp only at hSw); go_simp) <;> (with_reducible rfl)
                        (try simp only [Act.put, List.setIfInBounds_toArray, List.set_cons_succ, List.set_cons_zero])
                        refine wpAnyH_take (i := 31) (oi := ⟨some 133, _, _, _, _, _⟩) (v := ?_) rfl (by kernel_rfl) (by kernel_rfl) (by kernel_rfl) (fun _ _ _ h => h) (Or.inl ⟨by kernel_rfl, ?_⟩) (by assumption) ?_
                        rotate_left 1
                        · (intro w hSw; (try dsimp only at hSw); go_simp) <;> (with_reducible rfl)
                        (try simp only [Act.put, List.setIfInBounds_toArray, List.set_cons_succ, List.set_cons_zero])
                        refine wpAnyH_take (i := 32) (oi := ⟨some 134, _, _, _, _, _⟩) (v := ?_) rfl (by kernel_rfl) (by kernel_rfl) (by kernel_rfl) (fun _ _ _ h => h) (Or.inl ⟨by kernel_rfl, ?_⟩) (by assumption) ?_
                        rotate_left 1
                        · (intro w hSw; (try dsimp only at hSw); go_simp) <;> (with_reducible rfl)
                        (try simp only [Act.put, List.setIfInBounds_toArray, List.set_cons_succ, List.set_cons_zero])
                        refine wpAnyH_take (i := 33) (oi := ⟨some 135, _, _, _, _, _⟩) (v := ?_) rfl (by kernel_rfl) (by kernel_rfl) (by kernel_rfl) (fun _ _ _ h => h) (Or.inl ⟨by kernel_rfl, ?_⟩) (by assumption) ?_
                        rotate_left 1
                        · (intro w hSw; (try dsimp only at hSw); go_simp) <;> (with_reducible rfl)
                        (try simp only [Act.put, List.setIfInBounds_toArray, List.set_cons_succ, List.set_cons_zero])
                        refine wpAnyH_take (i := 34) (oi := ⟨some 136, _, _, _, _, _⟩) (v := ?_) rfl (by kernel_rfl) (by kernel_rfl) (by kernel_rfl) (fun _ _ _ h => h) (Or.inl ⟨by kernel_rfl, ?_⟩) (by assumption) ?_
                        rotate_left 1
                        · (intro w hSw; (try dsimp only at hSw); go_simp) <;> (with_reducible rfl)
                        (try simp only [Act.put, List.setIfInBounds_toArray, List.set_cons_succ, List.set_cons_zero])
                        refine wpAnyH_take (i := 35) (oi := ⟨some 137, _, _, _, _, _⟩) (v := ?_) rfl (by kernel_rfl) (by kernel_rfl) (by kernel_rfl) (fun _ _ _ h => h) (Or.inl ⟨by kernel_rfl, ?_⟩) (by assumption) ?_
                        rotate_left 1
                        · (intro w hSw; (try dsimp only at hSw); go_simp) <;> (with_reducible rfl)
                        (try simp only [Act.put, List.setIfInBounds_toArray, List.set_cons_succ, List.set_cons_zero])
                        refine wpAnyH_take (i := 36) (oi := ⟨some 138, _, _, _, _, _⟩) (v := ?_) rfl (by kernel_rfl) (by kernel_rfl) (by kernel_rfl) (fun _ _ _ h => h) (Or.inl ⟨by kernel_rfl, ?_⟩) (by assumption) ?_
                        rotate_left 1
                        · (intro w hSw; (try dsimp only at hSw); go_simp) <;> (with_reducible rfl)
                        (try simp only [Act.put, List.setIfInBounds_toArray, List.set_cons_succ, List.set_cons_zero])
                        refine wpAnyH_take (i := 37) (oi := ⟨some 139, _, _, _, _, _⟩) (v := ?_) rfl (by kernel_rfl) (by kernel_rfl) (by kernel_rfl) (fun _ _ _ h => h) (Or.inl ⟨by kernel_rfl, ?_⟩) (by assumption) ?_
                        rotate_left 1
                        · (intro w hSw; (try dsimp only at hSw); go_simp) <;> (with_reducible rfl)
                        (try simp only [Act.put, List.setIfInBounds_toArray, List.set_cons_succ, List.set_cons_zero])
                        refine wpAnyH_take (i := 38) (oi := ⟨some 140, _, _, _, _, _⟩) (v := ?_) rfl (by kernel_rfl) (by kernel_rfl) (by kernel_rfl) (fun _ _ _ h => h) (Or.inl ⟨by kernel_rfl, ?_⟩) (by assumption) ?_
                        rotate_left 1
                        · (intro w hSw; (try dsimp only at hSw); go_simp) <;> (with_reducible rfl)
                        (try simp only [Act.put, List.setIfInBounds_toArray, List.set_cons_succ, List.set_cons_zero])
                        refine wpAnyH_take (i := 39) (oi := ⟨some 141, _, _, _, _, _⟩) (v := ?_) rfl (by kernel_rfl) (by kernel_rfl) (by kernel_rfl) (fun _ _ _ h => h) (Or.inl ⟨by kernel_rfl, ?_⟩) (by assumption) ?_
                        rotate_left 1
                        · (intro w hSw; (try dsimp only at hSw); go_simp) <;> (with_reducible rfl)
                        (try simp only [Act.put, List.setIfInBounds_toArray, List.set_cons_succ, List.set_cons_zero])
                        refine wpAnyH_take (i := 40) (oi := ⟨some 142, _, _, _, _, _⟩) (v := ?_) rfl (by kernel_rfl) (by kernel_rfl) (by kernel_rfl) (fun _ _ _ h => h) (Or.inl ⟨by kernel_rfl, ?_⟩) (by assumption) ?_
                        rotate_left 1
                        · (intro w hSw; (try dsimp only at hSw); go_simp) <;> (with_reducible rfl)
                        (try simp only [Act.put, List.setIfInBounds_toArray, List.set_cons_succ, List.set_cons_zero])
                        refine wpAnyH_take (i := 41) (oi := ⟨some 143, _, _, _, _, _⟩) (v := ?_) rfl (by kernel_rfl) (by kernel_rfl) (by kernel_rfl) (fun _ _ _ h => h) (Or.inl ⟨by kernel_rfl, ?_⟩) (by assumption) ?_
                        rotate_left 1
                        · (intro w hSw; (try dsimp only at hSw); go_simp) <;> (with_reducible rfl)
                        (try simp only [Act.put, List.setIfInBounds_toArray, List.set_cons_succ, List.set_cons_zero])
                        refine wpAnyH_take (i := 42) (oi := ⟨some 144, _, _, _, _, _⟩) (v := ?_) rfl (by kernel_rfl) (by kernel_rfl) (by kernel_rfl) (fun _ _ _ h => h) (Or.inl ⟨by kernel_rfl, ?_⟩) (by assumption) ?_
                        rotate_left 1
                        · (intro w hSw; (try dsimp only at hSw); go_simp) <;> (with_reducible rfl)
                        (try simp only [Act.put, List.setIfInBounds_toArray, List.set_cons_succ, List.set_cons_zero])
                        refine wpAnyH_take (i := 43) (oi := ⟨some 145, _, _, _, _, _⟩) (v := ?_) rfl (by kernel_rfl) (by kernel_rfl) (by kernel_rfl) (fun _ _ _ h => h) (Or.inl ⟨by kernel_rfl, ?_⟩) (by assumption) ?_
                        rotate_left 1
                        · (intro w hSw; (try dsimp only at hSw); go_simp) <;> (with_reducible rfl)
                        (try simp only [Act.put, List.setIfInBounds_toArray, List.set_cons_succ, List.set_cons_zero])
                        refine wpAnyH_take (i := 44) (oi := ⟨some 146, _, _, _, _, _⟩) (v := ?_) rfl (by kernel_rfl) (by kernel_rfl) (by kernel_rfl) (fun _ _ _ h => h) (Or.inl ⟨by kernel_rfl, ?_⟩) (by assumption) ?_
                        rotate_left 1
                        · (intro w hSw; (try dsimp only at hSw); go_simp) <;> (with_reducible rfl)
                        (try simp only [Act.put, List.setIfInBounds_toArray, List.set_cons_succ, List.set_cons_zero])
                        refine wpAnyH_take (i := 45) (oi := ⟨some 147, _, _, _, _, _⟩) (v := ?_) rfl (by kernel_rfl) (by kernel_rfl) (by kernel_rfl) (fun _ _ _ h => h) (Or.inl ⟨by kernel_rfl, ?_⟩) (by assumption) ?_
                        rotate_left 1
                        · (intro w hSw; (try dsimp only at hSw); go_simp) <;> (with_reducible rfl)
                        (try simp only [Act.put, List.setIfInBounds_toArray, List.set_cons_succ, List.set_cons_zero])
                        refine wpAnyH_take (i := 46) (oi := ⟨some 148, _, _, _, _, _⟩) (v := ?_) rfl (by kernel_rfl) (by kernel_rfl) (by kernel_rfl) (fun _ _ _ h => h) (Or.inl ⟨by kernel_rfl, ?_⟩) (by assumption) ?_
                        rotate_left 1
                        · (intro w hSw; (try dsimp only at hSw); go_simp) <;> (with_reducible rfl)
                        (try simp only [Act.put, List.setIfInBounds_toArray, List.set_cons_succ, List.set_cons_zero])
                        refine wpAnyH_take (i := 47) (oi := ⟨some 149, _, _, _, _, _⟩) (v := ?_) rfl (by kernel_rfl) (by kernel_rfl) (by kernel_rfl) (fun _ _ _ h => h) (Or.inl ⟨by kernel_rfl, ?_⟩) (by assumption) ?_
                        rotate_left 1
                        · (intro w hSw; (try dsimp only at hSw); go_simp) <;> (with_reducible rfl)
                        (try simp only [Act.put, List.setIfInBounds_toArray, List.set_cons_succ, List.set_cons_zero])
                        refine wpAnyH_take (i := 48) (oi := ⟨some 150, _, _, _, _, _⟩) (v := ?_) rfl (by kernel_rfl) (by kernel_rfl) (by kernel_rfl) (fun _ _ _ h => h) (Or.inl ⟨by kernel_rfl, ?_⟩) (by assumption) ?_
                        rotate_left 1
                        · (intro w hSw; (try dsimp only at hSw); go_simp) <;> (with_reducible rfl)
                        (try simp only [Act.put, List.setIfInBounds_toArray, List.set_cons_succ, List.set_cons_zero])
                        refine wpAnyH_take (i := 49) (oi := ⟨some 151, _, _, _, _, _⟩) (v := ?_) rfl (by kernel_rfl) (by kernel_rfl) (by kernel_rfl) (fun _ _ _ h => h) (Or.inl ⟨by kernel_rfl, ?_⟩) (by assumption) ?_
                        rotate_left 1
                        · (intro w hSw; (try dsimp only at hSw); go_simp) <;> (with_reducible rfl)
                        (try simp only [Act.put, List.setIfInBounds_toArray, List.set_cons_succ, List.set_cons_zero])
                        refine wpAnyH_take (i := 50) (oi := ⟨some 152, _, _, _, _, _⟩) (v := ?_) rfl (by kernel_rfl) (by kernel_rfl) (by kernel_rfl) (fun _ _ _ h => h) (Or.inl ⟨by kernel_rfl, ?_⟩) (by assumption) ?_
                        rotate_left 1
                        · (intro w hSw; (try dsimp only at hSw); go_simp) <;> (with_reducible rfl)
                        (try simp only [Act.put, List.setIfInBounds_toArray, List.set_cons_succ, List.set_cons_zero])
                        refine wpAnyH_take (i := 51) (oi := ⟨some 153, _, _, _, _, _⟩) (v := ?_) rfl (by kernel_rfl) (by kernel_rfl) (by kernel_rfl) (fun _ _ _ h => h) (Or.inl ⟨by kernel_rfl, ?_⟩) (by assumption) ?_
                        rotate_left 1
                        · (intro w hSw; (try dsimp only at hSw); go_simp) <;> (with_reducible rfl)
                        (try simp only [Act.put, List.setIfInBounds_toArray, List.set_cons_succ, List.set_cons_zero])
                        refine wpAnyH_take (i := 52) (oi := ⟨some 154, _, _, _, _, _⟩) (v := ?_) rfl (by kernel_rfl) (by kernel_rfl) (by kernel_rfl) (fun _ _ _ h => h) (Or.inl ⟨by kernel_rfl, ?_⟩) (by assumption) ?_
                        rotate_left 1
                        · (intro w hSw; (try dsimp only at hSw); go_simp) <;> (with_reducible rfl)
                        (try simp only [Act.put, List.setIfInBounds_toArray, List.set_cons_succ, List.set_cons_zero])
                        refine wpAnyH_take (i := 53) (oi := ⟨some 155, _, _, _, _, _⟩) (v := ?_) rfl (by kernel_rfl) (by kernel_rfl) (by kernel_rfl) (fun _ _ _ h => h) (Or.inl ⟨by kernel_rfl, ?_⟩) (by assumption) ?_
                        rotate_left 1
                        · (intro w hSw; (try dsimp only at hSw); go_simp) <;> (with_reducible rfl)
                        (try simp only [Act.put, List.setIfInBounds_toArray, List.set_cons_succ, List.set_cons_zero])
                        refine wpAnyH_take (i := 54) (oi := ⟨some 156, _, _, _, _, _⟩) (v := ?_) rfl (by kernel_rfl) (by kernel_rfl) (by kernel_rfl) (fun _ _ _ h => h) (Or.inl ⟨by kernel_rfl, ?_⟩) (by assumption) ?_
                        rotate_left 1
                        · (intro w hSw; (try dsimp only at hSw); go_simp) <;> (with_reducible rfl)
                        (try simp only [Act.put, List.setIfInBounds_toArray, List.set_cons_succ, List.set_cons_zero])
                        refine wpAnyH_take (i := 55) (oi := ⟨some 157, _, _, _, _, _⟩) (v := ?_) rfl (by kernel_rfl) (by kernel_rfl) (by kernel_rfl) (fun _ _ _ h => h) (Or.inl ⟨by kernel_rfl, ?_⟩) (by assumption) ?_
                        rotate_left 1
                        · (intro w hSw; (try dsimp only at hSw); go_simp) <;> (with_reducible rfl)
                        (try simp only [Act.put, List.setIfInBounds_toArray, List.set_cons_succ, List.set_cons_zero])
                        refine wpAnyH_done (by kernel_rfl) ?_ _
                        refine NoPanic.normal ?_
                        go_wp2
                        go_roundw
                        case rel => exact ⟨i + 1, by omega, by go_num, by rw [SNX2.out], hide (btrans (btrans K.out KY.out) KZ.out), hide (btrans (btrans KC.out KY.out) KZ.out), hide (btrans (btrans K3.out KY.out) KZ.out)⟩
                        case measure => simp [intOf]; omega
                  · obtain rfl : i = M.length := by omega
                    have OS := hide (own_sum HV.out)
                    rw [NG.out] at OS
                    have TR := hide (show tR G = us G 0 from if_pos HCH.out)
                    have TTG := hide (tot_any A6 c6 G _ (RG.out _ KC.out) (by rw [NG.out]; exact HCG.out) NGL.out)
                    rw [NG.out, TR.out, ← OS.out] at TTG
                    go_wp2_with fail
                    refine TTG.out.mono ?_
                    rintro e wt ⟨rfl, hb⟩
                    clear TTG
                    have RG2 := hide (RG.out _ (btrans KC.out hb))
                    replace K := hide (btrans K.out hb)
                    clear hb OS TR
                    have NGH := hide (show G.length = L.length from NG.out.trans NL.out)
                    generalize sm (own G) M.length = z at *
                    have NGS := NG.out
                    go_wp2
                    go_roundw
                    case rel => exact ⟨k + 1, G, A6, c6, by omega, by go_num, by rw [NG.out], RG2, hide (by rw [NG.out]; exact HCG.out), NGL, NGH, HV, K⟩
                    case measure => simp [intOf]; omega
              · have _u := trivial
                have de : (ucE M oa on != 0) = true := by simpa using he
                have RM2 := hide (RM.out _ K3.out)
                clear hb hO he
                generalize ucE M oa on = ce at *
                go_wp2
                go_roundw
                case rel => exact ⟨k + 1, M, AM, cM, by omega, by go_num, rfl, RM2, CM, NM, NL, HM, K⟩
                case measure => simp [intOf]; omega
          · obtain rfl : k = O.length := by omega
            go_wp2
            go_ret
            exact ⟨rfl, K.out⟩
      · have de : (chE L != 0) = true := by simpa using hc
        clear hc
        go_enter Try.func6, Try.ntmps6
        go_wp2_with fail
        refine (AWK.out _).mono ?_
        rintro e w1 ⟨rfl, hb⟩
        replace K := hide (btrans K.out hb)
        clear hb
        go_wp2_with fail
        refine (C0.out _).mono ?_
        rintro e w2 ⟨rfl, rfl⟩
        go_wp2_with fail
        refine (check_any A cp L _ (HR.out _ K.out) HCP.out HN.out).mono ?_
        rintro e w2b ⟨rfl, hb⟩
        replace K := hide (btrans K.out hb)
        clear hb
        generalize chE L = ce at *
        go_wp2_with fail
        refine (AWK.out _).mono ?_
        rintro e w8 ⟨rfl, hb⟩
        replace K := hide (btrans K.out hb)
        clear hb
        go_wp2
        go_ret
        exact ⟨rfl, K.out⟩
  · have d20 := decide_eq_false h20
    rw [d20] at C0
    clear h20 d20 h
    go_enter Try.func6, Try.ntmps6
    go_wp2_with fail
    refine (AWK.out _).mono ?_
    rintro e w1 ⟨rfl, hb⟩
    replace K := hide (btrans K.out hb)
    clear hb
    go_wp2_with fail
    refine (C0.out _).mono ?_
    rintro e w2 ⟨rfl, rfl⟩
    go_wp2_with fail
    refine (AWK.out _).mono ?_
    rintro e w8 ⟨rfl, hb⟩
    replace K := hide (btrans K.out hb)
    clear hb
    go_wp2
    go_ret
    exact ⟨rfl, K.out⟩
end Go.Proofs.Ytclkflnonckajaa.Ac
