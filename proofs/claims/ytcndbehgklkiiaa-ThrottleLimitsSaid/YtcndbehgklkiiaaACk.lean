import Derived.Test.YtcndbehgklkiiaaAFn3
namespace Go.Proofs.Ytcndbehgklkiiaa.Ac
open Go Go.RowKit
set_option linter.unusedVariables false
set_option linter.unusedSimpArgs false
theorem rg_ok {L : List A5} : rg L ↔ ∀ j, j < L.length → okA (aAt L j) := Iff.rfl
theorem lim_ok {L : List A5} : lim L ↔ ∀ j, j < L.length → (aAt L j).us ≤ (aAt L j).mx := Iff.rfl
set_option maxRecDepth 100000 in
set_option maxHeartbeats 4000000 in
theorem check_any (A : Option Addr) (cp : Nat) (L : List A5) (w : World) (hr : As w A L) (hcp : L.length ≤ cp) (hn : L.length ≤ 9223372036854775807) :
    Calls Try.prog 47 #[.slice A L.length cp] w fun e w' => e = .returned (.int .i64 (chE L)) ∧ Below w.heap.size w w' := by
  have HR := hide (fun w' (h : Below w.heap.size w w') => hr.below h)
  have K := hide (brefl w)
  by_cases h8 : 1 ≤ L.length ∧ L.length ≤ 8
  · have d1 : ¬ (L.length : Int) < 1 := by omega
    have d8 : ¬ (8 : Int) < (L.length : Int) := by omega
    have H8 := hide h8
    have HCP := hide hcp
    have HN := hide hn
    obtain ⟨b, off, hA, hbl, y0, y1, y2, y3, y4⟩ := hr.cells (brefl w) (show 0 < L.length by omega)
    have hl0 : (0 : Int) < (L.length : Int) := by omega
    have hln : 0 < L.length := by omega
    rw [Nat.zero_mul, Nat.add_zero] at y2 y3
    have Y2 := hide (show ∀ w', Below w.heap.size w w' → w'.cell? ⟨b, off + 2, none⟩ = some (.int .i64 (mn L 0)) from fun w' h => (h.cell (p := ⟨b, off + 2, none⟩) hbl).trans y2)
    have Y3 := hide (show ∀ w', Below w.heap.size w w' → w'.cell? ⟨b, off + 3, none⟩ = some (.int .i64 (lo L 0)) from fun w' h => (h.cell (p := ⟨b, off + 3, none⟩) hbl).trans y3)
    subst hA
    clear hr y0 y1 y2 y3 y4 h8 hcp hn hbl
    by_cases ht : tr L
    · have HT := hide ht
      have t1 := decide_eq_true ht
      clear ht
      by_cases hg : rg L
      · have HG := hide hg
        have t2 := decide_eq_true (rg_ok.1 hg)
        clear hg
        by_cases hm : mn L 0 = 0
        · by_cases hl : lo L 0 = 0
          · have HRT := hide (show rt L from ⟨hm, hl⟩)
            rw [hm] at Y2
            rw [hl] at Y3
            clear hm hl
            by_cases hi : lim L
            · have HI := hide hi
              have t3 := decide_eq_true (lim_ok.1 hi)
              clear hi
              go_enter Try.func47, Try.ntmps47
              go_wp2_with fail
              refine (tree_any (some ⟨b, off, none⟩) cp L _ (HR.out _ K.out) H8.out.1 H8.out.2 HCP.out).mono ?_
              rintro e w' ⟨rfl, hb⟩
              replace K := hide (btrans K.out hb)
              clear hb
              go_wp2_with fail
              refine (out_cont (some ⟨b, off, none⟩) cp L _ (HR.out _ K.out) HN.out).mono ?_
              rintro e w' ⟨rfl, hb⟩
              replace K := hide (btrans K.out hb)
              clear hb
              have y2 := Y2.out _ K.out
              have y3 := Y3.out _ K.out
              go_wp2_with fail
              refine (over_cont (some ⟨b, off, none⟩) cp L _ (HR.out _ K.out) HN.out).mono ?_
              rintro e w' ⟨rfl, hb⟩
              replace K := hide (btrans K.out hb)
              clear hb
              clear y2 y3
              go_wp2_with fail
              refine (own_any (some ⟨b, off, none⟩) cp L _ (HR.out _ K.out) H8.out.1 H8.out.2 HT.out HG.out).mono ?_
              rintro e w' ⟨g, rfl, hS, hgs, hb⟩
              replace K := hide (btrans K.out hb)
              have MB := hide (min_any (some ⟨g, 0, none⟩) L.length (rl L.length (own L)) w' hS.bi (by rw [rl_len]; exact H8.out.1) (by rw [rl_len]; have := H8.out.2; omega))
              rw [rl_len] at MB
              clear hS hgs hb
              go_wp2_with fail
              refine MB.out.mono ?_
              rintro e w9 ⟨m, rfl, hm, rfl⟩
              have ST := hide (show 0 ≤ m ↔ sta L from ⟨fun h k hk => (by have := hm.1 h k (by rw [rl_len]; exact hk); rwa [rl_at hk] at this), fun h => hm.2 fun j hj => (by rw [rl_len] at hj; rw [rl_at hj]; exact h j hj)⟩)
              clear hm MB
              by_cases h0 : m < 0
              · have E := hide (chE_11 H8.out HT.out HG.out HRT.out HI.out (fun h => by have := ST.out.2 h; omega))
                clear ST
                go_wp2
                go_ret
                exact ⟨ret_int E.out.symm, K.out⟩
              · have E := hide (chE_0 ⟨H8.out, HT.out, HG.out, HRT.out, HI.out, ST.out.1 (by omega)⟩)
                clear ST
                go_wp2
                go_ret
                exact ⟨ret_int E.out.symm, K.out⟩
            · have t3 := decide_eq_false (fun h => hi (lim_ok.2 h))
              have E := hide (chE_17 H8.out HT.out HG.out HRT.out hi)
              clear hi
              go_enter Try.func47, Try.ntmps47
              go_wp2_with fail
              refine (tree_any (some ⟨b, off, none⟩) cp L _ (HR.out _ K.out) H8.out.1 H8.out.2 HCP.out).mono ?_
              rintro e w' ⟨rfl, hb⟩
              replace K := hide (btrans K.out hb)
              clear hb
              go_wp2_with fail
              refine (out_cont (some ⟨b, off, none⟩) cp L _ (HR.out _ K.out) HN.out).mono ?_
              rintro e w' ⟨rfl, hb⟩
              replace K := hide (btrans K.out hb)
              clear hb
              have y2 := Y2.out _ K.out
              have y3 := Y3.out _ K.out
              go_wp2_with fail
              refine (over_cont (some ⟨b, off, none⟩) cp L _ (HR.out _ K.out) HN.out).mono ?_
              rintro e w' ⟨rfl, hb⟩
              replace K := hide (btrans K.out hb)
              clear hb
              clear y2 y3
              go_wp2
              go_ret
              exact ⟨ret_int E.out.symm, K.out⟩
          · have E := hide (chE_2 H8.out HT.out (fun h => hl h.2.2))
            have dl : (lo L 0 != 0) = true := by simpa using hl
            rw [hm] at Y2
            clear hl hm
            go_enter Try.func47, Try.ntmps47
            go_wp2_with fail
            refine (tree_any (some ⟨b, off, none⟩) cp L _ (HR.out _ K.out) H8.out.1 H8.out.2 HCP.out).mono ?_
            rintro e w' ⟨rfl, hb⟩
            replace K := hide (btrans K.out hb)
            clear hb
            go_wp2_with fail
            refine (out_cont (some ⟨b, off, none⟩) cp L _ (HR.out _ K.out) HN.out).mono ?_
            rintro e w' ⟨rfl, hb⟩
            replace K := hide (btrans K.out hb)
            clear hb
            have y2 := Y2.out _ K.out
            have y3 := Y3.out _ K.out
            generalize lo L 0 = ll at *
            go_wp2
            go_ret
            exact ⟨ret_int E.out.symm, K.out⟩
        · have E := hide (chE_2 H8.out HT.out (fun h => hm h.2.1))
          have dl : (mn L 0 != 0) = true := by simpa using hm
          clear hm
          go_enter Try.func47, Try.ntmps47
          go_wp2_with fail
          refine (tree_any (some ⟨b, off, none⟩) cp L _ (HR.out _ K.out) H8.out.1 H8.out.2 HCP.out).mono ?_
          rintro e w' ⟨rfl, hb⟩
          replace K := hide (btrans K.out hb)
          clear hb
          go_wp2_with fail
          refine (out_cont (some ⟨b, off, none⟩) cp L _ (HR.out _ K.out) HN.out).mono ?_
          rintro e w' ⟨rfl, hb⟩
          replace K := hide (btrans K.out hb)
          clear hb
          have y2 := Y2.out _ K.out
          generalize mn L 0 = ll at *
          go_wp2
          go_ret
          exact ⟨ret_int E.out.symm, K.out⟩
      · have E := hide (chE_2 H8.out HT.out (fun h => hg h.1))
        have t2 := decide_eq_false (fun h => hg (rg_ok.2 h))
        clear hg
        go_enter Try.func47, Try.ntmps47
        go_wp2_with fail
        refine (tree_any (some ⟨b, off, none⟩) cp L _ (HR.out _ K.out) H8.out.1 H8.out.2 HCP.out).mono ?_
        rintro e w' ⟨rfl, hb⟩
        replace K := hide (btrans K.out hb)
        clear hb
        go_wp2_with fail
        refine (out_cont (some ⟨b, off, none⟩) cp L _ (HR.out _ K.out) HN.out).mono ?_
        rintro e w' ⟨rfl, hb⟩
        replace K := hide (btrans K.out hb)
        clear hb
        go_wp2
        go_ret
        exact ⟨ret_int E.out.symm, K.out⟩
    · have E := hide (chE_1 H8.out ht)
      have t1 := decide_eq_false ht
      clear ht
      go_enter Try.func47, Try.ntmps47
      go_wp2_with fail
      refine (tree_any (some ⟨b, off, none⟩) cp L _ (HR.out _ K.out) H8.out.1 H8.out.2 HCP.out).mono ?_
      rintro e w' ⟨rfl, hb⟩
      replace K := hide (btrans K.out hb)
      clear hb
      go_wp2
      go_ret
      exact ⟨ret_int E.out.symm, K.out⟩
  · have E := hide (chE_9 h8)
    by_cases h1 : L.length < 1
    · have d1 : (L.length : Int) < 1 := by omega
      clear hr h8
      go_enter Try.func47, Try.ntmps47
      go_wp2
      go_ret
      exact ⟨ret_int E.out.symm, K.out⟩
    · have d1 : ¬ (L.length : Int) < 1 := by omega
      have d8 : (8 : Int) < (L.length : Int) := by omega
      clear hr h8
      go_enter Try.func47, Try.ntmps47
      go_wp2
      go_ret
      exact ⟨ret_int E.out.symm, K.out⟩
end Go.Proofs.Ytcndbehgklkiiaa.Ac
