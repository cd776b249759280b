import Derived.Test.YtacehgcgkpolhaaCon
namespace Go.Proofs.Ytacehgcgkpolhaa.Pt
open Go Go.RowKit
set_option linter.unusedVariables false
theorem ret_ent2 {fn : Func} {a : Act} {W : World} {g : Nat} {e k n : Int} {wr ac di hu : Bool} {Q : Ending → World → Prop} (hr : fn.results = #[.cell 4 23, .tmp 5]) (h2 : a.tmps.getD 4 undef = .pointer (some ⟨g, 0, none⟩)) (h3 : a.tmps.getD 5 undef = .int .i64 e) (hd : a.defers = [])
    (hE : Ent W g k n wr ac di hu) (hq : Q (.returned (.tuple #[.agg #[.int .i64 k, .int .i64 n, .bool wr, .bool ac, .bool di, .bool hu], .int .i64 e])) W) : bodyPost Try.prog fn Q .ret a W := by
  obtain ⟨x0, x1, x2, x3, x4, x5⟩ := hE.cells
  simp only [Array.getD_eq_getD_getElem?] at h2 h3
  exact bodyPost_ret (v := .tuple #[.agg #[.int .i64 k, .int .i64 n, .bool wr, .bool ac, .bool di, .bool hu], .int .i64 e]) (by simp [results, hr, h2, h3, go_sem, x0, x1, x2, x3, x4, x5]) hd hq
theorem contains_t (g : Nat) (l : List Int) (x : Int) (w : World) (hl : l.length ≤ 100) (hc : ∀ k, k < l.length → w.cell? ⟨g, k, none⟩ = some (.int .i64 (l.getD k 0))) (h : x ∈ l) :
    Calls Try.prog 37 #[.slice (some ⟨g, 0, none⟩) l.length l.length, .int .i64 x] w fun e w' => e = .returned (.bool true) ∧ w = w' := (contains_any g l x w hl hc).mono fun e w' ⟨he, hw⟩ => ⟨by rw [he, decide_eq_true h], hw⟩
theorem contains_f (g : Nat) (l : List Int) (x : Int) (w : World) (hl : l.length ≤ 100) (hc : ∀ k, k < l.length → w.cell? ⟨g, k, none⟩ = some (.int .i64 (l.getD k 0))) (h : x ∉ l) :
    Calls Try.prog 37 #[.slice (some ⟨g, 0, none⟩) l.length l.length, .int .i64 x] w fun e w' => e = .returned (.bool false) ∧ w = w' := (contains_any g l x w hl hc).mono fun e w' ⟨he, hw⟩ => ⟨by rw [he, decide_eq_false h], hw⟩
set_option maxHeartbeats 1000000 in
theorem dk_bad (W : Int) (g : Nat) (l : List Int) (w : World) (h0 : 0 ≤ W) (h1 : W < 18446744073709551616) (hl : l.length ≤ 100) (hg : g < w.heap.size) (hc : ∀ k, k < l.length → w.cell? ⟨g, k, none⟩ = some (.int .i64 (l.getD k 0))) (h : good W = false) :
    Calls Try.prog 34 #[.int .u64 W, .slice (some ⟨g, 0, none⟩) l.length l.length] w fun e w' => e = .returned (.tuple #[.agg #[.int .i64 0, .int .i64 0, .bool false, .bool false, .bool false, .bool false], .int .i64 3]) ∧ Below w.heap.size w w' := by
  have H := hide h
  have HC := hide hc
  have HG := hide hg
  clear h hc hg
  go_enter Try.func34, Try.ntmps34
  go_wp2_with fail
  refine (dec_bad W _ h0 h1 H.out).mono ?_
  rintro e w1 ⟨rfl, hb1⟩
  have K := hide (btrans (bal (brefl w) (.cells #[.int .i64 0, .int .i64 0, .bool false, .bool false, .bool false, .bool false] 23)) hb1)
  have R := hide ((Ent.new w 0 0 false false false false).below hb1)
  have L := hide (Ent.lt R.out)
  clear hb1
  have y := L.out
  obtain ⟨x0, x1, x2, x3, x4, x5⟩ := Ent.cells (Ent.new w1 0 0 false false false false)
  obtain ⟨x0r, x1r, x2r, x3r, x4r, x5r⟩ := Ent.cells R.out
  obtain ⟨q0r, q1r, q2r, q3r, q4r, q5r⟩ := Ent.free R.out
  go_wp2_with fail
  exact ret_ent2 Try.results34 rfl rfl rfl ((Ent.put R.out).below (bal (brefl _) _)) ⟨rfl, bal (bset (bset (bset (bset (bset (bset K.out (by simp) _) (by simp) _) (by simp) _) (by simp) _) (by simp) _) (by simp) _) _⟩
set_option maxHeartbeats 1000000 in
theorem dk_in (W : Int) (g : Nat) (l : List Int) (w : World) (h0 : 0 ≤ W) (h1 : W < 18446744073709551616) (hl : l.length ≤ 100) (hg : g < w.heap.size) (hc : ∀ k, k < l.length → w.cell? ⟨g, k, none⟩ = some (.int .i64 (l.getD k 0))) (h : good W = true) (hm : uk W ∈ l) :
    Calls Try.prog 34 #[.int .u64 W, .slice (some ⟨g, 0, none⟩) l.length l.length] w fun e w' => e = .returned (.tuple #[.agg #[.int .i64 (uk W), .int .i64 (un W), .bool (f3 W), .bool (f4 W), .bool (f5 W), .bool (f6 W)], .int .i64 0]) ∧ Below w.heap.size w w' := by
  have H := hide h
  have HC := hide hc
  have HG := hide hg
  clear h hc hg
  have HM := hide hm
  clear hm
  go_enter Try.func34, Try.ntmps34
  go_wp2_with fail
  refine (dec_good W _ h0 h1 H.out).mono ?_
  rintro e w1 ⟨rfl, hb1⟩
  have K := hide (btrans (bal (brefl w) (.cells #[.int .i64 0, .int .i64 0, .bool false, .bool false, .bool false, .bool false] 23)) hb1)
  have R := hide ((Ent.new w 0 0 false false false false).below hb1)
  have L := hide (Ent.lt R.out)
  clear hb1
  have X := hide (Ent.new w1 (uk W) (un W) (f3 W) (f4 W) (f5 W) (f6 W))
  have K0 := K
  replace K := hide (bal K.out (.cells #[.int .i64 (uk W), .int .i64 (un W), .bool (f3 W), .bool (f4 W), .bool (f5 W), .bool (f6 W)] 23))
  have y := L.out
  have HC2 := hide (fun k hk => (K.out.cell (p := ⟨g, k, none⟩) HG.out).trans (HC.out k hk))
  obtain ⟨x0, x1, x2, x3, x4, x5⟩ := Ent.cells X.out
  go_wp2_with fail
  refine (contains_t g l (uk W) _ hl HC2.out HM.out).mono ?_
  rintro e w2 ⟨rfl, rfl⟩
  obtain ⟨x0r, x1r, x2r, x3r, x4r, x5r⟩ := Ent.cells R.out
  obtain ⟨q0r, q1r, q2r, q3r, q4r, q5r⟩ := Ent.free R.out
  go_wp2_with fail
  exact ret_ent2 Try.results34 rfl rfl rfl ((Ent.put R.out).below (bal (brefl _) _)) ⟨rfl, bal (bset (bset (bset (bset (bset (bset K0.out (by simp) _) (by simp) _) (by simp) _) (by simp) _) (by simp) _) (by simp) _) _⟩
set_option maxHeartbeats 1000000 in
theorem dk_out (W : Int) (g : Nat) (l : List Int) (w : World) (h0 : 0 ≤ W) (h1 : W < 18446744073709551616) (hl : l.length ≤ 100) (hg : g < w.heap.size) (hc : ∀ k, k < l.length → w.cell? ⟨g, k, none⟩ = some (.int .i64 (l.getD k 0))) (h : good W = true) (hm : uk W ∉ l) :
    Calls Try.prog 34 #[.int .u64 W, .slice (some ⟨g, 0, none⟩) l.length l.length] w fun e w' => e = .returned (.tuple #[.agg #[.int .i64 0, .int .i64 0, .bool false, .bool false, .bool false, .bool false], .int .i64 11]) ∧ Below w.heap.size w w' := by
  have H := hide h
  have HC := hide hc
  have HG := hide hg
  clear h hc hg
  have HM := hide hm
  clear hm
  go_enter Try.func34, Try.ntmps34
  go_wp2_with fail
  refine (dec_good W _ h0 h1 H.out).mono ?_
  rintro e w1 ⟨rfl, hb1⟩
  have K := hide (btrans (bal (brefl w) (.cells #[.int .i64 0, .int .i64 0, .bool false, .bool false, .bool false, .bool false] 23)) hb1)
  have R := hide ((Ent.new w 0 0 false false false false).below hb1)
  have L := hide (Ent.lt R.out)
  clear hb1
  have X := hide (Ent.new w1 (uk W) (un W) (f3 W) (f4 W) (f5 W) (f6 W))
  have K0 := K
  replace K := hide (bal K.out (.cells #[.int .i64 (uk W), .int .i64 (un W), .bool (f3 W), .bool (f4 W), .bool (f5 W), .bool (f6 W)] 23))
  have y := L.out
  have HC2 := hide (fun k hk => (K.out.cell (p := ⟨g, k, none⟩) HG.out).trans (HC.out k hk))
  obtain ⟨x0, x1, x2, x3, x4, x5⟩ := Ent.cells X.out
  go_wp2_with fail
  refine (contains_f g l (uk W) _ hl HC2.out HM.out).mono ?_
  rintro e w2 ⟨rfl, rfl⟩
  obtain ⟨x0r, x1r, x2r, x3r, x4r, x5r⟩ := Ent.cells R.out
  obtain ⟨q0r, q1r, q2r, q3r, q4r, q5r⟩ := Ent.free R.out
  go_wp2_with fail
  exact ret_ent2 Try.results34 rfl rfl rfl ((Ent.put R.out).below (bal (brefl _) _)) ⟨rfl, bal (bset (bset (bset (bset (bset (bset K0.out (by simp) _) (by simp) _) (by simp) _) (by simp) _) (by simp) _) (by simp) _) _⟩
end Go.Proofs.Ytacehgcgkpolhaa.Pt
