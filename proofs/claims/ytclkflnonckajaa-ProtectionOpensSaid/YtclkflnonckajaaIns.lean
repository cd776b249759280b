import Derived.Test.YtclkflnonckajaaBw
namespace Go.Proofs.Ytclkflnonckajaa.Ac
open Go Go.RowKit Go.Shelf
set_option linter.unusedVariables false
set_option linter.unusedSimpArgs false
attribute [local go_sem] Oper.semAt_some
/-- one account hands its number up -/
def st1 (L : List A5) (q : Is) (i : Nat) : Is := if 0 < i then q.set (pa L i).toNat (nAt q (pa L i).toNat + nAt q i) else q
def fo (L : List A5) (v : Is) (pre : List (Fin L.length)) : Is := pre.foldl (fun q i => st1 L q i.val) v
section
variable {L : List A5} {v : Is}
theorem st1_len (q : Is) (i : Nat) : (st1 L q i).length = q.length := by unfold st1; split <;> simp
theorem fo_snoc (pre : List (Fin L.length)) (x : Fin L.length) : fo L v (pre ++ [x]) = st1 L (fo L v pre) x.val := by unfold fo; rw [List.foldl_append]; rfl
theorem fo_len : ∀ (pre : List (Fin L.length)) (v : Is), (fo L v pre).length = v.length
  | [], _ => rfl
  | x :: l, v => by show (fo L (st1 L v x.val) l).length = _; rw [fo_len l, st1_len]
def BD (q : Is) (m : Int) : Prop := ∀ j, j < q.length → 0 ≤ nAt q j ∧ nAt q j ≤ m
theorem st1_bd (V : tr L) {q : Is} {m : Int} (hl : q.length = L.length) (h : BD q m) {i : Nat} (hi : i < L.length) : BD (st1 L q i) (m + m) := by
  intro j hj
  rw [st1_len] at hj
  have hj0 := h j hj
  unfold st1
  split
  · rename_i h0
    have hp := V.2 i hi h0
    have h1 := h (pa L i).toNat (by omega)
    have h2 := h i (by omega)
    have e : nAt (q.set (pa L i).toNat (nAt q (pa L i).toNat + nAt q i)) j = if j = (pa L i).toNat then nAt q (pa L i).toNat + nAt q i else nAt q j := by
      unfold nAt
      rw [List.getD_eq_getElem?_getD, List.getElem?_set]
      by_cases e : (pa L i).toNat = j
      · rw [if_pos e, if_pos e.symm, if_pos (by omega)]; rfl
      · rw [if_neg e, if_neg (fun h => e h.symm)]; rfl
    rw [e]
    split <;> omega
  · omega
def pw2 : Nat → Int
  | 0 => 1048576
  | n + 1 => pw2 n + pw2 n
theorem pw2_le : ∀ n : Nat, n ≤ 8 → 0 ≤ pw2 n ∧ pw2 n ≤ 268435456 := by decide
theorem BD.mono {q : Is} {m m' : Int} (h : BD q m) (hm : m ≤ m') : BD q m' := fun j hj => by have := h j hj; omega
theorem fo_bd (V : tr L) (hl : v.length = L.length) (hv : okV v) : ∀ (k : Nat) (pre : List (Fin L.length)), pre.length = k → BD (fo L v pre) (pw2 k)
  | 0, pre, h => by
    obtain rfl := List.eq_nil_of_length_eq_zero h
    exact fun j hj => hv j hj
  | k + 1, pre, h => by
    have hne : pre ≠ [] := by rintro rfl; simp at h
    have e := List.dropLast_concat_getLast hne
    rw [← e, fo_snoc]
    exact st1_bd V (by rw [fo_len]; exact hl) (fo_bd V hl hv k pre.dropLast (by rw [List.length_dropLast]; omega)) (pre.getLast hne).isLt
def sF (L : List A5) (v : Is) (j x : Nat) : Int := nAt v x + (kc L (x : Nat) (tS L v) L.length - kc L (x : Nat) (tS L v) j)
theorem rl_nAt {n : Nat} {c : Nat → Int} {k : Nat} (h : k < n) : nAt (rl n c) k = c k := rl_at h
theorem rl_set {n : Nat} {c : Nat → Int} {p : Nat} (hp : p < n) (z : Int) : (rl n c).set p z = rl n (fun x => if x = p then z else c x) := by
  refine List.ext_getElem (by simp [rl]) fun i h1 h2 => ?_
  have hi : i < n := by simpa [rl] using h2
  rw [List.getElem_set]
  by_cases e : p = i
  · subst e; simp [rl]
  · rw [if_neg e]; simp [rl]
    intro h; exact absurd h.symm e
theorem rl_congr {n : Nat} {c d : Nat → Int} (h : ∀ x, x < n → c x = d x) : rl n c = rl n d := List.map_congr_left fun x hx => h x (List.mem_range.1 hx)
theorem fo_bws (V : Vd L) (hl : v.length = L.length) (h0 : 0 < L.length) : ∀ k, k ≤ L.length → fo L v (bws L.length h0 k) = rl L.length (sF L v (L.length - k))
  | 0, _ => by
    show v = rl L.length (sF L v L.length)
    refine List.ext_getElem (by rw [rl_len]; exact hl) fun i h1 h2 => ?_
    have hi : i < L.length := by omega
    have e1 : (rl L.length (sF L v L.length))[i] = sF L v L.length i := by simp [rl]
    have e2 : nAt v i = v[i] := by unfold nAt; rw [List.getD_eq_getElem?_getD, List.getElem?_eq_getElem h1]; rfl
    rw [e1, ← e2]
    unfold sF
    omega
  | k + 1, hk => by
    rw [bws_succ, fo_snoc, fo_bws V hl h0 k (by omega)]
    show st1 L (rl L.length (sF L v (L.length - k))) (L.length - 1 - k) = _
    obtain ⟨i, hi⟩ : ∃ i, L.length - 1 - k = i := ⟨_, rfl⟩
    have e1 : L.length - k = i + 1 := by omega
    have e2 : L.length - (k + 1) = i := by omega
    rw [hi, e1, e2]
    have hil : i < L.length := by omega
    have eT : sF L v (i + 1) i = tS L v i := by
      have r := tS_rec (v := v) V hil
      have z := kc_low V.tr (x := i) (f := tS L v) (i + 1) (Nat.le_refl _) (by omega)
      unfold sF
      rw [z, r]; omega
    have ek : ∀ x, sF L v i x = sF L v (i + 1) x + (if 0 < i ∧ pa L i = (x : Nat) then tS L v i else 0) := fun x => by
      have : kc L (x : Nat) (tS L v) (i + 1) = kc L (x : Nat) (tS L v) i + (if 0 < i ∧ pa L i = (x : Nat) then tS L v i else 0) := rfl
      unfold sF
      rw [this]; omega
    unfold st1
    by_cases hi0 : 0 < i
    · have hp := V.tr.2 i hil hi0
      rw [if_pos hi0, rl_nAt hil, rl_nAt (show (pa L i).toNat < L.length by omega), rl_set (by omega), eT]
      refine rl_congr fun x hx => ?_
      show (if x = (pa L i).toNat then sF L v (i + 1) (pa L i).toNat + tS L v i else sF L v (i + 1) x) = _
      rw [ek x]
      by_cases e : x = (pa L i).toNat
      · rw [if_pos e, if_pos ⟨hi0, by omega⟩, e]
      · rw [if_neg e, if_neg (fun g => e (by omega)), Int.add_zero]
    · rw [if_neg hi0]
      exact rl_congr fun x _ => by rw [ek x, if_neg (fun g => hi0 g.1), Int.add_zero]
theorem fo_all (V : Vd L) (hl : v.length = L.length) (h0 : 0 < L.length) : fo L v (bws L.length h0 L.length) = rl L.length (tS L v) := by
  rw [fo_bws V hl h0 _ (Nat.le_refl _)]
  refine rl_congr fun x hx => ?_
  rw [tS_rec V hx]
  unfold sF
  rw [Nat.sub_self]
  have : kc L (x : Nat) (tS L v) 0 = 0 := rfl
  omega
end
theorem own_row0I (w : World) : (w.alloc (.cells #[] 3)).ownsRow w.heap.size 3 1 (.slice (some ⟨w.heap.size, 0, none⟩) 0 0) 0 [] :=
  World.ownsRow_made w #[] 0 (Nat.le_refl _) (Nat.zero_le _) (by simp)
theorem bi_news {w : World} {a : Addr} {l : Is} (h : Bi w (some a) l) : ∀ j u, (l.map ic)[j]? = some u → w.cell? (a.add j) = some u := by
  intro j u hu
  rw [List.getElem?_map] at hu
  have hlt : j < l.length := by
    rcases Nat.lt_or_ge j l.length with h1 | h1
    · exact h1
    · rw [List.getElem?_eq_none h1] at hu; cases hu
  obtain ⟨b, off, e, hl, hc⟩ := h (by rintro rfl; simp at hlt)
  injection e with e
  subst e
  have ea : (⟨b, off, none⟩ : Addr).add j = ⟨b, off + j, none⟩ := by unfold Addr.add; by_cases h : j = 0 <;> simp [h]
  rw [ea, hc j hlt, ← hu, List.getElem?_eq_getElem hlt, List.getD_eq_getElem?_getD, List.getElem?_eq_getElem hlt]
  rfl
theorem ic_one (l : Is) : ∀ u ∈ l.map ic, u.oneCell' = true := by
  intro u hu
  obtain ⟨z, _, rfl⟩ := List.mem_map.1 hu
  rfl
set_option maxHeartbeats 2000000 in
theorem icl_any (A : Option Addr) (l : Is) (cp : Nat) (w : World) (hr : Bi w A l) (hn : l.length ≤ 1000) (h1 : 1 ≤ l.length) :
    Calls Try.prog 82 #[.slice A l.length cp] w fun e w' => ∃ A c, e = .returned (.slice A l.length c) ∧ OwI w.heap.size w' (.slice A l.length c) l ∧ Below w.heap.size w w' := by
  obtain ⟨b, off, hA, _⟩ := hr (by rintro rfl; simp at h1)
  subst hA
  obtain ⟨i0, hi0, hz0, hz1, hz2⟩ := info_parts info3
  have HR := hide (hr.below (bal (brefl _) (.cells #[] 3)))
  clear hr
  have q26 : ∀ (w : World) (a : Option Addr) (n c n' c' : Nat), (binOp .eql 26 (.slice a n c) (.slice none n' c')).run Try.prog w = .ok (.bool a.isNone) w := fun w a n c n' c' => Lib.run_eql_slice_nil w _ _ a n c n' c' Try.underlying26
  go_enter Try.func82, Try.ntmps82
  go_wp2_with (at_builtin; refine wpList_append_own _ rfl (.tmp 5) (.tmp 6) _ rfl w.heap.size 3 i0 _ 1 8 Try.underlying26 hi0 hz0 hz1 hz2 rfl (by omega) (.slice (some ⟨w.heap.size, 0, none⟩) 0 0) 0 [] rfl (own_row0I w) ⟨b, off, none⟩ l.length cp (l.map ic) rfl (by simp) (fun j u hu => bi_news HR.out j u hu) (ic_one _) (by simp only [maxLen]; omega) (by omega) (by simp) ?_; intro v1 w1 hown1 hg1 hat1; obtain ⟨A1, n1, rfl, _⟩ := row_form hown1; have HB := hide (show Below w.heap.size w w1 from (bal (brefl w) _).trans (below_grown (B := 0) (own_row0I w) hg1 (by simp))); have HM := hide hown1; clear hown1 hg1 hat1)
  go_wp2
  go_ret
  rw [Nat.zero_add, List.nil_append] at HM
  exact ⟨A1, n1, rfl, HM.out, HB.out⟩
theorem row_own_ge {base n size : Nat} {t : TypeId} {v : Value} {xs : List Value} {w : World} (h : w.ownsRow base t size v n xs) {k : Nat} (hk : k < base) : some k ≠ v.ownBlock := by
  obtain ⟨_, ⟨rfl, rfl⟩ | ⟨g, cap, cur, rfl, hgb, hh, _⟩⟩ := h
  · exact Option.some_ne_none _
  · intro e
    have : k = g := by simpa [Value.ownBlock] using e
    omega
/-- all cells lie as they lay -/
def Nc (W W' : World) : Prop := ∀ (k : Nat) (cs : Array Value) (t : TypeId), W.heap[k]? = some (.cells cs t (0, 0)) → W'.heap[k]? = some (.cells cs t (0, 0))
theorem nc_of_grown {W W' : World} {row : Option Nat} (hg : W.grownBy W' row) (hr : ∀ r, row = some r → ∃ o : Obj, W.heap[r]? = some o ∧ o.isCells = false) : Nc W W' := fun k cs t h =>
  (hg.block k (blk_lt h) (fun e => by
    obtain ⟨o, ho, hc⟩ := hr k e.symm
    rw [h] at ho; injection ho with ho; subst ho; cases hc)).trans h
theorem Box.nc {W W' : World} {g : Nat} {t : TypeId} {cs : Array Value} (h : Box W g t cs) (hn : Nc W W') : Box W' g t cs := hn g cs t h
theorem row_nc {W W' : World} {base n size : Nat} {t : TypeId} {v : Value} {xs : List Value} (h : W.ownsRow base t size v n xs) (hn : Nc W W') : W'.ownsRow base t size v n xs := by
  obtain ⟨hl, h | ⟨g, cap, cur, e, hg, hh, r⟩⟩ := h
  · exact ⟨hl, .inl h⟩
  · exact ⟨hl, .inr ⟨g, cap, cur, e, hg, hn _ _ _ hh, r⟩⟩
theorem ownc {base n c : Nat} {G : Nat} {q : Is} {w : World} (h : w.ownsRow base 3 1 (.slice (some ⟨G, 0, none⟩) n c) n (q.map ic)) (hq : q.length = n) {k : Nat} (hk : k < n) : w.cell? ⟨G, k, none⟩ = some (.int .i64 (nAt q k)) ∧ w.frozen? ⟨G, k, none⟩ = false := by
  obtain ⟨g, e, hg, hb, hc, hf⟩ := row_cell h (by omega)
  injection e with e
  injection e with e
  subst e
  refine ⟨hc k _ ?_, hf k⟩
  rw [List.getElem?_map, List.getElem?_eq_getElem (by omega)]
  unfold nAt
  rw [List.getD_eq_getElem?_getD, List.getElem?_eq_getElem (by omega)]
  rfl
set_option maxHeartbeats 8000000 in
set_option maxRecDepth 100000 in
theorem ins_ok (A AV : Option Addr) (cp cv : Nat) (L : List A5) (v : Is) (w : World) (hr : As w A L) (hv : Bi w AV v) (hcp : L.length ≤ cp) (hvv : vlv L v) (hn : L.length ≤ 9223372036854775807) (hvn : v.length ≤ 9223372036854775807) :
    CallsIn Fence.wide 9 Try.prog 46 #[.slice A L.length cp, .slice AV v.length cv] w (BiR (nR L v) w) := by
  have V := hide (vd_of hvv.1)
  have hl8 := V.out.len.2
  have hl1 := V.out.len.1
  have HVL := hide hvv.2.1
  have HOK := hide (show okV v from hvv.2.2)
  have HR := hide hr
  have EN := hide (nR_ok hvv)
  have VD := hide (vld_any A AV cp cv L v w hr hv hcp hn hvn)
  rw [decide_eq_true hvv] at VD
  have CL := hide (fun w' (hb : Below w.heap.size w w') => icl_any AV v cv w' (hv.below hb) (by rw [HVL.out]; omega) (by rw [HVL.out]; exact hl1))
  have h0L : 0 < L.length := hl1
  have hvn2 : v.length = L.length := hvv.2.1
  rw [hvn2] at VD CL ⊢
  clear hr hv hvv hn hvn hcp hvn2
  unfold BiR
  rw [EN.out, rl_len]
  refine callsIn_of_wp_marks Try.func46 rfl trivial ?_ rfl
  simp only [Try.ntmps46, List.size_toArray, List.length_cons, List.length_nil, Nat.reduceAdd, Nat.reduceSub, Array.replicate_succ, Array.replicate_zero, List.push_toArray, List.append_toArray, List.nil_append, List.cons_append]
  gi_wp2_with fail
  refine ⟨trivial, (callsIn_wide.2 VD.out).mono ?_⟩
  rintro e w1 ⟨rfl, hb⟩
  have K0 := hide hb
  clear hb VD
  gi_wp2_with fail
  refine ⟨trivial, (callsIn_wide.2 (CL.out _ K0.out)).mono ?_⟩
  rintro e w3 ⟨AG, c2, rfl, hO, hb⟩
  have hO2 : w3.ownsRow w1.heap.size 3 1 (.slice AG L.length c2) L.length (v.map ic) := by
    have := hO
    unfold OwI at this
    rwa [show v.length = L.length from HVL.out] at this
  obtain ⟨G, rfl, hGw⟩ := (show ∃ G, AG = some ⟨G, 0, none⟩ ∧ w1.heap.size ≤ G by
    obtain ⟨g, e, h1, h2, _⟩ := row_cell hO2 (show L.length ≠ 0 by omega)
    exact ⟨g, e, h2⟩)
  have HGw := hide (Nat.le_trans K0.out.size hGw)
  have K := hide (bal (bal (btrans K0.out hb) (.cells #[(.slice (some ⟨G, 0, none⟩) L.length c2)] 26)) (.cells #[.slice A L.length cp] 22))
  have X5i := hide ((Box.new w3 26 #[(.slice (some ⟨G, 0, none⟩) L.length c2)]).more (.cells #[.slice A L.length cp] 22))
  have XB := hide (Box.new (w3.alloc (.cells #[(.slice (some ⟨G, 0, none⟩) L.length c2)] 26)) 22 #[.slice A L.length cp])
  have OV := hide (row_below hO2 (bal (bal (brefl w3) (.cells #[(.slice (some ⟨G, 0, none⟩) L.length c2)] 26)) (.cells #[.slice A L.length cp] 22)))
  have hGlt : G < w3.heap.size := by
    obtain ⟨g, e, h1, _⟩ := row_cell hO2 (show L.length ≠ 0 by omega)
    injection e with e
    injection e with e
    subst e
    exact h1
  have BW := hide (bw_any A L.length cp (w3.alloc (.cells #[(.slice (some ⟨G, 0, none⟩) L.length c2)] 26)))
  clear CL hO hO2 hb K0
  gi_wp2_with fail
  refine ⟨trivial, (callsIn_wide.2 BW.out).mono ?_⟩
  rintro e w5 ⟨rfl, hw5⟩
  rw [alloc_size'] at XB ⊢
  rw [hw5] at K X5i XB OV
  clear hw5 BW
  have hg5 : w3.heap.size ≠ w3.heap.size + 1 := by omega
  gi_wp2_with fail
  refine wpIn_rangeFunc_ownH rfl (by omega) (gf := 90) (lb := #[.pointer (some ⟨w3.heap.size + 1, 0, none⟩)]) rfl trivial (enters_of Try.func90 (by kernel_rfl) rfl)
    (bw_stops _ (w3.heap.size + 1) w.heap.size cp (by omega) A L h0L w w5 (by omega) HR.out rfl K.out XB.out) KpS.t (KpS.b K.out.size) (Below.refl _ _) (fun _ => rfl)
    (fun pre W => W.ownsRow w1.heap.size 3 1 (.slice (some ⟨G, 0, none⟩) L.length c2) L.length ((fo L v pre).map ic) ∧ Box W w3.heap.size 26 #[.slice (some ⟨G, 0, none⟩) L.length c2] ∧ Below w.heap.size w W ∧ w5.heap.size ≤ W.heap.size)
    (fun _ _ _ => False) ?own (fun _ _ _ _ _ hs _ _ => hs) ?start
    (fun x a' W => ∃ q, w5.heap.size ≤ q ∧ Box W q 42 #[.int .i64 (aAt L x.val).pa, .int .i64 (aAt L x.val).us, .int .i64 (aAt L x.val).mn, .int .i64 (aAt L x.val).lo, .int .i64 (aAt L x.val).mx] ∧
      a' = { tmps := #[Value.slice A L.length cp, Value.slice AV L.length cv, undef, undef, Value.slice none 0 0, Value.pointer (some ⟨w3.heap.size, 0, none⟩), Value.int IntKind.i64 ((x.val : Nat) : Int), Value.pointer (some ⟨q, 0, none⟩), Value.slice A L.length cp, Value.slice AV L.length cv, Value.bool true, Value.bool false, Value.slice AV L.length cv, Value.slice (some ⟨G, 0, none⟩) L.length c2, Value.slice A L.length cp, Value.func (Fn.func 90) #[] #[Value.pointer (some ⟨w3.heap.size + 1, 0, none⟩)], Value.int IntKind.i64 ((x.val : Nat) : Int), acV (aAt L x.val), undef, undef, undef, undef, undef, undef, undef, undef, undef, undef, undef, undef, undef, undef], defers := [] }) ?ax ?assign ?body ?done ?stop
  case own =>
    rintro pre W W' row ⟨h1, h2, h3, h4⟩ hg hr
    have hn := nc_of_grown hg (fun r e => (hr r e).2)
    exact ⟨row_nc h1 hn, h2.nc hn, h3.grown hg h3.size (fun r e => Nat.le_trans K.out.size (hr r e).1), Nat.le_trans h4 hg.size⟩
  case start => exact ⟨OV.out, X5i.out, K.out, Nat.le_refl _⟩
  case ax =>
    rintro x a' _ W W' row ⟨q, hq, hX, ha⟩ hg hr
    exact ⟨q, hq, hX.nc (nc_of_grown hg (fun r e => (hr r e).2)), ha⟩
  case assign =>
    intro l pre x W K' hI hK
    unfold acV
    generalize hp0 : (aAt L x.val).pa = p0 at *
    generalize hp1 : (aAt L x.val).us = p1 at *
    generalize hp2 : (aAt L x.val).mn = p2 at *
    generalize hp3 : (aAt L x.val).lo = p3 at *
    generalize hp4 : (aAt L x.val).mx = p4 at *
    have HP := hide (show acV (aAt L x.val) = .agg #[.int .i64 p0, .int .i64 p1, .int .i64 p2, .int .i64 p3, .int .i64 p4] by unfold acV; rw [hp0, hp1, hp2, hp3, hp4])
    have HK := hide hK
    have HI := hide hI
    clear hp0 hp1 hp2 hp3 hp4 hK hI
    gi_wp2
    obtain ⟨h1, h2, h3, h4⟩ := HI.out
    have M := bal (brefl W) (.cells #[.int .i64 p0, .int .i64 p1, .int .i64 p2, .int .i64 p3, .int .i64 p4] 42)
    exact HK.out _ _ ((KeepsOthers.alloc _ _).from _) ⟨M.mono (Nat.le_trans K.out.size h4), fun cs hc => hc.more _⟩ ⟨row_below h1 M, h2.more _, btrans h3 M, Nat.le_trans h4 M.size⟩ ⟨W.heap.size, h4, Box.new _ _ _, by rw [HP.out]⟩
  case body =>
    rintro l pre x a' wr hl _ ⟨h1, h2, h3, h4⟩ ⟨q, hq, hX, rfl⟩ hlen
    have hxL := x.isLt
    have bd0 := fo_bd V.out.tr HVL.out HOK.out pre.length pre rfl
    have bdm := pw2_le pre.length (by omega)
    have BQ := hide (show BD (fo L v pre) 268435456 from bd0.mono bdm.2)
    have QL := hide (show (fo L v pre).length = L.length by rw [fo_len]; exact HVL.out)
    have SN := hide (fo_snoc (v := v) pre x)
    have X := hide hX
    clear bd0 bdm hX
    generalize fo L v pre = Q at *
    obtain ⟨i, hi⟩ : ∃ i, i = x.val := ⟨_, rfl⟩
    rw [← hi] at hxL X SN
    have e1 : acV (aAt L x.val) = acV (aAt L i) := by rw [hi]
    rw [e1]
    rw [← hi]
    clear e1 hi
    by_cases h0 : i = 0
    · have E := hide (show fo L v (pre ++ [x]) = Q by rw [SN.out]; unfold st1; rw [if_neg (by omega)])
      have hkz : ¬ 0 < i := by omega
      have hkz' : ¬ (0 : Int) < (i : Int) := by omega
      unfold acV
      clear h0 SN
      gi_wp2
      exact ⟨KeepsFrom.refl _ _, KpS.r _, by rw [E.out]; exact h1, h2, h3, h4⟩
    · have hkz : 0 < i := by omega
      have hkz' : (0 : Int) < (i : Int) := by omega
      have hp0 := V.out.tr.2 i hxL hkz
      obtain ⟨p, hp⟩ : ∃ p : Nat, pa L i = (p : Int) := ⟨(pa L i).toNat, by omega⟩
      have hpL : p < L.length := by omega
      have hpL2 : (p : Int) < (L.length : Int) := by omega
      have hpp : (0 : Int) ≤ (p : Int) := by omega
      have hiL2 : (i : Int) < (L.length : Int) := by omega
      have hii : (0 : Int) ≤ (i : Int) := by omega
      have E := hide (show fo L v (pre ++ [x]) = Q.set p (nAt Q p + nAt Q i) by rw [SN.out]; unfold st1; rw [if_pos hkz, hp, Int.toNat_natCast])
      have ep : (aAt L i).pa = (p : Int) := hp
      have bp := BQ.out p (by rw [QL.out]; exact hpL)
      have bi := BQ.out i (by rw [QL.out]; exact hxL)
      rw [ep] at X
      unfold acV
      rw [ep]
      have KD : Below wr.heap.size wr wr.drew := below_drewN (brefl wr) 1
      obtain ⟨wd, hwd⟩ : ∃ wd, wd = wr.drew := ⟨_, rfl⟩
      rw [← hwd] at KD
      have OVd := row_below h1 KD
      have X5 := hide (h2.below KD)
      have Xq := hide (X.out.below KD)
      obtain ⟨yp, fp⟩ := ownc OVd QL.out hpL
      obtain ⟨yi, _⟩ := ownc OVd QL.out hxL
      have hG5 : w3.heap.size ≠ G := by omega
      have hGB : w3.heap.size + 1 ≠ G := by omega
      have h35 : w3.heap.size ≤ w5.heap.size := by have := X5i.out.lt; omega
      have hGq : q ≠ G := by omega
      generalize nAt Q p = zp at *
      generalize nAt Q i = zi at *
      have ew : IntKind.i64.wrap (zp + zi) = zp + zi := IntWalk.i64_in _ (by omega)
      have SF := hide (show (fun W => W.cell? ⟨w3.heap.size, 0, none⟩ = some (.slice (some ⟨G, 0, none⟩) L.length c2) ∧ W.cell? ⟨q, 0, none⟩ = some (.int .i64 (p : Int))) wd from ⟨cell_box1 X5.out, Xq.out.cell 0⟩)
      have SW := hide (show (fun W => W.cell? ⟨w3.heap.size, 0, none⟩ = some (.slice (some ⟨G, 0, none⟩) L.length c2) ∧ W.cell? ⟨q, 0, none⟩ = some (.int .i64 (p : Int))) (wd.setCell ⟨G, p, none⟩ (.int .i64 (zp + zi))) from ⟨(cell_far hG5).trans (cell_box1 X5.out), (cell_far hGq).trans (Xq.out.cell 0)⟩)
      have KF := hide (show KeepsFrom w5.heap.size wr (wd.setCell ⟨G, p, none⟩ (.int .i64 (zp + zi))) from by
        have k1 : KeepsOthers wr wd := by rw [hwd]; exact KeepsOthers.drew _
        exact (k1.trans (KeepsOthers.setCell _ _ _)).from _)
      have KB := hide (show KpS w.heap.size (w3.heap.size + 1) wr (wd.setCell ⟨G, p, none⟩ (.int .i64 (zp + zi))) from
        ⟨(KD.mono h3.size).setCell (p := ⟨G, p, none⟩) HGw.out _, fun cs hc => (hc.below KD).far hGB _⟩)
      have REL := hide (show (wd.setCell ⟨G, p, none⟩ (.int .i64 (zp + zi))).ownsRow w1.heap.size 3 1 (.slice (some ⟨G, 0, none⟩) L.length c2) L.length ((fo L v (pre ++ [x])).map ic) ∧ Box (wd.setCell ⟨G, p, none⟩ (.int .i64 (zp + zi))) w3.heap.size 26 #[.slice (some ⟨G, 0, none⟩) L.length c2] ∧ Below w.heap.size w (wd.setCell ⟨G, p, none⟩ (.int .i64 (zp + zi))) ∧ w5.heap.size ≤ (wd.setCell ⟨G, p, none⟩ (.int .i64 (zp + zi))).heap.size from by
        refine ⟨?_, X5.out.far hG5 _, (btrans h3 KD).setCell (p := ⟨G, p, none⟩) HGw.out _, ?_⟩
        · rw [E.out, List.map_set]
          exact row_set OVd p (ic (zp + zi))
        · have := KD.size
          simp only [World.setCell, Array.size_modify]
          omega)
      clear E SN ep hp hp0 OVd h1 h2 BQ bp bi X KD h0
      gi_wp2
      refine wpIn_region_tame (fun W => W.cell? ⟨w3.heap.size, 0, none⟩ = some (.slice (some ⟨G, 0, none⟩) L.length c2) ∧ W.cell? ⟨q, 0, none⟩ = some (.int .i64 (p : Int))) (by kernel_rfl) ?tame (by rintro ⟨a, w, h⟩; exact h) ?_
      case tame =>
        intro i o hi
        rcases i with _ | _ | _ | _ | _ | _ | _ | _ | _ | _ | _ | _ | i
        all_goals simp at hi
        all_goals (subst hi; first | exact Tame.fieldAddr rfl | exact Tame.load rfl | exact Tame.move rfl | exact Tame.indexAddr rfl | exact Tame.binOp rfl | exact Tame.store rfl)
      rw [← hwd]
      clear hwd
      have hSd := SF.out
      refine wpAnyH_take (i := 0) (oi := ⟨some 20, _, _, _, _, _⟩) (v := ?_) rfl (by kernel_rfl) (by kernel_rfl) (by kernel_rfl) (fun _ _ _ h => h) (Or.inl ⟨by kernel_rfl, ?_⟩) (by assumption) ?_
      rotate_left 1
      · (intro w hSw; (try dsimp only at hSw); go_simp) <;> (with_reducible rfl)
      (try simp only [Act.put, List.setIfInBounds_toArray, List.set_cons_succ, List.set_cons_zero])
      refine wpAnyH_take (i := 1) (oi := ⟨some 21, _, _, _, _, _⟩) (v := ?_) rfl (by kernel_rfl) (by kernel_rfl) (by kernel_rfl) (fun _ _ _ h => h) (Or.inl ⟨by kernel_rfl, ?_⟩) (by assumption) ?_
      rotate_left 1
      · (intro w hSw; (try dsimp only at hSw); go_simp) <;> (with_reducible rfl)
      (try simp only [Act.put, List.setIfInBounds_toArray, List.set_cons_succ, List.set_cons_zero])
      refine wpAnyH_take (i := 2) (oi := ⟨some 22, _, _, _, _, _⟩) (v := ?_) rfl (by kernel_rfl) (by kernel_rfl) (by kernel_rfl) (fun _ _ _ h => h) (Or.inl ⟨by kernel_rfl, ?_⟩) (by assumption) ?_
      rotate_left 1
      · (intro w hSw; (try dsimp only at hSw); go_simp) <;> (with_reducible rfl)
      (try simp only [Act.put, List.setIfInBounds_toArray, List.set_cons_succ, List.set_cons_zero])
      refine wpAnyH_take (i := 3) (oi := ⟨some 23, _, _, _, _, _⟩) (v := ?_) rfl (by kernel_rfl) (by kernel_rfl) (by kernel_rfl) (fun _ _ _ h => h) (Or.inl ⟨by kernel_rfl, ?_⟩) (by assumption) ?_
      rotate_left 1
      · (intro w hSw; (try dsimp only at hSw); go_simp) <;> (with_reducible rfl)
      (try simp only [Act.put, List.setIfInBounds_toArray, List.set_cons_succ, List.set_cons_zero])
      refine wpAnyH_take (i := 5) (oi := ⟨some 25, _, _, _, _, _⟩) (v := ?_) rfl (by kernel_rfl) (by kernel_rfl) (by kernel_rfl) (fun _ _ _ h => h) (Or.inl ⟨by kernel_rfl, ?_⟩) (by assumption) ?_
      rotate_left 1
      · (intro w hSw; (try dsimp only at hSw); go_simp) <;> (with_reducible rfl)
      (try simp only [Act.put, List.setIfInBounds_toArray, List.set_cons_succ, List.set_cons_zero])
      refine wpAnyH_take (i := 6) (oi := ⟨some 26, _, _, _, _, _⟩) (v := ?_) rfl (by kernel_rfl) (by kernel_rfl) (by kernel_rfl) (fun _ _ _ h => h) (Or.inl ⟨by kernel_rfl, ?_⟩) (by assumption) ?_
      rotate_left 1
      · (intro w hSw; (try dsimp only at hSw); go_simp) <;> (with_reducible rfl)
      (try simp only [Act.put, List.setIfInBounds_toArray, List.set_cons_succ, List.set_cons_zero])
      refine wpAnyH_take (i := 7) (oi := ⟨some 27, _, _, _, _, _⟩) (v := ?_) rfl (by kernel_rfl) (by kernel_rfl) (by kernel_rfl) (fun _ _ _ h => h) (Or.inl ⟨by kernel_rfl, ?_⟩) (by assumption) ?_
      rotate_left 1
      · (intro w hSw; (try dsimp only at hSw); go_simp) <;> (with_reducible rfl)
      (try simp only [Act.put, List.setIfInBounds_toArray, List.set_cons_succ, List.set_cons_zero])
      refine wpAnyH_ready (rs := [4, 8]) (by kernel_rfl) (by simp) ?_
      refine AllReadyH.cons (o := ⟨some 24, _, _, _, _, _⟩) rfl (fun K' hK => ?_) ?_
      · go_simp
        refine hK.out _ _ ?_ (fun hHeld => ?_)
        · exact SF.out
        clear hK K'
        (try simp only [Act.put, List.setIfInBounds_toArray, List.set_cons_succ, List.set_cons_zero])
        refine wpAnyH_ready (rs := [8]) (by kernel_rfl) (by simp) ?_
        refine AllReadyH.cons (o := ⟨some 28, _, _, _, _, _⟩) rfl (fun K' hK => ?_) AllReadyH.nil
        go_simp
        refine hK.out _ _ ?_ (fun hHeld => ?_)
        · exact SF.out
        clear hK K'
        (try simp only [Act.put, List.setIfInBounds_toArray, List.set_cons_succ, List.set_cons_zero])
        refine wpAnyH_take (i := 9) (oi := ⟨some 29, _, _, _, _, _⟩) (v := ?_) rfl (by kernel_rfl) (by kernel_rfl) (by kernel_rfl) (fun _ _ _ h => h) (Or.inl ⟨by kernel_rfl, ?_⟩) (by assumption) ?_
        rotate_left 1
        · (intro w hSw; (try dsimp only at hSw); go_simp) <;> (with_reducible rfl)
        (try simp only [Act.put, List.setIfInBounds_toArray, List.set_cons_succ, List.set_cons_zero])
        refine wpAnyH_take (i := 10) (oi := ⟨some 30, _, _, _, _, _⟩) (v := ?_) rfl (by kernel_rfl) (by kernel_rfl) (by kernel_rfl) (fun _ _ _ h => h) (Or.inl ⟨by kernel_rfl, ?_⟩) (by assumption) ?_
        rotate_left 1
        · (intro w hSw; (try dsimp only at hSw); go_simp) <;> (with_reducible rfl)
        (try simp only [Act.put, List.setIfInBounds_toArray, List.set_cons_succ, List.set_cons_zero])
        refine wpAnyH_ready (rs := [11]) (by kernel_rfl) (by simp) ?_
        refine AllReadyH.cons (o := ⟨none, _, _, _, _, _⟩) rfl (fun K' hK => ?_) AllReadyH.nil
        go_simp
        refine hK.out _ _ ?_ (fun hHeld => ?_)
        · exact SW.out
        clear hK K'
        (try simp only [Act.put, List.setIfInBounds_toArray, List.set_cons_succ, List.set_cons_zero])
        refine wpAnyH_done (by kernel_rfl) ?_ _
        skip
        gi_wp2
        exact ⟨KF.out, KB.out, REL.out⟩
      refine AllReadyH.cons (o := ⟨some 28, _, _, _, _, _⟩) rfl (fun K' hK => ?_) AllReadyH.nil
      go_simp
      refine hK.out _ _ ?_ (fun hHeld => ?_)
      · exact SF.out
      clear hK K'
      (try simp only [Act.put, List.setIfInBounds_toArray, List.set_cons_succ, List.set_cons_zero])
      refine wpAnyH_ready (rs := [4]) (by kernel_rfl) (by simp) ?_
      refine AllReadyH.cons (o := ⟨some 24, _, _, _, _, _⟩) rfl (fun K' hK => ?_) AllReadyH.nil
      go_simp
      refine hK.out _ _ ?_ (fun hHeld => ?_)
      · exact SF.out
      clear hK K'
      (try simp only [Act.put, List.setIfInBounds_toArray, List.set_cons_succ, List.set_cons_zero])
      refine wpAnyH_take (i := 9) (oi := ⟨some 29, _, _, _, _, _⟩) (v := ?_) rfl (by kernel_rfl) (by kernel_rfl) (by kernel_rfl) (fun _ _ _ h => h) (Or.inl ⟨by kernel_rfl, ?_⟩) (by assumption) ?_
      rotate_left 1
      · (intro w hSw; (try dsimp only at hSw); go_simp) <;> (with_reducible rfl)
      (try simp only [Act.put, List.setIfInBounds_toArray, List.set_cons_succ, List.set_cons_zero])
      refine wpAnyH_take (i := 10) (oi := ⟨some 30, _, _, _, _, _⟩) (v := ?_) rfl (by kernel_rfl) (by kernel_rfl) (by kernel_rfl) (fun _ _ _ h => h) (Or.inl ⟨by kernel_rfl, ?_⟩) (by assumption) ?_
      rotate_left 1
      · (intro w hSw; (try dsimp only at hSw); go_simp) <;> (with_reducible rfl)
      (try simp only [Act.put, List.setIfInBounds_toArray, List.set_cons_succ, List.set_cons_zero])
      refine wpAnyH_ready (rs := [11]) (by kernel_rfl) (by simp) ?_
      refine AllReadyH.cons (o := ⟨none, _, _, _, _, _⟩) rfl (fun K' hK => ?_) AllReadyH.nil
      go_simp
      refine hK.out _ _ ?_ (fun hHeld => ?_)
      · exact SW.out
      clear hK K'
      (try simp only [Act.put, List.setIfInBounds_toArray, List.set_cons_succ, List.set_cons_zero])
      refine wpAnyH_done (by kernel_rfl) ?_ _
      skip
      gi_wp2
      exact ⟨KF.out, KB.out, REL.out⟩
  case done =>
    rintro D0 ys W hD0 rfl ⟨h1, h2, h3, h4⟩ hK
    rw [fo_all V.out HVL.out h0L] at h1
    have s5 := cell_box1 h2
    gi_wp2
    refine ⟨by simp, .inl ⟨_, _, rfl, run_takeDeferred hK, ?_⟩⟩
    have hn := nc_of_grown (grownBy_putObj' W D0 (.deferred none)) (fun r e => by cases e; exact ⟨_, hK, rfl⟩)
    have h17 := row_nc h1 hn
    refine ⟨.slice (some ⟨G, 0, none⟩) L.length c2, ?_, some ⟨G, 0, none⟩, c2, rfl, OwI.bi (c := c2) (by unfold OwI; rw [rl_len]; exact h17), h3.trans (belowK_b (w := w5) K.out.size _ D0 _ _ hD0 hK rfl rfl)⟩
    simp [results, Try.f46, go_sem]
  case stop =>
    rintro D0 c pre W _ _ h _
    exact h.elim
theorem inn_any (A AV : Option Addr) (cp cv : Nat) (L : List A5) (v : Is) (w : World) (hr : As w A L) (hv : Bi w AV v) (hcp : L.length ≤ cp) (hn : L.length ≤ 9223372036854775807) (hvn : v.length ≤ 9223372036854775807) :
    Calls Try.prog 46 #[.slice A L.length cp, .slice AV v.length cv] w (BiR (nR L v) w) := by
  by_cases h : vlv L v
  · exact callsIn_wide.1 (ins_ok A AV cp cv L v w hr hv hcp h hn hvn)
  · unfold BiR
    have VD := hide (vld_any A AV cp cv L v w hr hv hcp hn hvn)
    have E := hide (nR_no h)
    rw [decide_eq_false h] at VD
    clear h hr hv hcp
    go_enter Try.func46, Try.ntmps46
    go_wp2_with fail
    refine VD.out.mono ?_
    rintro e w1 ⟨rfl, hb⟩
    have K := hide hb
    clear hb VD
    go_wp2
    go_ret
    exact ⟨none, 0, ret_sl (by rw [E.out]; rfl), by rw [E.out]; exact Bi.nil _ _, K.out⟩
end Go.Proofs.Ytclkflnonckajaa.Ac
