import Derived.Test.YtkcopcmoaloecaaMath
import Derived.Test.YtkcopcmoaloecaaMem
namespace Go.Proofs.Ytkcopcmoaloecaa.Fp
open Go Go.RowKit
set_option linter.unusedVariables false
set_option linter.unusedSimpArgs false
theorem load_g {P : Program} {ops : Array Oper} {rest : List Oper} {o : Oper} {a : Act} {w : World} {Q : Exit → Act → World → Prop} (hw : Region.wanted o (yielded ops a.tmps) = true) (ty : TypeId) (x : Operand) (ho : o.op = .load ty x)
    (g : Nat) (hx : a.eval x = .pointer (some ⟨g, 0, none⟩)) (t : TypeId) (cs : Array Value) (fr : Nat × Nat) (d : TypeDesc) (hg : w.heap[g]? = some (.cells cs t fr))
    (hu : P.underlying ty = some d) (hd : (match d with | .struct _ | .array _ _ => true | _ => false) = true) (hi : (P.info? ty).map (·.size) = some cs.size)
    (h : wpList P ops Q rest (a.put o.dst (.agg cs)) w) : wpList P ops Q (o :: rest) a w :=
  wpList_step fun K hK => by rw [if_pos hw]; exact wp_load_row ty x ho g hx t cs fr d hg hu hd hi (hK _ _ h)
/-- a case as a value -/
def fV (c : Fc) : Value := .agg #[.bool c.wr, .bool c.rg, .int .i64 c.pr, .bool c.sh, .bool c.fi, .bool c.be, .bool c.bu, .int .i64 c.en, .bool c.wb, .bool c.tr, .bool c.ow, .bool c.on, .bool c.ca, .bool c.ba, .bool c.di, .bool c.fu, .int .i64 c.mi]
def fC (c : Fc) : Array Value := #[.bool c.wr, .bool c.rg, .int .i64 c.pr, .bool c.sh, .bool c.fi, .bool c.be, .bool c.bu, .int .i64 c.en, .bool c.wb, .bool c.tr, .bool c.ow, .bool c.on, .bool c.ca, .bool c.ba, .bool c.di, .bool c.fu, .int .i64 c.mi]
/-- a box with a case -/
def CB (w : World) (g : Nat) (c : Fc) : Prop := Box w g 23 (fC c)
theorem CB.cells {w : World} {g : Nat} {wr rg : Bool} {pr : Int} {sh fi be bu : Bool} {en : Int} {wb tr ow on ca ba di fu : Bool} {mi : Int} (h : CB w g ⟨wr, rg, pr, sh, fi, be, bu, en, wb, tr, ow, on, ca, ba, di, fu, mi⟩) : w.cell? ⟨g, 0, none⟩ = some (.bool wr) ∧ w.cell? ⟨g, 1, none⟩ = some (.bool rg) ∧ w.cell? ⟨g, 2, none⟩ = some (.int .i64 pr) ∧ w.cell? ⟨g, 3, none⟩ = some (.bool sh) ∧ w.cell? ⟨g, 4, none⟩ = some (.bool fi) ∧ w.cell? ⟨g, 5, none⟩ = some (.bool be) ∧ w.cell? ⟨g, 6, none⟩ = some (.bool bu) ∧ w.cell? ⟨g, 7, none⟩ = some (.int .i64 en) ∧ w.cell? ⟨g, 8, none⟩ = some (.bool wb) ∧ w.cell? ⟨g, 9, none⟩ = some (.bool tr) ∧ w.cell? ⟨g, 10, none⟩ = some (.bool ow) ∧ w.cell? ⟨g, 11, none⟩ = some (.bool on) ∧ w.cell? ⟨g, 12, none⟩ = some (.bool ca) ∧ w.cell? ⟨g, 13, none⟩ = some (.bool ba) ∧ w.cell? ⟨g, 14, none⟩ = some (.bool di) ∧ w.cell? ⟨g, 15, none⟩ = some (.bool fu) ∧ w.cell? ⟨g, 16, none⟩ = some (.int .i64 mi) :=
  ⟨Box.cell h 0, Box.cell h 1, Box.cell h 2, Box.cell h 3, Box.cell h 4, Box.cell h 5, Box.cell h 6, Box.cell h 7, Box.cell h 8, Box.cell h 9, Box.cell h 10, Box.cell h 11, Box.cell h 12, Box.cell h 13, Box.cell h 14, Box.cell h 15, Box.cell h 16⟩
theorem CB.free {w : World} {g : Nat} {c : Fc} (h : CB w g c) : w.frozen? ⟨g, 0, none⟩ = false ∧ w.frozen? ⟨g, 1, none⟩ = false ∧ w.frozen? ⟨g, 2, none⟩ = false ∧ w.frozen? ⟨g, 3, none⟩ = false ∧ w.frozen? ⟨g, 4, none⟩ = false ∧ w.frozen? ⟨g, 5, none⟩ = false ∧ w.frozen? ⟨g, 6, none⟩ = false ∧ w.frozen? ⟨g, 7, none⟩ = false ∧ w.frozen? ⟨g, 8, none⟩ = false ∧ w.frozen? ⟨g, 9, none⟩ = false ∧ w.frozen? ⟨g, 10, none⟩ = false ∧ w.frozen? ⟨g, 11, none⟩ = false ∧ w.frozen? ⟨g, 12, none⟩ = false ∧ w.frozen? ⟨g, 13, none⟩ = false ∧ w.frozen? ⟨g, 14, none⟩ = false ∧ w.frozen? ⟨g, 15, none⟩ = false ∧ w.frozen? ⟨g, 16, none⟩ = false :=
  ⟨Box.frozen h 0, Box.frozen h 1, Box.frozen h 2, Box.frozen h 3, Box.frozen h 4, Box.frozen h 5, Box.frozen h 6, Box.frozen h 7, Box.frozen h 8, Box.frozen h 9, Box.frozen h 10, Box.frozen h 11, Box.frozen h 12, Box.frozen h 13, Box.frozen h 14, Box.frozen h 15, Box.frozen h 16⟩
theorem CB.new (w : World) (wr rg : Bool) (pr : Int) (sh fi be bu : Bool) (en : Int) (wb tr ow on ca ba di fu : Bool) (mi : Int) : CB (w.alloc (.cells #[.bool wr, .bool rg, .int .i64 pr, .bool sh, .bool fi, .bool be, .bool bu, .int .i64 en, .bool wb, .bool tr, .bool ow, .bool on, .bool ca, .bool ba, .bool di, .bool fu, .int .i64 mi] 23)) w.heap.size ⟨wr, rg, pr, sh, fi, be, bu, en, wb, tr, ow, on, ca, ba, di, fu, mi⟩ := Box.new w 23 _
theorem CB.below {w w' : World} {g : Nat} {c : Fc} (h : CB w g c) (hb : Below w.heap.size w w') : CB w' g c := Box.below h hb
theorem CB.lt {w : World} {g : Nat} {c : Fc} (h : CB w g c) : g < w.heap.size := Box.lt h
/-- a function of a case that answers a truth -/
def FB (f : Nat) (b : Fc → Bool) : Prop := ∀ (wr rg : Bool) (pr : Int) (sh fi be bu : Bool) (en : Int) (wb tr ow on ca ba di fu : Bool) (mi : Int) (w : World), Calls Try.prog f #[.agg #[.bool wr, .bool rg, .int .i64 pr, .bool sh, .bool fi, .bool be, .bool bu, .int .i64 en, .bool wb, .bool tr, .bool ow, .bool on, .bool ca, .bool ba, .bool di, .bool fu, .int .i64 mi]] w fun e w' => e = .returned (.bool (b ⟨wr, rg, pr, sh, fi, be, bu, en, wb, tr, ow, on, ca, ba, di, fu, mi⟩)) ∧ Below w.heap.size w w'
/-- one that answers a number -/
def FI (f : Nat) (b : Fc → Int) : Prop := ∀ (wr rg : Bool) (pr : Int) (sh fi be bu : Bool) (en : Int) (wb tr ow on ca ba di fu : Bool) (mi : Int) (w : World), Calls Try.prog f #[.agg #[.bool wr, .bool rg, .int .i64 pr, .bool sh, .bool fi, .bool be, .bool bu, .int .i64 en, .bool wb, .bool tr, .bool ow, .bool on, .bool ca, .bool ba, .bool di, .bool fu, .int .i64 mi]] w fun e w' => e = .returned (.int .i64 (b ⟨wr, rg, pr, sh, fi, be, bu, en, wb, tr, ow, on, ca, ba, di, fu, mi⟩)) ∧ Below w.heap.size w w'
end Go.Proofs.Ytkcopcmoaloecaa.Fp
