/- Verb: what the listed tables give; a world for the witness. -/
import Derived.Test.YtkhhbmbjmfdgdaaDoorV7
import Derived.Test.YtkhhbmbjmfdgdaaDoorTie
import Derived.Test.YtkhhbmbjmfdgdaaDoorCards
import Derived.ProofKit
import Derived.OpenShut
import Derived.Deep.DeepHandedRow
import Derived.Lib.LaidTab
import Derived.Stop.LaidErr
namespace Go.Proofs.YtkhhbmbjmfdgdaaDoor
open Go.ChangeShapes Go.WideShapes Go.ChangeAt Go.RowKit
set_option maxRecDepth 20000

theorem own : ownKnob Tryd.prog.godebug = Option.none := by kernel_rfl
theorem laidOut : laidOutB Tryd.prog = true := by kernel_rfl

/-- A table's datum. -/
def entD {H : Type} (e : ByteArray × ByteArray) : DataW H := .agg [.lit (.string e.1.data.toList), .lit (.string e.2.data.toList)]
theorem cells72 : Tryd.prog.cellsOf 72 = 2 := by kernel_rfl
theorem cells9 : Tryd.prog.cellsOf 9 = 1 := by kernel_rfl

theorem one_of {l : List Value} {k : Nat} {v : Value} (h : ((l.drop k).take 1) = [v]) : l[k]? = some v := by
  have := congrArg (·[0]?) h
  simpa [List.getElem?_take, List.getElem?_drop] using this

theorem ba_ext {a b : ByteArray} (h : a.data.toList = b.data.toList) : a = b := by
  cases a; cases b; simp at h; rw [h]

theorem ents_cells {H : Type} {enc : TypeId × Value → H} {w : World} {base : Nat} {sp : Nat → Bool} {held : Bool} {fuel t n : Nat} {cs : List Value} {l : List (ByteArray × ByteArray)} {p : List MemPlace}
    (ht : Tryd.prog.underlying t = some (.array n 72)) (h : DataW.trod enc Tryd.prog w base sp held fuel t cs = some (.agg (l.map entD), p)) :
    ∀ i (hi : i < l.length), cs[i * 2]? = some (.string l[i].1) ∧ cs[i * 2 + 1]? = some (.string l[i].2) := by
  intro i hi
  obtain ⟨xs, m, _, hx, _, hxl, hxi⟩ := DataW.trod_array ht h
  have h1 : l.map entD = xs.map (·.1) := by
    have := congrArg Prod.fst hx
    simpa using this
  have hln : l.length = n := by
    have := congrArg List.length h1
    simp at this
    omega
  have h2 := hxi i (by omega)
  rw [cells72] at h2
  have hxs : i < xs.length := by omega
  rw [List.getElem?_eq_getElem hxs] at h2
  have h3 : entD l[i] = xs[i].1 := by
    have := congrArg (·[i]?) h1
    simpa [List.getElem?_eq_getElem hi, List.getElem?_eq_getElem hxs] using this
  obtain ⟨y0, y1, m2, e, _, g0, g1⟩ := trod_struct2 Tryd.underlying72 h2
  obtain ⟨s0, c0, d0, _⟩ := DataW.trod_string Tryd.underlying9 g0
  obtain ⟨s1, c1, d1, _⟩ := DataW.trod_string Tryd.underlying9 g1
  rw [e, d0, d1] at h3
  simp only [entD, DataW.agg.injEq, List.cons.injEq, DataW.lit.injEq, Lit.string.injEq, and_true] at h3
  have e0 : l[i].1 = s0 := ba_ext h3.1
  have e1 : l[i].2 = s1 := ba_ext h3.2
  rw [e0, e1]
  rw [cells9] at c0 c1
  constructor
  · have := one_of c0
    simpa [List.getElem?_take, List.getElem?_drop] using this
  · have := one_of c1
    simpa [List.getElem?_take, List.getElem?_drop] using this

theorem tab_of_head {W : World} {name : String} {l : List (ByteArray × ByteArray)} {rest : List (String × DataW Unit)} {g t n : Nat} (hg : Tryd.prog.globalNamed name = some g) (hty : (Tryd.prog.globals[g]?).map (·.type) = some t) (ht : Tryd.prog.underlying t = some (.array n 72))
    (h : laidMet Tryd.prog ((name, .agg (l.map entD)) :: rest) W) : TabAt W g l := by
  obtain ⟨ps, ⟨g', t', cs, fuel, p, q, hg', ht', hvar, hd, _, _⟩, _⟩ := h
  obtain rfl := Option.some.inj (hg.symm.trans hg')
  obtain rfl := Option.some.inj (hty.symm.trans ht')
  intro i hi
  have h2 := ents_cells ht hd i hi
  have e1 := World.var?_cell hg hvar (i * 2)
  have e2 := World.var?_cell hg hvar (i * 2 + 1)
  have e3 : l.getD i (⟨#[]⟩, ⟨#[]⟩) = l[i] := by simp [List.getD, hi]
  rw [e3]
  refine ⟨e1.trans ?_, e2.trans ?_⟩
  · simpa using h2.1
  · simpa using h2.2

theorem gT0 : Tryd.prog.globalNamed "tiltyard/verb.requests" = some 0 := by kernel_rfl
theorem gY0 : (Tryd.prog.globals[0]?).map (·.type) = some 85 := by kernel_rfl
theorem dat0 : (Rows.laid_tiltyard_verb_requests : DataW Unit) = .agg (tab0.map entD) := by kernel_rfl
theorem gT1 : Tryd.prog.globalNamed "tiltyard/verb.replies" = some 1 := by kernel_rfl
theorem gY1 : (Tryd.prog.globals[1]?).map (·.type) = some 86 := by kernel_rfl
theorem dat1 : (Rows.laid_tiltyard_verb_replies : DataW Unit) = .agg (tab1.map entD) := by kernel_rfl
theorem gT2 : Tryd.prog.globalNamed "tiltyard/verb.events" = some 2 := by kernel_rfl
theorem gY2 : (Tryd.prog.globals[2]?).map (·.type) = some 87 := by kernel_rfl
theorem dat2 : (Rows.laid_tiltyard_verb_events : DataW Unit) = .agg (tab2.map entD) := by kernel_rfl
theorem gT3 : Tryd.prog.globalNamed "tiltyard/verb.orders" = some 3 := by kernel_rfl
theorem gY3 : (Tryd.prog.globals[3]?).map (·.type) = some 88 := by kernel_rfl
theorem dat3 : (Rows.laid_tiltyard_verb_orders : DataW Unit) = .agg (tab3.map entD) := by kernel_rfl
theorem gT4 : Tryd.prog.globalNamed "tiltyard/verb.reports" = some 4 := by kernel_rfl
theorem gY4 : (Tryd.prog.globals[4]?).map (·.type) = some 89 := by kernel_rfl
theorem dat4 : (Rows.laid_tiltyard_verb_reports : DataW Unit) = .agg (tab4.map entD) := by kernel_rfl

/-- The list that the rows bear. -/
abbrev laidAll : List (String × DataW Unit) := [("tiltyard/verb.requests", Rows.laid_tiltyard_verb_requests), ("tiltyard/verb.replies", Rows.laid_tiltyard_verb_replies), ("tiltyard/verb.events", Rows.laid_tiltyard_verb_events), ("tiltyard/verb.orders", Rows.laid_tiltyard_verb_orders), ("tiltyard/verb.reports", Rows.laid_tiltyard_verb_reports)]
theorem ents_of_laid {W : World} (h : laidMetH Tryd.prog laidAll W) : Ents W := by
  have h0 : laidMet Tryd.prog laidAll W := h
  have h1 := laidMet.tail h0
  have h2 := laidMet.tail h1
  have h3 := laidMet.tail h2
  have h4 := laidMet.tail h3
  unfold laidAll at h0
  rw [dat0] at h0
  rw [dat1] at h1
  rw [dat2] at h2
  rw [dat3] at h3
  rw [dat4] at h4
  have t4 := tab_of_head gT4 gY4 Tryd.underlying89 h4
  exact ⟨World.block_lt_of_cell? W _ (t4 0 (by decide)).1, tab_of_head gT0 gY0 Tryd.underlying85 h0, tab_of_head gT1 gY1 Tryd.underlying86 h1, tab_of_head gT2 gY2 Tryd.underlying87 h2, tab_of_head gT3 gY3 Tryd.underlying88 h3, t4⟩

def tabC (l : List (ByteArray × ByteArray)) : Array Value := (l.flatMap fun e => [.string e.1, .string e.2]).toArray
/-- A world for the witness: the settled one, the tables holding what their initialisers lay. -/
noncomputable def setTab (w : World) (g : Nat) (l : List (ByteArray × ByteArray)) : World :=
  { w with heap := w.heap.modify g fun
      | .cells _ t frozen => .cells (tabC l) t frozen
      | o => o }
noncomputable def laidWorld (os : Os) : World := setTab (setTab (setTab (setTab (setTab (World.holding Tryd.prog os ⟨#[], #[], []⟩) 0 tab0) 1 tab1) 2 tab2) 3 tab3) 4 tab4

/-- No parameter wants a stand-in; the program's own looks are off. -/
theorem plain_of {g : Nat} {fn0 : Func} {name : String} {ts : Array TypeId} (hn : Tryd.prog.funcNamed name = some g) (hf0 : Tryd.prog.funcs[g]? = some fn0) (hp : fn0.params = ts) (hs : ∀ t ∈ ts, Tryd.prog.wantsStandIn t = false) (f : FuncId) (fn : Func) (hf : Tryd.pinned.checked.prog.funcNamed name = some f) (hfn : Tryd.pinned.checked.prog.funcs[f]? = some fn) :
    false = Tryd.pinned.checked.prog.looks [] ∧ ∀ (j : Nat) t, fn.params[j]? = some t → Tryd.pinned.checked.prog.wantsStandIn t = false := by
  obtain rfl : f = g := Option.some.inj (hf.symm.trans hn)
  obtain rfl : fn = fn0 := Option.some.inj (hfn.symm.trans hf0)
  refine ⟨by kernel_rfl, fun j t ht => ?_⟩
  rw [hp] at ht
  exact hs t (Array.mem_of_getElem? ht)
end Go.Proofs.YtkhhbmbjmfdgdaaDoor
