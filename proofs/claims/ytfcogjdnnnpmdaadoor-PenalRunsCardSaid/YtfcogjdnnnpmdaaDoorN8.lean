/- Penal: what the listed ladder gives; arguments that came in; a world for the witness. -/
import Derived.Test.YtfcogjdnnnpmdaaDoorN6
import Derived.Test.YtfcogjdnnnpmdaaDoorTie
import Derived.Test.YtfcogjdnnnpmdaaDoorCards
import Derived.ProofKit
import Derived.OpenShut
import Derived.Deep.DeepHandedRow
import Derived.Lib.LaidTab
import Derived.Stop.LaidErr
import Derived.Deep.Matrix
import Derived.Lib.SmallJoins
import Derived.Deep.Slices
namespace Go.Proofs.YtfcogjdnnnpmdaaDoor
open Go.ChangeShapes Go.WideShapes Go.ChangeAt Go.RowKit
set_option maxRecDepth 20000

theorem own : ownKnob Tryd.prog.godebug = Option.none := by kernel_rfl
theorem laidOut : laidOutB Tryd.prog = true := by kernel_rfl
theorem gLad : Tryd.prog.globalNamed "tiltyard/penal.ladder" = some 0 := by kernel_rfl
theorem gLadType : (Tryd.prog.globals[0]?).map (·.type) = some 62 := by kernel_rfl
theorem cells62 : Tryd.prog.cellsOf 62 = 6 := by kernel_rfl
theorem cells2 : Tryd.prog.cellsOf 2 = 1 := by kernel_rfl
theorem cells3 : Tryd.prog.cellsOf 3 = 1 := by kernel_rfl
theorem cells55 : Tryd.prog.cellsOf 55 = 2 := by kernel_rfl

/-- The list that the rows bear. -/
abbrev laidAll : List (String × DataW Unit) := [("tiltyard/penal.ladder", Rows.laid_tiltyard_penal_ladder)]
theorem ladData : (Rows.laid_tiltyard_penal_ladder : DataW Unit) = Lib.tabData .i64 ladZ := by kernel_rfl
theorem lw_of_laid {W : World} (h : laidMetH Tryd.prog laidAll W) : Lw W := fun k hk => by
  have h2 : laidMet Tryd.prog laidAll W := h
  unfold laidAll at h2
  rw [ladData] at h2
  have ht := Lib.tabIs_of_head (rest := []) gLad gLadType Tryd.underlying62 Tryd.underlying2 cells2 cells62 h2
  rw [ht.cell gLad k hk]
  rfl
theorem size_of_laid {W : World} (h : laidMetH Tryd.prog laidAll W) : 0 < W.heap.size :=
  World.block_lt_of_cell? W _ (lw_of_laid h 0 (by decide))

section
variable {H : Type} {enc : TypeId × Value → H} {W : World}
theorem open_arr {base : Nat} {spare : Nat → Bool} {held : Bool} {t e n : Nat} {k : IntKind} {v : Value} {d : DataW H} {p : List MemPlace} {r : Reach} {b0 : Nat} (hu : Tryd.prog.underlying t = some (.array n e)) (he : Tryd.prog.underlying e = some (.int k)) (hce : Tryd.prog.cellsOf e = 1) (hct : Tryd.prog.cellsOf t = n)
    (hv : Value.okWide Tryd.prog W r b0 t v) (h : DataW.Trod enc Tryd.prog W base spare held t v d p) :
    ∃ l : List Value, v = .agg l.toArray ∧ l.length = n ∧ ∀ c ∈ l, ∃ z : Int, c = .int k z ∧ (Lit.int k z).wf = true := by
  have h2 : ∃ cs, v = .agg cs ∧ cs.size = Tryd.prog.cellsOf t := by
    unfold Value.okWide at hv
    rw [hu] at hv
    obtain ⟨cs, h1, h2, _⟩ := hv
    exact ⟨cs, h1, h2⟩
  obtain ⟨cs, rfl, hsz⟩ := h2
  obtain ⟨fuel, hf⟩ := h
  obtain ⟨xs, m, _, _, _, hxl, hx⟩ := DataW.trod_array hu hf
  refine ⟨cs.toList, by simp, by simp [hsz, hct], fun c hc => ?_⟩
  obtain ⟨i, hi, rfl⟩ := List.getElem_of_mem hc
  have hin : i < n := by simpa [hsz, hct] using hi
  have h1 := hx i hin
  rw [hce, Nat.mul_one, List.getElem?_eq_getElem (by omega)] at h1
  have e1 : (Value.cells (.agg cs)).toList = cs.toList := rfl
  rw [e1, List.drop_eq_getElem_cons hi, List.take_succ_cons, List.take_zero] at h1
  obtain ⟨z, h3, _, h4⟩ := DataW.trod_int he h1
  exact ⟨z, by simpa using h3, h4⟩
theorem open_times {base : Nat} {spare : Nat → Bool} {held : Bool} {v : Value} {d : DataW H} {p : List MemPlace} {r : Reach} {b0 : Nat} (hv : Value.okWide Tryd.prog W r b0 55 v) (h : DataW.Trod enc Tryd.prog W base spare held 55 v d p) :
    ∃ x y : Int, v = .agg #[.int .i64 x, .int .i64 y] ∧ inI x ∧ inI y := by
  obtain ⟨l, rfl, hl, hc⟩ := open_arr Tryd.underlying55 Tryd.underlying2 cells2 cells55 hv h
  obtain ⟨a, b, rfl⟩ : ∃ a b, l = [a, b] := by
    rcases l with _ | ⟨a, _ | ⟨b, _ | ⟨c, l⟩⟩⟩ <;> simp at hl
    exact ⟨a, b, rfl⟩
  obtain ⟨x, rfl, hx⟩ := hc a (by simp)
  obtain ⟨y, rfl, hy⟩ := hc b (by simp)
  exact ⟨x, y, rfl, bounds_i64 hx, bounds_i64 hy⟩
theorem array3' {α : Type} {cs : Array α} (h : cs.size = 3) : ∃ c0 c1 c2, cs = #[c0, c1, c2] := by
  obtain ⟨l⟩ := cs
  match l, h with
  | [c0, c1, c2], _ => exact ⟨c0, c1, c2, rfl⟩
theorem mark_core {fuel : Nat} {c0 c1 c2 : Value} {x : DataW H × List MemPlace} (hf : DataW.trod enc Tryd.prog W 0 (fun _ => true) true fuel 23 [c0, c1, c2] = some x) :
    ∃ l s u : Int, [c0, c1, c2] = [.int .i64 l, .int .i64 s, .int .i64 u] ∧ inI l ∧ inI s ∧ inI u := by
  obtain ⟨xs, m, _, _, _, hlen, hx⟩ := DataW.trod_struct Tryd.underlying23 hf
  match xs, hlen with
  | [y0, y1, y2], _ =>
    have h0 : DataW.trod enc Tryd.prog W 0 (fun _ => true) true m 3 [c0] = some y0 := by simpa [cells3] using hx 0 _ rfl
    have h1 : DataW.trod enc Tryd.prog W 0 (fun _ => true) true m 2 [c1] = some y1 := by simpa [cells2] using hx 1 _ rfl
    have h2 : DataW.trod enc Tryd.prog W 0 (fun _ => true) true m 2 [c2] = some y2 := by simpa [cells2] using hx 2 _ rfl
    obtain ⟨x0, e0, _, w0⟩ := DataW.trod_int Tryd.underlying3 h0
    obtain ⟨x1, e1, _, w1⟩ := DataW.trod_int Tryd.underlying2 h1
    obtain ⟨x2, e2, _, w2⟩ := DataW.trod_int Tryd.underlying2 h2
    simp only [List.cons.injEq, and_true] at e0 e1 e2
    subst e0 e1 e2
    exact ⟨x0, x1, x2, rfl, bounds_i64 w0, bounds_i64 w1, bounds_i64 w2⟩
theorem open_mark {v : Value} {d : DataW H} {p : List MemPlace} {r : Reach} {b0 : Nat} (hv : Value.okWide Tryd.prog W r b0 23 v) (h : DataW.Trod enc Tryd.prog W 0 (fun _ => true) true 23 v d p) :
    ∃ l s u : Int, v = mV l s u ∧ inI l ∧ inI s ∧ inI u := by
  obtain ⟨cs, rfl, hsz⟩ := WideShapes.okWide_struct Tryd.underlying23 hv
  obtain ⟨c0, c1, c2, rfl⟩ := array3' (hsz.trans (show Tryd.prog.cellsOf 23 = 3 by kernel_rfl))
  obtain ⟨fuel, hf⟩ := h
  obtain ⟨l, s, u, hm, h1, h2, h3⟩ := mark_core (c0 := c0) (c1 := c1) (c2 := c2) (by simpa [Value.cells] using hf)
  simp only [List.cons.injEq, and_true] at hm
  obtain ⟨rfl, rfl, rfl⟩ := hm
  exact ⟨l, s, u, rfl, h1, h2, h3⟩
end

/-- A world for the witness: the settled one, the ladder holding what its initialiser lays. -/
noncomputable def laidWorld (os : Os) : World :=
  { World.holding Tryd.prog os ⟨#[], #[], []⟩ with heap := (World.holding Tryd.prog os ⟨#[], #[], []⟩).heap.modify 0 fun
      | .cells _ t frozen => .cells ladV t frozen
      | o => o }

/-- No parameter wants a stand-in; the program's own looks are off. -/
theorem plain_of {g : Nat} {fn0 : Func} {name : String} {ts : Array TypeId} (hn : Tryd.prog.funcNamed name = some g) (hf0 : Tryd.prog.funcs[g]? = some fn0) (hp : fn0.params = ts) (hs : ∀ t ∈ ts, Tryd.prog.wantsStandIn t = false) (f : FuncId) (fn : Func) (hf : Tryd.pinned.checked.prog.funcNamed name = some f) (hfn : Tryd.pinned.checked.prog.funcs[f]? = some fn) :
    false = Tryd.pinned.checked.prog.looks [] ∧ ∀ (j : Nat) t, fn.params[j]? = some t → Tryd.pinned.checked.prog.wantsStandIn t = false := by
  obtain rfl : f = g := Option.some.inj (hf.symm.trans hn)
  obtain rfl : fn = fn0 := Option.some.inj (hfn.symm.trans hf0)
  refine ⟨by kernel_rfl, fun j t ht => ?_⟩
  rw [hp] at ht
  exact hs t (Array.mem_of_getElem? ht)

end Go.Proofs.YtfcogjdnnnpmdaaDoor
