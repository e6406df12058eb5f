/- Elo: what the listed row gives; arguments that came in; a world for the witness. -/
import Derived.Test.YtlkebffainhfaaaDoorE8
import Derived.Test.YtlkebffainhfaaaDoorTie
import Derived.Test.YtlkebffainhfaaaDoorCards
import Derived.ProofKit
import Derived.OpenShut
import Derived.Deep.DeepHandedRow
import Derived.Lib.LaidTab
import Derived.Stop.LaidErr
import Derived.Deep.Matrix
namespace Go.Proofs.YtlkebffainhfaaaDoor
open Go.ChangeShapes Go.WideShapes Go.ChangeAt Go.RowKit
set_option maxRecDepth 20000

theorem own : ownKnob Tryd.prog.godebug = Option.none := by kernel_rfl
theorem laidOut : laidOutB Tryd.prog = true := by kernel_rfl
theorem gRow : Tryd.prog.globalNamed "tiltyard/elo.row" = some 0 := by kernel_rfl
theorem gRowType : (Tryd.prog.globals[0]?).map (·.type) = some 42 := by kernel_rfl
theorem cells42 : Tryd.prog.cellsOf 42 = 17 := by kernel_rfl
theorem cells3 : Tryd.prog.cellsOf 3 = 1 := by kernel_rfl
theorem cells22 : Tryd.prog.cellsOf 22 = 2 := by kernel_rfl
theorem cells39 : Tryd.prog.cellsOf 39 = 3 := by kernel_rfl

/-- The list that the rows bear. -/
abbrev laidAll : List (String × DataW Unit) := [("tiltyard/elo.row", Rows.laid_tiltyard_elo_row)]
theorem rowData : (Rows.laid_tiltyard_elo_row : DataW Unit) = Lib.tabData .i64 rowZ := by kernel_rfl
theorem rw_of_laid {W : World} (h : laidMetH Tryd.prog laidAll W) : Rw W := fun k hk => by
  have h2 : laidMet Tryd.prog laidAll W := h
  unfold laidAll at h2
  rw [rowData] at h2
  have ht := Lib.tabIs_of_head (rest := []) gRow gRowType Tryd.underlying42 Tryd.underlying3 cells3 cells42 h2
  rw [ht.cell gRow k hk]
  rfl
theorem size_of_laid {W : World} (h : laidMetH Tryd.prog laidAll W) : 0 < W.heap.size :=
  World.block_lt_of_cell? W _ (rw_of_laid h 0 (by decide))

section
variable {H : Type} {enc : TypeId × Value → H} {W : World}
theorem open_arr {base : Nat} {spare : Nat → Bool} {held : Bool} {t e n : Nat} {k : IntKind} {v : Value} {d : DataW H} {p : List MemPlace} {r : Reach} {b0 : Nat} (hu : Tryd.prog.underlying t = some (.array n e)) (he : Tryd.prog.underlying e = some (.int k)) (hce : Tryd.prog.cellsOf e = 1) (hct : Tryd.prog.cellsOf t = n)
    (hv : Value.okWide Tryd.prog W r b0 t v) (h : DataW.Trod enc Tryd.prog W base spare held t v d p) :
    ∃ l : List Value, v = .agg l.toArray ∧ l.length = n ∧ ∀ c ∈ l, ∃ z : Int, c = .int k z ∧ (Lit.int k z).wf = true := by
  have h2 : ∃ cs, v = .agg cs ∧ cs.size = Tryd.prog.cellsOf t := by
    unfold Value.okWide at hv
    rw [hu] at hv
    obtain ⟨cs, h1, h2, _⟩ := hv
    exact ⟨cs, h1, h2⟩
  obtain ⟨cs, rfl, hsz⟩ := h2
  obtain ⟨fuel, hf⟩ := h
  obtain ⟨xs, m, _, _, _, hxl, hx⟩ := DataW.trod_array hu hf
  refine ⟨cs.toList, by simp, by simp [hsz, hct], fun c hc => ?_⟩
  obtain ⟨i, hi, rfl⟩ := List.getElem_of_mem hc
  have hin : i < n := by simpa [hsz, hct] using hi
  have h1 := hx i hin
  rw [hce, Nat.mul_one, List.getElem?_eq_getElem (by omega)] at h1
  have e1 : (Value.cells (.agg cs)).toList = cs.toList := rfl
  rw [e1, List.drop_eq_getElem_cons hi, List.take_succ_cons, List.take_zero] at h1
  obtain ⟨z, h3, _, h4⟩ := DataW.trod_int he h1
  exact ⟨z, by simpa using h3, h4⟩
theorem open_two {base : Nat} {spare : Nat → Bool} {held : Bool} {v : Value} {d : DataW H} {p : List MemPlace} {r : Reach} {b0 : Nat} (hv : Value.okWide Tryd.prog W r b0 22 v) (h : DataW.Trod enc Tryd.prog W base spare held 22 v d p) :
    ∃ x y : Int, v = .agg #[.int .i64 x, .int .i64 y] ∧ (-9223372036854775808 ≤ x ∧ x ≤ 9223372036854775807) ∧ (-9223372036854775808 ≤ y ∧ y ≤ 9223372036854775807) := by
  obtain ⟨l, rfl, hl, hc⟩ := open_arr Tryd.underlying22 Tryd.underlying3 cells3 cells22 hv h
  obtain ⟨a, b, rfl⟩ : ∃ a b, l = [a, b] := by
    rcases l with _ | ⟨a, _ | ⟨b, _ | ⟨c, l⟩⟩⟩ <;> simp at hl
    exact ⟨a, b, rfl⟩
  obtain ⟨x, rfl, hx⟩ := hc a (by simp)
  obtain ⟨y, rfl, hy⟩ := hc b (by simp)
  exact ⟨x, y, rfl, bounds_i64 hx, bounds_i64 hy⟩
theorem open_three {base : Nat} {spare : Nat → Bool} {held : Bool} {v : Value} {d : DataW H} {p : List MemPlace} {r : Reach} {b0 : Nat} (hv : Value.okWide Tryd.prog W r b0 39 v) (h : DataW.Trod enc Tryd.prog W base spare held 39 v d p) :
    ∃ x y z : Int, v = .agg #[.int .i64 x, .int .i64 y, .int .i64 z] ∧ (-9223372036854775808 ≤ x ∧ x ≤ 9223372036854775807) ∧ (-9223372036854775808 ≤ y ∧ y ≤ 9223372036854775807) ∧ (-9223372036854775808 ≤ z ∧ z ≤ 9223372036854775807) := by
  obtain ⟨l, rfl, hl, hc⟩ := open_arr Tryd.underlying39 Tryd.underlying3 cells3 cells39 hv h
  obtain ⟨a, b, c, rfl⟩ : ∃ a b c, l = [a, b, c] := by
    rcases l with _ | ⟨a, _ | ⟨b, _ | ⟨c, _ | ⟨d, l⟩⟩⟩⟩ <;> simp at hl
    exact ⟨a, b, c, rfl⟩
  obtain ⟨x, rfl, hx⟩ := hc a (by simp)
  obtain ⟨y, rfl, hy⟩ := hc b (by simp)
  obtain ⟨z, rfl, hz⟩ := hc c (by simp)
  exact ⟨x, y, z, rfl, bounds_i64 hx, bounds_i64 hy, bounds_i64 hz⟩
theorem open_zs {r : Reach} {b0 : Nat} {v : Value} {d : DataW H} {q : List MemPlace} (hv : Value.okWide Tryd.prog W r b0 23 v) (h : DataW.Trod enc Tryd.prog W 0 (fun _ => true) true 23 v d q) :
    ∃ (A : Option Addr) (c : Nat) (l : List Int), v = .slice A l.length c ∧ Zs W (.slice A l.length c) l ∧ l.length ≤ 9223372036854775807 := by
  obtain ⟨A, n, c, rfl⟩ := WideShapes.okWide_slice Tryd.underlying23 hv
  obtain ⟨fuel, hf⟩ := h
  rcases Deep.open_slice1 Tryd.underlying23 cells3 hf with ⟨hcs, _⟩ | ⟨a, len, cap, m, k, V, D, Pl, hcs, _, hl, hm, hmm, _, hx⟩
  · simp [Value.cells] at hcs
    obtain ⟨rfl, rfl, rfl⟩ := hcs
    exact ⟨none, 0, [], rfl, zs_nil W, by simp⟩
  · simp [Value.cells] at hcs
    obtain ⟨rfl, rfl, rfl⟩ := hcs
    have each : ∀ i, i < n → ∃ x : Int, W.cell? (a.add i) = some (.int .i64 x) := fun i hi => by
      obtain ⟨h1, h2⟩ := hx i (by rw [hmm]; simp; omega)
      obtain ⟨x, e, _, wf⟩ := DataW.trod_int Tryd.underlying3 h2
      simp only [List.cons.injEq, and_true] at e
      exact ⟨x, by rw [h1, e]⟩
    obtain ⟨f, hf⟩ := Deep.choose_lt each
    refine ⟨some a, c, (List.range n).map f, by simp, ⟨_, _, rfl, by simpa using hl, fun h0 => ?_⟩, by unfold maxLen at hm; simp; omega⟩
    simp at h0
    have hc0 := hf 0 h0
    obtain ⟨b, off, spot⟩ := a
    have hspot : spot = none := by simpa [Addr.add] using World.cell?_spot hc0
    subst hspot
    refine ⟨b, off, rfl, World.block_lt_of_cell? W ⟨b, off + 0, none⟩ (by rw [← Go.WideShapes.add_plain]; exact hc0), fun j hj => ?_⟩
    have hj2 : j < n := by simpa using hj
    simp only [List.getElem_map, List.getElem_range]
    have := hf j hj2
    rw [Go.WideShapes.add_plain] at this
    exact this
end

/-- A world for the witness: the settled one, the row holding what its initialiser lays. -/
noncomputable def laidWorld (os : Os) : World :=
  { World.holding Tryd.prog os ⟨#[], #[], []⟩ with heap := (World.holding Tryd.prog os ⟨#[], #[], []⟩).heap.modify 0 fun
      | .cells _ t frozen => .cells rowV t frozen
      | o => o }

/-- No parameter wants a stand-in; the program's own looks are off. -/
theorem plain_of {g : Nat} {fn0 : Func} {name : String} {ts : Array TypeId} (hn : Tryd.prog.funcNamed name = some g) (hf0 : Tryd.prog.funcs[g]? = some fn0) (hp : fn0.params = ts) (hs : ∀ t ∈ ts, Tryd.prog.wantsStandIn t = false) (f : FuncId) (fn : Func) (hf : Tryd.pinned.checked.prog.funcNamed name = some f) (hfn : Tryd.pinned.checked.prog.funcs[f]? = some fn) :
    false = Tryd.pinned.checked.prog.looks [] ∧ ∀ (j : Nat) t, fn.params[j]? = some t → Tryd.pinned.checked.prog.wantsStandIn t = false := by
  obtain rfl : f = g := Option.some.inj (hf.symm.trans hn)
  obtain rfl : fn = fn0 := Option.some.inj (hfn.symm.trans hf0)
  refine ⟨by kernel_rfl, fun j t ht => ?_⟩
  rw [hp] at ht
  exact hs t (Array.mem_of_getElem? ht)

set_option maxHeartbeats 400000 in
theorem shares_walk (p m k : Int) (w : World) (hR : Rw w) (hz : 0 < w.heap.size) (_hp : -9223372036854775808 ≤ p ∧ p ≤ 9223372036854775807) (hm : -9223372036854775808 ≤ m ∧ m ≤ 9223372036854775807) (_hk : -9223372036854775808 ≤ k ∧ k ≤ 9223372036854775807) :
    Calls Tryd.prog 4 #[.int .i64 p, .int .i64 m, .int .i64 k] w fun r w' => r = .returned (.bool true) ∧ Below w.heap.size w w' := by
  by_cases h1 : p < -1099511627776
  · go_enter Tryd.func4, Tryd.ntmps4
    go_wp2_with fail
    go_ret
    exact ⟨rfl, Below.refl _ _⟩
  · by_cases h2 : 1099511627776 < p
    · go_enter Tryd.func4, Tryd.ntmps4
      go_wp2_with fail
      go_ret
      exact ⟨rfl, Below.refl _ _⟩
    · have HA : Hid (∀ W, Calls Tryd.prog 17 #[.int .i64 p, .int .i64 m, .int .i64 k] W fun e w' => e = .returned (.int .i64 (shr p m k)) ∧ ∃ n, w' = W.drewN n) := fun W => share_any p m k W (by omega) (by omega) hm.1 hm.2
      have HB : Hid (∀ W, Calls Tryd.prog 18 #[.int .i64 p, .int .i64 m, .int .i64 k] W fun e w' => e = .returned (.int .i64 (shr p m k)) ∧ w' = W) := fun W => rshare_any p m k W (by omega) (by omega) hm.1 hm.2
      generalize shr p m k = z at HA HB
      have hzz : (z == z) = true := by simp
      have HW : Hid (∀ W, Below w.heap.size w W → Calls Tryd.prog 16 #[] W fun r w' => r = .returned (.bool true) ∧ Below W.heap.size W w') := fun W hb => eawake W (hR.below hb hz) (Nat.lt_of_lt_of_le hz hb.size)
      have HBr : Hid (Below w.heap.size w w) := Below.refl _ _
      clear hR hm
      go_enter Tryd.func4, Tryd.ntmps4
      go_wp2_with fail
      refine (HA.out _).mono ?_
      rintro e w1 ⟨rfl, n, rfl⟩
      go_wp2_with fail
      refine (HB.out _).mono ?_
      rintro e w1 ⟨rfl, rfl⟩
      go_wp2_with fail
      refine (HW.out _ (below_drewN HBr.out n)).mono ?_
      rintro e w1 ⟨rfl, hb⟩
      go_wp2_with fail
      go_ret
      exact ⟨rfl, (below_drewN HBr.out n).trans hb⟩
end Go.Proofs.YtlkebffainhfaaaDoor
