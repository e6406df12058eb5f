/- Rack: slices.Delete of one thing, at numbers and at things; Clone, Ids. -/
import Derived.Test.YtemjmnpclknfaaaGreatP7
import Derived.ArgAppend
import Derived.Lib.SliceRun
namespace Go.Proofs.YtemjmnpclknfaaaGreat.P
open Go.RowKit
set_option maxRecDepth 20000

theorem step_append_run {ops : Array Oper} {o : Oper} {a : Act} {w : World} {K : Act → World → Prop} {Q : Exit → Act → World → Prop} {E : Prop}
    (hg : o.guard = none) (d x : Operand) (dT sT : TypeId) (hop : o.op = Op.call { callee := Callee.builtin Builtin.append, args := #[d, x], argTypes := #[dT, sT] })
    (v u : Value) (hd : a.eval d = v) (hx : a.eval x = u) {v' : Value} {w' : World} (hr : (Builtin.append_ #[dT, sT] o.type #[v, u]).run Tryz.prog w = .ok v' w') (hK : K (a.put o.dst v') w') :
    if Region.wanted o (yielded ops a.tmps) = true then Oper.wp Tryz.prog o a w K Q else E := by
  have hw : Region.wanted o (yielded ops a.tmps) = true := by simp [Region.wanted, hg]
  rw [if_pos hw]
  unfold Oper.wp
  simp [execOp, hop, resolve, invoke, builtin, hd, hx, hr, Result.andThen]
  exact hK
def S32 (w : World) (v : Value) (l : List Nat) : Prop := ∃ A c, v = .slice A l.length c ∧ (0 < l.length → ∃ b o, A = some ⟨b, o, none⟩ ∧ b < w.heap.size ∧ At32 w b o l)
theorem S32.of_own {w : World} {base : Nat} {v : Value} {l : List Nat} (h : w.ownsRow base 33 1 v l.length (un l)) : S32 w v l := by
  rcases h.2 with ⟨rfl, h0⟩ | ⟨g, cap, cur, rfl, hr⟩
  · exact ⟨none, 0, by rw [h0], fun hl => by omega⟩
  · exact ⟨_, cap, rfl, fun _ => ⟨g, 0, rfl, (ownlt h g rfl).2, At32.of_own h⟩⟩
theorem S32.after {w w' : World} {v : Value} {l : List Nat} (h : S32 w v l) (hb : Below w.heap.size w w') : S32 w' v l := by
  obtain ⟨A, c, h1, h2⟩ := h
  refine ⟨A, c, h1, fun hl => ?_⟩
  obtain ⟨b, o, h3, h4, h5⟩ := h2 hl
  exact ⟨b, o, h3, Nat.lt_of_lt_of_le h4 hb.size, fun j x hj => (hb.cell (p := ⟨b, _, none⟩) h4).trans (h5 j x hj)⟩

theorem clone_any (base : Nat) (v : Value) (l : List Nat) (w : World) (h : w.ownsRow base 33 1 v l.length (un l)) (hl : l.length ≤ 1000) :
    Calls Tryz.prog 74 #[v] w fun r w' => ∃ v', r = .returned v' ∧ w'.ownsRow w.heap.size 33 1 v' l.length (un l) ∧ Below w.heap.size w w' := by
  rcases h.2 with ⟨rfl, h0⟩ | ⟨g, cap, cur, rfl, hbg, hh, hr⟩
  · have hq : ∀ W : World, (binOp .eql 34 (.slice none 0 0) (.slice none 0 0)).run Tryz.prog W = .ok (.bool true) W := fun W => Lib.run_eql_slice_nil W _ _ none 0 0 0 0 Tryz.underlying34
    have hl0 : l = [] := List.length_eq_zero_iff.1 h0
    subst hl0
    go_enter Tryz.func74, Tryz.ntmps74
    go_wp2
    go_ret
    exact ⟨_, rfl, World.ownsRow_nil _ _ 33 1, Below.refl _ _⟩
  · obtain ⟨i0, hi0, hz0, hz1, hz2⟩ := info_parts info26
    have hb0 : Below w.heap.size w (w.alloc (.cells #[] 33)) := (Below.refl _ _).alloc (Nat.le_refl _) _
    have hown : (w.alloc (.cells #[] 33)).ownsRow w.heap.size 33 1 (.slice (some ⟨w.heap.size, 0, none⟩) 0 0) 0 [] :=
      ⟨rfl, .inr ⟨w.heap.size, 0, #[], rfl, Nat.le_refl _, heap_alloc_new w _, Nat.le_refl _, Nat.zero_le _, rfl, rfl⟩⟩
    have hrun : ∀ ty, ∃ v' w', (Builtin.append_ #[34, 34] ty #[.slice (some ⟨w.heap.size, 0, none⟩) 0 0, .slice (some ⟨g, 0, none⟩) l.length cap]).run Tryz.prog (w.alloc (.cells #[] 33)) = .ok v' w' ∧ w'.ownsRow w.heap.size 33 1 v' l.length (un l) ∧ Below w.heap.size w w' := fun ty => by
      obtain ⟨v', w', h1, h2, h3, _⟩ := run_append_own (P := Tryz.prog) (w.alloc (.cells #[] 33)) w.heap.size 34 ty 33 i0 _ 1 4 Tryz.underlying34 hi0 hz0 hz1 hz2 rfl (by decide) _ 0 [] hown ⟨g, 0, none⟩ l.length cap (un l) (by simp [un]) (fun j u hu => by
        have := h.cells (g := g) rfl j u hu
        rw [Go.WideShapes.add_plain] at this ⊢
        exact (hb0.cell (p := ⟨g, _, none⟩) (lt_of_block hh)).trans this) (un_one l) (by unfold maxLen; omega) (by omega) (by simp)
      rw [Nat.zero_add, List.nil_append] at h2
      exact ⟨v', w', h1, h2, hb0.grown h3 (by simp) (fun k hk => by have e : w.heap.size = k := Option.some.inj hk; omega)⟩
    obtain ⟨v', w', hr1, hr2, hr3⟩ := hrun 34
    have HR2 := Lib.hid hr2
    have HR3 := Lib.hid hr3
    have hq : ∀ (W : World) (n c : Nat), (binOp .eql 34 (.slice (some ⟨g, 0, none⟩) n c) (.slice none 0 0)).run Tryz.prog W = .ok (.bool false) W := fun W n c => Lib.run_eql_slice_nil W _ _ (some ⟨g, 0, none⟩) n c 0 0 Tryz.underlying34
    clear h hb0 hown hrun hr2 hr3 hh hr
    go_enter Tryz.func74, Tryz.ntmps74
    go_wp2_with (at_builtin; refine Lib.wpList_append_run _ rfl _ _ _ _ rfl _ _ rfl rfl _ _ hr1 ?_)
    go_ret
    exact ⟨_, rfl, HR2.out, HR3.out⟩

end Go.Proofs.YtemjmnpclknfaaaGreat.P
