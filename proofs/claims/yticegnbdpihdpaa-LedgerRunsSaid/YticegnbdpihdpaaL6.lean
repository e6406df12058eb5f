/- Ledger: rows of entries in memory; what was issued, what of it is live, which one an attempt may spend. -/
import Derived.Test.YticegnbdpihdpaaL5
import Derived.Test.YticegnbdpihdpaaL4
import Derived.Deep.Slices
import Derived.Laws.AppendOwn
namespace Go.Proofs.Yticegnbdpihdpaa
open Go.RowKit Go.ChangeShapes
open Go.Joins
set_option maxRecDepth 20000

abbrev Ent := Nat × Nat × Nat × Int
def ec (e : Ent) : List Value := [.int .u64 (e.1 : Int), .int .u32 (e.2.1 : Int), .int .u32 (e.2.2.1 : Int), .int .i64 e.2.2.2]
def er (l : List Ent) : List Value := l.flatMap ec
def BE (e : Ent) : Prop := BdE e.1 e.2.1 e.2.2.1 e.2.2.2
def At (w : World) (b p : Nat) (e : Ent) : Prop := w.cell? ⟨b, p, none⟩ = some (.int .u64 (e.1 : Int)) ∧ w.cell? ⟨b, p + 1, none⟩ = some (.int .u32 (e.2.1 : Int)) ∧ w.cell? ⟨b, p + 2, none⟩ = some (.int .u32 (e.2.2.1 : Int)) ∧ w.cell? ⟨b, p + 3, none⟩ = some (.int .i64 e.2.2.2)
/-- The entries l are read from A on. -/
def Es (w : World) (B : Nat) (A : Option Addr) (l : List Ent) : Prop :=
  0 < l.length → ∃ b o, A = some ⟨b, o, none⟩ ∧ b < B ∧ ∀ i e, l[i]? = some e → At w b (o + i * 4) e

theorem er_len (l : List Ent) : (er l).length = l.length * 4 := by
  induction l with
  | nil => rfl
  | cons e l ih =>
    unfold er at ih ⊢
    rw [List.flatMap_cons, List.length_append, ih, List.length_cons]
    simp [ec]
    omega
theorem er_get : ∀ (l : List Ent) (i : Nat) (e : Ent) (j : Nat), l[i]? = some e → j < 4 → (er l)[i * 4 + j]? = (ec e)[j]?
  | [], i, e, j, h, _ => by simp at h
  | x :: l, 0, e, j, h, hj => by
    simp at h
    subst h
    unfold er
    rw [List.flatMap_cons, List.getElem?_append_left (by simp [ec]; omega)]
    simp
  | x :: l, i + 1, e, j, h, hj => by
    have ih := er_get l i e j (by simpa using h) hj
    unfold er at ih ⊢
    rw [List.flatMap_cons, List.getElem?_append_right (by simp [ec]; omega)]
    simp only [show (ec x).length = 4 from rfl, show (i + 1) * 4 + j - 4 = i * 4 + j by omega]
    exact ih
theorem er_snoc (l : List Ent) (e : Ent) : er (l ++ [e]) = er l ++ ec e := by simp [er]

theorem own_form4 {w : World} {base m : Nat} {v : Value} {xs : List Value} (h : w.ownsRow base 33 4 v m xs) : ∃ A c, v = .slice A m c := by
  rcases h.2 with ⟨rfl, rfl⟩ | ⟨g, cap, cur, rfl, _⟩
  · exact ⟨none, 0, rfl⟩
  · exact ⟨_, cap, rfl⟩
theorem Es.of_own {w : World} {base m c : Nat} {A : Option Addr} {l : List Ent} (h : w.ownsRow base 33 4 (.slice A m c) m (er l)) : Es w w.heap.size A l := fun hl => by
  have hcells := fun g => h.cells (g := g)
  have hlt := h.lt
  have hlen := h.1
  rw [er_len] at hlen
  rcases h.2 with ⟨_, h0⟩ | ⟨g, cap, cur, e1, _, _, _, _⟩
  · omega
  · injection e1 with e1 _ _
    subst e1
    refine ⟨g, 0, rfl, (hlt g rfl).2, fun i e he => ?_⟩
    have hc : ∀ j, j < 4 → w.cell? ⟨g, 0 + i * 4 + j, none⟩ = (ec e)[j]? := fun j hj => by
      obtain ⟨u, hu⟩ : ∃ u, (ec e)[j]? = some u := ⟨(ec e)[j]'(by simpa [ec] using hj), List.getElem?_eq_getElem _⟩
      have := hcells g rfl (i * 4 + j) u (by rw [er_get l i e j he hj, hu])
      rw [Go.WideShapes.add_plain, ← Nat.add_assoc] at this
      rw [hu, ← this]
    exact ⟨by simpa [ec] using hc 0 (by omega), by simpa [ec] using hc 1 (by omega), by simpa [ec] using hc 2 (by omega), by simpa [ec] using hc 3 (by omega)⟩

theorem info33 : (Try.prog.info? 33).map (fun i => (i.zero, i.size, i.bytes)) = some (some (eV 0 0 0 0), 4, 24) := by kernel_rfl
theorem wpList_append_ent {w : World} {ops : Array Oper} {rest : List Oper} {op : Oper} {a : Act} {Q : Exit → Act → World → Prop} (hgd : op.guard = none) (s x : Operand)
    (ho : op.op = .call { callee := .builtin .append, args := #[s, x], argTypes := #[51, 51] }) (base G : Nat) (v : Value) (m : Nat) (l : List Ent) (e : Ent) (hs : a.eval s = v) (hx : a.eval x = .slice (some ⟨G, 0, none⟩) 1 1)
    (hown : w.ownsRow base 33 4 v m (er l)) (hG : w.heap[G]? = some (.cells (ec e).toArray 33 (0, 0))) (hm : m ≤ 1000) (hbase : base ≤ w.heap.size)
    (h : ∀ v' w', w'.ownsRow base 33 4 v' (m + 1) (er (l ++ [e])) → w.grownBy w' v.ownBlock → wpList Try.prog ops Q rest (a.put op.dst v') w') : wpList Try.prog ops Q (op :: rest) a w := by
  refine wpList_plain hgd fun K hK => ?_
  obtain ⟨i0, hi, hz0, hz1, hz2⟩ := info_parts info33
  obtain ⟨v', w', hr, h2, h3, _⟩ := run_append_own (P := Try.prog) w base 51 op.type 33 i0 _ 4 _ Try.underlying51 hi hz0 hz1 hz2 rfl (by decide) v m (er l) hown ⟨G, 0, none⟩ 1 1 (ec e) rfl (fun j u hu => by
    have := cell_of_row w G j _ _ _ hG
    rw [List.getElem?_toArray, hu] at this
    rw [← this, Go.WideShapes.add_plain, Nat.zero_add]) (by
    intro u hu
    simp only [ec, List.mem_cons, List.not_mem_nil, or_false] at hu
    rcases hu with rfl | rfl | rfl | rfl <;> rfl) (by unfold maxLen; omega) (by omega) hbase
  unfold Oper.wp execOp
  simp only [ho, resolve, invoke, builtin, Sem.run_bind, Sem.run_pure, Result.andThen_ok, List.map_toArray, List.map_cons, List.map_nil, hs, hx, hr]
  exact hK _ _ (h v' w' (by rw [er_snoc]; exact h2) h3)

theorem open_ents {H : Type} {enc : TypeId × Value → H} {W : World} {r : Reach} {b0 : Nat} {v : Value} {d : DataW H} {q : List MemPlace} (hv : Value.okWide Try.prog W r b0 51 v) (h : DataW.Trod enc Try.prog W 0 (fun _ => true) true 51 v d q) :
    ∃ (A : Option Addr) (c : Nat) (l : List Ent), v = .slice A l.length c ∧ Es W W.heap.size A l ∧ l.length ≤ 9223372036854775807 ∧ ∀ e ∈ l, BE e := by
  obtain ⟨A, n, c, rfl⟩ := WideShapes.okWide_slice Try.underlying51 hv
  obtain ⟨fuel, hf⟩ := h
  have c4 : Try.prog.cellsOf 33 = 4 := by kernel_rfl
  have k2 : Try.prog.cellsOf 2 = 1 := by kernel_rfl
  have k26 : Try.prog.cellsOf 26 = 1 := by kernel_rfl
  have k27 : Try.prog.cellsOf 27 = 1 := by kernel_rfl
  rcases Deep.open_slice Try.underlying51 hf with ⟨hcs, _⟩ | ⟨a, len, cap, m, k, D, Pl, hcs, _, hl, hm, hmm, _, hx⟩
  · simp [Value.cells] at hcs
    obtain ⟨rfl, rfl, rfl⟩ := hcs
    exact ⟨none, 0, [], rfl, fun h => by simp at h, by simp, fun e he => by cases he⟩
  · simp [Value.cells] at hcs
    obtain ⟨rfl, rfl, rfl⟩ := hcs
    rw [c4] at hx
    have each : ∀ i, i < n → ∃ e : Ent, BE e ∧ W.cell? (a.add (i * 4)) = some (.int .u64 (e.1 : Int)) ∧ W.cell? (a.add (i * 4 + 1)) = some (.int .u32 (e.2.1 : Int)) ∧ W.cell? (a.add (i * 4 + 2)) = some (.int .u32 (e.2.2.1 : Int)) ∧ W.cell? (a.add (i * 4 + 3)) = some (.int .i64 e.2.2.2) := fun i hi => by
      obtain ⟨cs', h1, h2⟩ := hx i (by rw [hmm]; simp; omega)
      obtain ⟨_, hlen, hcell⟩ := World.cells?_some h1
      match cs', hlen with
      | [c0, c1, c2, c3], _ =>
        obtain ⟨y0, y1, y2, y3, m', _, _, g0, g1, g2, g3⟩ := trod_struct4 Try.underlying33 h2
        have g0 : DataW.trod enc Try.prog W 0 (fun _ => true) true m' 26 [c0] = some y0 := by simpa [k26] using g0
        have g1 : DataW.trod enc Try.prog W 0 (fun _ => true) true m' 27 [c1] = some y1 := by simpa [k27] using g1
        have g2 : DataW.trod enc Try.prog W 0 (fun _ => true) true m' 27 [c2] = some y2 := by simpa [k27] using g2
        have g3 : DataW.trod enc Try.prog W 0 (fun _ => true) true m' 2 [c3] = some y3 := by simpa [k2] using g3
        obtain ⟨x0, e0, _, w0⟩ := DataW.trod_int Try.underlying26 g0
        obtain ⟨x1, e1, _, w1⟩ := DataW.trod_int Try.underlying27 g1
        obtain ⟨x2, e2, _, w2⟩ := DataW.trod_int Try.underlying27 g2
        obtain ⟨x3, e3, _, w3⟩ := DataW.trod_int Try.underlying2 g3
        simp only [List.cons.injEq, and_true] at e0 e1 e2 e3
        subst e0 e1 e2 e3
        have b0 := bounds_u64 w0
        have b1 := bounds_u32 w1
        have b2 := bounds_u32 w2
        have b3 := bounds_i64 w3
        have q0 := hcell 0 (by omega)
        have q1 := hcell 1 (by omega)
        have q2 := hcell 2 (by omega)
        have q3 := hcell 3 (by omega)
        rw [Deep.add_add] at q0 q1 q2 q3
        refine ⟨(x0.toNat, x1.toNat, x2.toNat, x3), ⟨by show x0.toNat < _; omega, by show x1.toNat < _; omega, by show x2.toNat < _; omega, b3.1, b3.2⟩, ?_, ?_, ?_, ?_⟩
        · simpa [show (x0.toNat : Int) = x0 by omega] using q0
        · simpa [show (x1.toNat : Int) = x1 by omega] using q1
        · simpa [show (x2.toNat : Int) = x2 by omega] using q2
        · simpa using q3
    obtain ⟨f, hf⟩ := Deep.choose_lt each
    refine ⟨some a, c, (List.range n).map f, by simp, fun h0 => ?_, by unfold maxLen at hm; simp; omega, fun e he => ?_⟩
    · simp at h0
      have hc0 := (hf 0 h0).2.1
      obtain ⟨b, off, spot⟩ := a
      have hspot : spot = none := by simpa [Addr.add] using World.cell?_spot hc0
      subst hspot
      refine ⟨b, off, rfl, World.block_lt_of_cell? W ⟨b, off + 0 * 4, none⟩ (by rw [← Go.WideShapes.add_plain]; exact hc0), fun i e he => ?_⟩
      rw [List.getElem?_map] at he
      obtain ⟨i', hi', rfl⟩ := Option.map_eq_some_iff.1 he
      obtain ⟨hin, rfl⟩ := List.getElem?_eq_some_iff.1 hi'
      simp at hin
      simp only [List.getElem_range]
      obtain ⟨_, r0, r1, r2, r3⟩ := hf i hin
      rw [Go.WideShapes.add_plain] at r0 r1 r2 r3
      exact ⟨r0, r1, r2, r3⟩
    · obtain ⟨i, hi, rfl⟩ := List.mem_map.1 he
      exact (hf i (List.mem_range.1 hi)).1

theorem open_tries {H : Type} {enc : TypeId × Value → H} {W : World} {r : Reach} {b0 : Nat} {v : Value} {d : DataW H} {q : List MemPlace} (hv : Value.okWide Try.prog W r b0 52 v) (h : DataW.Trod enc Try.prog W 0 (fun _ => true) true 52 v d q) :
    ∃ (A : Option Addr) (c : Nat) (l : List Ent), v = .slice A l.length c ∧ Es W W.heap.size A l ∧ l.length ≤ 9223372036854775807 ∧ ∀ e ∈ l, BE e := by
  obtain ⟨A, n, c, rfl⟩ := WideShapes.okWide_slice Try.underlying52 hv
  obtain ⟨fuel, hf⟩ := h
  have c4 : Try.prog.cellsOf 55 = 4 := by kernel_rfl
  have k2 : Try.prog.cellsOf 2 = 1 := by kernel_rfl
  have k26 : Try.prog.cellsOf 26 = 1 := by kernel_rfl
  have k27 : Try.prog.cellsOf 27 = 1 := by kernel_rfl
  rcases Deep.open_slice Try.underlying52 hf with ⟨hcs, _⟩ | ⟨a, len, cap, m, k, D, Pl, hcs, _, hl, hm, hmm, _, hx⟩
  · simp [Value.cells] at hcs
    obtain ⟨rfl, rfl, rfl⟩ := hcs
    exact ⟨none, 0, [], rfl, fun h => by simp at h, by simp, fun e he => by cases he⟩
  · simp [Value.cells] at hcs
    obtain ⟨rfl, rfl, rfl⟩ := hcs
    rw [c4] at hx
    have each : ∀ i, i < n → ∃ e : Ent, BE e ∧ W.cell? (a.add (i * 4)) = some (.int .u64 (e.1 : Int)) ∧ W.cell? (a.add (i * 4 + 1)) = some (.int .u32 (e.2.1 : Int)) ∧ W.cell? (a.add (i * 4 + 2)) = some (.int .u32 (e.2.2.1 : Int)) ∧ W.cell? (a.add (i * 4 + 3)) = some (.int .i64 e.2.2.2) := fun i hi => by
      obtain ⟨cs', h1, h2⟩ := hx i (by rw [hmm]; simp; omega)
      obtain ⟨_, hlen, hcell⟩ := World.cells?_some h1
      match cs', hlen with
      | [c0, c1, c2, c3], _ =>
        obtain ⟨y0, y1, y2, y3, m', _, _, g0, g1, g2, g3⟩ := trod_struct4 Try.underlying55 h2
        have g0 : DataW.trod enc Try.prog W 0 (fun _ => true) true m' 26 [c0] = some y0 := by simpa [k26] using g0
        have g1 : DataW.trod enc Try.prog W 0 (fun _ => true) true m' 27 [c1] = some y1 := by simpa [k27] using g1
        have g2 : DataW.trod enc Try.prog W 0 (fun _ => true) true m' 27 [c2] = some y2 := by simpa [k27] using g2
        have g3 : DataW.trod enc Try.prog W 0 (fun _ => true) true m' 2 [c3] = some y3 := by simpa [k2] using g3
        obtain ⟨x0, e0, _, w0⟩ := DataW.trod_int Try.underlying26 g0
        obtain ⟨x1, e1, _, w1⟩ := DataW.trod_int Try.underlying27 g1
        obtain ⟨x2, e2, _, w2⟩ := DataW.trod_int Try.underlying27 g2
        obtain ⟨x3, e3, _, w3⟩ := DataW.trod_int Try.underlying2 g3
        simp only [List.cons.injEq, and_true] at e0 e1 e2 e3
        subst e0 e1 e2 e3
        have b0 := bounds_u64 w0
        have b1 := bounds_u32 w1
        have b2 := bounds_u32 w2
        have b3 := bounds_i64 w3
        have q0 := hcell 0 (by omega)
        have q1 := hcell 1 (by omega)
        have q2 := hcell 2 (by omega)
        have q3 := hcell 3 (by omega)
        rw [Deep.add_add] at q0 q1 q2 q3
        refine ⟨(x0.toNat, x1.toNat, x2.toNat, x3), ⟨by show x0.toNat < _; omega, by show x1.toNat < _; omega, by show x2.toNat < _; omega, b3.1, b3.2⟩, ?_, ?_, ?_, ?_⟩
        · simpa [show (x0.toNat : Int) = x0 by omega] using q0
        · simpa [show (x1.toNat : Int) = x1 by omega] using q1
        · simpa [show (x2.toNat : Int) = x2 by omega] using q2
        · simpa using q3
    obtain ⟨f, hf⟩ := Deep.choose_lt each
    refine ⟨some a, c, (List.range n).map f, by simp, fun h0 => ?_, by unfold maxLen at hm; simp; omega, fun e he => ?_⟩
    · simp at h0
      have hc0 := (hf 0 h0).2.1
      obtain ⟨b, off, spot⟩ := a
      have hspot : spot = none := by simpa [Addr.add] using World.cell?_spot hc0
      subst hspot
      refine ⟨b, off, rfl, World.block_lt_of_cell? W ⟨b, off + 0 * 4, none⟩ (by rw [← Go.WideShapes.add_plain]; exact hc0), fun i e he => ?_⟩
      rw [List.getElem?_map] at he
      obtain ⟨i', hi', rfl⟩ := Option.map_eq_some_iff.1 he
      obtain ⟨hin, rfl⟩ := List.getElem?_eq_some_iff.1 hi'
      simp at hin
      simp only [List.getElem_range]
      obtain ⟨_, r0, r1, r2, r3⟩ := hf i hin
      rw [Go.WideShapes.add_plain] at r0 r1 r2 r3
      exact ⟨r0, r1, r2, r3⟩
    · obtain ⟨i, hi, rfl⟩ := List.mem_map.1 he
      exact (hf i (List.mem_range.1 hi)).1
end Go.Proofs.Yticegnbdpihdpaa
