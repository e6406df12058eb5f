/- Session: the document's with. -/
import Derived.Test.YtfgabmjnpjmmgaaTA
namespace Go.Proofs.Ytfgabmjnpjmmgaa.T
open Go.RowKit
set_option maxRecDepth 20000
set_option linter.unusedVariables false
set_option linter.unusedSimpArgs false

theorem info62 : (Try.prog.info? 62).map (fun i => (i.zero, i.size, i.bytes)) = some (some (.agg #[.int .u32 0, .int .u32 0, .int .i64 0]), 3, 16) := by kernel_rfl
theorem ic_one (e : Lk) : ∀ u ∈ ic e, u.oneCell' = true := by
  intro u hu
  simp only [ic, List.mem_cons, List.not_mem_nil, or_false] at hu
  rcases hu with rfl | rfl | rfl <;> rfl
theorem run_append_in (w : World) (ty : TypeId) (base G : Nat) (v : Value) (m : Nat) (xs : List Value) (e : Lk) (hown : w.ownsRow base 62 3 v m xs) (hG : w.heap[G]? = some (.cells (ic e).toArray 62 (0, 0))) (hm : m ≤ 1000) (hbase : base ≤ w.heap.size) :
    ∃ v' w', (Builtin.append_ #[25, 25] ty #[v, .slice (some ⟨G, 0, none⟩) 1 1]).run Try.prog w = .ok v' w' ∧ w'.ownsRow base 62 3 v' (m + 1) (xs ++ ic e) ∧ w.grownBy w' v.ownBlock := by
  obtain ⟨i0, hi, hz0, hz1, hz2⟩ := info_parts info62
  obtain ⟨v', w', hr, h2, h3, _⟩ := run_append_own (P := Try.prog) w base 25 ty 62 i0 _ 3 _ Try.underlying25 hi hz0 hz1 hz2 rfl (by decide) v m xs hown ⟨G, 0, none⟩ 1 1 (ic e) rfl (fun j u hu => by
    have := cell_of_row w G j _ _ _ hG
    rw [List.getElem?_toArray, hu] at this
    rw [← this, Go.WideShapes.add_plain, Nat.zero_add]) (ic_one e) (by unfold maxLen; omega) (by omega) hbase
  exact ⟨v', w', hr, h2, h3⟩
theorem wpList_append_in {w : World} {ops : Array Oper} {rest : List Oper} {op : Oper} {a : Act} {Q : Exit → Act → World → Prop} (hgd : op.guard = none) (s x : Operand)
    (ho : op.op = .call { callee := .builtin .append, args := #[s, x], argTypes := #[25, 25] }) (base G : Nat) (v : Value) (m : Nat) (xs : List Value) (e : Lk) (hs : a.eval s = v) (hx : a.eval x = .slice (some ⟨G, 0, none⟩) 1 1)
    (hown : w.ownsRow base 62 3 v m xs) (hG : w.heap[G]? = some (.cells (ic e).toArray 62 (0, 0))) (hm : m ≤ 1000) (hbase : base ≤ w.heap.size)
    (h : ∀ v' w', w'.ownsRow base 62 3 v' (m + 1) (xs ++ ic e) → w.grownBy w' v.ownBlock → wpList Try.prog ops Q rest (a.put op.dst v') w') : wpList Try.prog ops Q (op :: rest) a w := by
  refine wpList_plain hgd fun K hK => ?_
  obtain ⟨v', w', hr, h2, h3⟩ := run_append_in w op.type base G v m xs e hown hG hm hbase
  unfold Oper.wp execOp
  simp only [ho, resolve, invoke, builtin, Sem.run_bind, Sem.run_pure, Result.andThen_ok, List.map_toArray, List.map_cons, List.map_nil, hs, hx, hr]
  exact hK _ _ (h v' w' h2 h3)
theorem step_append_in {w : World} {ops : Array Oper} {o : Oper} {a : Act} {K : Act → World → Prop} {Q : Exit → Act → World → Prop} {E : Prop} (hgd : o.guard = none) (s x : Operand)
    (ho : o.op = .call { callee := .builtin .append, args := #[s, x], argTypes := #[25, 25] }) (base G : Nat) (v : Value) (m : Nat) (xs : List Value) (e : Lk) (hs : a.eval s = v) (hx : a.eval x = .slice (some ⟨G, 0, none⟩) 1 1)
    (hown : w.ownsRow base 62 3 v m xs) (hG : w.heap[G]? = some (.cells (ic e).toArray 62 (0, 0))) (hm : m ≤ 1000) (hbase : base ≤ w.heap.size)
    (h : ∀ v' w', w'.ownsRow base 62 3 v' (m + 1) (xs ++ ic e) → w.grownBy w' v.ownBlock → K (a.put o.dst v') w') :
    if Region.wanted o (yielded ops a.tmps) = true then Oper.wp Try.prog o a w K Q else E := by
  have hw : Region.wanted o (yielded ops a.tmps) = true := by simp [Region.wanted, hgd]
  rw [if_pos hw]
  obtain ⟨v', w', hr, h2, h3⟩ := run_append_in w o.type base G v m xs e hown hG hm hbase
  unfold Oper.wp execOp
  simp only [ho, resolve, invoke, builtin, Sem.run_bind, Sem.run_pure, Result.andThen_ok, List.map_toArray, List.map_cons, List.map_nil, hs, hx, hr]
  exact h v' w' h2 h3
/-- A table that is being built: its variable in block T, its rows behind it. -/
def WSt (w3 : World) (T : Nat) (most idle : Int) (o : Value) (k : Nat) (rows : List Lk) (wr : World) : Prop :=
  wr.ownsRow (T + 1) 62 3 o k (ir rows) ∧ wr.heap[T]? = some (.cells #[o, .int .i64 most, .int .i64 idle] 27 (0, 0)) ∧ Below T w3 wr
theorem wst_alloc {w3 wr W0 : World} {T : Nat} {most idle : Int} {o : Value} {k : Nat} {rows : List Lk} (h : WSt w3 T most idle o k rows wr) (hb : Below wr.heap.size wr W0) : WSt w3 T most idle o k rows W0 :=
  ⟨own_after h.1 fun g hg => hb.block g (ownlt h.1 g hg).2, (hb.block T (lt_of_block h.2.1)).trans h.2.1, h.2.2.trans (hb.mono (Nat.le_of_lt (lt_of_block h.2.1)))⟩
theorem wst_set {w3 wr : World} {T X i : Nat} {most idle : Int} {o : Value} {k : Nat} {rows : List Lk} {v : Value} (h : WSt w3 T most idle o k rows wr) (hX : some X ≠ o.ownBlock) (hT : T < X) : WSt w3 T most idle o k rows (wr.setCell ⟨X, i, none⟩ v) :=
  ⟨own_after h.1 fun g hg => Below.heap_setCell _ _ _ _ (fun e => hX (by rw [hg, e])), (Below.heap_setCell _ _ _ _ (by show T ≠ X; omega)).trans h.2.1, h.2.2.setCell (by show T ≤ X; omega) _⟩
theorem wst_lt {w3 wr : World} {T : Nat} {most idle : Int} {o : Value} {k : Nat} {rows : List Lk} (h : WSt w3 T most idle o k rows wr) : T + 1 ≤ wr.heap.size := lt_of_block h.2.1
theorem wst_var {w3 W0 W : World} {T : Nat} {most idle : Int} {o : Value} {k : Nat} {rows : List Lk} (h : WSt w3 T most idle o k rows W0) (hg : W0.grownBy W o.ownBlock) : W.heap[T]? = some (.cells #[o, .int .i64 most, .int .i64 idle] 27 (0, 0)) :=
  (hg.block T (lt_of_block h.2.1) (fun e => by have := (ownlt h.1 T e.symm).1; omega)).trans h.2.1
theorem wst_put {w3 W0 W : World} {T : Nat} {most idle : Int} {o v' : Value} {k : Nat} {rows : List Lk} {e : Lk} (h : WSt w3 T most idle o k rows W0) (hg : W0.grownBy W o.ownBlock) (ho : W.ownsRow (T + 1) 62 3 v' (k + 1) (ir rows ++ ic e)) : WSt w3 T most idle v' (k + 1) (rows ++ [e]) (W.setCell ⟨T, 0, none⟩ v') := by
  refine ⟨?_, ?_, ?_⟩
  · rw [ir_snoc]
    exact ownsRow_setCell_below ho (Nat.lt_succ_self T) _
  · rw [heap_setCell_same W T 0 _ 27 _ (wst_var h hg)]
    rfl
  · exact (h.2.2.grown hg (Nat.le_of_lt (lt_of_block h.2.1)) (fun g hgg => by have := (ownlt h.1 g hgg).1; omega)).setCell (Nat.le_refl T) _
theorem three {W : World} {B T : Nat} {a b c : Value} (x y z : Value) (h : W.heap[B]? = some (.cells #[a, b, c] T (0, 0))) :
    (((W.setCell ⟨B, 0, none⟩ x).setCell ⟨B, 1, none⟩ y).setCell ⟨B, 2, none⟩ z).cell? ⟨B, 0, none⟩ = some x ∧ (((W.setCell ⟨B, 0, none⟩ x).setCell ⟨B, 1, none⟩ y).setCell ⟨B, 2, none⟩ z).cell? ⟨B, 1, none⟩ = some y ∧ (((W.setCell ⟨B, 0, none⟩ x).setCell ⟨B, 1, none⟩ y).setCell ⟨B, 2, none⟩ z).cell? ⟨B, 2, none⟩ = some z ∧ (((W.setCell ⟨B, 0, none⟩ x).setCell ⟨B, 1, none⟩ y).setCell ⟨B, 2, none⟩ z).heap[B]? = some (.cells #[x, y, z] T (0, 0)) := by
  have s1 := heap_setCell_same W B 0 _ T x h
  have s2 := heap_setCell_same _ B 1 _ T y s1
  have s3 := heap_setCell_same _ B 2 _ T z s2
  refine ⟨?_, ?_, ?_, s3⟩ <;> · rw [cell_of_row _ B _ _ _ _ s3]; rfl
/-- A block of links. -/
def Ty (w : World) (b : Nat) : Prop := ∃ cs, w.heap[b]? = some (.cells cs 62 (0, 0))
theorem own_type {w : World} {base T m S : Nat} {v : Value} {xs : List Value} (h : w.ownsRow base T S v m xs) {g : Nat} (hg : v.ownBlock = some g) : ∃ cur, w.heap[g]? = some (.cells cur T (0, 0)) := by
  rcases h.2 with ⟨rfl, _⟩ | ⟨g', cap, cur, rfl, _, hh, _⟩
  · simp [Value.ownBlock] at hg
  · simp [Value.ownBlock] at hg
    subst hg
    exact ⟨cur, hh⟩
def RPost (n : Nat) (most idle : Int) (l : List Lk) (w : World) (r : Ending) (w' : World) : Prop := ∃ A c, r = .returned (rV A n c most idle) ∧ Rs w' w'.heap.size A l ∧ Below w.heap.size w w' ∧ ∀ b o, A = some ⟨b, o, none⟩ → w.heap.size ≤ b ∧ Ty w' b
/-- What is left when the variable is handed out: the result's block is written. -/
theorem wst_out {w3 wr w : World} {T Q : Nat} {most idle : Int} {A : Option Addr} {c k : Nat} {rows : List Lk} (h : WSt w3 T most idle (.slice A k c) k rows wr) (hQ : Q < T) (hw : w.heap.size ≤ Q) (hb : Below w.heap.size w wr) :
    Rs (((wr.setCell ⟨Q, 0, none⟩ (.slice A k c)).setCell ⟨Q, 1, none⟩ (.int .i64 most)).setCell ⟨Q, 2, none⟩ (.int .i64 idle)) (((wr.setCell ⟨Q, 0, none⟩ (.slice A k c)).setCell ⟨Q, 1, none⟩ (.int .i64 most)).setCell ⟨Q, 2, none⟩ (.int .i64 idle)).heap.size A rows ∧ Below w.heap.size w (((wr.setCell ⟨Q, 0, none⟩ (.slice A k c)).setCell ⟨Q, 1, none⟩ (.int .i64 most)).setCell ⟨Q, 2, none⟩ (.int .i64 idle)) ∧ ∀ b o, A = some ⟨b, o, none⟩ → T + 1 ≤ b ∧ Ty (((wr.setCell ⟨Q, 0, none⟩ (.slice A k c)).setCell ⟨Q, 1, none⟩ (.int .i64 most)).setCell ⟨Q, 2, none⟩ (.int .i64 idle)) b :=
  ⟨Rs.of_own (ownsRow_setCell_below (ownsRow_setCell_below (ownsRow_setCell_below h.1 (by show Q < _; omega) _) (by show Q < _; omega) _) (by show Q < _; omega) _), ((hb.setCell hw _).setCell hw _).setCell hw _, fun b o e => by
    subst e
    have h1 := (ownlt h.1 b rfl).1
    obtain ⟨cs, h2⟩ := own_type h.1 (g := b) rfl
    have hne : b ≠ Q := by omega
    exact ⟨h1, cs, ((Below.heap_setCell _ _ _ _ hne).trans ((Below.heap_setCell _ _ _ _ hne).trans (Below.heap_setCell _ _ _ _ hne))).trans h2⟩⟩
theorem setS_get {x : Nat} {z : Mk} {L : List Lk} {k : Nat} {e : Lk} (h : L[k]? = some e) : (setS x z L)[k]? = some (if e.1 = x then (x, z) else e) := by unfold setS; rw [List.getElem?_map, h]; rfl

set_option maxHeartbeats 8000000 in
theorem rwith_any (A : Option Addr) (n c x : Nat) (most idle pl last : Int) (l : List Lk) (w : World) (hn : n = l.length) (hR : Rs w w.heap.size A l) (hl : n ≤ 100) :
    Calls Try.prog 34 #[rV A n c most idle, .int .u32 (x : Int), .int .u32 pl, .int .i64 last] w (RPost n most idle (setS x (last, pl) l) w) := by
  obtain ⟨T, hT⟩ : ∃ T, T = w.heap.size + 2 := ⟨_, rfl⟩
  obtain ⟨wa, hwa⟩ : ∃ wa, wa = w.alloc (.cells (rC A n c most idle) 27) := ⟨_, rfl⟩
  have hsa : wa.heap.size = w.heap.size + 1 := by rw [hwa]; simp
  have hba : Below w.heap.size w wa := by rw [hwa]; exact (Below.refl _ _).alloc (Nat.le_refl _) _
  have hqa : wa.heap[w.heap.size]? = some (.cells (rC A n c most idle) 27 (0, 0)) := by rw [hwa]; exact heap_alloc_new w _
  obtain ⟨wb, hwb⟩ : ∃ wb, wb = wa.alloc (.cells #[.slice none 0 0, .int .i64 0, .int .i64 0] 27) := ⟨_, rfl⟩
  have hsb : wb.heap.size = T := by rw [hwb, hT]; simp [hsa]
  have hbb : Below wa.heap.size wa wb := by rw [hwb]; exact (Below.refl _ _).alloc (Nat.le_refl _) _
  have hqb : wb.heap[w.heap.size + 1]? = some (.cells #[.slice none 0 0, .int .i64 0, .int .i64 0] 27 (0, 0)) := by rw [hwb, ← hsa]; exact heap_alloc_new wa _
  obtain ⟨w1, hw1⟩ : ∃ w1, w1 = wb.alloc (.cells #[.slice none 0 0, .int .i64 most, .int .i64 idle] 27) := ⟨_, rfl⟩
  have hb1 : Below wb.heap.size wb w1 := by rw [hw1]; exact (Below.refl _ _).alloc (Nat.le_refl _) _
  have hq1 : w1.heap[T]? = some (.cells #[.slice none 0 0, .int .i64 most, .int .i64 idle] 27 (0, 0)) := by rw [hw1, ← hsb]; exact heap_alloc_new wb _
  have hQA : w1.heap[w.heap.size]? = some (.cells (rC A n c most idle) 27 (0, 0)) := (hb1.block _ (by rw [hsb]; omega)).trans ((hbb.block _ (lt_of_block hqa)).trans hqa)
  have hQB : w1.heap[w.heap.size + 1]? = some (.cells #[.slice none 0 0, .int .i64 0, .int .i64 0] 27 (0, 0)) := (hb1.block _ (lt_of_block hqb)).trans hqb
  have HB1 : Hid (Below w.heap.size w w1) := (hba.trans (hbb.mono hba.size)).trans (hb1.mono (by rw [hsb]; omega))
  have HTT := Lib.hid hT
  have HCC : Hid (∀ W, Below T w1 W → (W.cell? ⟨w.heap.size, 0, none⟩ = some (.slice A n c) ∧ W.cell? ⟨w.heap.size, 1, none⟩ = some (.int .i64 most) ∧ W.cell? ⟨w.heap.size, 2, none⟩ = some (.int .i64 idle)) ∧ W.heap[w.heap.size + 1]? = some (.cells #[.slice none 0 0, .int .i64 0, .int .i64 0] 27 (0, 0))) := fun W hW => by
    have e1 := (hW.block w.heap.size (by omega)).trans hQA
    exact ⟨⟨cell_of_row W _ 0 _ _ _ e1, cell_of_row W _ 1 _ _ _ e1, cell_of_row W _ 2 _ _ _ e1⟩, (hW.block (w.heap.size + 1) (by omega)).trans hQB⟩
  have HR : Hid (Rs w1 w.heap.size A l) := hR.below HB1.out
  have HN := Lib.hid hn
  have H1 : Hid (w1 = ((w.alloc (.cells (rC A n c most idle) 27)).alloc (.cells #[.slice none 0 0, .int .i64 0, .int .i64 0] 27)).alloc (.cells #[.slice none 0 0, .int .i64 most, .int .i64 idle] 27)) := by simp only [Hid]; rw [hw1, hwb, hwa]
  have HS : Hid (∃ A c, WSt w1 T most idle (.slice A 0 c) 0 ((setS x (last, pl) l).take 0) w1) := ⟨none, 0, World.ownsRow_nil w1 _ 62 3, hq1, Below.refl _ _⟩
  clear hwa hsa hba hqa hwb hsb hbb hqb hw1 hb1 hq1 hQA hQB hT hR hn
  go_enter Try.func34, Try.ntmps34
  go_upto_region 2 with (fail)
  rw [← H1.out, ← HTT.out]
  go_wp2_with fail
  go_loopw [10] (fun u wr => ∃ (k : Nat), k ≤ n ∧ u = .int .i64 (k : Int) ∧ Hid (∃ A c, WSt w1 T most idle (.slice A k c) k ((setS x (last, pl) l).take k) wr)) (fun u _ => n - (intOf u).toNat)
  case atStart => exact ⟨0, by omega, rfl, HS.out⟩
  case round =>
    obtain ⟨k, hk, rfl, HV⟩ := hrel
    obtain ⟨A2, c2, hV⟩ := HV.out
    have HV : Hid (WSt w1 T most idle (.slice A2 k c2) k ((setS x (last, pl) l).take k) wr) := hV
    clear hV
    obtain ⟨⟨t0, -, -⟩, -⟩ := HCC.out wr HV.out.2.2
    by_cases hlt : k < n
    · obtain ⟨⟨s, a, p⟩, hy⟩ : ∃ e, l[k]? = some e := ⟨l[k]'(by rw [← HN.out]; exact hlt), List.getElem?_eq_getElem _⟩
      obtain ⟨b1, o1, rfl, hb1, ha1⟩ := HR.out (by have := HN.out; omega)
      obtain ⟨e0, e1, e2⟩ := ha1 k _ hy
      have hlt' : b1 < T := by have := HTT.out; omega
      have d0 := (HV.out.2.2.cell (p := ⟨b1, _, none⟩) hlt').trans e0
      have d1 := (HV.out.2.2.cell (p := ⟨b1, _, none⟩) hlt').trans e1
      have d2 := (HV.out.2.2.cell (p := ⟨b1, _, none⟩) hlt').trans e2
      simp only at d0 d1 d2
      have HSG := Lib.hid (setS_get (x := x) (z := (last, pl)) hy)
      obtain ⟨v1, hv1⟩ : ∃ v1, v1 = wr.alloc (.cells (lC s p a) 62) := ⟨_, rfl⟩
      have hbv : Below wr.heap.size wr v1 := by rw [hv1]; exact (Below.refl _ _).alloc (Nat.le_refl _) _
      have hqv : v1.heap[wr.heap.size]? = some (.cells (lC s p a) 62 (0, 0)) := by rw [hv1]; exact heap_alloc_new wr _
      have HWV := Lib.hid (wst_alloc HV.out hbv)
      have HX : Hid (T < wr.heap.size ∧ ∀ g, (Value.slice A2 k c2).ownBlock = some g → g < wr.heap.size) := ⟨by have := wst_lt HV.out; omega, fun g hg => (ownlt HV.out.1 g hg).2⟩
      have x0 := cell_of_row v1 wr.heap.size 0 _ _ _ hqv
      have x1 := cell_of_row v1 wr.heap.size 1 _ _ _ hqv
      have x2 := cell_of_row v1 wr.heap.size 2 _ _ _ hqv
      simp at x0 x1 x2
      have HQV := Lib.hid hqv
      have HV1 := Lib.hid hv1
      clear e0 e1 e2 ha1 hb1 hlt' hy hbv hqv hv1
      go_upto_region 6 with (fail)
      rw [← HV1.out]
      clear d0 d1 d2 t0
      by_cases hsx : s = x
      · have HTK : Hid ((setS x (last, pl) l).take (k + 1) = (setS x (last, pl) l).take k ++ [(x, (last, pl))]) := by
          simp only [Hid]
          rw [List.take_add_one, HSG.out, if_pos hsx]
          rfl
        subst hsx
        have xf : ∀ i, v1.frozen? ⟨wr.heap.size, i, none⟩ = false := fun i => frozen_of_row v1 _ i _ _ HQV.out
        obtain ⟨v2, hv2⟩ : ∃ v2, v2 = (((v1.setCell ⟨wr.heap.size, 0, none⟩ (.int .u32 (s : Int))).setCell ⟨wr.heap.size, 1, none⟩ (.int .u32 pl)).setCell ⟨wr.heap.size, 2, none⟩ (.int .i64 last)) := ⟨_, rfl⟩
        have hne : some wr.heap.size ≠ (Value.slice A2 k c2).ownBlock := fun e => absurd (HX.out.2 _ e.symm) (Nat.lt_irrefl _)
        have HW1 : Hid (WSt w1 T most idle (.slice A2 k c2) k ((setS s (last, pl) l).take k) v2) := by rw [hv2]; exact wst_set (wst_set (wst_set HWV.out hne HX.out.1) hne HX.out.1) hne HX.out.1
        have hq2 : v2.heap[wr.heap.size]? = some (.cells (lC s pl last) 62 (0, 0)) := by rw [hv2]; exact (three _ _ _ HQV.out).2.2.2
        have y0 := cell_of_row v2 wr.heap.size 0 _ _ _ hq2
        have y1 := cell_of_row v2 wr.heap.size 1 _ _ _ hq2
        have y2 := cell_of_row v2 wr.heap.size 2 _ _ _ hq2
        simp at y0 y1 y2
        have HV2 := Lib.hid hv2
        clear hv2 hne hq2
        go_upto_region 8 with (fail)
        rw [← HV2.out]
        clear x0 x1 x2 xf
        obtain ⟨w2, hw2⟩ : ∃ w2, w2 = v2.alloc (.cells (lC s pl last) 62) := ⟨_, rfl⟩
        have hg2 : w2.heap[v2.heap.size]? = some (.cells (ic (s, (last, pl))).toArray 62 (0, 0)) := by rw [hw2]; exact heap_alloc_new v2 _
        have hb2 : Below v2.heap.size v2 w2 := by rw [hw2]; exact (Below.refl _ _).alloc (Nat.le_refl _) _
        have HW2 := Lib.hid (wst_alloc HW1.out hb2)
        have H2 := Lib.hid hw2
        have c0 := cell_of_row v2 T 0 _ _ _ HW1.out.2.1
        simp at c0
        have ht2 : Hid (∀ W : World, W = w2 → W.ownsRow (T + 1) 62 3 (.slice A2 k c2) k (ir ((setS s (last, pl) l).take k)) ∧ W.heap[v2.heap.size]? = some (.cells (ic (s, (last, pl))).toArray 62 (0, 0)) ∧ T + 1 ≤ W.heap.size) := fun W e => by rw [e]; exact ⟨HW2.out.1, hg2, wst_lt HW2.out⟩
        clear hw2 hg2 hb2
        go_wp2_with (at_builtin; refine wpList_append_in rfl (.tmp 38) (.tmp 40) rfl (T + 1) v2.heap.size (.slice A2 k c2) k (ir ((setS s (last, pl) l).take k)) (s, (last, pl)) rfl rfl (ht2.out _ H2.out.symm).1 (ht2.out _ H2.out.symm).2.1 (by omega) (ht2.out _ H2.out.symm).2.2 ?_; intro v4 w4 hown4 hg4; rw [← H2.out] at hg4; obtain ⟨A4, c4, rfl⟩ := own_form1 hown4; have HO4 := Lib.hid hown4; have HG4 := Lib.hid hg4; have c4' := cell_of_row w4 T 0 _ _ _ (wst_var HW2.out hg4); have f4 := frozen_of_row w4 T 0 _ _ (wst_var HW2.out hg4); simp at c4'; clear hown4 hg4)
        go_roundw
        case rel => exact ⟨k + 1, by omega, by go_num, A4, c4, by rw [HTK.out]; exact wst_put HW2.out HG4.out HO4.out⟩
        case measure => simp [intOf] <;> omega
      · have HTK : Hid ((setS x (last, pl) l).take (k + 1) = (setS x (last, pl) l).take k ++ [(s, (a, p))]) := by
          simp only [Hid]
          rw [List.take_add_one, HSG.out, if_neg hsx]
          rfl
        have ht : ¬ (s : Int) = (x : Int) := by omega
        obtain ⟨w2, hw2⟩ : ∃ w2, w2 = v1.alloc (.cells (lC s p a) 62) := ⟨_, rfl⟩
        have hg2 : w2.heap[v1.heap.size]? = some (.cells (ic (s, (a, p))).toArray 62 (0, 0)) := by rw [hw2]; exact heap_alloc_new v1 _
        have hb2 : Below v1.heap.size v1 w2 := by rw [hw2]; exact (Below.refl _ _).alloc (Nat.le_refl _) _
        have HW2 := Lib.hid (wst_alloc HWV.out hb2)
        have H2 := Lib.hid hw2
        have c0 := cell_of_row v1 T 0 _ _ _ HWV.out.2.1
        simp at c0
        have ht2 : Hid (∀ W : World, W = w2 → W.ownsRow (T + 1) 62 3 (.slice A2 k c2) k (ir ((setS x (last, pl) l).take k)) ∧ W.heap[v1.heap.size]? = some (.cells (ic (s, (a, p))).toArray 62 (0, 0)) ∧ T + 1 ≤ W.heap.size) := fun W e => by rw [e]; exact ⟨HW2.out.1, hg2, wst_lt HW2.out⟩
        clear hw2 hg2 hb2
        go_wp2_with (at_builtin; refine wpList_append_in rfl (.tmp 38) (.tmp 40) rfl (T + 1) v1.heap.size (.slice A2 k c2) k (ir ((setS x (last, pl) l).take k)) (s, (a, p)) rfl rfl (ht2.out _ H2.out.symm).1 (ht2.out _ H2.out.symm).2.1 (by omega) (ht2.out _ H2.out.symm).2.2 ?_; intro v4 w4 hown4 hg4; rw [← H2.out] at hg4; obtain ⟨A4, c4, rfl⟩ := own_form1 hown4; have HO4 := Lib.hid hown4; have HG4 := Lib.hid hg4; have c4' := cell_of_row w4 T 0 _ _ _ (wst_var HW2.out hg4); have f4 := frozen_of_row w4 T 0 _ _ (wst_var HW2.out hg4); simp at c4'; clear hown4 hg4)
        go_roundw
        case rel => exact ⟨k + 1, by omega, by go_num, A4, c4, by rw [HTK.out]; exact wst_put HW2.out HG4.out HO4.out⟩
        case measure => simp [intOf] <;> omega
    · obtain rfl : k = n := by omega
      have HLL : Hid ((setS x (last, pl) l).take k = setS x (last, pl) l) := List.take_of_length_le (by unfold setS; rw [List.length_map, ← HN.out]; exact Nat.le_refl _)
      rw [HLL.out] at HV
      have c0 := cell_of_row wr T 0 _ _ _ HV.out.2.1
      have c1 := cell_of_row wr T 1 _ _ _ HV.out.2.1
      have c2' := cell_of_row wr T 2 _ _ _ HV.out.2.1
      simp at c0 c1 c2'
      have hq4 := (HCC.out wr HV.out.2.2).2
      have z0 := cell_of_row wr (w.heap.size + 1) 0 _ _ _ hq4
      have z1 := cell_of_row wr (w.heap.size + 1) 1 _ _ _ hq4
      have z2 := cell_of_row wr (w.heap.size + 1) 2 _ _ _ hq4
      simp at z0 z1 z2
      have zf : ∀ i, wr.frozen? ⟨w.heap.size + 1, i, none⟩ = false := fun i => frozen_of_row wr _ i _ _ hq4
      have HT := Lib.hid (three (.slice A2 k c2) (.int .i64 most) (.int .i64 idle) hq4)
      have HRES := Lib.hid (wst_out (w := w) (Q := w.heap.size + 1) HV.out (by have := HTT.out; omega) (by omega) (HB1.out.trans (HV.out.2.2.mono (by have := HTT.out; omega))))
      clear hq4
      go_wp2
      obtain ⟨e0, e1, e2, _⟩ := HT.out
      exact bodyPost_ret (v := rV A2 k c2 most idle) (by simp [results, Try.results34, go_sem, e0, e1, e2]) rfl ⟨A2, c2, rfl, HRES.out.1, HRES.out.2.1, fun b o e => by have h1 := HRES.out.2.2 b o e; exact ⟨by have := h1.1; have := HTT.out; omega, h1.2⟩⟩
end Go.Proofs.Ytfgabmjnpjmmgaa.T
