/- Pool: the document's New; With where the instance is another one. -/
import Derived.Test.YtddjbkaofodmlaaPF
namespace Go.Proofs.Ytddjbkaofodmlaa
open Go.RowKit
set_option maxRecDepth 20000
set_option linter.unusedVariables false
set_option linter.unusedSimpArgs false

theorem info61 : (Try.prog.info? 61).map (fun i => (i.zero, i.size, i.bytes)) = some (some (.agg #[.int .i64 0, .int .u32 0, .int .i64 0]), 3, 24) := by kernel_rfl
theorem ic_one (e : In) : ∀ u ∈ ic e, u.oneCell' = true := by
  intro u hu
  simp only [ic, List.mem_cons, List.not_mem_nil, or_false] at hu
  rcases hu with rfl | rfl | rfl <;> rfl
theorem run_append_in (w : World) (ty : TypeId) (base G : Nat) (v : Value) (m : Nat) (xs : List Value) (e : In) (hown : w.ownsRow base 61 3 v m xs) (hG : w.heap[G]? = some (.cells (ic e).toArray 61 (0, 0))) (hm : m ≤ 1000) (hbase : base ≤ w.heap.size) :
    ∃ v' w', (Builtin.append_ #[25, 25] ty #[v, .slice (some ⟨G, 0, none⟩) 1 1]).run Try.prog w = .ok v' w' ∧ w'.ownsRow base 61 3 v' (m + 1) (xs ++ ic e) ∧ w.grownBy w' v.ownBlock := by
  obtain ⟨i0, hi, hz0, hz1, hz2⟩ := info_parts info61
  obtain ⟨v', w', hr, h2, h3, _⟩ := run_append_own (P := Try.prog) w base 25 ty 61 i0 _ 3 _ Try.underlying25 hi hz0 hz1 hz2 rfl (by decide) v m xs hown ⟨G, 0, none⟩ 1 1 (ic e) rfl (fun j u hu => by
    have := cell_of_row w G j _ _ _ hG
    rw [List.getElem?_toArray, hu] at this
    rw [← this, Go.WideShapes.add_plain, Nat.zero_add]) (ic_one e) (by unfold maxLen; omega) (by omega) hbase
  exact ⟨v', w', hr, h2, h3⟩
theorem wpList_append_in {w : World} {ops : Array Oper} {rest : List Oper} {op : Oper} {a : Act} {Q : Exit → Act → World → Prop} (hgd : op.guard = none) (s x : Operand)
    (ho : op.op = .call { callee := .builtin .append, args := #[s, x], argTypes := #[25, 25] }) (base G : Nat) (v : Value) (m : Nat) (xs : List Value) (e : In) (hs : a.eval s = v) (hx : a.eval x = .slice (some ⟨G, 0, none⟩) 1 1)
    (hown : w.ownsRow base 61 3 v m xs) (hG : w.heap[G]? = some (.cells (ic e).toArray 61 (0, 0))) (hm : m ≤ 1000) (hbase : base ≤ w.heap.size)
    (h : ∀ v' w', w'.ownsRow base 61 3 v' (m + 1) (xs ++ ic e) → w.grownBy w' v.ownBlock → wpList Try.prog ops Q rest (a.put op.dst v') w') : wpList Try.prog ops Q (op :: rest) a w := by
  refine wpList_plain hgd fun K hK => ?_
  obtain ⟨v', w', hr, h2, h3⟩ := run_append_in w op.type base G v m xs e hown hG hm hbase
  unfold Oper.wp execOp
  simp only [ho, resolve, invoke, builtin, Sem.run_bind, Sem.run_pure, Result.andThen_ok, List.map_toArray, List.map_cons, List.map_nil, hs, hx, hr]
  exact hK _ _ (h v' w' h2 h3)
theorem step_append_in {w : World} {ops : Array Oper} {o : Oper} {a : Act} {K : Act → World → Prop} {Q : Exit → Act → World → Prop} {E : Prop} (hgd : o.guard = none) (s x : Operand)
    (ho : o.op = .call { callee := .builtin .append, args := #[s, x], argTypes := #[25, 25] }) (base G : Nat) (v : Value) (m : Nat) (xs : List Value) (e : In) (hs : a.eval s = v) (hx : a.eval x = .slice (some ⟨G, 0, none⟩) 1 1)
    (hown : w.ownsRow base 61 3 v m xs) (hG : w.heap[G]? = some (.cells (ic e).toArray 61 (0, 0))) (hm : m ≤ 1000) (hbase : base ≤ w.heap.size)
    (h : ∀ v' w', w'.ownsRow base 61 3 v' (m + 1) (xs ++ ic e) → w.grownBy w' v.ownBlock → K (a.put o.dst v') w') :
    if Region.wanted o (yielded ops a.tmps) = true then Oper.wp Try.prog o a w K Q else E := by
  have hw : Region.wanted o (yielded ops a.tmps) = true := by simp [Region.wanted, hgd]
  rw [if_pos hw]
  obtain ⟨v', w', hr, h2, h3⟩ := run_append_in w o.type base G v m xs e hown hG hm hbase
  unfold Oper.wp execOp
  simp only [ho, resolve, invoke, builtin, Sem.run_bind, Sem.run_pure, Result.andThen_ok, List.map_toArray, List.map_cons, List.map_nil, hs, hx, hr]
  exact h v' w' h2 h3
/-- A pool that is being built: its variable in block T, its rows behind it. -/
def WSt (w3 : World) (T : Nat) (beat : Int) (o : Value) (k : Nat) (rows : List In) (wr : World) : Prop :=
  wr.ownsRow (T + 1) 61 3 o k (ir rows) ∧ wr.heap[T]? = some (.cells #[o, .int .i64 beat] 27 (0, 0)) ∧ Below T w3 wr
theorem wst_alloc {w3 wr W0 : World} {T : Nat} {beat : Int} {o : Value} {k : Nat} {rows : List In} (h : WSt w3 T beat o k rows wr) (hb : Below wr.heap.size wr W0) : WSt w3 T beat o k rows W0 :=
  ⟨own_after h.1 fun g hg => hb.block g (ownlt h.1 g hg).2, (hb.block T (lt_of_block h.2.1)).trans h.2.1, h.2.2.trans (hb.mono (Nat.le_of_lt (lt_of_block h.2.1)))⟩
theorem wst_lt {w3 wr : World} {T : Nat} {beat : Int} {o : Value} {k : Nat} {rows : List In} (h : WSt w3 T beat o k rows wr) : T + 1 ≤ wr.heap.size := lt_of_block h.2.1
/-- What the append leaves: the variable's block as it was. -/
theorem wst_var {w3 W0 W : World} {T : Nat} {beat : Int} {o : Value} {k : Nat} {rows : List In} (h : WSt w3 T beat o k rows W0) (hg : W0.grownBy W o.ownBlock) : W.heap[T]? = some (.cells #[o, .int .i64 beat] 27 (0, 0)) :=
  (hg.block T (lt_of_block h.2.1) (fun e => by have := (ownlt h.1 T e.symm).1; omega)).trans h.2.1
theorem wst_put {w3 W0 W : World} {T : Nat} {beat : Int} {o v' : Value} {k : Nat} {rows : List In} {e : In} (h : WSt w3 T beat o k rows W0) (hg : W0.grownBy W o.ownBlock) (ho : W.ownsRow (T + 1) 61 3 v' (k + 1) (ir rows ++ ic e)) : WSt w3 T beat v' (k + 1) (rows ++ [e]) (W.setCell ⟨T, 0, none⟩ v') := by
  refine ⟨?_, ?_, ?_⟩
  · rw [ir_snoc]
    exact ownsRow_setCell_below ho (Nat.lt_succ_self T) _
  · rw [heap_setCell_same W T 0 _ 27 _ (wst_var h hg)]
    rfl
  · exact (h.2.2.grown hg (Nat.le_of_lt (lt_of_block h.2.1)) (fun g hgg => by have := (ownlt h.1 g hgg).1; omega)).setCell (Nat.le_refl T) _
theorem two {W : World} {B T : Nat} {a b : Value} (x y : Value) (h : W.heap[B]? = some (.cells #[a, b] T (0, 0))) :
    ((W.setCell ⟨B, 0, none⟩ x).setCell ⟨B, 1, none⟩ y).cell? ⟨B, 0, none⟩ = some x ∧ ((W.setCell ⟨B, 0, none⟩ x).setCell ⟨B, 1, none⟩ y).cell? ⟨B, 1, none⟩ = some y := by
  have s1 := heap_setCell_same W B 0 _ T x h
  have s2 := heap_setCell_same _ B 1 _ T y s1
  refine ⟨?_, ?_⟩ <;> · rw [cell_of_row _ B _ _ _ _ s2]; rfl
def RPost (n : Nat) (beat : Int) (l : List In) (w : World) (r : Ending) (w' : World) : Prop := ∃ A c, r = .returned (rV A n c beat) ∧ Rs w' w'.heap.size A l ∧ Below w.heap.size w w' ∧ ∀ b o, A = some ⟨b, o, none⟩ → w.heap.size ≤ b
theorem own_formI {w : World} {base m : Nat} {v : Value} {xs : List Value} (h : w.ownsRow base 61 3 v m xs) : ∃ A c, v = .slice A m c := own_form1 h

set_option maxHeartbeats 4000000 in
theorem rnew_any (many beat : Int) (n : Nat) (w : World) (hn : (n : Int) = min (max many 0) 16) (hm64 : many ≤ 9223372036854775807) :
    Calls Try.prog 8 #[.int .i64 many, .int .i64 beat] w (RPost n beat (List.replicate n (0, 0, 0)) w) := by
  obtain ⟨T, hT⟩ : ∃ T, T = w.heap.size + 1 := ⟨_, rfl⟩
  obtain ⟨w0, hw0⟩ : ∃ w0, w0 = w.alloc (.cells #[.slice none 0 0, .int .i64 0] 27) := ⟨_, rfl⟩
  have hb0 : Below w.heap.size w w0 := by rw [hw0]; exact (Below.refl _ _).alloc (Nat.le_refl _) _
  have hq0 : w0.heap[w.heap.size]? = some (.cells #[.slice none 0 0, .int .i64 0] 27 (0, 0)) := by rw [hw0]; exact heap_alloc_new w _
  have hs0 : w0.heap.size = T := by rw [hw0, hT]; simp
  obtain ⟨w1, hw1⟩ : ∃ w1, w1 = w0.alloc (.cells #[.slice none 0 0, .int .i64 beat] 27) := ⟨_, rfl⟩
  have hb1 : Below w0.heap.size w0 w1 := by rw [hw1]; exact (Below.refl _ _).alloc (Nat.le_refl _) _
  have hq1 : w1.heap[T]? = some (.cells #[.slice none 0 0, .int .i64 beat] 27 (0, 0)) := by rw [hw1, ← hs0]; exact heap_alloc_new w0 _
  have hq01 := (hb1.block _ (lt_of_block hq0)).trans hq0
  have HB1 := Lib.hid (hb0.trans (hb1.mono hb0.size))
  have HQ01 := Lib.hid hq01
  have H1 : Hid (w1 = (w.alloc (.cells #[.slice none 0 0, .int .i64 0] 27)).alloc (.cells #[.slice none 0 0, .int .i64 beat] 27)) := by simp only [Hid]; rw [hw1, hw0]
  have HS : Hid (∃ A c, WSt w1 T beat (.slice A 0 c) 0 (List.replicate 0 (0, 0, 0)) w1) := ⟨none, 0, World.ownsRow_nil w1 _ 61 3, hq1, Below.refl _ _⟩
  have HTT := Lib.hid hT
  have HNN := Lib.hid hn
  have hn16 : n ≤ 16 := by omega
  clear hn hw0 hb0 hq0 hs0 hw1 hb1 hq1 hq01 hT
  go_enter Try.func8, Try.ntmps8
  go_upto_region 2 with (fail)
  rw [← H1.out, ← HTT.out]
  go_wp2_with fail
  go_loopw [6] (fun u wr => ∃ (k : Nat), k ≤ n ∧ u = .int .i64 (k : Int) ∧ Hid (∃ A c, WSt w1 T beat (.slice A k c) k (List.replicate k (0, 0, 0)) wr)) (fun u _ => n - (intOf u).toNat)
  case atStart => exact ⟨0, by omega, rfl, HS.out⟩
  case round =>
    obtain ⟨k, hk, rfl, HV⟩ := hrel
    obtain ⟨A, c, hV⟩ := HV.out
    by_cases hlt : k < n
    · have h16 : (k : Int) < 16 := by omega
      have hmn : (k : Int) < many := by have := HNN.out; omega
      obtain ⟨w2, hw2⟩ : ∃ w2, w2 = wr.alloc (.cells (iC 0 0 0) 61) := ⟨_, rfl⟩
      have hg2 : w2.heap[wr.heap.size]? = some (.cells (ic (0, 0, 0)).toArray 61 (0, 0)) := by rw [hw2]; exact heap_alloc_new wr _
      have hb2 : Below wr.heap.size wr w2 := by rw [hw2]; exact (Below.refl _ _).alloc (Nat.le_refl _) _
      have HW2 := Lib.hid (wst_alloc hV hb2)
      have H2 := Lib.hid hw2
      have c0 := cell_of_row wr T 0 _ _ _ hV.2.1
      simp at c0
      have ht : Hid (∀ W : World, W = w2 → W.ownsRow (T + 1) 61 3 (.slice A k c) k (ir (List.replicate k (0, 0, 0))) ∧ W.heap[wr.heap.size]? = some (.cells (ic (0, 0, 0)).toArray 61 (0, 0)) ∧ T + 1 ≤ W.heap.size) := fun W e => by rw [e]; exact ⟨HW2.out.1, hg2, wst_lt HW2.out⟩
      clear hV hw2 hg2 hb2
      go_wp2_with (at_builtin; refine wpList_append_in rfl (.tmp 19) (.tmp 21) rfl (T + 1) wr.heap.size (.slice A k c) k (ir (List.replicate k (0, 0, 0))) (0, 0, 0) rfl rfl (ht.out _ H2.out.symm).1 (ht.out _ H2.out.symm).2.1 (by omega) (ht.out _ H2.out.symm).2.2 ?_; intro v4 w4 hown4 hg4; rw [← H2.out] at hg4; obtain ⟨A4, c4, rfl⟩ := own_formI hown4; have HO4 := Lib.hid hown4; have HG4 := Lib.hid hg4; have c4' := cell_of_row w4 T 0 _ _ _ (wst_var HW2.out hg4); have f4 := frozen_of_row w4 T 0 _ _ (wst_var HW2.out hg4); simp at c4'; clear hown4 hg4)
      go_roundw
      case rel => exact ⟨k + 1, by omega, by go_num, A4, c4, by rw [List.replicate_succ']; exact wst_put HW2.out HG4.out HO4.out⟩
      case measure => simp [intOf] <;> omega
    · have hkn : k = n := by omega
      subst hkn
      have c0 := cell_of_row wr T 0 _ _ _ hV.2.1
      have c1 := cell_of_row wr T 1 _ _ _ hV.2.1
      simp at c0 c1
      have hq4 : wr.heap[w.heap.size]? = some (.cells #[.slice none 0 0, .int .i64 0] 27 (0, 0)) := (hV.2.2.block _ (by have := HTT.out; omega)).trans HQ01.out
      have z0 := cell_of_row wr w.heap.size 0 _ _ _ hq4
      have z1 := cell_of_row wr w.heap.size 1 _ _ _ hq4
      simp at z0 z1
      have zf : ∀ i, wr.frozen? ⟨w.heap.size, i, none⟩ = false := fun i => frozen_of_row wr _ i _ _ hq4
      have HT := Lib.hid (two (.slice A k c) (.int .i64 beat) hq4)
      have HRES : Hid (Rs ((wr.setCell ⟨w.heap.size, 0, none⟩ (.slice A k c)).setCell ⟨w.heap.size, 1, none⟩ (.int .i64 beat)) ((wr.setCell ⟨w.heap.size, 0, none⟩ (.slice A k c)).setCell ⟨w.heap.size, 1, none⟩ (.int .i64 beat)).heap.size A (List.replicate k (0, 0, 0)) ∧ Below w.heap.size w ((wr.setCell ⟨w.heap.size, 0, none⟩ (.slice A k c)).setCell ⟨w.heap.size, 1, none⟩ (.int .i64 beat))) := by
        have hT := HTT.out
        exact ⟨Rs.of_own (ownsRow_setCell_below (ownsRow_setCell_below hV.1 (by show w.heap.size < _; omega) _) (by show w.heap.size < _; omega) _), ((HB1.out.trans (hV.2.2.mono (by omega))).setCell (Nat.le_refl _) _).setCell (Nat.le_refl _) _⟩
      have HGE : Hid (∀ b o, A = some ⟨b, o, none⟩ → w.heap.size ≤ b) := fun b o e => by subst e; have := (ownlt hV.1 b rfl).1; have := HTT.out; omega
      clear hV hq4
      have hor : ¬ (k : Int) < many ∨ k = 16 := by have := HNN.out; omega
      rcases hor with hor | rfl
      · go_wp2
        obtain ⟨e0, e1⟩ := HT.out
        exact bodyPost_ret (v := rV A k c beat) (by simp [results, Try.results8, go_sem, e0, e1]) rfl ⟨A, c, rfl, HRES.out.1, HRES.out.2, HGE.out⟩
      · go_wp2
        all_goals
          obtain ⟨e0, e1⟩ := HT.out
          exact bodyPost_ret (v := rV A 16 c beat) (by simp [results, Try.results8, go_sem, e0, e1]) rfl ⟨A, c, rfl, HRES.out.1, HRES.out.2, HGE.out⟩
end Go.Proofs.Ytddjbkaofodmlaa
