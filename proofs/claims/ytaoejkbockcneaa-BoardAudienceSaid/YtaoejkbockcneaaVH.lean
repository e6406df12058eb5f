/- Session: the document's rack: Put. -/
import Derived.Test.YtaoejkbockcneaaVG
namespace Go.Proofs.Ytaoejkbockcneaa.V
open Go.RowKit
set_option maxRecDepth 20000
set_option linter.unusedVariables false
set_option linter.unusedSimpArgs false

/-- What Put answers and leaves. -/
def PutR (most : Int) (ps : Ps) (x : Nat) (z c : Int) (qs : Ps) : Prop :=
  (c = 0 ∧ ∃ p : Nat, (ps.map (·.1))[p]? = some x ∧ qs = ps.set p (x, z)) ∨
  (c = 14 ∧ x ∉ ps.map (·.1) ∧ ¬ okN x ∧ qs = ps) ∨
  (c = 10 ∧ x ∉ ps.map (·.1) ∧ okN x ∧ most ≤ (ps.length : Int) ∧ qs = ps) ∨
  (c = 0 ∧ x ∉ ps.map (·.1) ∧ okN x ∧ (ps.length : Int) < most ∧ ∃ p : Nat, Pl (ps.map (·.1)) x p ∧ qs = ps.take p ++ [(x, z)] ++ ps.drop p)
theorem up_one {ps : Ps} (hu : Up (ps.map (·.1))) {i j : Nat} {x : Nat} {u v : Int} (hi : ps[i]? = some (x, u)) (hj : ps[j]? = some (x, v)) : i = j := by
  have h1 : (ps.map (·.1))[i]? = some x := by rw [List.getElem?_map, hi]; rfl
  have h2 : (ps.map (·.1))[j]? = some x := by rw [List.getElem?_map, hj]; rfl
  rcases Nat.lt_trichotomy i j with h | h | h
  · have := hu i j x x h h1 h2; omega
  · exact h
  · have := hu j i x x h h2 h1; omega
theorem up_val {ps : Ps} (hu : Up (ps.map (·.1))) {x : Nat} {u v : Int} (h1 : (x, u) ∈ ps) (h2 : (x, v) ∈ ps) : u = v := by
  obtain ⟨i, hi⟩ := List.getElem?_of_mem h1
  obtain ⟨j, hj⟩ := List.getElem?_of_mem h2
  have := up_one hu hi hj
  subst this
  rw [hi] at hj
  injection hj with hj
  injection hj
theorem mem_fst {ps : Ps} {x : Nat} (h : x ∉ ps.map (·.1)) : ∀ e ∈ ps, e.1 ≠ x := fun e he hx => h (List.mem_map.2 ⟨e, he, hx⟩)
theorem drop_same {ps : Ps} {x : Nat} (h : x ∉ ps.map (·.1)) : dropR x ps = ps := by
  unfold dropR
  rw [List.filter_eq_self]
  intro e he
  have := mem_fst h e he
  simpa using this
theorem drop_at {ps : Ps} (hu : Up (ps.map (·.1))) {p x : Nat} {v : Int} (hp : ps[p]? = some (x, v)) : dropR x ps = ps.take p ++ ps.drop (p + 1) := by
  obtain ⟨hlt, he⟩ := List.getElem?_eq_some_iff.1 hp
  have h0 : ps = ps.take p ++ (x, v) :: ps.drop (p + 1) := by rw [← he]; simp
  have hne : ∀ j, j ≠ p → ∀ e : Nat × Int, ps[j]? = some e → e.1 ≠ x := fun j hj e hje hx => hj (by
    obtain ⟨y, u⟩ := e
    simp only at hx
    subst hx
    exact up_one hu hje hp)
  have h1 : dropR x (ps.take p) = ps.take p := by
    refine drop_same fun hm => ?_
    obtain ⟨e, hem, hex⟩ := List.mem_map.1 hm
    obtain ⟨j, hj⟩ := List.getElem?_of_mem hem
    rw [List.getElem?_take] at hj
    split at hj
    · exact hne j (by omega) e hj hex
    · simp at hj
  have h2 : dropR x (ps.drop (p + 1)) = ps.drop (p + 1) := by
    refine drop_same fun hm => ?_
    obtain ⟨e, hem, hex⟩ := List.mem_map.1 hm
    obtain ⟨j, hj⟩ := List.getElem?_of_mem hem
    rw [List.getElem?_drop] at hj
    exact hne _ (by omega) e hj hex
  have h3 : dropR x ps = dropR x (ps.take p) ++ dropR x ((x, v) :: ps.drop (p + 1)) := by
    conv => lhs; rw [h0]
    unfold dropR
    rw [List.filter_append]
  rw [h3, h1]
  have h4 : dropR x ((x, v) :: ps.drop (p + 1)) = ps.drop (p + 1) := by
    conv => rhs; rw [← h2]
    simp [dropR]
  rw [h4]
theorem drop_perm {ps rows : Ps} (h : rows.Perm ps) (x : Nat) : (dropR x rows).Perm (dropR x ps) := h.filter _
theorem put_perm {ps rows : Ps} (hu : Up (ps.map (·.1))) (h : rows.Perm ps) {p x : Nat} (z : Int) (hp : (ps.map (·.1))[p]? = some x) : (dropR x rows ++ [(x, z)]).Perm (ps.set p (x, z)) := by
  rw [List.getElem?_map] at hp
  obtain ⟨⟨y, v⟩, hpe, hy⟩ := Option.map_eq_some_iff.1 hp
  simp only at hy
  subst hy
  have hlt := (List.getElem?_eq_some_iff.1 hpe).1
  refine ((drop_perm h y).append_right _).trans ?_
  rw [drop_at hu hpe, List.set_eq_take_append_cons_drop, if_pos hlt, List.append_assoc]
  exact List.Perm.append_left _ (List.perm_append_comm)
theorem ins_perm {ps rows : Ps} (h : rows.Perm ps) {p x : Nat} (z : Int) (hx : x ∉ ps.map (·.1)) : (dropR x rows ++ [(x, z)]).Perm (ps.take p ++ [(x, z)] ++ ps.drop p) := by
  rw [drop_same (fun hm => hx ((perm_fst h x).1 hm))]
  refine (h.append_right _).trans ?_
  conv => lhs; rw [← List.take_append_drop p ps]
  rw [List.append_assoc, List.append_assoc]
  exact List.Perm.append_left _ (List.perm_append_comm)

set_option maxHeartbeats 1000000 in
theorem rright_any (x : Nat) (w : World) : Calls Try.prog 54 #[.int .u32 (x : Int)] w fun r w' => r = .returned (.bool (decide (1 ≤ x ∧ x ≤ 2147483647))) ∧ w' = w := by
  by_cases h0 : x = 0
  · subst h0
    go_enter Try.func54, Try.ntmps54
    go_wp2
    go_ret
    exact ⟨rfl, rfl⟩
  · have h1 : ¬ (x : Int) = 0 := by omega
    by_cases h2 : x ≤ 2147483647
    · have e : decide (1 ≤ x ∧ x ≤ 2147483647) = true := by rw [decide_eq_true_iff]; omega
      have h3 : (x : Int) ≤ 2147483647 := by omega
      rw [e]
      go_enter Try.func54, Try.ntmps54
      go_wp2
      go_ret
      refine ⟨?_, rfl⟩
      first | rfl | (simp; omega)
    · have e : decide (1 ≤ x ∧ x ≤ 2147483647) = false := by rw [decide_eq_false_iff_not]; omega
      have h3 : ¬ (x : Int) ≤ 2147483647 := by omega
      rw [e]
      go_enter Try.func54, Try.ntmps54
      go_wp2
      go_ret
      refine ⟨?_, rfl⟩
      first | rfl | (simp; omega)

/-- What is true behind the store of a result. -/
structure Fin (w : World) (T : Nat) (B : Option Addr) (m c2 : Nat) (most : Int) (base : Nat) (l : List (Nat × Int)) (W : World) : Prop where
  own : W.ownsRow base 137 2 (.slice B m c2) m (rr l)
  below : Below w.heap.size w W
  c0 : W.cell? ⟨T, 0, none⟩ = some (.slice B m c2)
  c1 : W.cell? ⟨T, 1, none⟩ = some (.int .i64 most)
theorem own2_type {w : World} {base T m : Nat} {v : Value} {xs : List Value} (h : w.ownsRow base T 2 v m xs) {g : Nat} (hg : v.ownBlock = some g) : ∃ cur, w.heap[g]? = some (.cells cur T (0, 0)) := by
  rcases h.2 with ⟨rfl, _⟩ | ⟨k, cap, cur, rfl, _, hk, _⟩
  · simp [Value.ownBlock] at hg
  · injection hg with hg
    subst hg
    exact ⟨cur, hk⟩
theorem fin_of {w W : World} {T : Nat} {B : Option Addr} {m c2 b2 : Nat} {most : Int} {l2 : List (Nat × Int)} (hT : w.heap.size ≤ T) (h1 : Below w.heap.size w W) (h2 : W.heap[T]? = some (.cells #[.slice none 0 0, .int .i64 0] 86 (0, 0))) (h3 : W.ownsRow b2 137 2 (.slice B m c2) m (rr l2)) : Fin w T B m c2 most b2 l2 ((W.setCell ⟨T, 0, none⟩ (.slice B m c2)).setCell ⟨T, 1, none⟩ (.int .i64 most)) := by
  have hr1 := heap_setCell_same W T 0 _ 86 (.slice B m c2) h2
  have hr2 := heap_setCell_same (W.setCell ⟨T, 0, none⟩ (.slice B m c2)) T 1 _ 86 (.int .i64 most) hr1
  have e0 := cell_of_row _ T 0 _ _ _ hr2
  have e1 := cell_of_row _ T 1 _ _ _ hr2
  simp at e0 e1
  refine ⟨own2_after h3 fun g hg => ?_, (h1.setCell hT _).setCell hT _, e0, e1⟩
  have hg3 : g ≠ T := fun e => by
    obtain ⟨cur, hc⟩ := own2_type h3 hg
    rw [e, h2] at hc
    injection hc with hc
    injection hc with _ hc
    exact absurd hc (by decide)
  exact (Below.heap_setCell _ _ _ _ hg3).trans (Below.heap_setCell _ _ _ _ hg3)

theorem wpList_append_row {w : World} {ops : Array Oper} {rest : List Oper} {op : Oper} {a : Act} {Q : Exit → Act → World → Prop} (hgd : op.guard = none) (s x : Operand)
    (ho : op.op = .call { callee := .builtin .append, args := #[s, x], argTypes := #[84, 84] }) (base G : Nat) (v : Value) (m : Nat) (l : List (Nat × Int)) (e : Nat × Int) (hs : a.eval s = v) (hx : a.eval x = .slice (some ⟨G, 0, none⟩) 1 1)
    (hown : w.ownsRow base 137 2 v m (rr l)) (hG : w.heap[G]? = some (.cells #[.int .u32 (e.1 : Int), .int .i64 e.2] 137 (0, 0))) (hm : m ≤ 1000) (hbase : base ≤ w.heap.size)
    (h : ∀ v' w', w'.ownsRow base 137 2 v' (m + 1) (rr (l ++ [e])) → w.grownBy w' v.ownBlock → wpList Try.prog ops Q rest (a.put op.dst v') w') : wpList Try.prog ops Q (op :: rest) a w := by
  refine wpList_plain hgd fun K hK => ?_
  obtain ⟨v', w', hr, h2, h3⟩ := run_row (w := w) base G op.type v m l e hown hG hm hbase
  unfold Oper.wp execOp
  simp only [ho, resolve, invoke, builtin, Sem.run_bind, Sem.run_pure, Result.andThen_ok, List.map_toArray, List.map_cons, List.map_nil, hs, hx, hr]
  exact hK _ _ (h v' w' h2 h3)

theorem after_put {w w5 w6 : World} {b2 Q T m c2 c6 : Nat} {most : Int} {B B6 : Option Addr} {xs ys : List Value} {zr : Array Value} (ho : w5.ownsRow b2 137 2 (.slice B m c2) m xs) (hq : w5.heap[Q]? = some (.cells #[.slice B m c2, .int .i64 most] 86 (0, 0))) (hz : w5.heap[T]? = some (.cells zr 86 (0, 0)))
    (hTQ : T < Q) (hw : Below w.heap.size w w5) (_hT : w.heap.size ≤ T) (hQ : w.heap.size ≤ Q) (hb2 : w.heap.size ≤ b2) (ho6 : w6.ownsRow b2 137 2 (.slice B6 (m + 1) c6) (m + 1) ys) (hg : w5.grownBy w6 (Value.ownBlock (.slice B m c2))) :
    (w6.cell? ⟨Q, 0, none⟩ = some (.slice B m c2) ∧ (∀ i, w6.frozen? ⟨Q, i, none⟩ = false) ∧ w6.cell? ⟨Q, 1, none⟩ = some (.int .i64 most) ∧ (w6.setCell ⟨Q, 0, none⟩ (.slice B6 (m + 1) c6)).cell? ⟨Q, 0, none⟩ = some (.slice B6 (m + 1) c6) ∧ (w6.setCell ⟨Q, 0, none⟩ (.slice B6 (m + 1) c6)).cell? ⟨Q, 1, none⟩ = some (.int .i64 most) ∧
      w6.cell? ⟨T, 0, none⟩ = zr[0]? ∧ w6.cell? ⟨T, 1, none⟩ = zr[1]? ∧ (w6.setCell ⟨Q, 0, none⟩ (.slice B6 (m + 1) c6)).cell? ⟨T, 0, none⟩ = zr[0]? ∧ (w6.setCell ⟨Q, 0, none⟩ (.slice B6 (m + 1) c6)).cell? ⟨T, 1, none⟩ = zr[1]? ∧ (∀ i, w6.frozen? ⟨T, i, none⟩ = false) ∧ ∀ i, (w6.setCell ⟨Q, 0, none⟩ (.slice B6 (m + 1) c6)).frozen? ⟨T, i, none⟩ = false) ∧
    Below w.heap.size w (w6.setCell ⟨Q, 0, none⟩ (.slice B6 (m + 1) c6)) ∧ (w6.setCell ⟨Q, 0, none⟩ (.slice B6 (m + 1) c6)).heap[T]? = some (.cells zr 86 (0, 0)) ∧ (w6.setCell ⟨Q, 0, none⟩ (.slice B6 (m + 1) c6)).ownsRow b2 137 2 (.slice B6 (m + 1) c6) (m + 1) ys := by
  have apart : ∀ (W : World) (v : Value) (n : Nat) (zs : List Value) (g k : Nat) (cc : Array Value), W.ownsRow b2 137 2 v n zs → W.heap[k]? = some (.cells cc 86 (0, 0)) → v.ownBlock = some g → g ≠ k := fun W v n zs g k cc h1 h2 h3 e => by
    obtain ⟨cur, hc⟩ := own2_type h1 h3
    rw [e, h2] at hc
    injection hc with hc
    injection hc with _ hc
    exact absurd hc (by decide)
  have hq6 := (hg.block Q (lt_of_block hq) (fun e => apart _ _ _ _ Q Q _ ho hq e.symm rfl)).trans hq
  have hz6 := (hg.block T (lt_of_block hz) (fun e => apart _ _ _ _ T T _ ho hz e.symm rfl)).trans hz
  have hq7 := heap_setCell_same w6 Q 0 _ 86 (.slice B6 (m + 1) c6) hq6
  have hz7 : (w6.setCell ⟨Q, 0, none⟩ (.slice B6 (m + 1) c6)).heap[T]? = some (.cells zr 86 (0, 0)) := (Below.heap_setCell _ _ _ _ (by show T ≠ Q; omega)).trans hz6
  refine ⟨⟨cell_of_row w6 Q 0 _ _ _ hq6, fun i => frozen_of_row w6 _ i _ _ hq6, cell_of_row w6 Q 1 _ _ _ hq6, by simpa using cell_of_row _ Q 0 _ _ _ hq7, by simpa using cell_of_row _ Q 1 _ _ _ hq7, cell_of_row w6 T 0 _ _ _ hz6, cell_of_row w6 T 1 _ _ _ hz6, cell_of_row _ T 0 _ _ _ hz7, cell_of_row _ T 1 _ _ _ hz7, fun i => frozen_of_row w6 _ i _ _ hz6, fun i => frozen_of_row _ _ i _ _ hz7⟩, ?_, hz7, own2_after ho6 fun g h => Below.heap_setCell _ _ _ _ (apart _ _ _ _ g Q _ ho6 hq6 h)⟩
  exact (hw.grown hg hw.size (fun g h => Nat.le_trans hb2 (own2_lt ho g h).1)).setCell hQ _

set_option linter.unusedSimpArgs false in
set_option maxHeartbeats 8000000 in
theorem rput_any (base : Nat) (A : Option Addr) (n c : Nat) (most : Int) (x : Nat) (z cd : Int) (l ps qs : Ps) (w : World) (hn : n = l.length) (hown : w.ownsRow base 137 2 (.slice A n c) n (rr l)) (hbase : base ≤ w.heap.size) (hl : n ≤ 900) (hpe : l.Perm ps) (hu : Up (ps.map (·.1))) (hok : ∀ y ∈ ps.map (·.1), okN y) (hP : PutR most ps x z cd qs) :
    Calls Try.prog 42 #[rV A n c most, .int .u32 (x : Int), .int .i64 z] w fun r w' => ∃ B m c' l', r = .returned (.tuple #[rV B m c' most, .int .i64 cd]) ∧ m = l'.length ∧ l'.Perm qs ∧ w'.ownsRow base 137 2 (.slice B m c') m (rr l') ∧ Below w.heap.size w w' := by
  unfold rV
  obtain ⟨T, hT⟩ : ∃ T, T = w.heap.size + 1 := ⟨_, rfl⟩
  obtain ⟨w0, hw0⟩ : ∃ w0, w0 = (w.alloc (.cells #[.slice A n c, .int .i64 most] 86)).alloc (.cells #[.slice none 0 0, .int .i64 0] 86) := ⟨_, rfl⟩
  have hs0 : w0.heap.size = T + 1 := by rw [hw0, hT]; simp
  have hb0 : Below w.heap.size w w0 := by rw [hw0]; exact ((Below.refl _ _).alloc (Nat.le_refl _) _).alloc (by simp) _
  have hp0 : w0.heap[w.heap.size]? = some (.cells #[.slice A n c, .int .i64 most] 86 (0, 0)) := by
    rw [hw0]
    exact (Below.heap_alloc _ _ _ (by simp)).trans (heap_alloc_new w _)
  have hz0 : w0.heap[T]? = some (.cells #[.slice none 0 0, .int .i64 0] 86 (0, 0)) := by
    have h := heap_alloc_new (w.alloc (.cells #[.slice A n c, .int .i64 most] 86)) (.cells #[.slice none 0 0, .int .i64 0] 86)
    rw [World.size_alloc] at h
    rw [hw0, hT]
    exact h
  have HT : Hid (T = w.heap.size + 1 ∧ w0.heap.size = T + 1) := ⟨hT, hs0⟩
  have H0 := Lib.hid hw0
  have HB0 := Lib.hid hb0
  have HP0 := Lib.hid hp0
  have HZ0 := Lib.hid hz0
  have HN := Lib.hid hn
  have HOW := Lib.hid hown
  have HOW0 : Hid (w0.ownsRow base 137 2 (.slice A n c) n (rr l)) := own2_after hown fun g hg => hb0.block g (own2_lt hown g hg).2
  have HR : Hid (Rs w0 w0.heap.size A l) := Rs.of_own HOW0.out
  have HFIN : Hid (∀ (W : World) (B : Option Addr) (m c2 b2 : Nat) (l2 : List (Nat × Int)), Below w.heap.size w W → W.heap[T]? = some (.cells #[.slice none 0 0, .int .i64 0] 86 (0, 0)) → W.ownsRow b2 137 2 (.slice B m c2) m (rr l2) → Fin w T B m c2 most b2 l2 ((W.setCell ⟨T, 0, none⟩ (.slice B m c2)).setCell ⟨T, 1, none⟩ (.int .i64 most))) := fun W B m c2 b2 l2 h1 h2 h3 => fin_of (by omega) h1 h2 h3
  clear hw0 hb0 hp0 hz0 hn hT hs0 hown
  have HPE := Lib.hid hpe
  have HU := Lib.hid hu
  have HLEN : Hid (n = ps.length) := by simp only [Hid]; rw [HN.out]; exact hpe.length_eq
  have HMF : Hid (∀ y, y ∈ l.map (·.1) ↔ y ∈ ps.map (·.1)) := fun y => perm_fst hpe y
  have HBS := Lib.hid hbase
  have HF0 := Lib.hid (find_any A n c most x l w0 HN.out HR.out (by omega))
  clear hpe hu hbase
  rcases hP with ⟨rfl, p, hp, hq⟩ | ⟨rfl, hx, hno, hq⟩ | ⟨rfl, hx, hxo, hfu, hq⟩ | ⟨rfl, hx, hxo, hro, p, hp, hq⟩
  · have HP := Lib.hid hp
    have HQS := Lib.hid hq
    have HXO : Hid (1 ≤ x ∧ x ≤ 2147483647) := hok x (List.mem_of_getElem? hp)
    have HXM : Hid (x ∈ l.map (·.1)) := (HMF.out x).2 (List.mem_of_getElem? hp)
    clear hp hq hok
    have hrd : decide (1 ≤ x ∧ x ≤ 2147483647) = true := by
      first | (rw [decide_eq_true_iff]; exact HXO.out) | (rw [decide_eq_false_iff_not]; exact HXO.out)
    have HRT := Lib.hid (rright_any x w0)
    rw [hrd] at HRT
    clear hrd
    go_enter Try.func42, Try.ntmps42
    go_upto_region 1 with (fail)
    rw [← H0.out, ← HT.out.1]
    go_wp2_with fail
    refine HRT.out.mono ?_
    rintro r w1 ⟨rfl, rfl⟩
    have b0 := cell_of_row w1 w.heap.size 0 _ _ _ HP0.out
    have b1 := cell_of_row w1 w.heap.size 1 _ _ _ HP0.out
    simp at b0 b1
    go_wp2_with fail
    refine HF0.out.mono ?_
    rintro r w2 ⟨⟨i, (⟨p', v', rfl, hp'⟩ | ⟨rfl, hno⟩), rfl⟩, hb2⟩
    · have HB2 := Lib.hid hb2
      have HOW2 : Hid (w2.ownsRow base 137 2 (.slice A n c) n (rr l)) := own2_after HOW0.out fun g hg => hb2.block g (own2_lt HOW0.out g hg).2
      have hpz : ¬ ((p' : Int) < 0) := by omega
      clear hp' hb2
      have HRD : Hid (Calls Try.prog 61 #[.agg #[.slice A n c, .int .i64 most], .int .u32 (x : Int)] w2 fun r w' => ∃ B m c', r = .returned (.agg #[.slice B m c', .int .i64 most]) ∧ w'.ownsRow w2.heap.size 137 2 (.slice B m c') m (rr (dropR x l)) ∧ Below w2.heap.size w2 w') := rdrop_any A n c most x l w2 HN.out (Rs.of_own HOW2.out) hl
      have hpW := (HB2.out.block _ (lt_of_block HP0.out)).trans HP0.out
      have hzW := (HB2.out.block _ (lt_of_block HZ0.out)).trans HZ0.out
      have p0 := cell_of_row w2 w.heap.size 0 _ _ _ hpW
      have p1 := cell_of_row w2 w.heap.size 1 _ _ _ hpW
      have z0 := cell_of_row w2 T 0 _ _ _ hzW
      have z1 := cell_of_row w2 T 1 _ _ _ hzW
      have fz : ∀ i, w2.frozen? ⟨T, i, none⟩ = false := fun i => frozen_of_row w2 _ i _ _ hzW
      simp at p0 p1 z0 z1
      have HZ2 := Lib.hid hzW
      clear hzW hpW
      go_wp2_with fail
      refine HRD.out.mono ?_
      rintro r w3 ⟨B, m, c2, rfl, hown3, hb3⟩
      have HOW3 := Lib.hid hown3
      have HB3 := Lib.hid hb3
      have HML : Hid (m ≤ 900) := by
        have h1 := hown3.1
        rw [rr_len] at h1
        have h2 := drop_le x l
        have := HN.out
        simp only [Hid]
        omega
      have HMQ : Hid (m = (dropR x l).length) := by have h1 := hown3.1; rw [rr_len] at h1; simp only [Hid]; omega
      have HS2 : Hid (w1.heap.size ≤ w2.heap.size) := HB2.out.size
      obtain ⟨w4, hw4⟩ : ∃ w4, w4 = (w3.alloc (.cells #[.slice B m c2, .int .i64 most] 86)) := ⟨_, rfl⟩
      have hq4 : w4.heap[w3.heap.size]? = some (.cells #[.slice B m c2, .int .i64 most] 86 (0, 0)) := by rw [hw4]; exact heap_alloc_new w3 _
      have hb4 : Below w3.heap.size w3 w4 := by rw [hw4]; exact (Below.refl _ _).alloc (Nat.le_refl _) _
      obtain ⟨w5, hw5⟩ : ∃ w5, w5 = w4.alloc (.cells #[.int .u32 (x : Int), .int .i64 z] 137) := ⟨_, rfl⟩
      have hb5 : Below w4.heap.size w4 w5 := by rw [hw5]; exact (Below.refl _ _).alloc (Nat.le_refl _) _
      have hg5 : w5.heap[w4.heap.size]? = some (.cells #[.int .u32 (x : Int), .int .i64 z] 137 (0, 0)) := by rw [hw5]; exact heap_alloc_new w4 _
      have hs4 : w4.heap.size = w3.heap.size + 1 := by rw [hw4]; simp
      have hs5 : w5.heap.size = w3.heap.size + 2 := by rw [hw5]; simp [hs4]
      have hb35 : Below w3.heap.size w3 w5 := hb4.trans (hb5.mono (by omega))
      have HG5 := Lib.hid hg5
      have HS45 := Lib.hid (And.intro hs4 hs5)
      have HO5 : Hid (w5.ownsRow w2.heap.size 137 2 (.slice B m c2) m (rr (dropR x l))) := own2_after hown3 fun g hg => hb35.block g (own2_lt hown3 g hg).2
      have HQ5 : Hid (w5.heap[w3.heap.size]? = some (.cells #[.slice B m c2, .int .i64 most] 86 (0, 0))) := (hb5.block _ (by omega)).trans hq4
      have q4 := cell_of_row w4 w3.heap.size 0 _ _ _ hq4
      simp at q4
      have HZ5 : Hid (w5.heap[T]? = some (.cells #[.slice none 0 0, .int .i64 0] 86 (0, 0))) := (hb35.block T (Nat.lt_of_lt_of_le (lt_of_block HZ2.out) hb3.size)).trans ((hb3.block T (lt_of_block HZ2.out)).trans HZ2.out)
      have HW5 : Hid (Below w.heap.size w w5) := (HB0.out.trans (HB2.out.mono HB0.out.size)).trans ((hb3.mono (Nat.le_trans HB0.out.size HB2.out.size)).trans (hb35.mono (Nat.le_trans (Nat.le_trans HB0.out.size HB2.out.size) hb3.size)))
      have HS35 : Hid (w2.heap.size ≤ w3.heap.size) := hb3.size
      have H4 := Lib.hid hw4
      have H5 := Lib.hid hw5
      clear hown3 hb3 hw4 hw5 hq4 hb4 hb5 hg5 hs4 hs5 hb35 p0 p1 z0 z1 fz
      go_upto_region 6 with (fail)
      rw [← H4.out]
      have ha5 : w4.alloc (.cells #[.int .u32 (x : Int), .int .i64 z] 137) = w5 := H5.out.symm
      have ht : ∀ W : World, W = w5 → W.ownsRow w2.heap.size 137 2 (.slice B m c2) m (rr (dropR x l)) ∧ W.heap[w4.heap.size]? = some (.cells #[.int .u32 (x : Int), .int .i64 z] 137 (0, 0)) ∧ w2.heap.size ≤ W.heap.size := fun W e => by rw [e]; exact ⟨HO5.out, HG5.out, by have := HS45.out; have := HS35.out; omega⟩
      have HTT := Lib.hid ht
      clear ht ha5
      go_wp2_with (at_builtin; refine wpList_append_row rfl (.tmp 30) (.tmp 34) rfl w2.heap.size w4.heap.size (.slice B m c2) m (dropR x l) (x, z) rfl rfl (HTT.out _ H5.out.symm).1 (HTT.out _ H5.out.symm).2.1 (by have := HML.out; omega) (HTT.out _ H5.out.symm).2.2 ?_; intro v6 w6 hown6 hg6; rw [← H5.out] at hg6; obtain ⟨B6, c6, rfl⟩ := own_form2 hown6; have HAP := Lib.hid (after_put HO5.out HQ5.out HZ5.out (by have := HT.out.2; have := HS2.out; have := HS35.out; omega) HW5.out (by have := HT.out; omega) (by have := HT.out; have := HS2.out; have := HS35.out; omega) (by have := HT.out; have := HS2.out; omega) hown6 hg6); obtain ⟨g1, g2, g3, g4, g5, g6, g7, g8, g9, ga, gb⟩ := HAP.out.1)
      have HF := Lib.hid (HFIN.out _ B6 (m + 1) c6 w2.heap.size (dropR x l ++ [(x, z)]) HAP.out.2.1 HAP.out.2.2.1 HAP.out.2.2.2)
      have e0 := HF.out.c0
      have e1 := HF.out.c1
      clear g1 g2 g3 g4 g5 g6 g7 g8 g9 ga gb q4
      exact bodyPost_ret (v := .tuple #[rV B6 (m + 1) c6 most, .int .i64 0]) (by simp [results, Try.results42, go_sem, rV, e0, e1]) rfl ⟨B6, m + 1, c6, _, rfl, by rw [List.length_append, HMQ.out]; rfl, by rw [HQS.out]; exact put_perm HU.out HPE.out z HP.out, own2_base HF.out.own (Nat.le_trans HBS.out (Nat.le_trans HB0.out.size HS2.out)), HF.out.below⟩
    · exact absurd HXM.out (fun hm => by
        obtain ⟨e, he, hex⟩ := List.mem_map.1 hm
        exact hno e he hex)
  · have HQS := Lib.hid hq
    have HX := Lib.hid hx
    have HXO : Hid (¬ (1 ≤ x ∧ x ≤ 2147483647)) := hno
    clear hx hq hok hno
    have hrd : decide (1 ≤ x ∧ x ≤ 2147483647) = false := by
      first | (rw [decide_eq_true_iff]; exact HXO.out) | (rw [decide_eq_false_iff_not]; exact HXO.out)
    have HRT := Lib.hid (rright_any x w0)
    rw [hrd] at HRT
    clear hrd
    go_enter Try.func42, Try.ntmps42
    go_upto_region 1 with (fail)
    rw [← H0.out, ← HT.out.1]
    go_wp2_with fail
    refine HRT.out.mono ?_
    rintro r w1 ⟨rfl, rfl⟩
    have b0 := cell_of_row w1 w.heap.size 0 _ _ _ HP0.out
    have b1 := cell_of_row w1 w.heap.size 1 _ _ _ HP0.out
    simp at b0 b1
    have hpW := ((Below.refl w1.heap.size w1).block _ (lt_of_block HP0.out)).trans HP0.out
    have hzW := ((Below.refl w1.heap.size w1).block _ (lt_of_block HZ0.out)).trans HZ0.out
    have p0 := cell_of_row w1 w.heap.size 0 _ _ _ hpW
    have p1 := cell_of_row w1 w.heap.size 1 _ _ _ hpW
    have z0 := cell_of_row w1 T 0 _ _ _ hzW
    have z1 := cell_of_row w1 T 1 _ _ _ hzW
    have fz : ∀ i, w1.frozen? ⟨T, i, none⟩ = false := fun i => frozen_of_row w1 _ i _ _ hzW
    simp at p0 p1 z0 z1
    have HZ1 := Lib.hid hzW
    clear hzW hpW
    have HF := Lib.hid (HFIN.out w1 A n c _ _ (HB0.out) HZ1.out (HOW0.out))
    have e0 := HF.out.c0
    have e1 := HF.out.c1
    go_wp2
    exact bodyPost_ret (v := .tuple #[rV A n c most, .int .i64 14]) (by simp [results, Try.results42, go_sem, rV, e0, e1]) rfl ⟨A, n, c, l, rfl, HN.out, by rw [HQS.out]; exact HPE.out, HF.out.own, HF.out.below⟩
  · have HQS := Lib.hid hq
    have HX := Lib.hid hx
    have HXO : Hid ((1 ≤ x ∧ x ≤ 2147483647)) := hxo
    have hfn : most ≤ (n : Int) := by have := HLEN.out; omega
    clear hx hq hok hxo hfu
    have hrd : decide (1 ≤ x ∧ x ≤ 2147483647) = true := by
      first | (rw [decide_eq_true_iff]; exact HXO.out) | (rw [decide_eq_false_iff_not]; exact HXO.out)
    have HRT := Lib.hid (rright_any x w0)
    rw [hrd] at HRT
    clear hrd
    go_enter Try.func42, Try.ntmps42
    go_upto_region 1 with (fail)
    rw [← H0.out, ← HT.out.1]
    go_wp2_with fail
    refine HRT.out.mono ?_
    rintro r w1 ⟨rfl, rfl⟩
    have b0 := cell_of_row w1 w.heap.size 0 _ _ _ HP0.out
    have b1 := cell_of_row w1 w.heap.size 1 _ _ _ HP0.out
    simp at b0 b1
    go_wp2_with fail
    refine HF0.out.mono ?_
    rintro r w2 ⟨⟨i, (⟨p', v', rfl, hp'⟩ | ⟨rfl, hno⟩), rfl⟩, hb2⟩
    · exact absurd ((HMF.out x).1 (List.mem_map.2 ⟨_, List.mem_of_getElem? hp', rfl⟩)) HX.out
    · have HB2 := Lib.hid hb2
      have HOW2 : Hid (w2.ownsRow base 137 2 (.slice A n c) n (rr l)) := own2_after HOW0.out fun g hg => hb2.block g (own2_lt HOW0.out g hg).2
      clear hb2 hno
      have hpW := (HB2.out.block _ (lt_of_block HP0.out)).trans HP0.out
      have hzW := (HB2.out.block _ (lt_of_block HZ0.out)).trans HZ0.out
      have p0 := cell_of_row w2 w.heap.size 0 _ _ _ hpW
      have p1 := cell_of_row w2 w.heap.size 1 _ _ _ hpW
      have z0 := cell_of_row w2 T 0 _ _ _ hzW
      have z1 := cell_of_row w2 T 1 _ _ _ hzW
      have fz : ∀ i, w2.frozen? ⟨T, i, none⟩ = false := fun i => frozen_of_row w2 _ i _ _ hzW
      simp at p0 p1 z0 z1
      have HZ2 := Lib.hid hzW
      clear hzW hpW
      have HF := Lib.hid (HFIN.out w2 A n c _ _ (HB0.out.trans (HB2.out.mono HB0.out.size)) HZ2.out (HOW2.out))
      have e0 := HF.out.c0
      have e1 := HF.out.c1
      go_wp2
      exact bodyPost_ret (v := .tuple #[rV A n c most, .int .i64 10]) (by simp [results, Try.results42, go_sem, rV, e0, e1]) rfl ⟨A, n, c, l, rfl, HN.out, by rw [HQS.out]; exact HPE.out, HF.out.own, HF.out.below⟩
  · have HP := Lib.hid hp
    have HQS := Lib.hid hq
    have HX := Lib.hid hx
    have HXO : Hid (1 ≤ x ∧ x ≤ 2147483647) := hxo
    have hfn : ¬ most ≤ (n : Int) := by have := HLEN.out; omega
    clear hp hq hok hx hxo hro
    have hrd : decide (1 ≤ x ∧ x ≤ 2147483647) = true := by
      first | (rw [decide_eq_true_iff]; exact HXO.out) | (rw [decide_eq_false_iff_not]; exact HXO.out)
    have HRT := Lib.hid (rright_any x w0)
    rw [hrd] at HRT
    clear hrd
    go_enter Try.func42, Try.ntmps42
    go_upto_region 1 with (fail)
    rw [← H0.out, ← HT.out.1]
    go_wp2_with fail
    refine HRT.out.mono ?_
    rintro r w1 ⟨rfl, rfl⟩
    have b0 := cell_of_row w1 w.heap.size 0 _ _ _ HP0.out
    have b1 := cell_of_row w1 w.heap.size 1 _ _ _ HP0.out
    simp at b0 b1
    go_wp2_with fail
    refine HF0.out.mono ?_
    rintro r w2 ⟨⟨i, (⟨p', v', rfl, hp'⟩ | ⟨rfl, hno⟩), rfl⟩, hb2⟩
    · exact absurd ((HMF.out x).1 (List.mem_map.2 ⟨_, List.mem_of_getElem? hp', rfl⟩)) HX.out
    · have HB2 := Lib.hid hb2
      have HOW2 : Hid (w2.ownsRow base 137 2 (.slice A n c) n (rr l)) := own2_after HOW0.out fun g hg => hb2.block g (own2_lt HOW0.out g hg).2
      clear hno hb2
      have HRD : Hid (Calls Try.prog 61 #[.agg #[.slice A n c, .int .i64 most], .int .u32 (x : Int)] w2 fun r w' => ∃ B m c', r = .returned (.agg #[.slice B m c', .int .i64 most]) ∧ w'.ownsRow w2.heap.size 137 2 (.slice B m c') m (rr (dropR x l)) ∧ Below w2.heap.size w2 w') := rdrop_any A n c most x l w2 HN.out (Rs.of_own HOW2.out) hl
      have hpW := (HB2.out.block _ (lt_of_block HP0.out)).trans HP0.out
      have hzW := (HB2.out.block _ (lt_of_block HZ0.out)).trans HZ0.out
      have p0 := cell_of_row w2 w.heap.size 0 _ _ _ hpW
      have p1 := cell_of_row w2 w.heap.size 1 _ _ _ hpW
      have z0 := cell_of_row w2 T 0 _ _ _ hzW
      have z1 := cell_of_row w2 T 1 _ _ _ hzW
      have fz : ∀ i, w2.frozen? ⟨T, i, none⟩ = false := fun i => frozen_of_row w2 _ i _ _ hzW
      simp at p0 p1 z0 z1
      have HZ2 := Lib.hid hzW
      clear hzW hpW
      go_wp2_with fail
      refine HRD.out.mono ?_
      rintro r w3 ⟨B, m, c2, rfl, hown3, hb3⟩
      have HOW3 := Lib.hid hown3
      have HB3 := Lib.hid hb3
      have HML : Hid (m ≤ 900) := by
        have h1 := hown3.1
        rw [rr_len] at h1
        have h2 := drop_le x l
        have := HN.out
        simp only [Hid]
        omega
      have HMQ : Hid (m = (dropR x l).length) := by have h1 := hown3.1; rw [rr_len] at h1; simp only [Hid]; omega
      have HS2 : Hid (w1.heap.size ≤ w2.heap.size) := HB2.out.size
      obtain ⟨w4, hw4⟩ : ∃ w4, w4 = (w3.alloc (.cells #[.slice B m c2, .int .i64 most] 86)) := ⟨_, rfl⟩
      have hq4 : w4.heap[w3.heap.size]? = some (.cells #[.slice B m c2, .int .i64 most] 86 (0, 0)) := by rw [hw4]; exact heap_alloc_new w3 _
      have hb4 : Below w3.heap.size w3 w4 := by rw [hw4]; exact (Below.refl _ _).alloc (Nat.le_refl _) _
      obtain ⟨w5, hw5⟩ : ∃ w5, w5 = w4.alloc (.cells #[.int .u32 (x : Int), .int .i64 z] 137) := ⟨_, rfl⟩
      have hb5 : Below w4.heap.size w4 w5 := by rw [hw5]; exact (Below.refl _ _).alloc (Nat.le_refl _) _
      have hg5 : w5.heap[w4.heap.size]? = some (.cells #[.int .u32 (x : Int), .int .i64 z] 137 (0, 0)) := by rw [hw5]; exact heap_alloc_new w4 _
      have hs4 : w4.heap.size = w3.heap.size + 1 := by rw [hw4]; simp
      have hs5 : w5.heap.size = w3.heap.size + 2 := by rw [hw5]; simp [hs4]
      have hb35 : Below w3.heap.size w3 w5 := hb4.trans (hb5.mono (by omega))
      have HG5 := Lib.hid hg5
      have HS45 := Lib.hid (And.intro hs4 hs5)
      have HO5 : Hid (w5.ownsRow w2.heap.size 137 2 (.slice B m c2) m (rr (dropR x l))) := own2_after hown3 fun g hg => hb35.block g (own2_lt hown3 g hg).2
      have HQ5 : Hid (w5.heap[w3.heap.size]? = some (.cells #[.slice B m c2, .int .i64 most] 86 (0, 0))) := (hb5.block _ (by omega)).trans hq4
      have q4 := cell_of_row w4 w3.heap.size 0 _ _ _ hq4
      simp at q4
      have HZ5 : Hid (w5.heap[T]? = some (.cells #[.slice none 0 0, .int .i64 0] 86 (0, 0))) := (hb35.block T (Nat.lt_of_lt_of_le (lt_of_block HZ2.out) hb3.size)).trans ((hb3.block T (lt_of_block HZ2.out)).trans HZ2.out)
      have HW5 : Hid (Below w.heap.size w w5) := (HB0.out.trans (HB2.out.mono HB0.out.size)).trans ((hb3.mono (Nat.le_trans HB0.out.size HB2.out.size)).trans (hb35.mono (Nat.le_trans (Nat.le_trans HB0.out.size HB2.out.size) hb3.size)))
      have HS35 : Hid (w2.heap.size ≤ w3.heap.size) := hb3.size
      have H4 := Lib.hid hw4
      have H5 := Lib.hid hw5
      clear hown3 hb3 hw4 hw5 hq4 hb4 hb5 hg5 hs4 hs5 hb35 p0 p1 z0 z1 fz
      go_upto_region 6 with (fail)
      rw [← H4.out]
      have ha5 : w4.alloc (.cells #[.int .u32 (x : Int), .int .i64 z] 137) = w5 := H5.out.symm
      have ht : ∀ W : World, W = w5 → W.ownsRow w2.heap.size 137 2 (.slice B m c2) m (rr (dropR x l)) ∧ W.heap[w4.heap.size]? = some (.cells #[.int .u32 (x : Int), .int .i64 z] 137 (0, 0)) ∧ w2.heap.size ≤ W.heap.size := fun W e => by rw [e]; exact ⟨HO5.out, HG5.out, by have := HS45.out; have := HS35.out; omega⟩
      have HTT := Lib.hid ht
      clear ht ha5
      go_wp2_with (at_builtin; refine wpList_append_row rfl (.tmp 30) (.tmp 34) rfl w2.heap.size w4.heap.size (.slice B m c2) m (dropR x l) (x, z) rfl rfl (HTT.out _ H5.out.symm).1 (HTT.out _ H5.out.symm).2.1 (by have := HML.out; omega) (HTT.out _ H5.out.symm).2.2 ?_; intro v6 w6 hown6 hg6; rw [← H5.out] at hg6; obtain ⟨B6, c6, rfl⟩ := own_form2 hown6; have HAP := Lib.hid (after_put HO5.out HQ5.out HZ5.out (by have := HT.out.2; have := HS2.out; have := HS35.out; omega) HW5.out (by have := HT.out; omega) (by have := HT.out; have := HS2.out; have := HS35.out; omega) (by have := HT.out; have := HS2.out; omega) hown6 hg6); obtain ⟨g1, g2, g3, g4, g5, g6, g7, g8, g9, ga, gb⟩ := HAP.out.1)
      have HF := Lib.hid (HFIN.out _ B6 (m + 1) c6 w2.heap.size (dropR x l ++ [(x, z)]) HAP.out.2.1 HAP.out.2.2.1 HAP.out.2.2.2)
      have e0 := HF.out.c0
      have e1 := HF.out.c1
      clear g1 g2 g3 g4 g5 g6 g7 g8 g9 ga gb q4
      exact bodyPost_ret (v := .tuple #[rV B6 (m + 1) c6 most, .int .i64 0]) (by simp [results, Try.results42, go_sem, rV, e0, e1]) rfl ⟨B6, m + 1, c6, _, rfl, by rw [List.length_append, HMQ.out]; rfl, by rw [HQS.out]; exact ins_perm HPE.out z HX.out, own2_base HF.out.own (Nat.le_trans HBS.out (Nat.le_trans HB0.out.size HS2.out)), HF.out.below⟩
end Go.Proofs.Ytaoejkbockcneaa.V
