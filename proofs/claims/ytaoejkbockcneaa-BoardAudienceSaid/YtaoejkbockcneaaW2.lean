/- Board: the document's marks in memory; find, Status. -/
import Derived.Test.YtaoejkbockcneaaW1
import Derived.Laws.AppendOwn
namespace Go.Proofs.Ytaoejkbockcneaa.Bd
open Go.RowKit Go.Maps
set_option maxRecDepth 20000
set_option linter.unusedVariables false
set_option linter.unusedSimpArgs false

theorem setM_at {p : Nat} {x : Int} : ∀ {l : List Mk} {k : Nat} {s t : Int}, l[k]? = some (p, s, t) → (∀ (j : Nat) e, j < k → l[j]? = some e → e.1 ≠ p) → setM p x l = l.set k (p, x, t)
  | [], k, _, _, h, _ => by simp at h
  | e :: l, 0, s, t, h, _ => by
    simp only [List.getElem?_cons_zero, Option.some.injEq] at h
    subst h
    unfold setM
    rw [if_pos rfl]
    rfl
  | e :: l, k + 1, s, t, h, hf => by
    have h0 := hf 0 e (by omega) rfl
    unfold setM
    rw [if_neg h0, setM_at (l := l) (k := k) (by simpa using h) (fun j y hj hy => hf (j + 1) y (by omega) (by simpa using hy))]
    rfl
theorem setM_no {p : Nat} {x : Int} : ∀ {l : List Mk}, (∀ e ∈ l, e.1 ≠ p) → setM p x l = l ++ [(p, x, 0)]
  | [], _ => rfl
  | e :: l, h => by
    unfold setM
    rw [if_neg (h e (by simp)), setM_no (fun y hy => h y (by simp [hy]))]
    rfl
theorem lookM_first {p : Nat} : ∀ {l : List Mk} {k : Nat} {s t : Int}, l[k]? = some (p, s, t) → (∀ (j : Nat) e, j < k → l[j]? = some e → e.1 ≠ p) → lookM l p = (s, t)
  | [], k, _, _, h, _ => by simp at h
  | e :: l, 0, s, t, h, _ => by
    simp only [List.getElem?_cons_zero, Option.some.injEq] at h
    subst h
    rw [lookM_cons, if_pos rfl]
  | e :: l, k + 1, s, t, h, hf => by
    have h0 := hf 0 e (by omega) rfl
    rw [lookM_cons, if_neg h0]
    exact lookM_first (l := l) (k := k) (by simpa using h) (fun j y hj hy => hf (j + 1) y (by omega) (by simpa using hy))
def mkC (e : Mk) : List Value := [.int .u32 (e.1 : Int), .int .i64 e.2.1, .int .i64 e.2.2]
def mk3 (l : List Mk) : List Value := l.flatMap mkC
theorem mk3_len (l : List Mk) : (mk3 l).length = l.length * 3 := by
  unfold mk3
  induction l with
  | nil => rfl
  | cons e l ih =>
    rw [List.flatMap_cons, List.length_append, ih, List.length_cons]
    simp [mkC]
    omega
theorem mk3_get : ∀ (l : List Mk) (i : Nat) (e : Mk) (j : Nat), l[i]? = some e → j < 3 → (mk3 l)[i * 3 + j]? = (mkC e)[j]?
  | [], _, _, _, h, _ => by simp at h
  | x :: l, 0, e, j, h, hj => by
    simp only [List.getElem?_cons_zero, Option.some.injEq] at h
    subst h
    unfold mk3
    rw [List.flatMap_cons, Nat.zero_mul, Nat.zero_add, List.getElem?_append_left (by simp [mkC]; omega)]
  | x :: l, i + 1, e, j, h, hj => by
    have := mk3_get l i e j (by simpa using h) hj
    unfold mk3 at this ⊢
    rw [List.flatMap_cons, List.getElem?_append_right (by simp [mkC]; omega), ← this]
    congr 1
    simp [mkC]
    omega
theorem mk3_snoc (l : List Mk) (e : Mk) : mk3 (l ++ [e]) = mk3 l ++ mkC e := by simp [mk3]
def AtM (w : World) (b p : Nat) (e : Mk) : Prop := w.cell? ⟨b, p, none⟩ = some (.int .u32 (e.1 : Int)) ∧ w.cell? ⟨b, p + 1, none⟩ = some (.int .i64 e.2.1) ∧ w.cell? ⟨b, p + 2, none⟩ = some (.int .i64 e.2.2)
/-- The marks l are read from A on. -/
def Ms (w : World) (A : Option Addr) (l : List Mk) : Prop :=
  0 < l.length → ∃ b o cc, A = some ⟨b, o, none⟩ ∧ w.heap[b]? = some (.cells cc 118 (0, 0)) ∧ ∀ i e, l[i]? = some e → AtM w b (o + i * 3) e
theorem Ms.keep {w W : World} {A : Option Addr} {l : List Mk} (h : Ms w A l) (hb : ∀ (b : Nat) (cc : Array Value), w.heap[b]? = some (Obj.cells cc 118 (0, 0)) → W.heap[b]? = w.heap[b]?) : Ms W A l := fun hl => by
  obtain ⟨b, o, cc, h1, h2, h3⟩ := h hl
  have e := hb b cc h2
  refine ⟨b, o, cc, h1, e.trans h2, fun i x hx => ?_⟩
  obtain ⟨q1, q2, q3⟩ := h3 i x hx
  exact ⟨(World.cell?_of_block e).trans q1, (World.cell?_of_block e).trans q2, (World.cell?_of_block e).trans q3⟩
theorem Ms.below {w W : World} {A : Option Addr} {l : List Mk} (h : Ms w A l) (hb : Below w.heap.size w W) : Ms W A l := h.keep fun b cc hc => hb.block b (lt_of_block hc)
theorem Ms.nil (w : World) (A : Option Addr) : Ms w A [] := fun h => by simp at h
theorem own3_form {w : World} {base m : Nat} {v : Value} {xs : List Value} (h : w.ownsRow base 118 3 v m xs) : ∃ A c, v = .slice A m c := by
  rcases h.2 with ⟨rfl, rfl⟩ | ⟨g, cap, cur, rfl, _⟩
  · exact ⟨none, 0, rfl⟩
  · exact ⟨_, cap, rfl⟩
theorem Ms.of_own {w : World} {base m c : Nat} {A : Option Addr} {l : List Mk} (h : w.ownsRow base 118 3 (.slice A m c) m (mk3 l)) : Ms w A l := fun hl => by
  have hcells := fun g => h.cells (g := g)
  have hlen := h.1
  rw [mk3_len] at hlen
  rcases h.2 with ⟨_, h0⟩ | ⟨g, cap, cur, e1, hg, hb, _, _, _⟩
  · omega
  · injection e1 with e1 _ _
    subst e1
    refine ⟨g, 0, cur, rfl, hb, fun i e he => ?_⟩
    have hc : ∀ j, j < 3 → w.cell? ⟨g, 0 + i * 3 + j, none⟩ = (mkC e)[j]? := fun j hj => by
      obtain ⟨x, hx⟩ : ∃ x, (mkC e)[j]? = some x := ⟨(mkC e)[j]'(by simpa [mkC] using hj), List.getElem?_eq_getElem _⟩
      have := hcells g rfl (i * 3 + j) x (by rw [mk3_get l i e j he hj, hx])
      rw [Go.WideShapes.add_plain, ← Nat.add_assoc] at this
      rw [hx, ← this]
    exact ⟨by simpa [mkC] using hc 0 (by omega), by simpa [mkC] using hc 1 (by omega), by simpa [mkC] using hc 2 (by omega)⟩
theorem own3_len {w : World} {base m : Nat} {v : Value} {l : List Mk} (h : w.ownsRow base 118 3 v m (mk3 l)) : m = l.length := by
  have := h.1
  rw [mk3_len] at this
  omega
theorem own3_lt {w : World} {base T m : Nat} {v : Value} {xs : List Value} (h : w.ownsRow base T 3 v m xs) (g : Nat) (hg : v.ownBlock = some g) : base ≤ g ∧ g < w.heap.size := h.lt g hg
theorem info118 : (Try.prog.info? 118).map (fun i => (i.zero, i.size, i.bytes)) = some (some (.agg #[.int .u32 0, .int .i64 0, .int .i64 0]), 3, 24) := by kernel_rfl
theorem run_append_none (w : World) (ty : TypeId) (g : Nat) (c : Nat) : (Builtin.append_ #[60, 60] ty #[.slice (some ⟨g, 0, none⟩) 0 0, .slice none 0 c]).run Try.prog w = .ok (.slice (some ⟨g, 0, none⟩) 0 0) w := by
  obtain ⟨i0, hi, hz0, hz1, hz2⟩ := info_parts info118
  simp [Builtin.append_, run_underlying Try.underlying60, sizeOf, typeInfo, zeroValue, hi, hz0, Builtin.lenOf, Question.forced, run_firstCells_none, storeCells]
theorem wpList_append_marks {w : World} {ops : Array Oper} {rest : List Oper} {op : Oper} {a : Act} {Q : Exit → Act → World → Prop} (hgd : op.guard = none) (s x : Operand)
    (ho : op.op = .call { callee := .builtin .append, args := #[s, x], argTypes := #[60, 60] }) (base G : Nat) (A : Option Addr) (n c : Nat) (l : List Mk) (hs : a.eval s = .slice (some ⟨G, 0, none⟩) 0 0) (hx : a.eval x = .slice A n c)
    (hown : w.ownsRow base 118 3 (.slice (some ⟨G, 0, none⟩) 0 0) 0 []) (hn : n = l.length) (hR : Ms w A l) (hN : A = none → n = 0) (hm : n ≤ 1000) (hbase : base ≤ w.heap.size)
    (h : ∀ v' w', w'.ownsRow base 118 3 v' n (mk3 l) → w.grownBy w' (some G) → wpList Try.prog ops Q rest (a.put op.dst v') w') : wpList Try.prog ops Q (op :: rest) a w := by
  refine wpList_plain hgd fun K hK => ?_
  obtain ⟨i0, hi, hz0, hz1, hz2⟩ := info_parts info118
  have key : ∃ v' w', (Builtin.append_ #[60, 60] op.type #[.slice (some ⟨G, 0, none⟩) 0 0, .slice A n c]).run Try.prog w = .ok v' w' ∧ w'.ownsRow base 118 3 v' n (mk3 l) ∧ w.grownBy w' (some G) := by
    cases A with
    | none =>
      have hl : l = [] := by
        cases l with
        | nil => rfl
        | cons r l => obtain ⟨b, o, cc, e, _⟩ := hR (by simp); cases e
      subst hl
      simp at hn
      subst hn
      exact ⟨_, _, run_append_none w op.type G c, hown, ⟨rfl, rfl, rfl, Nat.le_refl _, fun _ _ _ => rfl⟩⟩
    | some p =>
      obtain ⟨v', w', hr, h2, h3, _⟩ := run_append_own (P := Try.prog) w base 60 op.type 118 i0 _ 3 _ Try.underlying60 hi hz0 hz1 hz2 rfl (by decide) _ 0 [] hown p n c (mk3 l) (by rw [mk3_len, hn]) (fun j y hj => by
        have hj1 := (List.getElem?_eq_some_iff.1 hj).1
        rw [mk3_len] at hj1
        obtain ⟨b, o, cc, e, _, hc⟩ := hR (by omega)
        injection e with e
        subst e
        obtain ⟨r, hr⟩ : ∃ r, l[j / 3]? = some r := ⟨l[j / 3]'(by omega), List.getElem?_eq_getElem _⟩
        have h1 := mk3_get l (j / 3) r (j % 3) hr (by omega)
        rw [show j / 3 * 3 + j % 3 = j by omega, hj] at h1
        obtain ⟨q1, q2, q3⟩ := hc _ _ hr
        rw [Go.WideShapes.add_plain]
        have hd : j % 3 = 0 ∨ j % 3 = 1 ∨ j % 3 = 2 := by omega
        rcases hd with hd | hd | hd <;> rw [hd] at h1 <;> simp [mkC] at h1 <;> rw [h1]
        · rw [← q1, show o + j = o + j / 3 * 3 by omega]
        · rw [← q2, show o + j = o + j / 3 * 3 + 1 by omega]
        · rw [← q3, show o + j = o + j / 3 * 3 + 2 by omega]) (by
        intro y hy
        unfold mk3 at hy
        obtain ⟨r, _, hy⟩ := List.mem_flatMap.1 hy
        simp only [mkC, List.mem_cons, List.not_mem_nil, or_false] at hy
        rcases hy with rfl | rfl | rfl <;> rfl) (by unfold maxLen; omega) (by omega) hbase
      rw [Nat.zero_add, List.nil_append] at h2
      exact ⟨v', w', hr, h2, h3⟩
  obtain ⟨v', w', hr, h2, h3⟩ := key
  unfold Oper.wp execOp
  simp only [ho, resolve, invoke, builtin, Sem.run_bind, Sem.run_pure, Result.andThen_ok, List.map_toArray, List.map_cons, List.map_nil, hs, hx, hr]
  exact hK _ _ (h v' w' h2 h3)
theorem wpList_append_mk {w : World} {ops : Array Oper} {rest : List Oper} {op : Oper} {a : Act} {Q : Exit → Act → World → Prop} (hgd : op.guard = none) (s x : Operand)
    (ho : op.op = .call { callee := .builtin .append, args := #[s, x], argTypes := #[60, 60] }) (base G : Nat) (v : Value) (m : Nat) (l : List Mk) (e : Mk) (hs : a.eval s = v) (hx : a.eval x = .slice (some ⟨G, 0, none⟩) 1 1)
    (hown : w.ownsRow base 118 3 v m (mk3 l)) (hG : w.heap[G]? = some (.cells #[.int .u32 (e.1 : Int), .int .i64 e.2.1, .int .i64 e.2.2] 118 (0, 0))) (hm : m ≤ 1000) (hbase : base ≤ w.heap.size)
    (h : ∀ v' w', w'.ownsRow base 118 3 v' (m + 1) (mk3 (l ++ [e])) → w.grownBy w' v.ownBlock → wpList Try.prog ops Q rest (a.put op.dst v') w') : wpList Try.prog ops Q (op :: rest) a w := by
  refine wpList_plain hgd fun K hK => ?_
  obtain ⟨i0, hi, hz0, hz1, hz2⟩ := info_parts info118
  obtain ⟨v', w', hr, h2, h3, _⟩ := run_append_own (P := Try.prog) w base 60 op.type 118 i0 _ 3 _ Try.underlying60 hi hz0 hz1 hz2 rfl (by decide) v m (mk3 l) hown ⟨G, 0, none⟩ 1 1 (mkC e) rfl (fun j y hy => by
    have := cell_of_row w G j _ _ _ hG
    rw [show (#[.int .u32 (e.1 : Int), .int .i64 e.2.1, .int .i64 e.2.2] : Array Value) = (mkC e).toArray from rfl, List.getElem?_toArray, hy] at this
    rw [← this, Go.WideShapes.add_plain, Nat.zero_add]) (by
    intro y hy
    simp only [mkC, List.mem_cons, List.not_mem_nil, or_false] at hy
    rcases hy with rfl | rfl | rfl <;> rfl) (by unfold maxLen; omega) (by omega) hbase
  unfold Oper.wp execOp
  simp only [ho, resolve, invoke, builtin, Sem.run_bind, Sem.run_pure, Result.andThen_ok, List.map_toArray, List.map_cons, List.map_nil, hs, hx, hr]
  exact hK _ _ (h v' w' (by rw [mk3_snoc]; exact h2) h3)
/-- What find answers. -/
def FdM (l : List Mk) (p : Nat) (i : Int) : Prop := (∃ (k : Nat) (s t : Int), i = k ∧ l[k]? = some (p, s, t) ∧ ∀ (j : Nat) e, j < k → l[j]? = some e → e.1 ≠ p) ∨ (i = -1 ∧ ∀ e ∈ l, e.1 ≠ p)
set_option maxHeartbeats 2000000 in
theorem findM (A : Option Addr) (n c : Nat) (x : Nat) (l : List Mk) (w : World) (hn : n = l.length) (hR : Ms w A l) (hl : n ≤ 1000) :
    Calls Try.prog 55 #[.slice A n c, .int .u32 (x : Int)] w fun r w' => (∃ i : Int, FdM l x i ∧ r = .returned (.int .i64 i)) ∧ w' = w := by
  have HR := Lib.hid hR
  have HN := Lib.hid hn
  clear hn hR
  go_enter Try.func55, Try.ntmps55
  go_wp2_with fail
  go_loopw [5] (fun u wr => ∃ k : Nat, k ≤ n ∧ u = .int .i64 (k : Int) ∧ Hid (∀ (j : Nat) e, j < k → l[j]? = some e → e.1 ≠ x) ∧ wr = w) (fun u _ => n - (intOf u).toNat)
  case atStart => exact ⟨0, by omega, rfl, fun j e hj => absurd hj (Nat.not_lt_zero j), by first | rfl | trivial⟩
  case round =>
    obtain ⟨k, hk, rfl, HK, rfl⟩ := hrel
    by_cases hlt : k < n
    · obtain ⟨⟨y, v, t⟩, hy⟩ : ∃ e, l[k]? = some e := ⟨l[k]'(by rw [← HN.out]; exact hlt), List.getElem?_eq_getElem _⟩
      obtain ⟨b1, o1, cc, rfl, hb1, ha1⟩ := HR.out (by have := HN.out; omega)
      have d0 := (ha1 k _ hy).1
      simp only at d0
      have HY := Lib.hid hy
      clear hy ha1 hb1
      by_cases hxy : y = x
      · subst hxy
        go_wp2
        go_ret
        exact ⟨⟨k, .inl ⟨k, v, t, rfl, HY.out, HK.out⟩, rfl⟩, rfl⟩
      · have hxz : ¬ (y : Int) = (x : Int) := by omega
        go_wp2
        go_roundw
        case rel =>
          refine ⟨k + 1, by omega, by go_num, fun j e hj hje => ?_, by first | rfl | trivial⟩
          by_cases hjk : j < k
          · exact HK.out j e hjk hje
          · have : j = k := by omega
            subst this
            rw [HY.out] at hje
            injection hje with hje
            rw [← hje]
            exact hxy
        case measure => simp [intOf] <;> omega
    · have hkn : k = n := by omega
      subst hkn
      have HF : Hid (FdM l x (-1)) := .inr ⟨rfl, fun e he => by
        obtain ⟨j, hj⟩ := List.getElem?_of_mem he
        exact HK.out j e (by have := (List.getElem?_eq_some_iff.1 hj).1; have := HN.out; omega) hj⟩
      go_wp2
      go_ret
      exact ⟨⟨-1, HF.out, rfl⟩, rfl⟩
set_option maxHeartbeats 2000000 in
theorem rstatus (A : Option Addr) (n c : Nat) (x : Nat) (l : List Mk) (w : World) (hn : n = l.length) (hR : Ms w A l) (hl : n ≤ 1000) :
    Calls Try.prog 35 #[.slice A n c, .int .u32 (x : Int)] w fun r w' => r = .returned (.int .i64 (lookM l x).1) ∧ w' = w := by
  have HC := Lib.hid (findM A n c x l w hn hR hl)
  have HR := Lib.hid hR
  have HN := Lib.hid hn
  clear hn hR
  obtain ⟨z, hz⟩ : ∃ z, z = (lookM l x).1 := ⟨_, rfl⟩
  rw [← hz]
  have HZ := Lib.hid hz
  clear hz
  go_enter Try.func35, Try.ntmps35
  go_wp2_with fail
  refine HC.out.mono ?_
  rintro r w' ⟨⟨i, hf, rfl⟩, hw⟩
  have hw := hw.symm
  subst hw
  rcases hf with ⟨k, s, t, rfl, hk, hb⟩ | ⟨rfl, hb⟩
  · have hzs : z = s := by rw [HZ.out, lookM_first hk hb]
    subst hzs
    obtain ⟨b1, o1, cc, rfl, hb1, ha1⟩ := HR.out (by have := (List.getElem?_eq_some_iff.1 hk).1; omega)
    obtain ⟨-, d1, -⟩ := ha1 k _ hk
    have hkn : k < n := by have := (List.getElem?_eq_some_iff.1 hk).1; have := HN.out; omega
    simp only at d1
    clear hk hb ha1 hb1
    go_wp2
    go_ret
    exact ⟨rfl, rfl⟩
  · have hzs : z = 0 := by rw [HZ.out, lookM_no hb]
    subst hzs
    clear hb
    go_wp2
    go_ret
    exact ⟨rfl, rfl⟩
end Go.Proofs.Ytaoejkbockcneaa.Bd
