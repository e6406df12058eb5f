/- Pool: New, Least, Late; awake. -/
import Derived.Test.YtddjbkaofodmlaaP6
namespace Go.Proofs.Ytddjbkaofodmlaa
open Go.RowKit
set_option maxRecDepth 20000
set_option linter.unusedVariables false
set_option linter.unusedSimpArgs false

theorem info42 : (Try.prog.info? 42).map (fun i => (i.zero, i.size, i.bytes)) = some (some (.agg #[.int .i64 0, .int .u32 0, .int .i64 0]), 3, 24) := by kernel_rfl
theorem info29 : (Try.prog.info? 29).map (fun i => (i.zero, i.size, i.bytes)) = some (some (.int .u32 0), 1, 4) := by kernel_rfl
theorem mkIr (n : Nat) : madeCells (Value.agg #[.int .i64 0, .int .u32 0, .int .i64 0]).cells (n * 3) = (ir (List.replicate n (0, 0, 0))).toArray := by
  apply Array.ext
  · rw [size_madeCells, List.size_toArray, ir_len, List.length_replicate]
  · intro i h1 h2
    rw [size_madeCells] at h1
    have hr : i % 3 < 3 := Nat.mod_lt _ (by decide)
    have e := ir_get (List.replicate n (0, 0, 0)) (i / 3) (0, 0, 0) (i % 3) (by rw [List.getElem?_replicate, if_pos (by omega)]) hr
    rw [show i / 3 * 3 + i % 3 = i by omega] at e
    have e1 : (ir (List.replicate n (0, 0, 0))).toArray[i]? = (ic (0, 0, 0))[i % 3]? := by rw [List.getElem?_toArray]; exact e
    rw [Array.getElem?_eq_getElem h2] at e1
    have e3 : (madeCells #[(Value.int .i64 0), .int .u32 0, .int .i64 0] (n * 3))[i]'(by rw [size_madeCells]; exact h1) = (#[(Value.int .i64 0), .int .u32 0, .int .i64 0] : Array Value)[i % 3]! := by
      simp [madeCells]
    have e2 : (ic (0, 0, 0))[i % 3]? = some ((#[(Value.int .i64 0), .int .u32 0, .int .i64 0] : Array Value)[i % 3]!) := by
      obtain h | h | h : i % 3 = 0 ∨ i % 3 = 1 ∨ i % 3 = 2 := by omega
      all_goals rw [h]; rfl
    rw [e2] at e1
    injection e1 with e1
    rw [e1]
    exact e3
theorem run_make_in (n : Nat) (w : World) (hn : n ≤ 16) : (Instr.makeSlice 58 (.int .i64 (n : Int)) (.int .i64 (n : Int))).run Try.prog w = .ok (.slice (some ⟨w.heap.size, 0, none⟩) n n) (w.alloc (.cells (ir (List.replicate n (0, 0, 0))).toArray 42)) := by
  obtain ⟨i0, hi, hz0, hz1, hz2⟩ := info_parts info42
  have h := run_make (P := Try.prog) w 58 42 i0 _ Try.underlying58 hi hz0 .i64 .i64 (n : Int) (n : Int) (by omega) (by omega) (by rw [hz2]; omega) (by omega)
  rw [hz1] at h
  simpa only [Int.toNat_natCast, mkIr] using h
def NewPost (n : Nat) (beat : Int) (w : World) (r : Ending) (w' : World) : Prop := ∃ P I, r = .returned (.pointer (some ⟨P, 0, none⟩)) ∧ Po w' w.heap.size P I beat (List.replicate n (0, 0, 0)) ∧ Below w.heap.size w w'
set_option maxHeartbeats 1000000 in
theorem new_any (many beat : Int) (n : Nat) (w : World) (hn : (n : Int) = min (max many 0) 16) :
    Calls Try.prog 7 #[.int .i64 many, .int .i64 beat] w (NewPost n beat w) := by
  have hn16 : n ≤ 16 := by omega
  obtain ⟨w1, hw1⟩ : ∃ w1, w1 = w.alloc (.cells (ir (List.replicate n (0, 0, 0))).toArray 42) := ⟨_, rfl⟩
  have hmk := run_make_in n w hn16
  rw [← hw1] at hmk
  have hb1 : Below w.heap.size w w1 := by rw [hw1]; exact (Below.refl _ _).alloc (Nat.le_refl _) _
  have hq1 : w1.heap[w.heap.size]? = some (.cells (ir (List.replicate n (0, 0, 0))).toArray 42 (0, 0)) := by rw [hw1]; exact heap_alloc_new w _
  obtain ⟨w2, hw2⟩ : ∃ w2, w2 = w1.alloc (.cells #[.int .i64 beat, .slice (some ⟨w.heap.size, 0, none⟩) n n] 60) := ⟨_, rfl⟩
  have hb2 : Below w1.heap.size w1 w2 := by rw [hw2]; exact (Below.refl _ _).alloc (Nat.le_refl _) _
  have hq2 : w2.heap[w1.heap.size]? = some (.cells #[.int .i64 beat, .slice (some ⟨w.heap.size, 0, none⟩) n n] 60 (0, 0)) := by rw [hw2]; exact heap_alloc_new w1 _
  have HP : Hid (Po w2 w.heap.size w1.heap.size w.heap.size beat (List.replicate n (0, 0, 0)) ∧ Below w.heap.size w w2) :=
    ⟨⟨hb1.size, Nat.le_refl _, by simpa using hn16, by rw [List.length_replicate]; exact hq2, (hb2.block _ (lt_of_block hq1)).trans hq1⟩, hb1.trans (hb2.mono hb1.size)⟩
  have H2 := Lib.hid hw2
  have hc : (many < 0 ∧ n = 0) ∨ (many = (n : Int)) ∨ (16 < many ∧ n = 16) := by omega
  clear hn hw1 hb1 hq1 hw2 hb2 hq2
  rcases hc with ⟨h1, rfl⟩ | rfl | ⟨h1, rfl⟩
  · have hmk' : (Instr.makeSlice 58 (.int .i64 0) (.int .i64 0)).run Try.prog w = .ok (.slice (some ⟨w.heap.size, 0, none⟩) 0 0) w1 := hmk
    clear hmk hn16
    go_enter Try.func7, Try.ntmps7
    go_wp2
    rw [← H2.out]
    go_ret
    exact ⟨_, _, rfl, HP.out.1, HP.out.2⟩
  · have h1 : ¬ ((n : Int) < 0) := by omega
    have h2 : ¬ (16 < (n : Int)) := by omega
    go_enter Try.func7, Try.ntmps7
    go_wp2
    rw [← H2.out]
    go_ret
    exact ⟨_, _, rfl, HP.out.1, HP.out.2⟩
  · have hmk' : (Instr.makeSlice 58 (.int .i64 16) (.int .i64 16)).run Try.prog w = .ok (.slice (some ⟨w.heap.size, 0, none⟩) 16 16) w1 := hmk
    clear hmk hn16
    go_enter Try.func7, Try.ntmps7
    go_wp2
    rw [← H2.out]
    go_ret
    exact ⟨_, _, rfl, HP.out.1, HP.out.2⟩
/-- The least one that is free. -/
def leastU : List In → Nat → Nat
  | [], _ => 0
  | e :: l, i => if e.1 = 1 then i + 1 else leastU l (i + 1)
theorem leastU_none : ∀ (l : List In) (i : Nat), (∀ e ∈ l, e.1 ≠ 1) → leastU l i = 0
  | [], _, _ => rfl
  | e :: l, i, h => by
    unfold leastU
    rw [if_neg (h e (by simp)), leastU_none l (i + 1) fun e he => h e (by simp [he])]
theorem leastU_at : ∀ (l : List In) (i k : Nat) (e : In), l[k]? = some e → e.1 = 1 → (∀ j e', j < k → l[j]? = some e' → e'.1 ≠ 1) → leastU l i = i + k + 1
  | [], _, k, e, h, _, _ => by simp at h
  | x :: l, i, 0, e, h, he, _ => by
    simp at h
    subst h
    unfold leastU
    rw [if_pos he]
  | x :: l, i, k + 1, e, h, he, hj => by
    unfold leastU
    rw [if_neg (hj 0 x (by omega) rfl), leastU_at l (i + 1) k e (by simpa using h) he fun j e' hjk h' => hj (j + 1) e' (by omega) (by simpa using h')]
    omega
set_option maxHeartbeats 4000000 in
theorem least_any {B P I : Nat} {beat : Int} {l : List In} (w : World) (h : Po w B P I beat l) :
    Calls Try.prog 21 #[.pointer (some ⟨P, 0, none⟩)] w fun r w' => r = .returned (.int .u32 (leastU l 0 : Int)) ∧ w' = w := by
  have HM := Lib.hid (many_any w h)
  have c1 := h.p1
  have HA : Hid (∀ k s m a, l[k]? = some (s, m, a) → w.cell? ⟨I, k * 3, none⟩ = some (.int .i64 s)) := fun k s m a hk => (h.at hk).1
  obtain ⟨n, hn⟩ : ∃ n, n = l.length := ⟨_, rfl⟩
  have hl := h.2.2.1
  rw [← hn] at HM c1 hl
  have HN := Lib.hid hn
  obtain ⟨R, hR⟩ : ∃ R, R = leastU l 0 := ⟨_, rfl⟩
  rw [← hR]
  have HR := Lib.hid hR
  clear h hn hR
  go_enter Try.func21, Try.ntmps21
  go_wp2_with fail
  refine HM.out.mono ?_
  rintro r w' ⟨rfl, rfl⟩
  go_wp2_with fail
  go_loop [6] (fun i => ∃ k : Nat, k ≤ n ∧ i = .int .i64 (k : Int) ∧ Hid (∀ j e, j < k → l[j]? = some e → e.1 ≠ 1)) (fun i => n - (intOf i).toNat)
  case atStart => exact ⟨0, Nat.zero_le _, rfl, fun j y hj => absurd hj (Nat.not_lt_zero j)⟩
  case round =>
    obtain ⟨k, hk, rfl, HK⟩ := hrel
    by_cases hlt : k < n
    · obtain ⟨⟨s, m, a⟩, hy⟩ : ∃ e, l[k]? = some e := ⟨l[k]'(by rw [← HN.out]; exact hlt), List.getElem?_eq_getElem _⟩
      have c0 := HA.out k s m a hy
      have HY := Lib.hid hy
      clear hy
      by_cases hs : s = 1
      · have HF : Hid (R = k + 1) := by
          simp only [Hid]
          rw [HR.out, leastU_at l 0 k _ HY.out hs HK.out]
          omega
        subst hs
        go_wp2
        go_ret
        refine ⟨?_, rfl⟩
        rw [HF.out]
        first | rfl | (simp; done) | (simp; omega)
      · go_wp2
        go_round
        case rel =>
          refine ⟨k + 1, by omega, by go_num, fun j z hj hz => ?_⟩
          by_cases hjk : j < k
          · exact HK.out j z hjk hz
          · have : j = k := by omega
            subst this
            rw [HY.out] at hz
            injection hz with hz
            subst hz
            exact hs
        case measure => simp [intOf] <;> omega
    · have hkn : k = n := by omega
      subst hkn
      have HF : Hid (R = 0) := by
        simp only [Hid]
        rw [HR.out]
        refine leastU_none l 0 fun e he => ?_
        obtain ⟨j, hj, rfl⟩ := List.getElem_of_mem he
        exact HK.out j _ (by have := HN.out; omega) (List.getElem?_eq_getElem hj)
      go_wp2
      go_ret
      refine ⟨?_, rfl⟩
      rw [HF.out]
      rfl
theorem least_nil (w : World) : Calls Try.prog 21 #[.pointer none] w fun r w' => r = .returned (.int .u32 0) ∧ w' = w := by
  have HM := Lib.hid (many_nil w)
  go_enter Try.func21, Try.ntmps21
  go_wp2_with fail
  refine HM.out.mono ?_
  rintro r w' ⟨rfl, rfl⟩
  go_wp2_with fail
  go_loop [6] (fun i => i = .int .i64 0) (fun i => 0)
  case atStart => rfl
  case round =>
    subst hrel
    go_wp2
    go_ret
    exact ⟨rfl, rfl⟩
def un (l : List Nat) : List Value := l.map fun x : Nat => .int .u32 (x : Int)
theorem own_after {w w' : World} {base T m S : Nat} {v : Value} {xs : List Value} (h : w.ownsRow base T S v m xs) (hb : ∀ g, v.ownBlock = some g → w'.heap[g]? = w.heap[g]?) : w'.ownsRow base T S v m xs := by
  refine ⟨h.1, ?_⟩
  rcases h.2 with hn | ⟨g, cap, cur, rfl, hbg, hg, rest⟩
  · exact .inl hn
  · exact .inr ⟨g, cap, cur, rfl, hbg, (hb g rfl).trans hg, rest⟩
theorem ownlt {w : World} {base T m S : Nat} {v : Value} {xs : List Value} (h : w.ownsRow base T S v m xs) (g : Nat) (hg : v.ownBlock = some g) : base ≤ g ∧ g < w.heap.size := h.lt g hg
theorem own_form1 {w : World} {base T m S : Nat} {v : Value} {xs : List Value} (h : w.ownsRow base T S v m xs) : ∃ A c, v = .slice A m c := by
  rcases h.2 with ⟨rfl, rfl⟩ | ⟨g, cap, cur, rfl, _⟩
  · exact ⟨none, 0, rfl⟩
  · exact ⟨_, cap, rfl⟩
theorem wpList_append_u32 {w : World} {ops : Array Oper} {rest : List Oper} {op : Oper} {a : Act} {Q : Exit → Act → World → Prop} (hgd : op.guard = none) (s x : Operand)
    (ho : op.op = .call { callee := .builtin .append, args := #[s, x], argTypes := #[51, 51] }) (base G : Nat) (v : Value) (m : Nat) (xs : List Value) (y : Nat) (hs : a.eval s = v) (hx : a.eval x = .slice (some ⟨G, 0, none⟩) 1 1)
    (hown : w.ownsRow base 29 1 v m xs) (hG : w.heap[G]? = some (.cells #[.int .u32 (y : Int)] 29 (0, 0))) (hm : m ≤ 1000) (hbase : base ≤ w.heap.size)
    (h : ∀ v' w', w'.ownsRow base 29 1 v' (m + 1) (xs ++ [.int .u32 (y : Int)]) → w.grownBy w' v.ownBlock → wpList Try.prog ops Q rest (a.put op.dst v') w') : wpList Try.prog ops Q (op :: rest) a w := by
  refine wpList_plain hgd fun K hK => ?_
  obtain ⟨i0, hi, hz0, hz1, hz2⟩ := info_parts info29
  obtain ⟨v', w', hr, h2, h3, _⟩ := run_append_own (P := Try.prog) w base 51 op.type 29 i0 _ 1 _ Try.underlying51 hi hz0 hz1 hz2 rfl (by decide) v m xs hown ⟨G, 0, none⟩ 1 1 [.int .u32 (y : Int)] rfl (fun j u hu => by
    have := cell_of_row w G j _ _ _ hG
    rw [show (#[.int .u32 (y : Int)] : Array Value) = ([.int .u32 (y : Int)] : List Value).toArray from rfl, List.getElem?_toArray, hu] at this
    rw [← this, Go.WideShapes.add_plain, Nat.zero_add]) (by
    intro u hu
    simp only [List.mem_cons, List.not_mem_nil, or_false] at hu
    rw [hu]
    rfl) (by unfold maxLen; omega) (by omega) hbase
  unfold Oper.wp execOp
  simp only [ho, resolve, invoke, builtin, Sem.run_bind, Sem.run_pure, Result.andThen_ok, List.map_toArray, List.map_cons, List.map_nil, hs, hx, hr]
  exact hK _ _ (h v' w' h2 h3)
/-- The late ones. -/
def lt1 (beat now : Int) (e : In) : Bool := !decide (e.1 = 0) && decide (addP e.2.2 beat ≤ now)
def lateU (beat now : Int) : List In → Nat → List Nat
  | [], _ => []
  | e :: l, i => if lt1 beat now e = true then (i + 1) :: lateU beat now l (i + 1) else lateU beat now l (i + 1)
theorem lateU_snoc (beat now : Int) : ∀ (l : List In) (i : Nat) (e : In), lateU beat now (l ++ [e]) i = lateU beat now l i ++ (if lt1 beat now e = true then [i + l.length + 1] else [])
  | [], i, e => by
    simp only [List.nil_append, lateU]
    split <;> simp
  | x :: l, i, e => by
    simp only [List.cons_append, lateU, lateU_snoc beat now l (i + 1) e, List.length_cons]
    rw [show i + 1 + l.length + 1 = i + (l.length + 1) + 1 by omega]
    split <;> simp
theorem lateU_len (beat now : Int) : ∀ (l : List In) (i : Nat), (lateU beat now l i).length ≤ l.length
  | [], _ => Nat.le_refl _
  | x :: l, i => by
    unfold lateU
    have := lateU_len beat now l (i + 1)
    split <;> simp <;> omega
end Go.Proofs.Ytddjbkaofodmlaa
