/- Friend: the document's Accept, Refuse, Remove, Ask, Block. -/
import Derived.Test.YtohcibmlkngaeaaD5
namespace Go.Proofs.Ytohcibmlkngaeaa
open Go.RowKit Go.Maps
set_option maxRecDepth 20000
set_option linter.unusedVariables false
set_option linter.unusedSimpArgs false

/-- What an act of the document's answers: rows, and an error's number. -/
def RA2 (l : List Rw) (e : Int) (w : World) (r : Ending) (w' : World) : Prop := ∃ B m c, r = .returned (.tuple #[.slice B m c, .int .i64 e]) ∧ m = l.length ∧ Rr w' B l ∧ Below w.heap.size w w'
def RA3 (l : List Rw) (b : Bool) (e : Int) (w : World) (r : Ending) (w' : World) : Prop := ∃ B m c, r = .returned (.tuple #[.slice B m c, .bool b, .int .i64 e]) ∧ m = l.length ∧ Rr w' B l ∧ Below w.heap.size w w'
theorem wo_le (l : List Rw) (a b : Nat) : (wo l a b).length ≤ l.length := List.length_filter_le _ _
theorem run_append_none (w : World) (ty : TypeId) (g : Nat) (c : Nat) : (Builtin.append_ #[25, 25] ty #[.slice (some ⟨g, 0, none⟩) 0 0, .slice none 0 c]).run Try.prog w = .ok (.slice (some ⟨g, 0, none⟩) 0 0) w := by
  obtain ⟨i0, hi, hz0, hz1, hz2⟩ := info_parts info70
  simp [Builtin.append_, run_underlying Try.underlying25, sizeOf, typeInfo, zeroValue, hi, hz0, Builtin.lenOf, Question.forced, run_firstCells_none, storeCells]
theorem wpList_append_rows {w : World} {ops : Array Oper} {rest : List Oper} {op : Oper} {a : Act} {Q : Exit → Act → World → Prop} (hgd : op.guard = none) (s x : Operand)
    (ho : op.op = .call { callee := .builtin .append, args := #[s, x], argTypes := #[25, 25] }) (base G : Nat) (A : Option Addr) (n c : Nat) (l : List Rw) (hs : a.eval s = .slice (some ⟨G, 0, none⟩) 0 0) (hx : a.eval x = .slice A n c)
    (hown : w.ownsRow base 70 3 (.slice (some ⟨G, 0, none⟩) 0 0) 0 []) (hn : n = l.length) (hR : Rr w A l) (hm : n ≤ 1000) (hbase : base ≤ w.heap.size)
    (h : ∀ v' w', w'.ownsRow base 70 3 v' n (rw3 l) → w.grownBy w' (some G) → wpList Try.prog ops Q rest (a.put op.dst v') w') : wpList Try.prog ops Q (op :: rest) a w := by
  refine wpList_plain hgd fun K hK => ?_
  obtain ⟨i0, hi, hz0, hz1, hz2⟩ := info_parts info70
  have key : ∃ v' w', (Builtin.append_ #[25, 25] op.type #[.slice (some ⟨G, 0, none⟩) 0 0, .slice A n c]).run Try.prog w = .ok v' w' ∧ w'.ownsRow base 70 3 v' n (rw3 l) ∧ w.grownBy w' (some G) := by
    cases A with
    | none =>
      have hl : l = [] := by
        cases l with
        | nil => rfl
        | cons r l => obtain ⟨b, o, cc, e, _⟩ := hR (by simp); cases e
      subst hl
      simp at hn
      subst hn
      exact ⟨_, _, run_append_none w op.type G c, hown, ⟨rfl, rfl, rfl, Nat.le_refl _, fun _ _ _ => rfl⟩⟩
    | some p =>
      obtain ⟨v', w', hr, h2, h3, _⟩ := run_append_own (P := Try.prog) w base 25 op.type 70 i0 _ 3 _ Try.underlying25 hi hz0 hz1 hz2 rfl (by decide) _ 0 [] hown p n c (rw3 l) (by rw [rw3_len, hn]) (fun j y hj => by
        have hj1 := (List.getElem?_eq_some_iff.1 hj).1
        rw [rw3_len] at hj1
        obtain ⟨b, o, cc, e, _, hc⟩ := hR (by omega)
        injection e with e
        subst e
        obtain ⟨r, hr⟩ : ∃ r, l[j / 3]? = some r := ⟨l[j / 3]'(by omega), List.getElem?_eq_getElem _⟩
        have h1 := rw3_get l (j / 3) r (j % 3) hr (by omega)
        rw [show j / 3 * 3 + j % 3 = j by omega, hj] at h1
        obtain ⟨q1, q2, q3⟩ := hc _ _ hr
        rw [Go.WideShapes.add_plain]
        have hd : j % 3 = 0 ∨ j % 3 = 1 ∨ j % 3 = 2 := by omega
        rcases hd with hd | hd | hd <;> rw [hd] at h1 <;> simp [rwC] at h1 <;> rw [h1]
        · rw [← q1, show o + j = o + j / 3 * 3 by omega]
        · rw [← q2, show o + j = o + j / 3 * 3 + 1 by omega]
        · rw [← q3, show o + j = o + j / 3 * 3 + 2 by omega]) (by
        intro y hy
        unfold rw3 at hy
        obtain ⟨r, _, hy⟩ := List.mem_flatMap.1 hy
        simp only [rwC, List.mem_cons, List.not_mem_nil, or_false] at hy
        rcases hy with rfl | rfl | rfl <;> rfl) (by unfold maxLen; omega) (by omega) hbase
      rw [Nat.zero_add, List.nil_append] at h2
      exact ⟨v', w', hr, h2, h3⟩
  obtain ⟨v', w', hr, h2, h3⟩ := key
  unfold Oper.wp execOp
  simp only [ho, resolve, invoke, builtin, Sem.run_bind, Sem.run_pure, Result.andThen_ok, List.map_toArray, List.map_cons, List.map_nil, hs, hx, hr]
  exact hK _ _ (h v' w' h2 h3)
theorem wpList_append_rwt {w : World} {ops : Array Oper} {rest : List Oper} {op : Oper} {a : Act} {Q : Exit → Act → World → Prop} (hgd : op.guard = none) (s x : Operand)
    (ho : op.op = .call { callee := .builtin .append, args := #[s, x], argTypes := #[25, 25] }) (base G : Nat) (v : Value) (m : Nat) (l : List Rw) (e : Rw) (t : Int) (ht : t = (e.1 : Int)) (hs : a.eval s = v) (hx : a.eval x = .slice (some ⟨G, 0, none⟩) 1 1)
    (hown : w.ownsRow base 70 3 v m (rw3 l)) (hG : w.heap[G]? = some (.cells #[.int .i64 t, u e.2.1, u e.2.2] 70 (0, 0))) (hm : m ≤ 1000) (hbase : base ≤ w.heap.size)
    (h : ∀ v' w', w'.ownsRow base 70 3 v' (m + 1) (rw3 (l ++ [e])) → w.grownBy w' v.ownBlock → wpList Try.prog ops Q rest (a.put op.dst v') w') : wpList Try.prog ops Q (op :: rest) a w := by
  subst ht
  exact wpList_append_rw hgd s x ho base G v m l e hs hx hown hG hm hbase h
set_option maxHeartbeats 4000000 in
theorem raccept_no (A : Option Addr) (n c a b : Nat) (l : List Rw) (w : World) (hn : n = l.length) (hR : Rr w A l) (hl : n ≤ 200) (hI : Inv l) (hm : ¬ ((1, b, a) ∈ l)) :
    Calls Try.prog 24 #[.slice A n c, u a, u b] w (RA2 l 12 w) := by
  have HC := Lib.hid (rasks_any A n c b a l w hn hR (by omega))
  have e0 : (decide ((1, b, a) ∈ l)) = false := by rw [decide_eq_false_iff_not]; exact hm
  have HR := Lib.hid hR
  have HN := Lib.hid hn
  have HB0 : Hid (Below w.heap.size w w) := Below.refl _ _
  clear hn hR hI hm
  go_enter Try.func24, Try.ntmps24
  go_wp2_with fail
  refine HC.out.mono ?_
  rintro r w' ⟨rfl, hw⟩
  have hw := hw.symm
  subst hw
  rw [e0]
  go_wp2
  exact bodyPost_ret (v := .tuple #[.slice A n c, .int .i64 12]) (by simp [results, Try.results24, go_sem]) rfl ⟨_, _, _, rfl, HN.out, HR.out, HB0.out⟩
set_option maxHeartbeats 4000000 in
theorem raccept_yes (A : Option Addr) (n c a b : Nat) (l : List Rw) (w : World) (hn : n = l.length) (hR : Rr w A l) (hl : n ≤ 200) (hI : Inv l) (hm : (1, b, a) ∈ l) (hab : a ≠ b) :
    Calls Try.prog 24 #[.slice A n c, u a, u b] w (RA2 (wo l a b ++ [(2, a, b)]) 0 w) := by
  have HC := Lib.hid (rasks_any A n c b a l w hn hR (by omega))
  have e0 : (decide ((1, b, a) ∈ l)) = true := by rw [decide_eq_true_iff]; exact hm
  have HW := Lib.hid (without_any A n c a b l w hn hR (by omega) hab)
  have hle := wo_le l a b
  have HR := Lib.hid hR
  have HN := Lib.hid hn
  have HB0 : Hid (Below w.heap.size w w) := Below.refl _ _
  clear hn hR hI hm
  go_enter Try.func24, Try.ntmps24
  go_wp2_with fail
  refine HC.out.mono ?_
  rintro r w' ⟨rfl, hw⟩
  have hw := hw.symm
  subst hw
  rw [e0]
  go_wp2_with fail
  refine HW.out.mono ?_
  rintro r w1 ⟨B, m, c', rfl, ho, hb⟩
  have HM1 := Lib.hid (own3_len ho)
  have HO := Lib.hid ho
  have HB := Lib.hid hb
  have HSZ : Hid (w.heap.size ≤ w1.heap.size) := HB.out.size
  have HML : Hid (m ≤ 500) := by have := HN.out; have := HM1.out; simp only [Hid]; omega
  clear ho hb
  go_wp2_with (at_builtin; refine wpList_append_rwt rfl _ _ rfl w.heap.size w1.heap.size (.slice B m c') m (wo l a b) (2, a, b) 2 rfl rfl rfl (HO.out.alloc _) (heap_alloc_new _ _) (by have := HML.out; omega) (by have := HSZ.out; simp; omega) ?_; intro v4 w4 hown4 hg4; obtain ⟨B4, c4, rfl⟩ := own3_form hown4; go_frame)
  have HB4 : Hid (Below w.heap.size w w4) := (HB.out.alloc HSZ.out _).grown hg4 (by have := HSZ.out; simp; omega) (fun g h => (own3_lt HO.out g h).1)
  exact bodyPost_ret (v := .tuple #[.slice B4 (m + 1) c4, .int .i64 0]) (by simp [results, Try.results24, go_sem]) rfl ⟨_, _, _, rfl, own3_len hown4, Rr.of_own hown4, HB4.out⟩
set_option maxHeartbeats 4000000 in
theorem rrefuse_no (A : Option Addr) (n c a b : Nat) (l : List Rw) (w : World) (hn : n = l.length) (hR : Rr w A l) (hl : n ≤ 200) (hI : Inv l) (hm : ¬ ((1, b, a) ∈ l)) :
    Calls Try.prog 25 #[.slice A n c, u a, u b] w (RA2 l 12 w) := by
  have HC := Lib.hid (rasks_any A n c b a l w hn hR (by omega))
  have e0 : (decide ((1, b, a) ∈ l)) = false := by rw [decide_eq_false_iff_not]; exact hm
  have HR := Lib.hid hR
  have HN := Lib.hid hn
  have HB0 : Hid (Below w.heap.size w w) := Below.refl _ _
  clear hn hR hI hm
  go_enter Try.func25, Try.ntmps25
  go_wp2_with fail
  refine HC.out.mono ?_
  rintro r w' ⟨rfl, hw⟩
  have hw := hw.symm
  subst hw
  rw [e0]
  go_wp2
  exact bodyPost_ret (v := .tuple #[.slice A n c, .int .i64 12]) (by simp [results, Try.results25, go_sem]) rfl ⟨_, _, _, rfl, HN.out, HR.out, HB0.out⟩
set_option maxHeartbeats 4000000 in
theorem rrefuse_yes (A : Option Addr) (n c a b : Nat) (l : List Rw) (w : World) (hn : n = l.length) (hR : Rr w A l) (hl : n ≤ 200) (hI : Inv l) (hm : (1, b, a) ∈ l) (hab : a ≠ b) :
    Calls Try.prog 25 #[.slice A n c, u a, u b] w (RA2 (wo l a b) 0 w) := by
  have HC := Lib.hid (rasks_any A n c b a l w hn hR (by omega))
  have e0 : (decide ((1, b, a) ∈ l)) = true := by rw [decide_eq_true_iff]; exact hm
  have HW := Lib.hid (without_any A n c a b l w hn hR (by omega) hab)
  have hle := wo_le l a b
  have HR := Lib.hid hR
  have HN := Lib.hid hn
  have HB0 : Hid (Below w.heap.size w w) := Below.refl _ _
  clear hn hR hI hm
  go_enter Try.func25, Try.ntmps25
  go_wp2_with fail
  refine HC.out.mono ?_
  rintro r w' ⟨rfl, hw⟩
  have hw := hw.symm
  subst hw
  rw [e0]
  go_wp2_with fail
  refine HW.out.mono ?_
  rintro r w1 ⟨B, m, c', rfl, ho, hb⟩
  have HM1 := Lib.hid (own3_len ho)
  have HO := Lib.hid ho
  have HB := Lib.hid hb
  have HSZ : Hid (w.heap.size ≤ w1.heap.size) := HB.out.size
  have HML : Hid (m ≤ 500) := by have := HN.out; have := HM1.out; simp only [Hid]; omega
  clear ho hb
  go_wp2
  exact bodyPost_ret (v := .tuple #[.slice B m c', .int .i64 0]) (by simp [results, Try.results25, go_sem]) rfl ⟨_, _, _, rfl, HM1.out, Rr.of_own HO.out, HB.out⟩
set_option maxHeartbeats 4000000 in
theorem rremove_no (A : Option Addr) (n c a b : Nat) (l : List Rw) (w : World) (hn : n = l.length) (hR : Rr w A l) (hl : n ≤ 200) (hI : Inv l) (hm : ¬ ((2, a, b) ∈ l ∨ (2, b, a) ∈ l)) :
    Calls Try.prog 15 #[.slice A n c, u a, u b] w (RA2 l 12 w) := by
  have HC := Lib.hid (rare_any A n c a b l w hn hR (by omega))
  have e0 : (areB l a b) = false := by unfold areB; rw [decide_eq_false_iff_not]; exact hm
  have HR := Lib.hid hR
  have HN := Lib.hid hn
  have HB0 : Hid (Below w.heap.size w w) := Below.refl _ _
  clear hn hR hI hm
  go_enter Try.func15, Try.ntmps15
  go_wp2_with fail
  refine HC.out.mono ?_
  rintro r w' ⟨rfl, hw⟩
  have hw := hw.symm
  subst hw
  rw [e0]
  go_wp2
  exact bodyPost_ret (v := .tuple #[.slice A n c, .int .i64 12]) (by simp [results, Try.results15, go_sem]) rfl ⟨_, _, _, rfl, HN.out, HR.out, HB0.out⟩
set_option maxHeartbeats 4000000 in
theorem rremove_yes (A : Option Addr) (n c a b : Nat) (l : List Rw) (w : World) (hn : n = l.length) (hR : Rr w A l) (hl : n ≤ 200) (hI : Inv l) (hm : (2, a, b) ∈ l ∨ (2, b, a) ∈ l) (hab : a ≠ b) :
    Calls Try.prog 15 #[.slice A n c, u a, u b] w (RA2 (wo l a b) 0 w) := by
  have HC := Lib.hid (rare_any A n c a b l w hn hR (by omega))
  have e0 : (areB l a b) = true := by unfold areB; rw [decide_eq_true_iff]; exact hm
  have HW := Lib.hid (without_any A n c a b l w hn hR (by omega) hab)
  have hle := wo_le l a b
  have HR := Lib.hid hR
  have HN := Lib.hid hn
  have HB0 : Hid (Below w.heap.size w w) := Below.refl _ _
  clear hn hR hI hm
  go_enter Try.func15, Try.ntmps15
  go_wp2_with fail
  refine HC.out.mono ?_
  rintro r w' ⟨rfl, hw⟩
  have hw := hw.symm
  subst hw
  rw [e0]
  go_wp2_with fail
  refine HW.out.mono ?_
  rintro r w1 ⟨B, m, c', rfl, ho, hb⟩
  have HM1 := Lib.hid (own3_len ho)
  have HO := Lib.hid ho
  have HB := Lib.hid hb
  have HSZ : Hid (w.heap.size ≤ w1.heap.size) := HB.out.size
  have HML : Hid (m ≤ 500) := by have := HN.out; have := HM1.out; simp only [Hid]; omega
  clear ho hb
  go_wp2
  exact bodyPost_ret (v := .tuple #[.slice B m c', .int .i64 0]) (by simp [results, Try.results15, go_sem]) rfl ⟨_, _, _, rfl, HM1.out, Rr.of_own HO.out, HB.out⟩
theorem raccept_any (A : Option Addr) (n c a b : Nat) (l : List Rw) (w : World) (hn : n = l.length) (hR : Rr w A l) (hl : n ≤ 200) (hI : Inv l) : Calls Try.prog 24 #[.slice A n c, u a, u b] w (RA2 (accL l a b).1 (accL l a b).2 w) := by
  by_cases h : (1, b, a) ∈ l
  · have e : accL l a b = (wo l a b ++ [(2, a, b)], 0) := by simp [accL, h]
    rw [e]
    exact raccept_yes A n c a b l w hn hR hl hI h (fun e => (hI.ok _ h).2.2.2 e.symm)
  · have e : accL l a b = (l, 12) := by simp [accL, h]
    rw [e]
    exact raccept_no A n c a b l w hn hR hl hI h
theorem rrefuse_any (A : Option Addr) (n c a b : Nat) (l : List Rw) (w : World) (hn : n = l.length) (hR : Rr w A l) (hl : n ≤ 200) (hI : Inv l) : Calls Try.prog 25 #[.slice A n c, u a, u b] w (RA2 (refL l a b).1 (refL l a b).2 w) := by
  by_cases h : (1, b, a) ∈ l
  · have e : refL l a b = (wo l a b, 0) := by simp [refL, h]
    rw [e]
    exact rrefuse_yes A n c a b l w hn hR hl hI h (fun e => (hI.ok _ h).2.2.2 e.symm)
  · have e : refL l a b = (l, 12) := by simp [refL, h]
    rw [e]
    exact rrefuse_no A n c a b l w hn hR hl hI h
theorem rremove_any (A : Option Addr) (n c a b : Nat) (l : List Rw) (w : World) (hn : n = l.length) (hR : Rr w A l) (hl : n ≤ 200) (hI : Inv l) : Calls Try.prog 15 #[.slice A n c, u a, u b] w (RA2 (remL l a b).1 (remL l a b).2 w) := by
  by_cases h : (2, a, b) ∈ l ∨ (2, b, a) ∈ l
  · have e : remL l a b = (wo l a b, 0) := by simp [remL, h]
    rw [e]
    exact rremove_yes A n c a b l w hn hR hl hI h (h.elim (fun h => (hI.ok _ h).2.2.2) (fun h e => (hI.ok _ h).2.2.2 e.symm))
  · have e : remL l a b = (l, 12) := by unfold remL; rw [if_neg h]
    rw [e]
    exact rremove_no A n c a b l w hn hR hl hI h
set_option maxHeartbeats 4000000 in
theorem rask_0 (A : Option Addr) (n c a b : Nat) (l : List Rw) (w : World) (hn : n = l.length) (hR : Rr w A l) (hl : n ≤ 200) (hI : Inv l) (h0 : wrongC a b ≠ 0) :
    Calls Try.prog 23 #[.slice A n c, u a, u b] w (RA3 l false (wrongC a b) w) := by
  have H0 := Lib.hid (rwrong_any a b w)
  have H1 := Lib.hid (rblocks_any A n c a b l w hn hR (by omega))
  have H2 := Lib.hid (rblocks_any A n c b a l w hn hR (by omega))
  have H3 := Lib.hid (rare_any A n c a b l w hn hR (by omega))
  have H4 := Lib.hid (rasks_any A n c a b l w hn hR (by omega))
  have H5 := Lib.hid (rasks_any A n c b a l w hn hR (by omega))
  have HR := Lib.hid hR
  have HN := Lib.hid hn
  have HB0 : Hid (Below w.heap.size w w) := Below.refl _ _
  obtain ⟨cc, hc⟩ : ∃ cc, cc = wrongC a b := ⟨_, rfl⟩
  rw [← hc] at h0 H0 ⊢
  clear hc
  clear hn hR hI
  go_enter Try.func23, Try.ntmps23
  go_wp2_with fail
  refine H0.out.mono ?_
  rintro r w' ⟨rfl, hw⟩
  have hw := hw.symm
  subst hw
  go_wp2
  exact bodyPost_ret (v := .tuple #[.slice A n c, .bool false, .int .i64 cc]) (by simp [results, Try.results23, go_sem]) rfl ⟨_, _, _, rfl, HN.out, HR.out, HB0.out⟩
set_option maxHeartbeats 4000000 in
theorem rask_1 (A : Option Addr) (n c a b : Nat) (l : List Rw) (w : World) (hn : n = l.length) (hR : Rr w A l) (hl : n ≤ 200) (hI : Inv l) (h0 : wrongC a b = 0) (h1 : (3, a, b) ∈ l) :
    Calls Try.prog 23 #[.slice A n c, u a, u b] w (RA3 l false 17 w) := by
  have H0 := Lib.hid (rwrong_any a b w)
  have H1 := Lib.hid (rblocks_any A n c a b l w hn hR (by omega))
  have H2 := Lib.hid (rblocks_any A n c b a l w hn hR (by omega))
  have H3 := Lib.hid (rare_any A n c a b l w hn hR (by omega))
  have H4 := Lib.hid (rasks_any A n c a b l w hn hR (by omega))
  have H5 := Lib.hid (rasks_any A n c b a l w hn hR (by omega))
  have HR := Lib.hid hR
  have HN := Lib.hid hn
  have HB0 : Hid (Below w.heap.size w w) := Below.refl _ _
  have e1 : decide ((3, a, b) ∈ l) = true := by simp [h1]
  clear hn hR hI
  go_enter Try.func23, Try.ntmps23
  go_wp2_with fail
  refine H0.out.mono ?_
  rintro r w' ⟨rfl, hw⟩
  have hw := hw.symm
  subst hw
  rw [h0]
  go_wp2_with fail
  refine H1.out.mono ?_
  rintro r w' ⟨rfl, hw⟩
  have hw := hw.symm
  subst hw
  rw [e1]
  go_wp2
  exact bodyPost_ret (v := .tuple #[.slice A n c, .bool false, .int .i64 17]) (by simp [results, Try.results23, go_sem]) rfl ⟨_, _, _, rfl, HN.out, HR.out, HB0.out⟩
set_option maxHeartbeats 4000000 in
theorem rask_2 (A : Option Addr) (n c a b : Nat) (l : List Rw) (w : World) (hn : n = l.length) (hR : Rr w A l) (hl : n ≤ 200) (hI : Inv l) (h0 : wrongC a b = 0) (h1 : (3, a, b) ∉ l) (h2 : (3, b, a) ∈ l) :
    Calls Try.prog 23 #[.slice A n c, u a, u b] w (RA3 l false 17 w) := by
  have H0 := Lib.hid (rwrong_any a b w)
  have H1 := Lib.hid (rblocks_any A n c a b l w hn hR (by omega))
  have H2 := Lib.hid (rblocks_any A n c b a l w hn hR (by omega))
  have H3 := Lib.hid (rare_any A n c a b l w hn hR (by omega))
  have H4 := Lib.hid (rasks_any A n c a b l w hn hR (by omega))
  have H5 := Lib.hid (rasks_any A n c b a l w hn hR (by omega))
  have HR := Lib.hid hR
  have HN := Lib.hid hn
  have HB0 : Hid (Below w.heap.size w w) := Below.refl _ _
  have e1 : decide ((3, a, b) ∈ l) = false := by simp [h1]
  have e2 : decide ((3, b, a) ∈ l) = true := by simp [h2]
  clear hn hR hI
  go_enter Try.func23, Try.ntmps23
  go_wp2_with fail
  refine H0.out.mono ?_
  rintro r w' ⟨rfl, hw⟩
  have hw := hw.symm
  subst hw
  rw [h0]
  go_wp2_with fail
  refine H1.out.mono ?_
  rintro r w' ⟨rfl, hw⟩
  have hw := hw.symm
  subst hw
  rw [e1]
  go_wp2_with fail
  refine H2.out.mono ?_
  rintro r w' ⟨rfl, hw⟩
  have hw := hw.symm
  subst hw
  rw [e2]
  go_wp2
  exact bodyPost_ret (v := .tuple #[.slice A n c, .bool false, .int .i64 17]) (by simp [results, Try.results23, go_sem]) rfl ⟨_, _, _, rfl, HN.out, HR.out, HB0.out⟩
set_option maxHeartbeats 4000000 in
theorem rask_3 (A : Option Addr) (n c a b : Nat) (l : List Rw) (w : World) (hn : n = l.length) (hR : Rr w A l) (hl : n ≤ 200) (hI : Inv l) (h0 : wrongC a b = 0) (h1 : (3, a, b) ∉ l) (h2 : (3, b, a) ∉ l) (h3 : areB l a b = true) :
    Calls Try.prog 23 #[.slice A n c, u a, u b] w (RA3 l false 11 w) := by
  have H0 := Lib.hid (rwrong_any a b w)
  have H1 := Lib.hid (rblocks_any A n c a b l w hn hR (by omega))
  have H2 := Lib.hid (rblocks_any A n c b a l w hn hR (by omega))
  have H3 := Lib.hid (rare_any A n c a b l w hn hR (by omega))
  have H4 := Lib.hid (rasks_any A n c a b l w hn hR (by omega))
  have H5 := Lib.hid (rasks_any A n c b a l w hn hR (by omega))
  have HR := Lib.hid hR
  have HN := Lib.hid hn
  have HB0 : Hid (Below w.heap.size w w) := Below.refl _ _
  have e1 : decide ((3, a, b) ∈ l) = false := by simp [h1]
  have e2 : decide ((3, b, a) ∈ l) = false := by simp [h2]
  clear hn hR hI
  go_enter Try.func23, Try.ntmps23
  go_wp2_with fail
  refine H0.out.mono ?_
  rintro r w' ⟨rfl, hw⟩
  have hw := hw.symm
  subst hw
  rw [h0]
  go_wp2_with fail
  refine H1.out.mono ?_
  rintro r w' ⟨rfl, hw⟩
  have hw := hw.symm
  subst hw
  rw [e1]
  go_wp2_with fail
  refine H2.out.mono ?_
  rintro r w' ⟨rfl, hw⟩
  have hw := hw.symm
  subst hw
  rw [e2]
  go_wp2_with fail
  refine H3.out.mono ?_
  rintro r w' ⟨rfl, hw⟩
  have hw := hw.symm
  subst hw
  rw [h3]
  go_wp2
  exact bodyPost_ret (v := .tuple #[.slice A n c, .bool false, .int .i64 11]) (by simp [results, Try.results23, go_sem]) rfl ⟨_, _, _, rfl, HN.out, HR.out, HB0.out⟩
set_option maxHeartbeats 4000000 in
theorem rask_4 (A : Option Addr) (n c a b : Nat) (l : List Rw) (w : World) (hn : n = l.length) (hR : Rr w A l) (hl : n ≤ 200) (hI : Inv l) (h0 : wrongC a b = 0) (h1 : (3, a, b) ∉ l) (h2 : (3, b, a) ∉ l) (h3 : areB l a b = false) (h4 : (1, a, b) ∈ l) :
    Calls Try.prog 23 #[.slice A n c, u a, u b] w (RA3 l false 11 w) := by
  have H0 := Lib.hid (rwrong_any a b w)
  have H1 := Lib.hid (rblocks_any A n c a b l w hn hR (by omega))
  have H2 := Lib.hid (rblocks_any A n c b a l w hn hR (by omega))
  have H3 := Lib.hid (rare_any A n c a b l w hn hR (by omega))
  have H4 := Lib.hid (rasks_any A n c a b l w hn hR (by omega))
  have H5 := Lib.hid (rasks_any A n c b a l w hn hR (by omega))
  have HR := Lib.hid hR
  have HN := Lib.hid hn
  have HB0 : Hid (Below w.heap.size w w) := Below.refl _ _
  have e1 : decide ((3, a, b) ∈ l) = false := by simp [h1]
  have e2 : decide ((3, b, a) ∈ l) = false := by simp [h2]
  have e4 : decide ((1, a, b) ∈ l) = true := by simp [h4]
  clear hn hR hI
  go_enter Try.func23, Try.ntmps23
  go_wp2_with fail
  refine H0.out.mono ?_
  rintro r w' ⟨rfl, hw⟩
  have hw := hw.symm
  subst hw
  rw [h0]
  go_wp2_with fail
  refine H1.out.mono ?_
  rintro r w' ⟨rfl, hw⟩
  have hw := hw.symm
  subst hw
  rw [e1]
  go_wp2_with fail
  refine H2.out.mono ?_
  rintro r w' ⟨rfl, hw⟩
  have hw := hw.symm
  subst hw
  rw [e2]
  go_wp2_with fail
  refine H3.out.mono ?_
  rintro r w' ⟨rfl, hw⟩
  have hw := hw.symm
  subst hw
  rw [h3]
  go_wp2_with fail
  refine H4.out.mono ?_
  rintro r w' ⟨rfl, hw⟩
  have hw := hw.symm
  subst hw
  rw [e4]
  go_wp2
  exact bodyPost_ret (v := .tuple #[.slice A n c, .bool false, .int .i64 11]) (by simp [results, Try.results23, go_sem]) rfl ⟨_, _, _, rfl, HN.out, HR.out, HB0.out⟩
set_option maxHeartbeats 4000000 in
theorem rask_5 (A : Option Addr) (n c a b : Nat) (l : List Rw) (w : World) (hn : n = l.length) (hR : Rr w A l) (hl : n ≤ 200) (hI : Inv l) (h0 : wrongC a b = 0) (h1 : (3, a, b) ∉ l) (h2 : (3, b, a) ∉ l) (h3 : areB l a b = false) (h4 : (1, a, b) ∉ l) (h5 : (1, b, a) ∈ l) :
    Calls Try.prog 23 #[.slice A n c, u a, u b] w (RA3 (wo l a b ++ [(2, a, b)]) true 0 w) := by
  have H0 := Lib.hid (rwrong_any a b w)
  have H1 := Lib.hid (rblocks_any A n c a b l w hn hR (by omega))
  have H2 := Lib.hid (rblocks_any A n c b a l w hn hR (by omega))
  have H3 := Lib.hid (rare_any A n c a b l w hn hR (by omega))
  have H4 := Lib.hid (rasks_any A n c a b l w hn hR (by omega))
  have H5 := Lib.hid (rasks_any A n c b a l w hn hR (by omega))
  have HR := Lib.hid hR
  have HN := Lib.hid hn
  have HB0 : Hid (Below w.heap.size w w) := Below.refl _ _
  have e1 : decide ((3, a, b) ∈ l) = false := by simp [h1]
  have e2 : decide ((3, b, a) ∈ l) = false := by simp [h2]
  have e4 : decide ((1, a, b) ∈ l) = false := by simp [h4]
  have e5 : decide ((1, b, a) ∈ l) = true := by simp [h5]
  have HW := Lib.hid (without_any A n c a b l w hn hR (by omega) (wrong_ok h0).2.2)
  have hle := wo_le l a b
  clear hn hR hI
  go_enter Try.func23, Try.ntmps23
  go_wp2_with fail
  refine H0.out.mono ?_
  rintro r w' ⟨rfl, hw⟩
  have hw := hw.symm
  subst hw
  rw [h0]
  go_wp2_with fail
  refine H1.out.mono ?_
  rintro r w' ⟨rfl, hw⟩
  have hw := hw.symm
  subst hw
  rw [e1]
  go_wp2_with fail
  refine H2.out.mono ?_
  rintro r w' ⟨rfl, hw⟩
  have hw := hw.symm
  subst hw
  rw [e2]
  go_wp2_with fail
  refine H3.out.mono ?_
  rintro r w' ⟨rfl, hw⟩
  have hw := hw.symm
  subst hw
  rw [h3]
  go_wp2_with fail
  refine H4.out.mono ?_
  rintro r w' ⟨rfl, hw⟩
  have hw := hw.symm
  subst hw
  rw [e4]
  go_wp2_with fail
  refine H5.out.mono ?_
  rintro r w' ⟨rfl, hw⟩
  have hw := hw.symm
  subst hw
  rw [e5]
  go_wp2_with fail
  refine HW.out.mono ?_
  rintro r w1 ⟨B, m, c', rfl, ho, hb⟩
  have HM1 := Lib.hid (own3_len ho)
  have HO := Lib.hid ho
  have HB := Lib.hid hb
  have HSZ : Hid (w.heap.size ≤ w1.heap.size) := HB.out.size
  have HML : Hid (m ≤ 500) := by have := HN.out; have := HM1.out; simp only [Hid]; omega
  clear ho hb
  go_wp2_with (at_builtin; refine wpList_append_rwt rfl _ _ rfl w.heap.size w1.heap.size (.slice B m c') m (wo l a b) (2, a, b) 2 rfl rfl rfl (HO.out.alloc _) (heap_alloc_new _ _) (by have := HML.out; omega) (by have := HSZ.out; simp; omega) ?_; intro v4 w4 hown4 hg4; obtain ⟨B4, c4, rfl⟩ := own3_form hown4; go_frame)
  have HB4 : Hid (Below w.heap.size w w4) := (HB.out.alloc HSZ.out _).grown hg4 (by have := HSZ.out; simp; omega) (fun g h => (own3_lt HO.out g h).1)
  exact bodyPost_ret (v := .tuple #[.slice B4 (m + 1) c4, .bool true, .int .i64 0]) (by simp [results, Try.results23, go_sem]) rfl ⟨_, _, _, rfl, own3_len hown4, Rr.of_own hown4, HB4.out⟩
set_option maxHeartbeats 4000000 in
theorem rask_6 (A : Option Addr) (n c a b : Nat) (l : List Rw) (w : World) (hn : n = l.length) (hR : Rr w A l) (hl : n ≤ 200) (hI : Inv l) (h0 : wrongC a b = 0) (h1 : (3, a, b) ∉ l) (h2 : (3, b, a) ∉ l) (h3 : areB l a b = false) (h4 : (1, a, b) ∉ l) (h5 : (1, b, a) ∉ l) (f1 : 16 ≤ cw l a) :
    Calls Try.prog 23 #[.slice A n c, u a, u b] w (RA3 l false 10 w) := by
  have H0 := Lib.hid (rwrong_any a b w)
  have H1 := Lib.hid (rblocks_any A n c a b l w hn hR (by omega))
  have H2 := Lib.hid (rblocks_any A n c b a l w hn hR (by omega))
  have H3 := Lib.hid (rare_any A n c a b l w hn hR (by omega))
  have H4 := Lib.hid (rasks_any A n c a b l w hn hR (by omega))
  have H5 := Lib.hid (rasks_any A n c b a l w hn hR (by omega))
  have HR := Lib.hid hR
  have HN := Lib.hid hn
  have HB0 : Hid (Below w.heap.size w w) := Below.refl _ _
  have e1 : decide ((3, a, b) ∈ l) = false := by simp [h1]
  have e2 : decide ((3, b, a) ∈ l) = false := by simp [h2]
  have e4 : decide ((1, a, b) ∈ l) = false := by simp [h4]
  have e5 : decide ((1, b, a) ∈ l) = false := by simp [h5]
  have HF1 := Lib.hid (rfull_any A n c a l w hn hR hl hI)
  have hf1 : decide (16 ≤ cw l a) = true := by simp [f1]
  rw [hf1] at HF1
  clear hn hR hI
  go_enter Try.func23, Try.ntmps23
  go_wp2_with fail
  refine H0.out.mono ?_
  rintro r w' ⟨rfl, hw⟩
  have hw := hw.symm
  subst hw
  rw [h0]
  go_wp2_with fail
  refine H1.out.mono ?_
  rintro r w' ⟨rfl, hw⟩
  have hw := hw.symm
  subst hw
  rw [e1]
  go_wp2_with fail
  refine H2.out.mono ?_
  rintro r w' ⟨rfl, hw⟩
  have hw := hw.symm
  subst hw
  rw [e2]
  go_wp2_with fail
  refine H3.out.mono ?_
  rintro r w' ⟨rfl, hw⟩
  have hw := hw.symm
  subst hw
  rw [h3]
  go_wp2_with fail
  refine H4.out.mono ?_
  rintro r w' ⟨rfl, hw⟩
  have hw := hw.symm
  subst hw
  rw [e4]
  go_wp2_with fail
  refine H5.out.mono ?_
  rintro r w' ⟨rfl, hw⟩
  have hw := hw.symm
  subst hw
  rw [e5]
  go_wp2_with fail
  refine HF1.out.mono ?_
  rintro r w' ⟨rfl, g1⟩
  have HB1 := Lib.hid g1
  clear g1
  go_wp2
  exact bodyPost_ret (v := .tuple #[.slice A n c, .bool false, .int .i64 10]) (by simp [results, Try.results23, go_sem]) rfl ⟨_, _, _, rfl, HN.out, HR.out.below HB1.out, HB1.out⟩
set_option maxHeartbeats 4000000 in
theorem rask_7 (A : Option Addr) (n c a b : Nat) (l : List Rw) (w : World) (hn : n = l.length) (hR : Rr w A l) (hl : n ≤ 200) (hI : Inv l) (h0 : wrongC a b = 0) (h1 : (3, a, b) ∉ l) (h2 : (3, b, a) ∉ l) (h3 : areB l a b = false) (h4 : (1, a, b) ∉ l) (h5 : (1, b, a) ∉ l) (f1 : ¬ 16 ≤ cw l a) (f2 : 16 ≤ cw l b) :
    Calls Try.prog 23 #[.slice A n c, u a, u b] w (RA3 l false 10 w) := by
  have H0 := Lib.hid (rwrong_any a b w)
  have H1 := Lib.hid (rblocks_any A n c a b l w hn hR (by omega))
  have H2 := Lib.hid (rblocks_any A n c b a l w hn hR (by omega))
  have H3 := Lib.hid (rare_any A n c a b l w hn hR (by omega))
  have H4 := Lib.hid (rasks_any A n c a b l w hn hR (by omega))
  have H5 := Lib.hid (rasks_any A n c b a l w hn hR (by omega))
  have HR := Lib.hid hR
  have HN := Lib.hid hn
  have HB0 : Hid (Below w.heap.size w w) := Below.refl _ _
  have e1 : decide ((3, a, b) ∈ l) = false := by simp [h1]
  have e2 : decide ((3, b, a) ∈ l) = false := by simp [h2]
  have e4 : decide ((1, a, b) ∈ l) = false := by simp [h4]
  have e5 : decide ((1, b, a) ∈ l) = false := by simp [h5]
  have HF1 := Lib.hid (rfull_any A n c a l w hn hR hl hI)
  have hf1 : decide (16 ≤ cw l a) = false := by simp [f1]
  rw [hf1] at HF1
  have HF2 : Hid (∀ W, Below w.heap.size w W → Calls Try.prog 44 #[.slice A n c, u b] W fun r w' => r = .returned (.bool (decide (16 ≤ cw l b))) ∧ Below W.heap.size W w') := fun W hW => rfull_any A n c b l W hn (hR.below hW) hl hI
  have hf2 : decide (16 ≤ cw l b) = true := by simp [f2]
  rw [hf2] at HF2
  clear hn hR hI
  go_enter Try.func23, Try.ntmps23
  go_wp2_with fail
  refine H0.out.mono ?_
  rintro r w' ⟨rfl, hw⟩
  have hw := hw.symm
  subst hw
  rw [h0]
  go_wp2_with fail
  refine H1.out.mono ?_
  rintro r w' ⟨rfl, hw⟩
  have hw := hw.symm
  subst hw
  rw [e1]
  go_wp2_with fail
  refine H2.out.mono ?_
  rintro r w' ⟨rfl, hw⟩
  have hw := hw.symm
  subst hw
  rw [e2]
  go_wp2_with fail
  refine H3.out.mono ?_
  rintro r w' ⟨rfl, hw⟩
  have hw := hw.symm
  subst hw
  rw [h3]
  go_wp2_with fail
  refine H4.out.mono ?_
  rintro r w' ⟨rfl, hw⟩
  have hw := hw.symm
  subst hw
  rw [e4]
  go_wp2_with fail
  refine H5.out.mono ?_
  rintro r w' ⟨rfl, hw⟩
  have hw := hw.symm
  subst hw
  rw [e5]
  go_wp2_with fail
  refine HF1.out.mono ?_
  rintro r w' ⟨rfl, g1⟩
  have HB1 := Lib.hid g1
  clear g1
  go_wp2_with fail
  refine (HF2.out _ HB1.out).mono ?_
  rintro r w2 ⟨rfl, g2⟩
  have HB2 : Hid (Below w.heap.size w w2) := HB1.out.trans (g2.mono HB1.out.size)
  clear g2
  go_wp2
  exact bodyPost_ret (v := .tuple #[.slice A n c, .bool false, .int .i64 10]) (by simp [results, Try.results23, go_sem]) rfl ⟨_, _, _, rfl, HN.out, HR.out.below HB2.out, HB2.out⟩
set_option maxHeartbeats 4000000 in
theorem rask_8 (A : Option Addr) (n c a b : Nat) (l : List Rw) (w : World) (hn : n = l.length) (hR : Rr w A l) (hl : n ≤ 200) (hI : Inv l) (h0 : wrongC a b = 0) (h1 : (3, a, b) ∉ l) (h2 : (3, b, a) ∉ l) (h3 : areB l a b = false) (h4 : (1, a, b) ∉ l) (h5 : (1, b, a) ∉ l) (f1 : ¬ 16 ≤ cw l a) (f2 : ¬ 16 ≤ cw l b) :
    Calls Try.prog 23 #[.slice A n c, u a, u b] w (RA3 (l ++ [(1, a, b)]) false 0 w) := by
  have H0 := Lib.hid (rwrong_any a b w)
  have H1 := Lib.hid (rblocks_any A n c a b l w hn hR (by omega))
  have H2 := Lib.hid (rblocks_any A n c b a l w hn hR (by omega))
  have H3 := Lib.hid (rare_any A n c a b l w hn hR (by omega))
  have H4 := Lib.hid (rasks_any A n c a b l w hn hR (by omega))
  have H5 := Lib.hid (rasks_any A n c b a l w hn hR (by omega))
  have HR := Lib.hid hR
  have HN := Lib.hid hn
  have HB0 : Hid (Below w.heap.size w w) := Below.refl _ _
  have e1 : decide ((3, a, b) ∈ l) = false := by simp [h1]
  have e2 : decide ((3, b, a) ∈ l) = false := by simp [h2]
  have e4 : decide ((1, a, b) ∈ l) = false := by simp [h4]
  have e5 : decide ((1, b, a) ∈ l) = false := by simp [h5]
  have HF1 := Lib.hid (rfull_any A n c a l w hn hR hl hI)
  have hf1 : decide (16 ≤ cw l a) = false := by simp [f1]
  rw [hf1] at HF1
  have HF2 : Hid (∀ W, Below w.heap.size w W → Calls Try.prog 44 #[.slice A n c, u b] W fun r w' => r = .returned (.bool (decide (16 ≤ cw l b))) ∧ Below W.heap.size W w') := fun W hW => rfull_any A n c b l W hn (hR.below hW) hl hI
  have hf2 : decide (16 ≤ cw l b) = false := by simp [f2]
  rw [hf2] at HF2
  clear hn hR hI
  go_enter Try.func23, Try.ntmps23
  go_wp2_with fail
  refine H0.out.mono ?_
  rintro r w' ⟨rfl, hw⟩
  have hw := hw.symm
  subst hw
  rw [h0]
  go_wp2_with fail
  refine H1.out.mono ?_
  rintro r w' ⟨rfl, hw⟩
  have hw := hw.symm
  subst hw
  rw [e1]
  go_wp2_with fail
  refine H2.out.mono ?_
  rintro r w' ⟨rfl, hw⟩
  have hw := hw.symm
  subst hw
  rw [e2]
  go_wp2_with fail
  refine H3.out.mono ?_
  rintro r w' ⟨rfl, hw⟩
  have hw := hw.symm
  subst hw
  rw [h3]
  go_wp2_with fail
  refine H4.out.mono ?_
  rintro r w' ⟨rfl, hw⟩
  have hw := hw.symm
  subst hw
  rw [e4]
  go_wp2_with fail
  refine H5.out.mono ?_
  rintro r w' ⟨rfl, hw⟩
  have hw := hw.symm
  subst hw
  rw [e5]
  go_wp2_with fail
  refine HF1.out.mono ?_
  rintro r w' ⟨rfl, g1⟩
  have HB1 := Lib.hid g1
  clear g1
  go_wp2_with fail
  refine (HF2.out _ HB1.out).mono ?_
  rintro r w2 ⟨rfl, g2⟩
  have HB2 : Hid (Below w.heap.size w w2) := HB1.out.trans (g2.mono HB1.out.size)
  clear g2
  have HE : Hid ((w2.alloc (.cells #[] 70)).ownsRow w2.heap.size 70 3 (.slice (some ⟨w2.heap.size, 0, none⟩) 0 0) 0 []) := World.ownsRow_made w2 #[] 0 (Nat.le_refl _) (by unfold maxLen; omega) rfl
  have HRW : Hid (Rr (w2.alloc (.cells #[] 70)) A l) := (HR.out.below HB2.out).below ((Below.refl _ _).alloc (Nat.le_refl _) _)
  have HBA : Hid (Below w.heap.size w (w2.alloc (.cells #[] 70))) := HB2.out.alloc HB2.out.size _
  have HSZ : Hid (w.heap.size ≤ w2.heap.size) := HB2.out.size
  go_wp2_with (first
    | (at_builtin; refine wpList_append_rows rfl _ _ rfl w2.heap.size w2.heap.size A n c l rfl rfl HE.out HN.out HRW.out (by omega) (by simp) ?_; intro v4 w4 hown4 hg4; obtain ⟨B4, c4, rfl⟩ := own3_form hown4; have HO4 := Lib.hid hown4; have HB4 : Hid (Below w.heap.size w w4) := HBA.out.grown hg4 (by have := HSZ.out; simp; omega) (fun g h => by injection h with h; have := HSZ.out; omega); have HS4 : Hid (w2.heap.size ≤ w4.heap.size) := by { have := hg4.size; simp only [Hid]; simp at this; omega }; clear hown4 hg4; go_frame)
    | (at_builtin; refine wpList_append_rwt rfl _ _ rfl w2.heap.size w4.heap.size (.slice B4 n c4) n l (1, a, b) 1 rfl rfl rfl (HO4.out.alloc _) (heap_alloc_new _ _) (by omega) (by have := HS4.out; simp; omega) ?_; intro v5 w5 hown5 hg5; obtain ⟨B5, c5, rfl⟩ := own3_form hown5; go_frame))
  have HB5 : Hid (Below w.heap.size w w5) := (HB4.out.alloc (by have := HSZ.out; have := HS4.out; omega) _).grown hg5 (by have := HSZ.out; have := HS4.out; simp; omega) (fun g h => Nat.le_trans HSZ.out (own3_lt HO4.out g h).1)
  exact bodyPost_ret (v := .tuple #[.slice B5 (n + 1) c5, .bool false, .int .i64 0]) (by simp [results, Try.results23, go_sem]) rfl ⟨_, _, _, rfl, own3_len hown5, Rr.of_own hown5, HB5.out⟩
theorem rask_any (A : Option Addr) (n c a b : Nat) (l : List Rw) (w : World) (hn : n = l.length) (hR : Rr w A l) (hl : n ≤ 200) (hI : Inv l) : Calls Try.prog 23 #[.slice A n c, u a, u b] w (RA3 (askL l a b).1 (askL l a b).2.1 (askL l a b).2.2 w) := by
  by_cases h0 : wrongC a b = 0
  · by_cases h1 : (3, a, b) ∈ l
    · have e : askL l a b = (l, false, 17) := by unfold askL; rw [if_neg (Classical.not_not.2 h0), if_pos (.inl h1)]
      rw [e]
      exact rask_1 A n c a b l w hn hR hl hI h0 h1
    · by_cases h2 : (3, b, a) ∈ l
      · have e : askL l a b = (l, false, 17) := by unfold askL; rw [if_neg (Classical.not_not.2 h0), if_pos (.inr h2)]
        rw [e]
        exact rask_2 A n c a b l w hn hR hl hI h0 h1 h2
      · cases h3 : areB l a b
        · by_cases h4 : (1, a, b) ∈ l
          · have e : askL l a b = (l, false, 11) := by unfold askL; rw [if_neg (Classical.not_not.2 h0), if_neg (fun e => e.elim h1 h2), if_pos (.inr h4)]
            rw [e]
            exact rask_4 A n c a b l w hn hR hl hI h0 h1 h2 h3 h4
          · by_cases h5 : (1, b, a) ∈ l
            · have e : askL l a b = (wo l a b ++ [(2, a, b)], true, 0) := by unfold askL; rw [if_neg (Classical.not_not.2 h0), if_neg (fun e => e.elim h1 h2), if_neg (fun e => e.elim (fun e => by simp [areB] at h3; exact e.elim h3.1 h3.2) h4), if_pos h5]
              rw [e]
              exact rask_5 A n c a b l w hn hR hl hI h0 h1 h2 h3 h4 h5
            · by_cases f1 : 16 ≤ cw l a
              · have e : askL l a b = (l, false, 10) := by unfold askL; rw [if_neg (Classical.not_not.2 h0), if_neg (fun e => e.elim h1 h2), if_neg (fun e => e.elim (fun e => by simp [areB] at h3; exact e.elim h3.1 h3.2) h4), if_neg h5, if_pos (.inl f1)]
                rw [e]
                exact rask_6 A n c a b l w hn hR hl hI h0 h1 h2 h3 h4 h5 f1
              · by_cases f2 : 16 ≤ cw l b
                · have e : askL l a b = (l, false, 10) := by unfold askL; rw [if_neg (Classical.not_not.2 h0), if_neg (fun e => e.elim h1 h2), if_neg (fun e => e.elim (fun e => by simp [areB] at h3; exact e.elim h3.1 h3.2) h4), if_neg h5, if_pos (.inr f2)]
                  rw [e]
                  exact rask_7 A n c a b l w hn hR hl hI h0 h1 h2 h3 h4 h5 f1 f2
                · have e : askL l a b = (l ++ [(1, a, b)], false, 0) := by unfold askL; rw [if_neg (Classical.not_not.2 h0), if_neg (fun e => e.elim h1 h2), if_neg (fun e => e.elim (fun e => by simp [areB] at h3; exact e.elim h3.1 h3.2) h4), if_neg h5, if_neg (fun e => e.elim f1 f2)]
                  rw [e]
                  exact rask_8 A n c a b l w hn hR hl hI h0 h1 h2 h3 h4 h5 f1 f2
        · have e : askL l a b = (l, false, 11) := by unfold askL; rw [if_neg (Classical.not_not.2 h0), if_neg (fun e => e.elim h1 h2), if_pos (.inl (by simpa [areB] using h3))]
          rw [e]
          exact rask_3 A n c a b l w hn hR hl hI h0 h1 h2 h3
  · have e : askL l a b = (l, false, wrongC a b) := by unfold askL; rw [if_pos h0]
    rw [e]
    exact rask_0 A n c a b l w hn hR hl hI h0
set_option maxHeartbeats 4000000 in
theorem rblock_0 (A : Option Addr) (n c a b : Nat) (l : List Rw) (w : World) (hn : n = l.length) (hR : Rr w A l) (hl : n ≤ 200) (hI : Inv l) (h0 : wrongC a b ≠ 0) :
    Calls Try.prog 26 #[.slice A n c, u a, u b] w (RA3 l false (wrongC a b) w) := by
  have H0 := Lib.hid (rwrong_any a b w)
  have H1 := Lib.hid (rblocks_any A n c a b l w hn hR (by omega))
  have HR := Lib.hid hR
  have HN := Lib.hid hn
  have HB0 : Hid (Below w.heap.size w w) := Below.refl _ _
  obtain ⟨cc, hc⟩ : ∃ cc, cc = wrongC a b := ⟨_, rfl⟩
  rw [← hc] at h0 H0 ⊢
  clear hc
  clear hn hR hI
  go_enter Try.func26, Try.ntmps26
  go_wp2_with fail
  refine H0.out.mono ?_
  rintro r w' ⟨rfl, hw⟩
  have hw := hw.symm
  subst hw
  go_wp2
  exact bodyPost_ret (v := .tuple #[.slice A n c, .bool false, .int .i64 cc]) (by simp [results, Try.results26, go_sem]) rfl ⟨_, _, _, rfl, HN.out, HR.out, HB0.out⟩
set_option maxHeartbeats 4000000 in
theorem rblock_1 (A : Option Addr) (n c a b : Nat) (l : List Rw) (w : World) (hn : n = l.length) (hR : Rr w A l) (hl : n ≤ 200) (hI : Inv l) (h0 : wrongC a b = 0) (h1 : (3, a, b) ∈ l) :
    Calls Try.prog 26 #[.slice A n c, u a, u b] w (RA3 l false 11 w) := by
  have H0 := Lib.hid (rwrong_any a b w)
  have H1 := Lib.hid (rblocks_any A n c a b l w hn hR (by omega))
  have HR := Lib.hid hR
  have HN := Lib.hid hn
  have HB0 : Hid (Below w.heap.size w w) := Below.refl _ _
  have e1 : decide ((3, a, b) ∈ l) = true := by simp [h1]
  clear hn hR hI
  go_enter Try.func26, Try.ntmps26
  go_wp2_with fail
  refine H0.out.mono ?_
  rintro r w' ⟨rfl, hw⟩
  have hw := hw.symm
  subst hw
  rw [h0]
  go_wp2_with fail
  refine H1.out.mono ?_
  rintro r w' ⟨rfl, hw⟩
  have hw := hw.symm
  subst hw
  rw [e1]
  go_wp2
  exact bodyPost_ret (v := .tuple #[.slice A n c, .bool false, .int .i64 11]) (by simp [results, Try.results26, go_sem]) rfl ⟨_, _, _, rfl, HN.out, HR.out, HB0.out⟩
set_option maxHeartbeats 4000000 in
theorem rblock_2 (A : Option Addr) (n c a b : Nat) (l : List Rw) (w : World) (hn : n = l.length) (hR : Rr w A l) (hl : n ≤ 200) (hI : Inv l) (h0 : wrongC a b = 0) (h1 : (3, a, b) ∉ l) (f1 : 16 ≤ (whom l 3 a).length) :
    Calls Try.prog 26 #[.slice A n c, u a, u b] w (RA3 l false 10 w) := by
  have H0 := Lib.hid (rwrong_any a b w)
  have H1 := Lib.hid (rblocks_any A n c a b l w hn hR (by omega))
  have HR := Lib.hid hR
  have HN := Lib.hid hn
  have HB0 : Hid (Below w.heap.size w w) := Below.refl _ _
  have e1 : decide ((3, a, b) ∈ l) = false := by simp [h1]
  obtain ⟨k3, hk3⟩ : ∃ m, m = (whom l 3 a).length := ⟨_, rfl⟩
  rw [← hk3] at f1
  have HTO : Hid (Calls Try.prog 29 #[.slice A n c, .int .i64 3, u a] w fun r w' => ∃ A c, r = .returned (.slice A k3 c) ∧ Below w.heap.size w w') := (rto_any A n c 3 a l w hn hR hl hI).mono fun r w' h => by rw [hk3]; exact RL.len h (hI.nd_whom 3 a)
  have f2 :  (16 : Int) ≤ (k3 : Int) := by omega
  clear hk3
  clear hn hR hI
  go_enter Try.func26, Try.ntmps26
  go_wp2_with fail
  refine H0.out.mono ?_
  rintro r w' ⟨rfl, hw⟩
  have hw := hw.symm
  subst hw
  rw [h0]
  go_wp2_with fail
  refine H1.out.mono ?_
  rintro r w' ⟨rfl, hw⟩
  have hw := hw.symm
  subst hw
  rw [e1]
  go_wp2_with fail
  refine HTO.out.mono ?_
  rintro r w1 ⟨A1, c1, rfl, g1⟩
  have HB1 := Lib.hid g1
  clear g1
  go_wp2
  exact bodyPost_ret (v := .tuple #[.slice A n c, .bool false, .int .i64 10]) (by simp [results, Try.results26, go_sem]) rfl ⟨_, _, _, rfl, HN.out, HR.out.below HB1.out, HB1.out⟩
set_option maxHeartbeats 4000000 in
theorem rblock_3 (A : Option Addr) (n c a b : Nat) (l : List Rw) (w : World) (hn : n = l.length) (hR : Rr w A l) (hl : n ≤ 200) (hI : Inv l) (h0 : wrongC a b = 0) (h1 : (3, a, b) ∉ l) (f1 : ¬ 16 ≤ (whom l 3 a).length) :
    Calls Try.prog 26 #[.slice A n c, u a, u b] w (RA3 (wo l a b ++ [(3, a, b)]) (areB l a b) 0 w) := by
  have H0 := Lib.hid (rwrong_any a b w)
  have H1 := Lib.hid (rblocks_any A n c a b l w hn hR (by omega))
  have HR := Lib.hid hR
  have HN := Lib.hid hn
  have HB0 : Hid (Below w.heap.size w w) := Below.refl _ _
  have e1 : decide ((3, a, b) ∈ l) = false := by simp [h1]
  obtain ⟨k3, hk3⟩ : ∃ m, m = (whom l 3 a).length := ⟨_, rfl⟩
  rw [← hk3] at f1
  have HTO : Hid (Calls Try.prog 29 #[.slice A n c, .int .i64 3, u a] w fun r w' => ∃ A c, r = .returned (.slice A k3 c) ∧ Below w.heap.size w w') := (rto_any A n c 3 a l w hn hR hl hI).mono fun r w' h => by rw [hk3]; exact RL.len h (hI.nd_whom 3 a)
  have f2 : ¬ (16 : Int) ≤ (k3 : Int) := by omega
  clear hk3
  have HW : Hid (∀ W, Below w.heap.size w W → Calls Try.prog 37 #[.slice A n c, u a, u b] W fun r w' => ∃ B m c', r = .returned (.slice B m c') ∧ w'.ownsRow W.heap.size 70 3 (.slice B m c') m (rw3 (wo l a b)) ∧ Below W.heap.size W w') := fun W hW => without_any A n c a b l W hn (hR.below hW) (by omega) (wrong_ok h0).2.2
  have HAR : Hid (∀ W, Below w.heap.size w W → Calls Try.prog 11 #[.slice A n c, u a, u b] W fun r w' => r = .returned (.bool (areB l a b)) ∧ w' = W) := fun W hW => rare_any A n c a b l W hn (hR.below hW) (by omega)
  have hle := wo_le l a b
  clear hn hR hI
  go_enter Try.func26, Try.ntmps26
  go_wp2_with fail
  refine H0.out.mono ?_
  rintro r w' ⟨rfl, hw⟩
  have hw := hw.symm
  subst hw
  rw [h0]
  go_wp2_with fail
  refine H1.out.mono ?_
  rintro r w' ⟨rfl, hw⟩
  have hw := hw.symm
  subst hw
  rw [e1]
  go_wp2_with fail
  refine HTO.out.mono ?_
  rintro r w1 ⟨A1, c1, rfl, g1⟩
  have HB1 := Lib.hid g1
  clear g1
  go_wp2_with fail
  refine (HW.out w1 HB1.out).mono ?_
  rintro r w2 ⟨B, m, c', rfl, ho, hb⟩
  have HM1 := Lib.hid (own3_len ho)
  have HO := Lib.hid ho
  have HB : Hid (Below w.heap.size w w2) := HB1.out.trans (hb.mono HB1.out.size)
  have HSZ : Hid (w1.heap.size ≤ w2.heap.size) := hb.size
  have HS1 : Hid (w.heap.size ≤ w1.heap.size) := HB1.out.size
  have HML : Hid (m ≤ 500) := by have := HN.out; have := HM1.out; simp only [Hid]; omega
  clear ho hb
  go_wp2_with (first
    | (at_builtin; refine wpList_append_rwt rfl _ _ rfl w1.heap.size w2.heap.size (.slice B m c') m (wo l a b) (3, a, b) 3 rfl rfl rfl (HO.out.alloc _) (heap_alloc_new _ _) (by have := HML.out; omega) (by have := HSZ.out; simp; omega) ?_; intro v4 w4 hown4 hg4; obtain ⟨B4, c4, rfl⟩ := own3_form hown4; have HB4 : Hid (Below w.heap.size w w4) := (HB.out.alloc (by have h1 := HSZ.out; have h2 := HS1.out; omega) _).grown hg4 (by have h1 := HSZ.out; have h2 := HS1.out; simp; omega) (fun g h => Nat.le_trans HS1.out (own3_lt HO.out g h).1); have HO4 := Lib.hid hown4; clear hown4 hg4; go_frame)
    | (go_at_call 11; refine (HAR.out _ HB4.out).mono ?_; rintro r w5 ⟨rfl, hw5⟩; have hw5 := hw5.symm; subst hw5))
  exact bodyPost_ret (v := .tuple #[.slice B4 (m + 1) c4, .bool (areB l a b), .int .i64 0]) (by simp [results, Try.results26, go_sem]) rfl ⟨_, _, _, rfl, own3_len HO4.out, Rr.of_own HO4.out, HB4.out⟩
theorem rblock_any (A : Option Addr) (n c a b : Nat) (l : List Rw) (w : World) (hn : n = l.length) (hR : Rr w A l) (hl : n ≤ 200) (hI : Inv l) : Calls Try.prog 26 #[.slice A n c, u a, u b] w (RA3 (bloL l a b).1 (bloL l a b).2.1 (bloL l a b).2.2 w) := by
  by_cases h0 : wrongC a b = 0
  · by_cases h1 : (3, a, b) ∈ l
    · have e : bloL l a b = (l, false, 11) := by unfold bloL; rw [if_neg (Classical.not_not.2 h0), if_pos h1]
      rw [e]
      exact rblock_1 A n c a b l w hn hR hl hI h0 h1
    · by_cases f1 : 16 ≤ (whom l 3 a).length
      · have e : bloL l a b = (l, false, 10) := by unfold bloL; rw [if_neg (Classical.not_not.2 h0), if_neg h1, if_pos f1]
        rw [e]
        exact rblock_2 A n c a b l w hn hR hl hI h0 h1 f1
      · have e : bloL l a b = (wo l a b ++ [(3, a, b)], areB l a b, 0) := by unfold bloL; rw [if_neg (Classical.not_not.2 h0), if_neg h1, if_neg f1]
        rw [e]
        exact rblock_3 A n c a b l w hn hR hl hI h0 h1 f1
  · have e : bloL l a b = (l, false, wrongC a b) := by unfold bloL; rw [if_pos h0]
    rw [e]
    exact rblock_0 A n c a b l w hn hR hl hI h0
end Go.Proofs.Ytohcibmlkngaeaa
