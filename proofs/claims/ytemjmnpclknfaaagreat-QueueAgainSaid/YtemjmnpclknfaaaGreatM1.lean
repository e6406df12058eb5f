/- Queue: U5, U6, U7, U8, U9, one behind the other. -/
import Derived.Test.YtemjmnpclknfaaaGreatU4
import Derived.Laws.CopyOwn
import Derived.Deep.OwnRows
/- Queue: own. -/
namespace Go.Proofs.YtemjmnpclknfaaaGreat.T
open Go.RowKit
open Go.Proofs.YtemjmnpclknfaaaGreat.P (Sl un)
set_option maxRecDepth 20000
set_option linter.unusedVariables false
set_option linter.unusedSimpArgs false

theorem info26o : (Tryz.prog.info? 33).map (fun i => (i.zero, i.size, i.bytes)) = some (some (.int .u32 0), 1, 4) := by kernel_rfl
theorem size26o : (Tryz.prog.info? 33).map (·.size) = some 1 := by kernel_rfl
set_option maxHeartbeats 4000000 in
theorem own_any (id : Nat) (md rt sn : Int) (s : Sl) (l : List Nat) (w : World) (h1 : s.n = l.length) (hR : P.Rn w s.a l) (hl : l.length ≤ 1000) :
    Calls Tryz.prog 36 #[.agg (mC id md s rt sn)] w fun r w' => ∃ A c, r = .returned (.agg (mC id md ⟨A, l.length, c⟩ rt sn)) ∧ w'.ownsRow w.heap.size 33 1 (.slice A l.length c) l.length (un l) ∧ Below w.heap.size w w' := by
  obtain ⟨sa, n, sc⟩ := s
  have hn : n = l.length := h1
  have hR : P.Rn w sa l := hR
  rw [← hn] at hl ⊢
  clear h1
  obtain ⟨G, hG⟩ : ∃ X, X = w.heap.size := ⟨_, rfl⟩
  obtain ⟨H, hH⟩ : ∃ Y, Y = w.heap.size + 1 := ⟨_, rfl⟩
  obtain ⟨w0, hw0⟩ : ∃ w0, w0 = (w.alloc (.cells (mC id md ⟨sa, n, sc⟩ rt sn) 39)).alloc (.cells mZ 39) := ⟨_, rfl⟩
  have hb0 : Below w.heap.size w w0 := by rw [hw0]; exact ((Below.refl _ _).alloc (Nat.le_refl _) _).alloc (by simp) _
  have hp0 : w0.heap[G]? = some (.cells (mC id md ⟨sa, n, sc⟩ rt sn) 39 (0, 0)) := by
    rw [hw0, hG]
    exact (Below.heap_alloc _ _ _ (by simp)).trans (heap_alloc_new w _)
  have hq0 : w0.heap[H]? = some (.cells mZ 39 (0, 0)) := by
    have h := heap_alloc_new (w.alloc (.cells (mC id md ⟨sa, n, sc⟩ rt sn) 39)) (.cells mZ 39)
    rw [World.size_alloc] at h
    rw [hw0, hH]
    exact h
  obtain ⟨C, hC⟩ : ∃ C, C = madeCells #[(.int .u32 0 : Value)] n := ⟨_, rfl⟩
  have hmk : ∀ W : World, (Instr.makeSlice 34 (.int .i64 (n : Int)) (.int .i64 (n : Int))).run Tryz.prog W = .ok (.slice (some ⟨W.heap.size, 0, none⟩) n n) (W.alloc (.cells C 33)) := fun W => by
    rw [hC]
    exact run_make_row' (P := Tryz.prog) 34 33 (.int .u32 0) 4 Tryz.underlying34 info26o rfl .i64 .i64 n (by omega) (by omega) W
  obtain ⟨D, hD⟩ : ∃ X, X = w0.heap.size := ⟨_, rfl⟩
  obtain ⟨w1, hw1⟩ : ∃ W, W = w0.alloc (.cells C 33) := ⟨_, rfl⟩
  have hb1 : Below w0.heap.size w0 w1 := by rw [hw1]; exact (Below.refl _ _).alloc (Nat.le_refl _) _
  have hd1 : w1.heap[D]? = some (.cells C 33 (0, 0)) := by rw [hw1, hD]; exact heap_alloc_new w0 _
  have hCs : C.size = n := by rw [hC]; simp [madeCells]
  have hp1 := (hb1.block _ (lt_of_block hp0)).trans hp0
  have hq1 := (hb1.block _ (lt_of_block hq0)).trans hq0
  have HR := Lib.hid ((hR.after hb0).after hb1)
  have H0 := Lib.hid hw0
  have HG := Lib.hid hG
  have HH := Lib.hid hH
  have H1 := Lib.hid hw1
  have HD := Lib.hid hD
  have HN := Lib.hid hn
  have HB01 : Hid (Below w.heap.size w w1) := hb0.trans (hb1.mono hb0.size)
  have HLT : Hid (w.heap.size ≤ G ∧ G < H ∧ H < D ∧ w.heap.size ≤ D) := ⟨by omega, by omega, by rw [hD]; exact lt_of_block hq0, by rw [hD]; exact hb0.size⟩
  have HD1 := Lib.hid hd1
  have HP1 := Lib.hid hp1
  have HQ1 := Lib.hid hq1
  have HCS := Lib.hid hCs
  have z0 := cell_of_row w0 G 0 _ _ _ hp0
  have z1 := cell_of_row w0 G 1 _ _ _ hp0
  have z2 := cell_of_row w0 G 2 _ _ _ hp0
  have z3 := cell_of_row w0 G 3 _ _ _ hp0
  have z4 := cell_of_row w0 G 4 _ _ _ hp0
  simp at z0 z1 z2 z3 z4
  clear hw0 hG hH hw1 hD hn hb0 hb1 hp0 hq0 hd1 hp1 hq1 hCs hC hR
  go_enter Tryz.func36, Tryz.ntmps36
  go_upto_region 1 with (fail)
  rw [← H0.out, ← HH.out, ← HG.out]
  go_upto_region 2 with (fail)
  rw [← H1.out, ← HD.out]
  clear z0 z1 z2 z3 z4 hmk
  have z0 := cell_of_row w1 G 0 _ _ _ HP1.out
  have z1 := cell_of_row w1 G 1 _ _ _ HP1.out
  have z2 := cell_of_row w1 G 2 _ _ _ HP1.out
  have z3 := cell_of_row w1 G 3 _ _ _ HP1.out
  have z4 := cell_of_row w1 G 4 _ _ _ HP1.out
  simp at z0 z1 z2 z3 z4
  obtain ⟨w2, hcp, hf2, hb2⟩ : ∃ w2, (∀ ty, (Builtin.copy_ #[34, 34] ty #[.slice (some ⟨D, 0, none⟩) n n, .slice sa n sc]).run Tryz.prog w1 = .ok (goInt (n : Int)) w2) ∧ (w2.heap[D]? = some (.cells (un l).toArray 33 (0, 0)) ∧ w2.heap.size = w1.heap.size ∧ ∀ k, k ≠ D → w2.heap[k]? = w1.heap[k]?) ∧ Below w.heap.size w w2 := by
    by_cases h0 : n = 0
    · have hl0 : l = [] := List.eq_nil_of_length_eq_zero (HN.out.symm.trans h0)
      have hC0 : C = #[] := Array.eq_empty_of_size_eq_zero (HCS.out.trans h0)
      refine ⟨w1, fun ty => ?_, ⟨by rw [HD1.out, hC0, hl0]; rfl, rfl, fun _ _ => rfl⟩, HB01.out⟩
      rw [run_copy_none (P := Tryz.prog) w1 34 34 ty 33 _ _ n n n sc Tryz.underlying34 size26o (by simp [h0]), h0]
      rfl
    · obtain ⟨b, o, rfl, hb, hA⟩ := HR.out (by rw [← HN.out]; omega)
      have hul : (un l).length = n := by rw [HN.out]; simp [un]
      have hrow : (C.toList.take 0 ++ un l ++ C.toList.drop (0 + (un l).length)).toArray = (un l).toArray := by
        rw [List.take_zero, List.nil_append, Nat.zero_add, hul, List.drop_of_length_le (by rw [Array.length_toList, HCS.out]; exact Nat.le_refl _), List.append_nil]
      refine ⟨w1.setRow D (un l).toArray, fun ty => ?_, ⟨setRow_heap w1 D _ _ _ _ HD1.out, by simp, fun k hk => setRow_other w1 D k _ hk⟩, below_setRow HB01.out HLT.out.2.2.2 _⟩
      have h := run_copy_row (P := Tryz.prog) w1 34 34 ty 33 D 0 n n ⟨b, o, none⟩ n sc C 33 (un l) Tryz.underlying34 size26o HD1.out (by rw [hul]; simp) (fun j v hj => by
        rw [Go.WideShapes.add_plain]
        unfold un at hj
        rw [List.getElem?_map] at hj
        obtain ⟨y, hy, rfl⟩ := Option.map_eq_some_iff.1 hj
        exact hA j y hy) (by rw [hul, HCS.out]; omega) (un_one l)
      rw [hrow, hul] at h
      exact h
  have HF := Lib.hid hf2
  have HB2 := Lib.hid hb2
  clear hf2 hb2
  go_upto_region 3 with (at_builtin; refine wpList_copy_runI _ rfl _ _ 34 34 rfl _ _ rfl rfl (hcp _) ?_; clear hcp)
  have hp2 := (HF.out.2.2 G (by have := HLT.out; omega)).trans HP1.out
  have hq2 := (HF.out.2.2 H (by have := HLT.out; omega)).trans HQ1.out
  clear z0 z1 z2 z3 z4
  have z0 := cell_of_row w2 G 0 _ _ _ hp2
  have z1 := cell_of_row w2 G 1 _ _ _ hp2
  have z2 := cell_of_row w2 G 2 _ _ _ hp2
  have z3 := cell_of_row w2 G 3 _ _ _ hp2
  have z4 := cell_of_row w2 G 4 _ _ _ hp2
  simp at z0 z1 z2 z3 z4
  have zf : ∀ i, w2.frozen? ⟨G, i, none⟩ = false := fun i => frozen_of_row _ _ i _ _ hp2
  obtain ⟨w3, hw3⟩ : ∃ W, W = w2.setCell ⟨G, 2, none⟩ (.slice (some ⟨D, 0, none⟩) n n) := ⟨_, rfl⟩
  have hp3 : w3.heap[G]? = some (.cells (mC id md ⟨some ⟨D, 0, none⟩, n, n⟩ rt sn) 39 (0, 0)) := by rw [hw3]; exact heap_setCell_same _ G 2 _ 39 _ hp2
  have ho3 : ∀ k, k ≠ G → w3.heap[k]? = w2.heap[k]? := fun k hk => by rw [hw3]; exact Below.heap_setCell _ _ _ _ hk
  have hq3 := (ho3 H (by have := HLT.out; omega)).trans hq2
  have hd3 := (ho3 D (by have := HLT.out; omega)).trans HF.out.1
  have hb3 : Below w.heap.size w w3 := by rw [hw3]; exact HB2.out.setCell HLT.out.1 _
  have H3 := Lib.hid hw3
  have HT := Lib.hid (three (.int .u32 (id : Int)) (.int .i64 md) (.slice (some ⟨D, 0, none⟩) n n) (.int .i64 rt) (.int .i64 sn) hq3)
  have HTB := Lib.hid (three_below (.int .u32 (id : Int)) (.int .i64 md) (.slice (some ⟨D, 0, none⟩) n n) (.int .i64 rt) (.int .i64 sn) hb3 (by have := HLT.out; omega : w.heap.size ≤ H))
  have HDD : Hid (((((((w3.setCell ⟨H, 0, none⟩ (.int .u32 (id : Int))).setCell ⟨H, 1, none⟩ (.int .i64 md)).setCell ⟨H, 2, none⟩ (.slice (some ⟨D, 0, none⟩) n n)).setCell ⟨H, 3, none⟩ (.int .i64 rt)).setCell ⟨H, 4, none⟩ (.int .i64 sn)).heap[D]?) = some (.cells (un l).toArray 33 (0, 0))) := by
    have hne : D ≠ H := by have := HLT.out; omega
    exact ((((Below.heap_setCell _ _ _ _ hne).trans (Below.heap_setCell _ _ _ _ hne)).trans (Below.heap_setCell _ _ _ _ hne)).trans (Below.heap_setCell _ _ _ _ hne)).trans ((Below.heap_setCell _ _ _ _ hne).trans hd3)
  have y0 := cell_of_row w3 G 0 _ _ _ hp3
  have y1 := cell_of_row w3 G 1 _ _ _ hp3
  have y2 := cell_of_row w3 G 2 _ _ _ hp3
  have y3 := cell_of_row w3 G 3 _ _ _ hp3
  have y4 := cell_of_row w3 G 4 _ _ _ hp3
  simp at y0 y1 y2 y3 y4
  have x0 := cell_of_row w3 H 0 _ _ _ hq3
  have x1 := cell_of_row w3 H 1 _ _ _ hq3
  have x2 := cell_of_row w3 H 2 _ _ _ hq3
  have x3 := cell_of_row w3 H 3 _ _ _ hq3
  have x4 := cell_of_row w3 H 4 _ _ _ hq3
  simp at x0 x1 x2 x3 x4
  have xf : ∀ i, w3.frozen? ⟨H, i, none⟩ = false := fun i => frozen_of_row _ _ i _ _ hq3
  have hn1000 : n ≤ 1000 := hl
  clear hw3 hp3 ho3 hq3 hd3 hb3 hp2 hq2
  go_upto_region 4 with (fail)
  rw [← H3.out]
  clear z0 z1 z2 z3 z4 zf
  go_wp2
  obtain ⟨e0, e1, e2, e3, e4, _⟩ := HT.out
  exact bodyPost_ret (v := .agg (mC id md ⟨some ⟨D, 0, none⟩, n, n⟩ rt sn)) (by simp [results, Tryz.results36, go_sem, e0, e1, e2, e3, e4]) rfl ⟨some ⟨D, 0, none⟩, n, rfl, ⟨by rw [HN.out]; simp [un], .inr ⟨D, n, (un l).toArray, rfl, HLT.out.2.2.2, HDD.out, Nat.le_refl _, by unfold maxLen; omega, by rw [HN.out]; simp [un], by rw [HN.out]; simp only [un]; rw [List.take_of_length_le (by simp)]⟩⟩, HTB.out⟩
end Go.Proofs.YtemjmnpclknfaaaGreat.T

/- Queue: Put's closure; within. -/
namespace Go.Proofs.YtemjmnpclknfaaaGreat.T
open Go.RowKit
open Go.Proofs.YtemjmnpclknfaaaGreat.P (Sl un)
set_option maxRecDepth 20000
set_option linter.unusedVariables false
set_option linter.unusedSimpArgs false

theorem right1_any (x : Nat) (w : World) : Calls Tryz.prog 31 #[.int .u32 (x : Int)] w fun r w' => r = .returned (.bool (decide (¬ P.okN x))) ∧ w' = w := by
  obtain ⟨t, ht⟩ : ∃ t, t = decide (1 ≤ x ∧ x ≤ 2147483647) := ⟨_, rfl⟩
  have HR := Lib.hid (right_any x w)
  rw [← ht] at HR
  have e : decide (¬ P.okN x) = !t := by rw [ht]; exact decide_not
  rw [e]
  clear ht e
  go_enter Tryz.func31, Tryz.ntmps31
  go_wp2_with fail
  refine HR.out.mono ?_
  rintro r w1 ⟨rfl, rfl⟩
  cases t
  · go_wp2
    go_ret
    exact ⟨rfl, rfl⟩
  · go_wp2
    go_ret
    exact ⟨rfl, rfl⟩
set_option maxHeartbeats 4000000 in
theorem idxR_any (A : Option Addr) (n c : Nat) (l : List Nat) (w : World) (hn : n = l.length) (hE : P.Rn w A l) (hl : n ≤ 1000) :
    Calls Tryz.prog 53 #[.slice A n c, .func (.func 31) #[] #[]] w fun r w' => (∃ i : Int, r = .returned (.int .i64 i) ∧ ((i = -1 ∧ ∀ x ∈ l, P.okN x) ∨ (0 ≤ i ∧ ∃ x ∈ l, ¬ P.okN x))) ∧ Below w.heap.size w w' := by
  have HE := Lib.hid hE
  have HN := Lib.hid hn
  have HBr : Hid (Below w.heap.size w w) := Below.refl _ _
  clear hE hn
  go_enter Tryz.func53, Tryz.ntmps53
  go_wp2_with fail
  go_loopw [8] (fun u wr => ∃ k : Nat, k ≤ n ∧ u = .int .i64 (k : Int) ∧ Hid ((∀ x ∈ l.take k, P.okN x) ∧ Below w.heap.size w wr)) (fun u _ => n - (intOf u).toNat)
  case atStart => exact ⟨0, by omega, rfl, (by intro x hx; simp at hx), HBr.out⟩
  case round =>
    obtain ⟨k, hk, rfl, HV⟩ := hrel
    by_cases hlt : k < n
    · obtain ⟨e, hy⟩ : ∃ e, l[k]? = some e := ⟨l[k]'(by rw [← HN.out]; exact hlt), List.getElem?_eq_getElem _⟩
      obtain ⟨b1, o1, rfl, hb1, ha1⟩ := (HE.out) (by have := HN.out; omega)
      have d0 := (HV.out.2.cell (p := ⟨b1, _, none⟩) hb1).trans (ha1 k _ hy)
      have HY := Lib.hid hy
      have HC := Lib.hid (right1_any e wr)
      obtain ⟨t, ht⟩ : ∃ t, t = decide (¬ P.okN e) := ⟨_, rfl⟩
      rw [← ht] at HC
      have HT := Lib.hid ht
      clear ha1 hy hb1 ht
      go_wp2_with fail
      refine HC.out.mono ?_
      rintro r w1 ⟨rfl, rfl⟩
      cases t
      · have hok : P.okN e := by have := HT.out.symm; simpa using this
        have HNM : Hid (∀ x ∈ l.take (k + 1), P.okN x) := by
          intro x hx
          rw [List.take_add_one, HY.out] at hx
          rcases List.mem_append.1 hx with h | h
          · exact HV.out.1 x h
          · simp at h
            subst h
            exact hok
        clear hok
        go_wp2
        go_roundw
        case rel => exact ⟨k + 1, by omega, by go_num, HNM.out, HV.out.2⟩
        case measure => simp [intOf] <;> omega
      · have HX : Hid (∃ x ∈ l, ¬ P.okN x) := ⟨e, List.mem_of_getElem? HY.out, of_decide_eq_true HT.out.symm⟩
        go_wp2
        go_ret
        exact ⟨⟨(k : Int), rfl, .inr ⟨by omega, HX.out⟩⟩, HV.out.2⟩
    · have hkn : k = n := by omega
      subst hkn
      have HA : Hid (∀ x ∈ l, P.okN x) := by
        have h := HV.out.1
        rw [List.take_of_length_le (by rw [← HN.out]; omega)] at h
        exact h
      go_wp2
      go_ret
      exact ⟨⟨-1, rfl, .inl ⟨rfl, HA.out⟩⟩, HV.out.2⟩
set_option maxHeartbeats 2000000 in
theorem bad_any (A : Option Addr) (n c : Nat) (l : List Nat) (w : World) (hn : n = l.length) (hE : P.Rn w A l) (hl : n ≤ 1000) :
    Calls Tryz.prog 30 #[.slice A n c, .func (.func 31) #[] #[]] w fun r w' => r = .returned (.bool (decide (¬ ∀ x ∈ l, P.okN x))) ∧ Below w.heap.size w w' := by
  obtain ⟨t, ht⟩ : ∃ t, t = decide (¬ ∀ x ∈ l, P.okN x) := ⟨_, rfl⟩
  have HC := Lib.hid (idxR_any A n c l w hn hE hl)
  have HT := Lib.hid ht
  rw [← ht]
  clear ht hE hn
  go_enter Tryz.func30, Tryz.ntmps30
  go_wp2_with fail
  refine HC.out.mono ?_
  rintro r w1 ⟨⟨i, rfl, hi⟩, hb⟩
  have HB := Lib.hid hb
  clear hb
  rcases hi with ⟨rfl, hm⟩ | ⟨h0, hm⟩
  · have e : t = false := by rw [HT.out, decide_eq_false_iff_not]; exact fun h => h hm
    subst e
    clear hm
    go_wp2
    go_ret
    exact ⟨rfl, HB.out⟩
  · have e : t = true := by
      rw [HT.out, decide_eq_true_iff]
      obtain ⟨x, hx, hn⟩ := hm
      exact fun h => hn (h x hx)
    subst e
    clear hm
    go_wp2
    go_ret
    exact ⟨by simp <;> omega, HB.out⟩
theorem within_any (x a b : Int) (w : World) : Calls Tryz.prog 52 #[.int .i64 x, .int .i64 a, .int .i64 b] w fun r w' => r = .returned (.bool (decide (a ≤ x ∧ x ≤ b))) ∧ w' = w := by
  by_cases h1 : a ≤ x
  · by_cases h2 : x ≤ b
    · rw [decide_eq_true ⟨h1, h2⟩]
      go_enter Tryz.func52, Tryz.ntmps52
      go_wp2
      go_ret
      exact ⟨by first | rfl | (simp; done) | (simp; omega), by first | rfl | trivial⟩
    · rw [decide_eq_false (fun h => h2 h.2)]
      go_enter Tryz.func52, Tryz.ntmps52
      go_wp2
      go_ret
      exact ⟨by first | rfl | (simp; done) | (simp; omega), by first | rfl | trivial⟩
  · rw [decide_eq_false (fun h => h1 h.1)]
    go_enter Tryz.func52, Tryz.ntmps52
    go_wp2
    go_ret
    exact ⟨by first | rfl | (simp; done) | (simp; omega), by first | rfl | trivial⟩
end Go.Proofs.YtemjmnpclknfaaaGreat.T

/- Queue: a config's mode. -/
namespace Go.Proofs.YtemjmnpclknfaaaGreat.T
open Go.RowKit
open Go.Proofs.YtemjmnpclknfaaaGreat.P (Sl un)
set_option maxRecDepth 20000
set_option linter.unusedVariables false
set_option linter.unusedSimpArgs false

set_option maxHeartbeats 4000000 in
theorem cmode_no (cs : Array Value) (A : Option Addr) (n c : Nat) (m : Int) (w : World) (hc : cs[13]? = some (.slice A n c)) (hn : n ≤ 1000) (hm : ¬ (0 ≤ m ∧ m < (n : Int))) :
    Calls Tryz.prog 28 #[.agg cs, .int .i64 m] w fun r w' => r = .returned (.tuple #[.agg #[.int .i64 0, .int .i64 0, .int .i64 0, .int .i64 0, .int .i64 0], .bool false]) ∧ Below w.heap.size w w' := by
  obtain ⟨G, hG⟩ : ∃ X, X = w.heap.size := ⟨_, rfl⟩
  obtain ⟨H, hH⟩ : ∃ Y, Y = w.heap.size + 1 := ⟨_, rfl⟩
  obtain ⟨w0, hw0⟩ : ∃ w0, w0 = (w.alloc (.cells cs 30)).alloc (.cells #[.int .i64 0, .int .i64 0, .int .i64 0, .int .i64 0, .int .i64 0] 58) := ⟨_, rfl⟩
  have hb0 : Below w.heap.size w w0 := by rw [hw0]; exact ((Below.refl _ _).alloc (Nat.le_refl _) _).alloc (by simp) _
  have hp0 : w0.heap[G]? = some (.cells cs 30 (0, 0)) := by
    rw [hw0, hG]
    exact (Below.heap_alloc _ _ _ (by simp)).trans (heap_alloc_new w _)
  have hq0 : w0.heap[H]? = some (.cells #[.int .i64 0, .int .i64 0, .int .i64 0, .int .i64 0, .int .i64 0] 58 (0, 0)) := by
    have h := heap_alloc_new (w.alloc (.cells cs 30)) (.cells #[.int .i64 0, .int .i64 0, .int .i64 0, .int .i64 0, .int .i64 0] 58)
    rw [World.size_alloc] at h
    rw [hw0, hH]
    exact h
  have g13 : w0.cell? ⟨G, 13, none⟩ = some (.slice A n c) := by rw [cell_of_row w0 G 13 _ _ _ hp0]; exact hc
  have hwr : IntKind.i64.wrap ((n : Int) - 1) = (n : Int) - 1 := by rw [IntKind.wrap_i64]; omega
  have HWI : Hid (Calls Tryz.prog 52 #[.int .i64 m, .int .i64 0, .int .i64 ((n : Int) - 1)] w0 fun r w' => r = .returned (.bool false) ∧ w' = w0) := by
    have := within_any m 0 ((n : Int) - 1) w0
    rw [decide_eq_false (by omega)] at this
    exact this
  have x0 := cell_of_row w0 H 0 _ _ _ hq0
  have x1 := cell_of_row w0 H 1 _ _ _ hq0
  have x2 := cell_of_row w0 H 2 _ _ _ hq0
  have x3 := cell_of_row w0 H 3 _ _ _ hq0
  have x4 := cell_of_row w0 H 4 _ _ _ hq0
  simp at x0 x1 x2 x3 x4
  have xf : ∀ i, w0.frozen? ⟨H, i, none⟩ = false := fun i => frozen_of_row _ _ i _ _ hq0
  have HT := Lib.hid (three (.int .i64 0) (.int .i64 0) (.int .i64 0) (.int .i64 0) (.int .i64 0) hq0)
  have HTB := Lib.hid (three_below (.int .i64 0) (.int .i64 0) (.int .i64 0) (.int .i64 0) (.int .i64 0) hb0 (by omega : w.heap.size ≤ H))
  have H0 := Lib.hid hw0
  have HG := Lib.hid hG
  have HH := Lib.hid hH
  have HWR := Lib.hid hwr
  clear hw0 hG hH hb0 hp0 hq0 hc hwr hm
  go_enter Tryz.func28, Tryz.ntmps28
  go_upto_region 1 with (fail)
  rw [← H0.out, ← HH.out, ← HG.out]
  go_wp2_with fail
  first | rw [HWR.out] | skip
  refine HWI.out.mono ?_
  rintro r wq ⟨rfl, hw⟩
  have hw := hw.symm
  subst hw
  go_wp2
  obtain ⟨t0, t1, t2, t3, t4, _⟩ := HT.out
  exact bodyPost_ret (v := .tuple #[.agg #[.int .i64 0, .int .i64 0, .int .i64 0, .int .i64 0, .int .i64 0], .bool false]) (by simp [results, Tryz.results28, go_sem, t0, t1, t2, t3, t4]) rfl ⟨rfl, HTB.out⟩
set_option maxHeartbeats 4000000 in
theorem cmode_yes (cs : Array Value) (A : Option Addr) (n c : Nat) (m : Int) (w : World) (hc : cs[13]? = some (.slice A n c)) (hn : n ≤ 1000) (hm : 0 ≤ m ∧ m < (n : Int)) (e0 e1 e2 e3 e4 : Int) (b o : Nat) (hA : A = some ⟨b, o, none⟩) (hb : b < w.heap.size) (q0 : w.cell? ⟨b, o + m.toNat * 5, none⟩ = some (.int .i64 e0)) (q1 : w.cell? ⟨b, o + m.toNat * 5 + 1, none⟩ = some (.int .i64 e1)) (q2 : w.cell? ⟨b, o + m.toNat * 5 + 2, none⟩ = some (.int .i64 e2)) (q3 : w.cell? ⟨b, o + m.toNat * 5 + 3, none⟩ = some (.int .i64 e3)) (q4 : w.cell? ⟨b, o + m.toNat * 5 + 4, none⟩ = some (.int .i64 e4)) :
    Calls Tryz.prog 28 #[.agg cs, .int .i64 m] w fun r w' => r = .returned (.tuple #[.agg #[.int .i64 e0, .int .i64 e1, .int .i64 e2, .int .i64 e3, .int .i64 e4], .bool true]) ∧ Below w.heap.size w w' := by
  obtain ⟨G, hG⟩ : ∃ X, X = w.heap.size := ⟨_, rfl⟩
  obtain ⟨H, hH⟩ : ∃ Y, Y = w.heap.size + 1 := ⟨_, rfl⟩
  obtain ⟨w0, hw0⟩ : ∃ w0, w0 = (w.alloc (.cells cs 30)).alloc (.cells #[.int .i64 0, .int .i64 0, .int .i64 0, .int .i64 0, .int .i64 0] 58) := ⟨_, rfl⟩
  have hb0 : Below w.heap.size w w0 := by rw [hw0]; exact ((Below.refl _ _).alloc (Nat.le_refl _) _).alloc (by simp) _
  have hp0 : w0.heap[G]? = some (.cells cs 30 (0, 0)) := by
    rw [hw0, hG]
    exact (Below.heap_alloc _ _ _ (by simp)).trans (heap_alloc_new w _)
  have hq0 : w0.heap[H]? = some (.cells #[.int .i64 0, .int .i64 0, .int .i64 0, .int .i64 0, .int .i64 0] 58 (0, 0)) := by
    have h := heap_alloc_new (w.alloc (.cells cs 30)) (.cells #[.int .i64 0, .int .i64 0, .int .i64 0, .int .i64 0, .int .i64 0] 58)
    rw [World.size_alloc] at h
    rw [hw0, hH]
    exact h
  have g13 : w0.cell? ⟨G, 13, none⟩ = some (.slice A n c) := by rw [cell_of_row w0 G 13 _ _ _ hp0]; exact hc
  have hwr : IntKind.i64.wrap ((n : Int) - 1) = (n : Int) - 1 := by rw [IntKind.wrap_i64]; omega
  have HWI : Hid (Calls Tryz.prog 52 #[.int .i64 m, .int .i64 0, .int .i64 ((n : Int) - 1)] w0 fun r w' => r = .returned (.bool true) ∧ w' = w0) := by
    have := within_any m 0 ((n : Int) - 1) w0
    rw [decide_eq_true (by omega)] at this
    exact this
  have x0 := cell_of_row w0 H 0 _ _ _ hq0
  have x1 := cell_of_row w0 H 1 _ _ _ hq0
  have x2 := cell_of_row w0 H 2 _ _ _ hq0
  have x3 := cell_of_row w0 H 3 _ _ _ hq0
  have x4 := cell_of_row w0 H 4 _ _ _ hq0
  simp at x0 x1 x2 x3 x4
  have xf : ∀ i, w0.frozen? ⟨H, i, none⟩ = false := fun i => frozen_of_row _ _ i _ _ hq0
  have HT := Lib.hid (three (.int .i64 e0) (.int .i64 e1) (.int .i64 e2) (.int .i64 e3) (.int .i64 e4) hq0)
  have HTB := Lib.hid (three_below (.int .i64 e0) (.int .i64 e1) (.int .i64 e2) (.int .i64 e3) (.int .i64 e4) hb0 (by omega : w.heap.size ≤ H))
  subst hA
  have d0 := (hb0.cell (p := ⟨b, _, none⟩) hb).trans q0
  have d1 := (hb0.cell (p := ⟨b, _, none⟩) hb).trans q1
  have d2 := (hb0.cell (p := ⟨b, _, none⟩) hb).trans q2
  have d3 := (hb0.cell (p := ⟨b, _, none⟩) hb).trans q3
  have d4 := (hb0.cell (p := ⟨b, _, none⟩) hb).trans q4
  obtain ⟨k, rfl⟩ : ∃ k : Nat, m = (k : Int) := ⟨m.toNat, by omega⟩
  simp only [Int.toNat_natCast] at d0 d1 d2 d3 d4
  have hkn : k < n := by omega
  clear q0 q1 q2 q3 q4 hb
  have H0 := Lib.hid hw0
  have HG := Lib.hid hG
  have HH := Lib.hid hH
  have HWR := Lib.hid hwr
  clear hw0 hG hH hb0 hp0 hq0 hc hwr hm
  go_enter Tryz.func28, Tryz.ntmps28
  go_upto_region 1 with (fail)
  rw [← H0.out, ← HH.out, ← HG.out]
  go_wp2_with fail
  first | rw [HWR.out] | skip
  refine HWI.out.mono ?_
  rintro r wq ⟨rfl, hw⟩
  have hw := hw.symm
  subst hw
  go_wp2
  obtain ⟨t0, t1, t2, t3, t4, _⟩ := HT.out
  exact bodyPost_ret (v := .tuple #[.agg #[.int .i64 e0, .int .i64 e1, .int .i64 e2, .int .i64 e3, .int .i64 e4], .bool true]) (by simp [results, Tryz.results28, go_sem, t0, t1, t2, t3, t4]) rfl ⟨rfl, HTB.out⟩
end Go.Proofs.YtemjmnpclknfaaaGreat.T

/- Queue: Clone of modes. -/
namespace Go.Proofs.YtemjmnpclknfaaaGreat.T
open Go.RowKit
open Go.Proofs.YtemjmnpclknfaaaGreat.P (Sl un)
set_option maxRecDepth 20000
set_option linter.unusedVariables false
set_option linter.unusedSimpArgs false

theorem info68 : (Tryz.prog.info? 58).map (fun i => (i.zero, i.size, i.bytes)) = some (some (.agg #[.int .i64 0, .int .i64 0, .int .i64 0, .int .i64 0, .int .i64 0]), 5, 40) := by kernel_rfl
abbrev M5 : Type := Int × Int × Int × Int × Int
def m5 (l : List M5) : List Value := l.flatMap fun m => [.int .i64 m.1, .int .i64 m.2.1, .int .i64 m.2.2.1, .int .i64 m.2.2.2.1, .int .i64 m.2.2.2.2]
theorem m5_length (l : List M5) : (m5 l).length = l.length * 5 := by
  induction l with
  | nil => rfl
  | cons a l ih => simp only [m5, List.flatMap_cons, List.length_append, List.length_cons, List.length_nil] at ih ⊢; omega
theorem m5_one (l : List M5) : ∀ x ∈ m5 l, x.oneCell' = true := by
  intro x hx
  obtain ⟨m, _, hm⟩ := List.mem_flatMap.1 hx
  simp at hm
  rcases hm with rfl | rfl | rfl | rfl | rfl <;> rfl
/-- Modes that are read from A on. -/
def Rm (w : World) (A : Option Addr) (l : List M5) : Prop := 0 < l.length → ∃ b o, A = some ⟨b, o, none⟩ ∧ (∃ cur, w.heap[b]? = some (.cells cur 58 (0, 0))) ∧ ∀ (j : Nat) (v : Value), (m5 l)[j]? = some v → w.cell? ⟨b, o + j, none⟩ = some v
theorem Rm.after {w w' : World} {A : Option Addr} {l : List M5} (h : Rm w A l) (hb : Below w.heap.size w w') : Rm w' A l := fun hl => by
  obtain ⟨b, o, e1, ⟨cur, e2⟩, e3⟩ := h hl
  exact ⟨b, o, e1, ⟨cur, (hb.block b (lt_of_block e2)).trans e2⟩, fun j v hj => (hb.cell (p := ⟨b, _, none⟩) (lt_of_block e2)).trans (e3 j v hj)⟩
set_option maxHeartbeats 2000000 in
theorem clone_m5 (A : Option Addr) (n c : Nat) (l : List M5) (w : World) (hn : n = l.length) (hR : Rm w A l) (hl : n ≤ 100) :
    Calls Tryz.prog 23 #[.slice A n c] w fun r w' => ∃ A' c', r = .returned (.slice A' n c') ∧ w'.ownsRow w.heap.size 58 5 (.slice A' n c') n (m5 l) ∧ Below w.heap.size w w' := by
  cases A with
  | none =>
    have h0 : l = [] := by
      cases l with
      | nil => rfl
      | cons x l => obtain ⟨b, o, e, _⟩ := hR (by simp); cases e
    subst h0
    have hn0 : n = 0 := hn
    subst hn0
    have hq : ∀ W : World, (binOp .eql 28 (.slice none 0 c) (.slice none 0 0)).run Tryz.prog W = .ok (.bool true) W := fun W => Lib.run_eql_slice_nil W _ _ none 0 c 0 0 Tryz.underlying28
    clear hR hn
    go_enter Tryz.func23, Tryz.ntmps23
    go_wp2
    go_ret
    exact ⟨_, _, rfl, World.ownsRow_nil _ _ 58 5, Below.refl _ _⟩
  | some a =>
    have hb0 : Below w.heap.size w (w.alloc (.cells #[] 58)) := (Below.refl _ _).alloc (Nat.le_refl _) _
    have hown : (w.alloc (.cells #[] 58)).ownsRow w.heap.size 58 5 (.slice (some ⟨w.heap.size, 0, none⟩) 0 0) 0 [] :=
      ⟨rfl, .inr ⟨w.heap.size, 0, #[], rfl, Nat.le_refl _, heap_alloc_new w _, Nat.le_refl _, Nat.zero_le _, rfl, rfl⟩⟩
    have hR1 := hR.after hb0
    obtain ⟨i0, hi0, hz0, hz1, hz2⟩ := info_parts info68
    obtain ⟨v', w', hr1, hr2, hr3, _⟩ := run_append_own (P := Tryz.prog) (w.alloc (.cells #[] 58)) w.heap.size 28 28 58 i0 _ 5 40 Tryz.underlying28 hi0 hz0 hz1 hz2 rfl (by decide) _ 0 [] hown a n c (m5 l) (by rw [m5_length]; omega) (fun j u hu => by
      have hpos : 0 < l.length := by
        have := (List.getElem?_eq_some_iff.1 hu).1
        rw [m5_length] at this
        omega
      obtain ⟨b, o, e1, _, e3⟩ := hR1 hpos
      injection e1 with e1
      rw [e1, Go.WideShapes.add_plain]
      exact e3 j u hu) (m5_one l) (by unfold maxLen; omega) (by omega) (by simp)
    rw [Nat.zero_add, List.nil_append] at hr2
    have HR2 := Lib.hid hr2
    have HR3 : Hid (Below w.heap.size w w') := hb0.grown hr3 (by simp) (fun k hk => by have e : w.heap.size = k := Option.some.inj hk; omega)
    have hq : ∀ (W : World), (binOp .eql 28 (.slice (some a) n c) (.slice none 0 0)).run Tryz.prog W = .ok (.bool false) W := fun W => Lib.run_eql_slice_nil W _ _ (some a) n c 0 0 Tryz.underlying28
    clear hR hR1 hb0 hown hr2 hr3 hn hi0 hz0 hz1 hz2
    go_enter Tryz.func23, Tryz.ntmps23
    go_wp2_with (at_builtin; refine Lib.wpList_append_run _ rfl _ _ _ _ rfl _ _ rfl rfl _ _ hr1 ?_)
    go_ret
    obtain ⟨A', c', e⟩ := own_form1 HR2.out
    subst e
    exact ⟨_, _, rfl, HR2.out, HR3.out⟩
end Go.Proofs.YtemjmnpclknfaaaGreat.T

/- Queue: New. -/
namespace Go.Proofs.YtemjmnpclknfaaaGreat.T
open Go.RowKit
open Go.Proofs.YtemjmnpclknfaaaGreat.P (Sl un)
set_option maxRecDepth 20000
set_option linter.unusedVariables false
set_option linter.unusedSimpArgs false

theorem Rm.of_own {w : World} {base n c : Nat} {A : Option Addr} {l : List M5} (hn : n = l.length) (h : w.ownsRow base 58 5 (.slice A n c) n (m5 l)) : Rm w A l := fun hl => by
  rcases h.2 with ⟨_, h0⟩ | ⟨g, cap, cur, e, hg, hh, _⟩
  · omega
  · injection e with e _ _
    subst e
    refine ⟨g, 0, rfl, ⟨cur, hh⟩, fun j v hj => ?_⟩
    have := h.cells (g := g) rfl j v hj
    rw [Go.WideShapes.add_plain] at this
    exact this
def QNewP (n : Nat) (l : List M5) (w : World) (r : Ending) (w' : World) : Prop := ∃ B R, ∃ ms : Sl, r = .returned (qp B) ∧ Bq w' B R (16 * (n : Int)) (.slice none 0 0) ms [] ∧ ms.n = n ∧ Rm w' ms.a l ∧ w.heap.size ≤ R ∧ R < B ∧ Below w.heap.size w w'
set_option maxHeartbeats 4000000 in
theorem qnew_any (cs : Array Value) (A : Option Addr) (n c : Nat) (l : List M5) (w : World) (hc : cs[13]? = some (.slice A n c)) (hn : n = l.length) (hR : Rm w A l) (hl : n ≤ 100) :
    Calls Tryz.prog 5 #[.agg cs] w fun r w' => QNewP n l w r w' := by
  obtain ⟨G, hG⟩ : ∃ X, X = w.heap.size := ⟨_, rfl⟩
  obtain ⟨w0, hw0⟩ : ∃ w0, w0 = w.alloc (.cells cs 30) := ⟨_, rfl⟩
  have hb0 : Below w.heap.size w w0 := by rw [hw0]; exact (Below.refl _ _).alloc (Nat.le_refl _) _
  have hp0 : w0.heap[G]? = some (.cells cs 30 (0, 0)) := by rw [hw0, hG]; exact heap_alloc_new w _
  have HCE : Hid (∀ W, Below w0.heap.size w0 W → (fun W : World => W.cell? ⟨G, 13, none⟩ = some (.slice A n c)) W) := fun W hW => by
    show W.cell? ⟨G, 13, none⟩ = _
    rw [cell_of_row W G 13 _ _ _ ((hW.block _ (lt_of_block hp0)).trans hp0)]
    exact hc
  have HCL : Hid (∀ W, Below w0.heap.size w0 W → Calls Tryz.prog 23 #[.slice A n c] W fun r w' => ∃ A' c', r = .returned (.slice A' n c') ∧ w'.ownsRow W.heap.size 58 5 (.slice A' n c') n (m5 l) ∧ Below W.heap.size W w') := fun W hW => clone_m5 A n c l W hn ((hR.after hb0).after hW) hl
  have HWM : Hid (IntKind.i64.wrap (16 * (n : Int)) = 16 * (n : Int)) := by simp only [Hid]; rw [IntKind.wrap_i64]; omega
  have HRF : Hid (Below w0.heap.size w0 w0) := Below.refl _ _
  have H0 := Lib.hid hw0
  have HG := Lib.hid hG
  have HB0 := Lib.hid hb0
  have HN := Lib.hid hn
  clear hw0 hG hb0 hp0 hc hR hn
  go_enter Tryz.func5, Tryz.ntmps5
  go_upto_region 1 with (fail)
  rw [← H0.out, ← HG.out]
  have HDk : Hid (Below w0.heap.size w0 w0.drew) := HRF.out.drew
  refine wp_region_held_drew (S := fun W : World => W.cell? ⟨G, 13, none⟩ = some (.slice A n c)) (by kernel_rfl) (HCE.out _ (HDk.out)) (fun hHeld => ?_)
  obtain ⟨Wk0, hW0⟩ : ∃ W0, W0 = w0.drew := ⟨_, rfl⟩
  rw [← hW0] at hHeld HDk ⊢
  clear hW0
  refine wpAnyH_take (i := 0) (oi := ?oi0k) (v := ?v0k) ?hi0k ?hs0k ?hf0k ?hr0k ?hQ0k ?hy0k ?hS0k ?h0k
  case hi0k => exact (by simp only [List.getElem?_toArray, List.getElem?_cons_zero]; rfl)
  case hs0k => kernel_rfl
  case hf0k => kernel_rfl
  case hr0k => kernel_rfl
  case hQ0k => exact fun _ _ _ h => h
  case hy0k =>
    refine Or.inl ⟨rfl, ?_⟩
    intro W hSw
    go_simp
    try with_reducible rfl
  case hS0k => assumption
  try simp only [Act.put, List.setIfInBounds_toArray, List.set_cons_zero, List.set_cons_succ]
  refine wpAnyH_take (i := 1) (oi := ?oi1k) (v := ?v1k) ?hi1k ?hs1k ?hf1k ?hr1k ?hQ1k ?hy1k ?hS1k ?h1k
  case hi1k => exact (by simp only [List.getElem?_toArray, List.getElem?_cons_succ, List.getElem?_cons_zero]; rfl)
  case hs1k => kernel_rfl
  case hf1k => kernel_rfl
  case hr1k => kernel_rfl
  case hQ1k => exact fun _ _ _ h => h
  case hy1k =>
    refine Or.inl ⟨rfl, ?_⟩
    intro W hSw
    go_simp
    try with_reducible rfl
  case hS1k => assumption
  try simp only [Act.put, List.setIfInBounds_toArray, List.set_cons_zero, List.set_cons_succ]
  refine wpAnyH_take (i := 4) (oi := ?oi4k) (v := ?v4k) ?hi4k ?hs4k ?hf4k ?hr4k ?hQ4k ?hy4k ?hS4k ?h4k
  case hi4k => exact (by simp only [List.getElem?_toArray, List.getElem?_cons_succ, List.getElem?_cons_zero]; rfl)
  case hs4k => kernel_rfl
  case hf4k => kernel_rfl
  case hr4k => kernel_rfl
  case hQ4k => exact fun _ _ _ h => h
  case hy4k =>
    refine Or.inl ⟨rfl, ?_⟩
    intro W hSw
    go_simp
    try with_reducible rfl
  case hS4k => assumption
  try simp only [Act.put, List.setIfInBounds_toArray, List.set_cons_zero, List.set_cons_succ]
  refine wpAnyH_take (i := 5) (oi := ?oi5k) (v := ?v5k) ?hi5k ?hs5k ?hf5k ?hr5k ?hQ5k ?hy5k ?hS5k ?h5k
  case hi5k => exact (by simp only [List.getElem?_toArray, List.getElem?_cons_succ, List.getElem?_cons_zero]; rfl)
  case hs5k => kernel_rfl
  case hf5k => kernel_rfl
  case hr5k => kernel_rfl
  case hQ5k => exact fun _ _ _ h => h
  case hy5k =>
    refine Or.inl ⟨rfl, ?_⟩
    intro W hSw
    go_simp
    try with_reducible rfl
  case hS5k => assumption
  try simp only [Act.put, List.setIfInBounds_toArray, List.set_cons_zero, List.set_cons_succ]
  refine wpAnyH_take (i := 6) (oi := ?oi6k) (v := ?v6k) ?hi6k ?hs6k ?hf6k ?hr6k ?hQ6k ?hy6k ?hS6k ?h6k
  case hi6k => exact (by simp only [List.getElem?_toArray, List.getElem?_cons_succ, List.getElem?_cons_zero]; rfl)
  case hs6k => kernel_rfl
  case hf6k => kernel_rfl
  case hr6k => kernel_rfl
  case hQ6k => exact fun _ _ _ h => h
  case hy6k =>
    refine Or.inl ⟨rfl, ?_⟩
    intro W hSw
    go_simp
    try with_reducible rfl
  case hS6k => assumption
  try simp only [Act.put, List.setIfInBounds_toArray, List.set_cons_zero, List.set_cons_succ]
  refine wpAnyH_take (i := 7) (oi := ?oi7k) (v := (.int .i64 (16 * (n : Int)))) ?hi7k ?hs7k ?hf7k ?hr7k ?hQ7k ?hy7k ?hS7k ?h7k
  case hi7k => exact (by simp only [List.getElem?_toArray, List.getElem?_cons_succ, List.getElem?_cons_zero]; rfl)
  case hs7k => kernel_rfl
  case hf7k => kernel_rfl
  case hr7k => kernel_rfl
  case hQ7k => exact fun _ _ _ h => h
  case hy7k =>
    refine Or.inl ⟨rfl, ?_⟩
    intro W hSw
    go_simp
    rw [HWM.out]
  case hS7k => assumption
  try simp only [Act.put, List.setIfInBounds_toArray, List.set_cons_zero, List.set_cons_succ]
  refine wpAnyH_ready (rs := [2]) (by kernel_rfl) (by simp) ?_
  refine AllReadyH.cons (o := _) rfl (fun K hK => ?_) AllReadyH.nil
  go_simp
  refine ((HCL.out Wk0 HDk.out)).mono ?_
  rintro r Wk1 ⟨A1, c1, rfl, ho1, hbq⟩
  have HBk1 := Lib.hid (HDk.out.trans (hbq.mono HDk.out.size))
  have HRM : Hid (Rm Wk1 A1 l) := Rm.of_own HN.out ho1
  clear ho1
  clear hbq
  refine hK.out _ _ (HCE.out _ (HBk1.out)) (fun hHeld => ?_)
  clear hK K
  try simp only [Act.put, List.setIfInBounds_toArray, List.set_cons_zero, List.set_cons_succ]
  refine wpAnyH_take (i := 3) (oi := ?oi3k) (v := ?v3k) ?hi3k ?hs3k ?hf3k ?hr3k ?hQ3k ?hy3k ?hS3k ?h3k
  case hi3k => exact (by simp only [List.getElem?_toArray, List.getElem?_cons_succ, List.getElem?_cons_zero]; rfl)
  case hs3k => kernel_rfl
  case hf3k => kernel_rfl
  case hr3k => kernel_rfl
  case hQ3k => exact fun _ _ _ h => h
  case hy3k =>
    refine Or.inl ⟨rfl, ?_⟩
    intro W hSw
    go_simp
    try with_reducible rfl
  case hS3k => assumption
  try simp only [Act.put, List.setIfInBounds_toArray, List.set_cons_zero, List.set_cons_succ]
  refine wpAnyH_ready (rs := [8]) (by kernel_rfl) (by simp) ?_
  refine AllReadyH.cons (o := _) rfl (fun K hK => ?_) AllReadyH.nil
  go_simp
  refine ((new_any (16 * (n : Int)) Wk1)).mono ?_
  rintro r Wk2 ⟨rfl, his, hbq⟩
  have HBk2 := Lib.hid (HBk1.out.trans (hbq.mono HBk1.out.size))
  have HRK := Lib.hid hbq
  clear hbq
  refine hK.out _ _ (HCE.out _ (HBk2.out)) (fun hHeld => ?_)
  clear hK K
  try simp only [Act.put, List.setIfInBounds_toArray, List.set_cons_zero, List.set_cons_succ]
  refine wpAnyH_take (i := 9) (oi := ?oi9k) (v := ?v9k) ?hi9k ?hs9k ?hf9k ?hr9k ?hQ9k ?hy9k ?hS9k ?h9k
  case hi9k => exact (by simp only [List.getElem?_toArray, List.getElem?_cons_succ, List.getElem?_cons_zero]; rfl)
  case hs9k => kernel_rfl
  case hf9k => kernel_rfl
  case hr9k => kernel_rfl
  case hQ9k => exact fun _ _ _ h => h
  case hy9k =>
    refine Or.inl ⟨rfl, ?_⟩
    intro W hSw
    go_simp
    try with_reducible rfl
  case hS9k => assumption
  try simp only [Act.put, List.setIfInBounds_toArray, List.set_cons_zero, List.set_cons_succ]
  refine wpAnyH_ready (rs := [10]) (by kernel_rfl) (by simp) ?_
  refine AllReadyH.cons (o := _) rfl (fun K hK => ?_) AllReadyH.nil
  go_simp
  obtain ⟨Wz, hWz⟩ : ∃ W, W = Wk2.alloc (.cells #[.string { data := #[] }, .int .i64 0, .int .i64 0, .int .i64 0, .int .i64 0, .int .i64 0, .int .i64 0, .int .i64 0, .int .i64 0, .int .i64 0, .int .i64 0, .int .i64 0, .int .i64 0, .slice A1 n c1, .pointer (some ⟨Wk1.heap.size, 0, none⟩)] 68) := ⟨_, rfl⟩
  have hbz : Below Wk2.heap.size Wk2 Wz := by rw [hWz]; exact (Below.refl _ _).alloc (Nat.le_refl _) _
  have hqz : Wz.heap[Wk2.heap.size]? = some (.cells #[.string { data := #[] }, .int .i64 0, .int .i64 0, .int .i64 0, .int .i64 0, .int .i64 0, .int .i64 0, .int .i64 0, .int .i64 0, .int .i64 0, .int .i64 0, .int .i64 0, .int .i64 0, .slice A1 n c1, .pointer (some ⟨Wk1.heap.size, 0, none⟩)] 68 (0, 0)) := by rw [hWz]; exact heap_alloc_new _ _
  have hmx : max (16 * (n : Int)) 0 = 16 * (n : Int) := by omega
  rw [hmx] at his
  have HB2z : Hid (Below w0.heap.size w0 Wz) := HBk2.out.trans (hbz.mono HBk2.out.size)
  have HFIN : Hid (QNewP n l w (.returned (qp Wk2.heap.size)) Wz) :=
    ⟨_, Wk1.heap.size, ⟨A1, n, c1⟩, rfl, ⟨⟨_, hqz, rfl, rfl⟩, _, _, his.after hbz, fun i p hp => by simp at hp⟩, rfl, (HRM.out.after HRK.out).after hbz, Nat.le_trans HB0.out.size HBk1.out.size, lt_of_block his.row, HB0.out.trans (HB2z.out.mono HB0.out.size)⟩
  rw [← hWz]
  clear hWz hbz hqz hmx his
  refine hK.out _ _ (HCE.out _ HB2z.out) (fun hHeld => ?_)
  clear hK K
  try simp only [Act.put, List.setIfInBounds_toArray, List.set_cons_zero, List.set_cons_succ]
  refine wpAnyH_take (i := 11) (oi := ?oi11k) (v := ?v11k) ?hi11k ?hs11k ?hf11k ?hr11k ?hQ11k ?hy11k ?hS11k ?h11k
  case hi11k => exact (by simp only [List.getElem?_toArray, List.getElem?_cons_succ, List.getElem?_cons_zero]; rfl)
  case hs11k => kernel_rfl
  case hf11k => kernel_rfl
  case hr11k => kernel_rfl
  case hQ11k => exact fun _ _ _ h => h
  case hy11k =>
    refine Or.inl ⟨rfl, ?_⟩
    intro W hSw
    go_simp
    try with_reducible rfl
  case hS11k => assumption
  try simp only [Act.put, List.setIfInBounds_toArray, List.set_cons_zero, List.set_cons_succ]
  refine wpAnyH_done (by kernel_rfl) ?_ _
  go_wp2_with fail
  go_ret
  exact HFIN.out
end Go.Proofs.YtemjmnpclknfaaaGreat.T
