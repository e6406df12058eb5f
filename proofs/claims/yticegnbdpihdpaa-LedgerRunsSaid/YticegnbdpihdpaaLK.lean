/- Ledger: the document's Spend, Issue; own. -/
import Derived.Test.YticegnbdpihdpaaLJ
namespace Go.Proofs.Yticegnbdpihdpaa
open Go.RowKit Go.Maps
set_option maxRecDepth 20000
set_option linter.unusedVariables false
set_option linter.unusedSimpArgs false

/-- What an act of the document's answers. -/
def RA2 (l : List Ent) (e : Int) (w : World) (r : Ending) (w' : World) : Prop := ∃ B m c, r = .returned (.tuple #[.slice B m c, .int .i64 e]) ∧ m = l.length ∧ Ds w' B l ∧ Below w.heap.size w w'
set_option maxHeartbeats 4000000 in
theorem rspend_1 (A : Option Addr) (m c n o a : Nat) (now : Int) (l : List Ent) (w : World) (hm : m = l.length) (hR : Ds w A l) (hs : Srt l) (hl : m ≤ 500) (hq : anyN l n = false) (hy : True) :
    Calls Try.prog 18 #[.slice A m c, .int .u64 (n : Int), .int .u32 (o : Int), .int .u32 (a : Int), .int .i64 now] w (RA2 l 12 w) := by
  have HG := Lib.hid (rget_any A m c n l w hm hR hs hl)
  obtain ⟨e, he⟩ : ∃ e, e = getE l n := ⟨_, rfl⟩
  obtain ⟨n', o', a', x⟩ := e
  rw [← he] at HG
  have HR := Lib.hid hR
  have HM := Lib.hid hm
  rw [hq] at HG
  have HY := Lib.hid hy
  clear he hm hR hs hq hy
  go_enter Try.func18, Try.ntmps18
  go_wp2_with fail
  refine HG.out.mono ?_
  rintro r w1 ⟨rfl, hb1⟩
  have HB1 := Lib.hid hb1
  clear hb1
  obtain ⟨w2, hw2⟩ : ∃ w2, w2 = w1.alloc (.cells #[.int .u64 (n' : Int), .int .u32 (o' : Int), .int .u32 (a' : Int), .int .i64 x] 29) := ⟨_, rfl⟩
  have hq2 : w2.heap[w1.heap.size]? = some (.cells #[.int .u64 (n' : Int), .int .u32 (o' : Int), .int .u32 (a' : Int), .int .i64 x] 29 (0, 0)) := by rw [hw2]; exact heap_alloc_new w1 _
  have HB2 : Hid (Below w.heap.size w w2) := by rw [hw2]; exact HB1.out.alloc HB1.out.size _
  have d0 := cell_of_row w2 w1.heap.size 0 _ _ _ hq2
  have d1 := cell_of_row w2 w1.heap.size 1 _ _ _ hq2
  have d2 := cell_of_row w2 w1.heap.size 2 _ _ _ hq2
  have d3 := cell_of_row w2 w1.heap.size 3 _ _ _ hq2
  simp at d0 d1 d2 d3
  have H2 := Lib.hid hw2
  clear hq2 hw2
  go_upto_region 2 with (fail)
  rw [← H2.out]
  go_wp2
  exact bodyPost_ret (v := .tuple #[.slice A m c, .int .i64 12]) (by simp [results, Try.results18, go_sem]) rfl ⟨_, _, _, rfl, HM.out, HR.out.below HB2.out, HB2.out⟩
set_option maxHeartbeats 4000000 in
theorem rspend_2 (A : Option Addr) (m c n o a : Nat) (now : Int) (l : List Ent) (w : World) (hm : m = l.length) (hR : Ds w A l) (hs : Srt l) (hl : m ≤ 500) (hq : anyN l n = true) (hy : (getE l n).2.1 ≠ o) :
    Calls Try.prog 18 #[.slice A m c, .int .u64 (n : Int), .int .u32 (o : Int), .int .u32 (a : Int), .int .i64 now] w (RA2 l 13 w) := by
  have HG := Lib.hid (rget_any A m c n l w hm hR hs hl)
  obtain ⟨e, he⟩ : ∃ e, e = getE l n := ⟨_, rfl⟩
  obtain ⟨n', o', a', x⟩ := e
  rw [← he] at HG hy
  simp only at hy
  have HR := Lib.hid hR
  have HM := Lib.hid hm
  rw [hq] at HG
  have HY := Lib.hid hy
  clear he hm hR hs hq hy
  have f1 : ((o' : Int) != (o : Int)) = true := by have := HY.out; simp; omega
  go_enter Try.func18, Try.ntmps18
  go_wp2_with fail
  refine HG.out.mono ?_
  rintro r w1 ⟨rfl, hb1⟩
  have HB1 := Lib.hid hb1
  clear hb1
  obtain ⟨w2, hw2⟩ : ∃ w2, w2 = w1.alloc (.cells #[.int .u64 (n' : Int), .int .u32 (o' : Int), .int .u32 (a' : Int), .int .i64 x] 29) := ⟨_, rfl⟩
  have hq2 : w2.heap[w1.heap.size]? = some (.cells #[.int .u64 (n' : Int), .int .u32 (o' : Int), .int .u32 (a' : Int), .int .i64 x] 29 (0, 0)) := by rw [hw2]; exact heap_alloc_new w1 _
  have HB2 : Hid (Below w.heap.size w w2) := by rw [hw2]; exact HB1.out.alloc HB1.out.size _
  have d0 := cell_of_row w2 w1.heap.size 0 _ _ _ hq2
  have d1 := cell_of_row w2 w1.heap.size 1 _ _ _ hq2
  have d2 := cell_of_row w2 w1.heap.size 2 _ _ _ hq2
  have d3 := cell_of_row w2 w1.heap.size 3 _ _ _ hq2
  simp at d0 d1 d2 d3
  have H2 := Lib.hid hw2
  clear hq2 hw2
  go_upto_region 2 with (fail)
  rw [← H2.out]
  go_wp2
  exact bodyPost_ret (v := .tuple #[.slice A m c, .int .i64 13]) (by simp [results, Try.results18, go_sem]) rfl ⟨_, _, _, rfl, HM.out, HR.out.below HB2.out, HB2.out⟩
set_option maxHeartbeats 4000000 in
theorem rspend_3 (A : Option Addr) (m c n o a : Nat) (now : Int) (l : List Ent) (w : World) (hm : m = l.length) (hR : Ds w A l) (hs : Srt l) (hl : m ≤ 500) (hq : anyN l n = true) (hy : (getE l n).2.1 = o ∧ (getE l n).2.2.1 ≠ a) :
    Calls Try.prog 18 #[.slice A m c, .int .u64 (n : Int), .int .u32 (o : Int), .int .u32 (a : Int), .int .i64 now] w (RA2 l 13 w) := by
  have HG := Lib.hid (rget_any A m c n l w hm hR hs hl)
  obtain ⟨e, he⟩ : ∃ e, e = getE l n := ⟨_, rfl⟩
  obtain ⟨n', o', a', x⟩ := e
  rw [← he] at HG hy
  simp only at hy
  have HR := Lib.hid hR
  have HM := Lib.hid hm
  rw [hq] at HG
  have HY := Lib.hid hy
  clear he hm hR hs hq hy
  have f1 : ((o' : Int) != (o : Int)) = false := by have := HY.out; simp; omega
  have f2 : ((a' : Int) != (a : Int)) = true := by have := HY.out; simp; omega
  go_enter Try.func18, Try.ntmps18
  go_wp2_with fail
  refine HG.out.mono ?_
  rintro r w1 ⟨rfl, hb1⟩
  have HB1 := Lib.hid hb1
  clear hb1
  obtain ⟨w2, hw2⟩ : ∃ w2, w2 = w1.alloc (.cells #[.int .u64 (n' : Int), .int .u32 (o' : Int), .int .u32 (a' : Int), .int .i64 x] 29) := ⟨_, rfl⟩
  have hq2 : w2.heap[w1.heap.size]? = some (.cells #[.int .u64 (n' : Int), .int .u32 (o' : Int), .int .u32 (a' : Int), .int .i64 x] 29 (0, 0)) := by rw [hw2]; exact heap_alloc_new w1 _
  have HB2 : Hid (Below w.heap.size w w2) := by rw [hw2]; exact HB1.out.alloc HB1.out.size _
  have d0 := cell_of_row w2 w1.heap.size 0 _ _ _ hq2
  have d1 := cell_of_row w2 w1.heap.size 1 _ _ _ hq2
  have d2 := cell_of_row w2 w1.heap.size 2 _ _ _ hq2
  have d3 := cell_of_row w2 w1.heap.size 3 _ _ _ hq2
  simp at d0 d1 d2 d3
  have H2 := Lib.hid hw2
  clear hq2 hw2
  go_upto_region 2 with (fail)
  rw [← H2.out]
  go_wp2
  exact bodyPost_ret (v := .tuple #[.slice A m c, .int .i64 13]) (by simp [results, Try.results18, go_sem]) rfl ⟨_, _, _, rfl, HM.out, HR.out.below HB2.out, HB2.out⟩
set_option maxHeartbeats 4000000 in
theorem rspend_4 (A : Option Addr) (m c n o a : Nat) (now : Int) (l : List Ent) (w : World) (hm : m = l.length) (hR : Ds w A l) (hs : Srt l) (hl : m ≤ 500) (hq : anyN l n = true) (hy : (getE l n).2.1 = o ∧ (getE l n).2.2.1 = a ∧ (getE l n).2.2.2 < now) :
    Calls Try.prog 18 #[.slice A m c, .int .u64 (n : Int), .int .u32 (o : Int), .int .u32 (a : Int), .int .i64 now] w (RA2 l 9 w) := by
  have HG := Lib.hid (rget_any A m c n l w hm hR hs hl)
  obtain ⟨e, he⟩ : ∃ e, e = getE l n := ⟨_, rfl⟩
  obtain ⟨n', o', a', x⟩ := e
  rw [← he] at HG hy
  simp only at hy
  have HR := Lib.hid hR
  have HM := Lib.hid hm
  rw [hq] at HG
  have HY := Lib.hid hy
  clear he hm hR hs hq hy
  have f1 : ((o' : Int) != (o : Int)) = false := by have := HY.out; simp; omega
  have f2 : ((a' : Int) != (a : Int)) = false := by have := HY.out; simp; omega
  have f3 : x < now := HY.out.2.2
  go_enter Try.func18, Try.ntmps18
  go_wp2_with fail
  refine HG.out.mono ?_
  rintro r w1 ⟨rfl, hb1⟩
  have HB1 := Lib.hid hb1
  clear hb1
  obtain ⟨w2, hw2⟩ : ∃ w2, w2 = w1.alloc (.cells #[.int .u64 (n' : Int), .int .u32 (o' : Int), .int .u32 (a' : Int), .int .i64 x] 29) := ⟨_, rfl⟩
  have hq2 : w2.heap[w1.heap.size]? = some (.cells #[.int .u64 (n' : Int), .int .u32 (o' : Int), .int .u32 (a' : Int), .int .i64 x] 29 (0, 0)) := by rw [hw2]; exact heap_alloc_new w1 _
  have HB2 : Hid (Below w.heap.size w w2) := by rw [hw2]; exact HB1.out.alloc HB1.out.size _
  have d0 := cell_of_row w2 w1.heap.size 0 _ _ _ hq2
  have d1 := cell_of_row w2 w1.heap.size 1 _ _ _ hq2
  have d2 := cell_of_row w2 w1.heap.size 2 _ _ _ hq2
  have d3 := cell_of_row w2 w1.heap.size 3 _ _ _ hq2
  simp at d0 d1 d2 d3
  have H2 := Lib.hid hw2
  clear hq2 hw2
  go_upto_region 2 with (fail)
  rw [← H2.out]
  go_wp2
  exact bodyPost_ret (v := .tuple #[.slice A m c, .int .i64 9]) (by simp [results, Try.results18, go_sem]) rfl ⟨_, _, _, rfl, HM.out, HR.out.below HB2.out, HB2.out⟩
set_option maxHeartbeats 4000000 in
theorem rspend_5 (A : Option Addr) (m c n o a : Nat) (now : Int) (l : List Ent) (w : World) (hm : m = l.length) (hR : Ds w A l) (hs : Srt l) (hl : m ≤ 500) (hq : anyN l n = true) (hy : (getE l n).2.1 = o ∧ (getE l n).2.2.1 = a ∧ ¬ (getE l n).2.2.2 < now) :
    Calls Try.prog 18 #[.slice A m c, .int .u64 (n : Int), .int .u32 (o : Int), .int .u32 (a : Int), .int .i64 now] w (RA2 (delE n l) 0 w) := by
  have HG := Lib.hid (rget_any A m c n l w hm hR hs hl)
  obtain ⟨e, he⟩ : ∃ e, e = getE l n := ⟨_, rfl⟩
  obtain ⟨n', o', a', x⟩ := e
  rw [← he] at HG hy
  simp only at hy
  have HR := Lib.hid hR
  have HM := Lib.hid hm
  rw [hq] at HG
  have HW : Hid (∀ W, Below w.heap.size w W → Calls Try.prog 20 #[.slice A m c, .int .u64 (n : Int)] W fun r w' => ∃ B m' c', r = .returned (.slice B m' c') ∧ m' = (delE n l).length ∧ Ds w' B (delE n l) ∧ Below W.heap.size W w') := fun W hW => rwithout_any A m c n l W hm (hR.below hW) hl
  have HY := Lib.hid hy
  clear he hm hR hs hq hy
  have f1 : ((o' : Int) != (o : Int)) = false := by have := HY.out; simp; omega
  have f2 : ((a' : Int) != (a : Int)) = false := by have := HY.out; simp; omega
  have f3 : ¬ x < now := HY.out.2.2
  go_enter Try.func18, Try.ntmps18
  go_wp2_with fail
  refine HG.out.mono ?_
  rintro r w1 ⟨rfl, hb1⟩
  have HB1 := Lib.hid hb1
  clear hb1
  obtain ⟨w2, hw2⟩ : ∃ w2, w2 = w1.alloc (.cells #[.int .u64 (n' : Int), .int .u32 (o' : Int), .int .u32 (a' : Int), .int .i64 x] 29) := ⟨_, rfl⟩
  have hq2 : w2.heap[w1.heap.size]? = some (.cells #[.int .u64 (n' : Int), .int .u32 (o' : Int), .int .u32 (a' : Int), .int .i64 x] 29 (0, 0)) := by rw [hw2]; exact heap_alloc_new w1 _
  have HB2 : Hid (Below w.heap.size w w2) := by rw [hw2]; exact HB1.out.alloc HB1.out.size _
  have d0 := cell_of_row w2 w1.heap.size 0 _ _ _ hq2
  have d1 := cell_of_row w2 w1.heap.size 1 _ _ _ hq2
  have d2 := cell_of_row w2 w1.heap.size 2 _ _ _ hq2
  have d3 := cell_of_row w2 w1.heap.size 3 _ _ _ hq2
  simp at d0 d1 d2 d3
  have H2 := Lib.hid hw2
  clear hq2 hw2
  go_upto_region 2 with (fail)
  rw [← H2.out]
  go_wp2_with fail
  refine (HW.out w2 HB2.out).mono ?_
  rintro r w3 ⟨B, m', c', rfl, hm3, hR3, hb3⟩
  have HRES : Hid (m' = (delE n l).length ∧ Ds w3 B (delE n l) ∧ Below w.heap.size w w3) := ⟨hm3, hR3, HB2.out.trans (hb3.mono HB2.out.size)⟩
  clear hm3 hR3 hb3
  go_wp2
  exact bodyPost_ret (v := .tuple #[.slice B m' c', .int .i64 0]) (by simp [results, Try.results18, go_sem]) rfl ⟨_, _, _, rfl, HRES.out⟩
theorem rspend_any (A : Option Addr) (m c n o a : Nat) (now : Int) (l : List Ent) (w : World) (hm : m = l.length) (hR : Ds w A l) (hs : Srt l) (hl : m ≤ 500) : Calls Try.prog 18 #[.slice A m c, .int .u64 (n : Int), .int .u32 (o : Int), .int .u32 (a : Int), .int .i64 now] w (RA2 (speE l n o a now).1 (speE l n o a now).2 w) := by
  cases hq : anyN l n with
  | false =>
    have hr : speE l n o a now = (l, 12) := by unfold speE; rw [if_pos hq]
    rw [hr]
    exact rspend_1 A m c n o a now l w hm hR hs hl hq trivial
  | true =>
    have e0 : speE l n o a now = if (getE l n).2.1 ≠ o ∨ (getE l n).2.2.1 ≠ a then (l, 13) else if (getE l n).2.2.2 < now then (l, 9) else (delE n l, 0) := by unfold speE; rw [if_neg (by rw [hq]; decide)]
    rw [e0]
    by_cases g1 : (getE l n).2.1 = o
    · by_cases g2 : (getE l n).2.2.1 = a
      · rw [if_neg (fun h => h.elim (fun h => h g1) (fun h => h g2))]
        by_cases g3 : (getE l n).2.2.2 < now
        · rw [if_pos g3]
          exact rspend_4 A m c n o a now l w hm hR hs hl hq ⟨g1, g2, g3⟩
        · rw [if_neg g3]
          exact rspend_5 A m c n o a now l w hm hR hs hl hq ⟨g1, g2, g3⟩
      · rw [if_pos (.inr g2)]
        exact rspend_3 A m c n o a now l w hm hR hs hl hq ⟨g1, g2⟩
    · rw [if_pos (.inl g1)]
      exact rspend_2 A m c n o a now l w hm hR hs hl hq g1
set_option maxHeartbeats 2000000 in
theorem own_any (e : Ent) (w : World) : Calls Try.prog 14 #[eVe e] w fun r w' => r = .returned (eVe e) ∧ Below w.heap.size w w' := by
  obtain ⟨n, o, a, x⟩ := e
  obtain ⟨T, hT⟩ : ∃ T, T = w.heap.size + 1 := ⟨_, rfl⟩
  obtain ⟨w0, hw0⟩ : ∃ w0, w0 = (w.alloc (.cells #[.int .u64 (n : Int), .int .u32 (o : Int), .int .u32 (a : Int), .int .i64 x] 29)).alloc (.cells #[.int .u64 0, .int .u32 0, .int .u32 0, .int .i64 0] 33) := ⟨_, rfl⟩
  have hb0 : Below w.heap.size w w0 := by rw [hw0]; exact ((Below.refl _ _).alloc (Nat.le_refl _) _).alloc (by simp) _
  have hp0 : w0.heap[w.heap.size]? = some (.cells #[.int .u64 (n : Int), .int .u32 (o : Int), .int .u32 (a : Int), .int .i64 x] 29 (0, 0)) := by
    rw [hw0]
    exact (Below.heap_alloc _ _ _ (by simp)).trans (heap_alloc_new w _)
  have hq0 : w0.heap[T]? = some (.cells #[.int .u64 0, .int .u32 0, .int .u32 0, .int .i64 0] 33 (0, 0)) := by
    have h := heap_alloc_new (w.alloc (.cells #[.int .u64 (n : Int), .int .u32 (o : Int), .int .u32 (a : Int), .int .i64 x] 29)) (.cells #[.int .u64 0, .int .u32 0, .int .u32 0, .int .i64 0] 33)
    rw [World.size_alloc] at h
    rw [hw0, hT]
    exact h
  have d0 := cell_of_row w0 w.heap.size 0 _ _ _ hp0
  have d1 := cell_of_row w0 w.heap.size 1 _ _ _ hp0
  have d2 := cell_of_row w0 w.heap.size 2 _ _ _ hp0
  have d3 := cell_of_row w0 w.heap.size 3 _ _ _ hp0
  have t0 := cell_of_row w0 T 0 _ _ _ hq0
  have t1 := cell_of_row w0 T 1 _ _ _ hq0
  have t2 := cell_of_row w0 T 2 _ _ _ hq0
  have t3 := cell_of_row w0 T 3 _ _ _ hq0
  have fz : ∀ i, w0.frozen? ⟨T, i, none⟩ = false := fun i => frozen_of_row w0 _ i _ _ hq0
  simp at d0 d1 d2 d3 t0 t1 t2 t3
  have hr := eset_row rfl (n, o, a, x) hq0
  have f0 := cell_of_row _ T 0 _ _ _ hr
  have f1 := cell_of_row _ T 1 _ _ _ hr
  have f2 := cell_of_row _ T 2 _ _ _ hr
  have f3 := cell_of_row _ T 3 _ _ _ hr
  simp [eset] at f0 f1 f2 f3
  have HB : Hid (Below w.heap.size w (eset w0 T (n, o, a, x))) := eset_below _ hb0 (by omega)
  have HF := Lib.hid (And.intro f0 (And.intro f1 (And.intro f2 f3)))
  have H0 := Lib.hid hw0
  have HTT := Lib.hid hT
  clear hw0 hb0 hp0 hq0 hr f0 f1 f2 f3 hT
  go_enter Try.func14, Try.ntmps14
  go_upto_region 1 with (fail)
  rw [← H0.out, ← HTT.out]
  go_wp2
  obtain ⟨f0, f1, f2, f3⟩ := HF.out
  exact bodyPost_ret (v := eV n o a x) (by simp [results, Try.results14, go_sem, f0, f1, f2, f3]) rfl ⟨rfl, HB.out⟩
end Go.Proofs.Yticegnbdpihdpaa
