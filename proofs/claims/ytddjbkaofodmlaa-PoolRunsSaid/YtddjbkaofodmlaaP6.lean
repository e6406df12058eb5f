/- Pool: what an act does; do. -/
import Derived.Test.YtddjbkaofodmlaaP5
namespace Go.Proofs.Ytddjbkaofodmlaa
open Go.RowKit
set_option maxRecDepth 20000
set_option linter.unusedVariables false
set_option linter.unusedSimpArgs false

/-- What an act does to an instance: the match that it had, the error, the instance then. -/
def stepQ (d : Int) (y : Nat) (now : Int) (e : In) : Int × Int × In :=
  if d = 0 then (e.2.1, 0, (1, 0, now))
  else if d = 1 then (if e.1 = 0 then (0, 24, e) else (0, 0, (e.1, e.2.1, if e.1 = 3 then e.2.2 else now)))
  else if d = 2 then (if e.1 = 1 then (if 1 ≤ y ∧ y ≤ 2147483647 then (0, 0, (2, (y : Int), e.2.2)) else (0, 14, e)) else (0, 24, e))
  else if d = 3 then (if e.1 = 2 then (0, 0, (3, e.2.1, now)) else (0, 24, e))
  else if d = 4 then (if e.1 = 3 then (0, 0, (4, e.2.1, now)) else (0, 24, e))
  else if d = 5 then (if e.1 = 2 then (0, 0, (1, 0, e.2.2)) else (0, 24, e))
  else if d = 6 then (if e.1 = 3 ∨ e.1 = 4 then (0, 0, (5, 0, e.2.2)) else (0, 24, e))
  else if d = 7 then (if e.1 = 5 then (0, 0, (1, 0, now)) else (0, 24, e))
  else (if e.1 = 0 then (0, 24, e) else (e.2.1, 0, (0, 0, e.2.2)))
/-- What holds of each instance. -/
def Iv (e : In) : Prop := (0 ≤ e.1 ∧ e.1 ≤ 5) ∧ (0 ≤ e.2.1 ∧ e.2.1 ≤ 2147483647) ∧ (¬ (e.1 = 2 ∨ e.1 = 3 ∨ e.1 = 4) → e.2.1 = 0) ∧ inI e.2.2
theorem iv_step {d : Int} {y : Nat} {now : Int} {e : In} (h : Iv e) (hn : inI now) : Iv (stepQ d y now e).2.2 := by
  obtain ⟨⟨h1, h2⟩, ⟨h3, h4⟩, h5, h6⟩ := h
  unfold stepQ
  repeat' split
  all_goals first
    | exact ⟨⟨h1, h2⟩, ⟨h3, h4⟩, h5, h6⟩
    | (refine ⟨⟨?_, ?_⟩, ⟨?_, ?_⟩, ?_, ?_⟩ <;> first | exact hn | exact h6 | (simp only []; omega) | (intro _; rfl) | (intro hh; exact h5 (by simp only [] at hh ⊢; omega)) | (intro hh; exfalso; simp only [] at hh; omega) | (intro hh; exfalso; simp at hh))
theorem set_same {l : List In} {k : Nat} {e : In} (hk : l[k]? = some e) : l.set k e = l := by
  obtain ⟨hlt, he⟩ := List.getElem?_eq_some_iff.1 hk
  rw [← he, List.set_getElem_self]
def Ret1 (q : Int × Int × In) (B P I : Nat) (beat : Int) (l : List In) (k : Nat) (w : World) (r : Ending) (w' : World) : Prop :=
  r = .returned (.int .i64 q.2.1) ∧ q.1 = 0 ∧ Po w' B P I beat (l.set k q.2.2) ∧ Gr I w w'
def Ret2 (q : Int × Int × In) (B P I : Nat) (beat : Int) (l : List In) (k : Nat) (w : World) (r : Ending) (w' : World) : Prop :=
  r = .returned (.tuple #[.int .u32 q.1, .int .i64 q.2.1]) ∧ Po w' B P I beat (l.set k q.2.2) ∧ Gr I w w'
theorem bad1 {c : Int} {B P I : Nat} {beat : Int} {l : List In} {k : Nat} {e : In} {w : World} {r : Ending} {w' : World} (hP : Po w B P I beat l) (hk : l[k]? = some e) (h1 : r = .returned (.int .i64 c)) (hb : Below w.heap.size w w') : Ret1 (0, c, e) B P I beat l k w r w' :=
  ⟨h1, rfl, by rw [set_same hk]; exact hP.after hb, Gr.of_below hb⟩
theorem hello_all {B P I : Nat} {beat : Int} {l : List In} (k : Nat) (e : In) (y : Nat) (now : Int) (w : World) (h : Po w B P I beat l) (hk : l[k]? = some e) (hI : Iv e) : Calls Try.prog 14 #[.pointer (some ⟨P, 0, none⟩), .int .u32 ((k + 1 : Nat) : Int), .int .i64 now] w (Ret2 (stepQ 0 y now e) B P I beat l k w) := by
  obtain ⟨s, m, a⟩ := e
  obtain ⟨⟨i1, i2⟩, ⟨i3, i4⟩, i5, i6⟩ := hI
  simp only at i1 i2 i3 i4 i5
  exact (hello_ok k s m a now w h hk (by simp; omega)).mono fun r w' ⟨h1, h2, h3⟩ => ⟨h1, h2, h3⟩
theorem beat_all {B P I : Nat} {beat : Int} {l : List In} (k : Nat) (e : In) (y : Nat) (now : Int) (w : World) (h : Po w B P I beat l) (hk : l[k]? = some e) (hI : Iv e) : Calls Try.prog 19 #[.pointer (some ⟨P, 0, none⟩), .int .u32 ((k + 1 : Nat) : Int), .int .i64 now] w (Ret1 (stepQ 1 y now e) B P I beat l k w) := by
  obtain ⟨s, m, a⟩ := e
  obtain ⟨⟨i1, i2⟩, ⟨i3, i4⟩, i5, i6⟩ := hI
  simp only at i1 i2 i3 i4 i5
  by_cases hs : s = 0
  · rw [show stepQ 1 y now (s, m, a) = (0, 24, (s, m, a)) by simp [stepQ, hs]]
    exact (beat_bad k s m a now w h hk (by simp; omega)).mono fun r w' ⟨h1, h2⟩ => bad1 h hk h1 h2
  · rw [show stepQ 1 y now (s, m, a) = (0, 0, (s, m, if s = 3 then a else now)) by simp [stepQ, hs]]
    exact (beat_ok k s m a now w h hk (by simp; omega)).mono fun r w' ⟨h1, h2, h3⟩ => ⟨h1, rfl, h2, h3⟩
theorem hold_all {B P I : Nat} {beat : Int} {l : List In} (k : Nat) (e : In) (y : Nat) (now : Int) (w : World) (h : Po w B P I beat l) (hk : l[k]? = some e) (hI : Iv e) : Calls Try.prog 15 #[.pointer (some ⟨P, 0, none⟩), .int .u32 ((k + 1 : Nat) : Int), .int .u32 (y : Int)] w (Ret1 (stepQ 2 y now e) B P I beat l k w) := by
  obtain ⟨s, m, a⟩ := e
  obtain ⟨⟨i1, i2⟩, ⟨i3, i4⟩, i5, i6⟩ := hI
  simp only at i1 i2 i3 i4 i5
  by_cases hs : s = 1
  · by_cases hy : 1 ≤ y ∧ y ≤ 2147483647
    · rw [show stepQ 2 y now (s, m, a) = (0, 0, (2, (y : Int), a)) by simp [stepQ, hs, hy]]
      exact (hold_ok k s m a y w h hk hs hy).mono fun r w' ⟨h1, h2, h3⟩ => ⟨h1, rfl, h2, h3⟩
    · rw [show stepQ 2 y now (s, m, a) = (0, 14, (s, m, a)) by simp only [stepQ, hs, if_neg hy]; rfl]
      exact (hold_id k s m a y w h hk hs hy).mono fun r w' ⟨h1, h2⟩ => bad1 h hk h1 h2
  · rw [show stepQ 2 y now (s, m, a) = (0, 24, (s, m, a)) by simp [stepQ, hs]]
    exact (hold_bad k s m a y w h hk hs).mono fun r w' ⟨h1, h2⟩ => bad1 h hk h1 h2
theorem start_all {B P I : Nat} {beat : Int} {l : List In} (k : Nat) (e : In) (y : Nat) (now : Int) (w : World) (h : Po w B P I beat l) (hk : l[k]? = some e) (hI : Iv e) : Calls Try.prog 16 #[.pointer (some ⟨P, 0, none⟩), .int .u32 ((k + 1 : Nat) : Int), .int .i64 now] w (Ret1 (stepQ 3 y now e) B P I beat l k w) := by
  obtain ⟨s, m, a⟩ := e
  obtain ⟨⟨i1, i2⟩, ⟨i3, i4⟩, i5, i6⟩ := hI
  simp only at i1 i2 i3 i4 i5
  by_cases hs : s = 2
  · rw [show stepQ 3 y now (s, m, a) = (0, 0, (3, m, now)) by simp [stepQ, hs]]
    exact (start_ok k s m a now w h hk (by simp; omega)).mono fun r w' ⟨h1, h2, h3⟩ => ⟨h1, rfl, h2, h3⟩
  · rw [show stepQ 3 y now (s, m, a) = (0, 24, (s, m, a)) by simp [stepQ, hs]]
    exact (start_bad k s m a now w h hk (by simp; omega)).mono fun r w' ⟨h1, h2⟩ => bad1 h hk h1 h2
theorem up_all {B P I : Nat} {beat : Int} {l : List In} (k : Nat) (e : In) (y : Nat) (now : Int) (w : World) (h : Po w B P I beat l) (hk : l[k]? = some e) (hI : Iv e) : Calls Try.prog 23 #[.pointer (some ⟨P, 0, none⟩), .int .u32 ((k + 1 : Nat) : Int), .int .i64 now] w (Ret1 (stepQ 4 y now e) B P I beat l k w) := by
  obtain ⟨s, m, a⟩ := e
  obtain ⟨⟨i1, i2⟩, ⟨i3, i4⟩, i5, i6⟩ := hI
  simp only at i1 i2 i3 i4 i5
  by_cases hs : s = 3
  · rw [show stepQ 4 y now (s, m, a) = (0, 0, (4, m, now)) by simp [stepQ, hs]]
    exact (up_ok k s m a now w h hk (by simp; omega)).mono fun r w' ⟨h1, h2, h3⟩ => ⟨h1, rfl, h2, h3⟩
  · rw [show stepQ 4 y now (s, m, a) = (0, 24, (s, m, a)) by simp [stepQ, hs]]
    exact (up_bad k s m a now w h hk (by simp; omega)).mono fun r w' ⟨h1, h2⟩ => bad1 h hk h1 h2
theorem let__all {B P I : Nat} {beat : Int} {l : List In} (k : Nat) (e : In) (y : Nat) (now : Int) (w : World) (h : Po w B P I beat l) (hk : l[k]? = some e) (hI : Iv e) : Calls Try.prog 24 #[.pointer (some ⟨P, 0, none⟩), .int .u32 ((k + 1 : Nat) : Int)] w (Ret1 (stepQ 5 y now e) B P I beat l k w) := by
  obtain ⟨s, m, a⟩ := e
  obtain ⟨⟨i1, i2⟩, ⟨i3, i4⟩, i5, i6⟩ := hI
  simp only at i1 i2 i3 i4 i5
  by_cases hs : s = 2
  · rw [show stepQ 5 y now (s, m, a) = (0, 0, (1, 0, a)) by simp [stepQ, hs]]
    exact (let__ok k s m a w h hk (by simp; omega)).mono fun r w' ⟨h1, h2, h3⟩ => ⟨h1, rfl, h2, h3⟩
  · rw [show stepQ 5 y now (s, m, a) = (0, 24, (s, m, a)) by simp [stepQ, hs]]
    exact (let__bad k s m a w h hk (by simp; omega)).mono fun r w' ⟨h1, h2⟩ => bad1 h hk h1 h2
theorem drain_all {B P I : Nat} {beat : Int} {l : List In} (k : Nat) (e : In) (y : Nat) (now : Int) (w : World) (h : Po w B P I beat l) (hk : l[k]? = some e) (hI : Iv e) : Calls Try.prog 25 #[.pointer (some ⟨P, 0, none⟩), .int .u32 ((k + 1 : Nat) : Int)] w (Ret1 (stepQ 6 y now e) B P I beat l k w) := by
  obtain ⟨s, m, a⟩ := e
  obtain ⟨⟨i1, i2⟩, ⟨i3, i4⟩, i5, i6⟩ := hI
  simp only at i1 i2 i3 i4 i5
  by_cases hs : s = 3 ∨ s = 4
  · rw [show stepQ 6 y now (s, m, a) = (0, 0, (5, 0, a)) by simp [stepQ, hs]]
    exact (drain_ok k s m a w h hk (by simp; omega)).mono fun r w' ⟨h1, h2, h3⟩ => ⟨h1, rfl, h2, h3⟩
  · rw [show stepQ 6 y now (s, m, a) = (0, 24, (s, m, a)) by simp [stepQ, hs]]
    exact (drain_bad k s m a w h hk (by simp; omega)).mono fun r w' ⟨h1, h2⟩ => bad1 h hk h1 h2
theorem freed_all {B P I : Nat} {beat : Int} {l : List In} (k : Nat) (e : In) (y : Nat) (now : Int) (w : World) (h : Po w B P I beat l) (hk : l[k]? = some e) (hI : Iv e) : Calls Try.prog 26 #[.pointer (some ⟨P, 0, none⟩), .int .u32 ((k + 1 : Nat) : Int), .int .i64 now] w (Ret1 (stepQ 7 y now e) B P I beat l k w) := by
  obtain ⟨s, m, a⟩ := e
  obtain ⟨⟨i1, i2⟩, ⟨i3, i4⟩, i5, i6⟩ := hI
  simp only at i1 i2 i3 i4 i5
  by_cases hs : s = 5
  · rw [show stepQ 7 y now (s, m, a) = (0, 0, (1, 0, now)) by simp [stepQ, hs]]
    exact (freed_ok k s m a now w h hk (by simp; omega)).mono fun r w' ⟨h1, h2, h3⟩ => ⟨h1, rfl, h2, h3⟩
  · rw [show stepQ 7 y now (s, m, a) = (0, 24, (s, m, a)) by simp [stepQ, hs]]
    exact (freed_bad k s m a now w h hk (by simp; omega)).mono fun r w' ⟨h1, h2⟩ => bad1 h hk h1 h2
theorem kill_all {B P I : Nat} {beat : Int} {l : List In} (k : Nat) (e : In) (y : Nat) (now : Int) (w : World) (h : Po w B P I beat l) (hk : l[k]? = some e) (hI : Iv e) (d : Int) (hd : 8 ≤ d) : Calls Try.prog 20 #[.pointer (some ⟨P, 0, none⟩), .int .u32 ((k + 1 : Nat) : Int)] w (Ret2 (stepQ d y now e) B P I beat l k w) := by
  obtain ⟨s, m, a⟩ := e
  obtain ⟨⟨i1, i2⟩, ⟨i3, i4⟩, i5, i6⟩ := hI
  simp only at i1 i2 i3 i4 i5
  have e8 : stepQ d y now (s, m, a) = if s = 0 then (0, 24, (s, m, a)) else (m, 0, (0, 0, a)) := by
    unfold stepQ
    rw [if_neg (by omega), if_neg (by omega), if_neg (by omega), if_neg (by omega), if_neg (by omega), if_neg (by omega), if_neg (by omega), if_neg (by omega)]
  by_cases hs : s = 0
  · obtain rfl : m = 0 := i5 (by omega)
    rw [e8, if_pos hs]
    exact (kill_bad k s 0 a w h hk (by simp; omega)).mono fun r w' ⟨h1, h2⟩ => ⟨h1, by rw [set_same hk]; exact h.after h2, Gr.of_below h2⟩
  · rw [e8, if_neg hs]
    exact (kill_ok k s m a w h hk (by simp; omega)).mono fun r w' ⟨h1, h2, h3⟩ => ⟨h1, h2, h3⟩
set_option maxHeartbeats 2000000 in
theorem do0_there {B P I : Nat} {beat : Int} {l : List In} (k : Nat) (e : In) (y : Nat) (now : Int) (w : World) (h : Po w B P I beat l) (hk : l[k]? = some e) (hI : Iv e) : Calls Try.prog 9 #[.pointer (some ⟨P, 0, none⟩), .agg #[.int .u8 0, .int .u32 ((k + 1 : Nat) : Int), .int .u32 (y : Int), .int .i64 now]] w (Ret2 (stepQ 0 y now e) B P I beat l k w) := by
  obtain ⟨X, hX⟩ : ∃ X : Int, X = ((k + 1 : Nat) : Int) := ⟨_, rfl⟩
  obtain ⟨q, hq⟩ : ∃ q, q = stepQ 0 y now e := ⟨_, rfl⟩
  obtain ⟨w0, hw0⟩ : ∃ w0, w0 = w.alloc (.cells #[.int .u8 0, .int .u32 X, .int .u32 (y : Int), .int .i64 now] 31) := ⟨_, rfl⟩
  have hb0 : Below w.heap.size w w0 := by rw [hw0]; exact (Below.refl _ _).alloc (Nat.le_refl _) _
  have hq0 : w0.heap[w.heap.size]? = some (.cells #[.int .u8 0, .int .u32 X, .int .u32 (y : Int), .int .i64 now] 31 (0, 0)) := by rw [hw0]; exact heap_alloc_new w _
  have c0 := cell_of_row w0 w.heap.size 0 _ _ _ hq0
  have c1 := cell_of_row w0 w.heap.size 1 _ _ _ hq0
  have c2 := cell_of_row w0 w.heap.size 2 _ _ _ hq0
  have c3 := cell_of_row w0 w.heap.size 3 _ _ _ hq0
  simp at c0 c1 c2 c3
  have hC := hello_all k e y now w0 (h.after hb0) hk hI
  rw [← hq, ← hX] at hC
  have HC := Lib.hid hC
  have HB0 := Lib.hid hb0
  have H0 := Lib.hid hw0
  rw [← hq, ← hX]
  clear h hk hI hC hb0 hw0 hq0 hq hX
  go_enter Try.func9, Try.ntmps9
  go_upto_region 1 with (fail)
  rw [← H0.out]
  go_wp2_with fail
  refine HC.out.mono ?_
  rintro r w1 ⟨rfl, h1, h2⟩
  have HP := Lib.hid h1
  have HG := Lib.hid ((Gr.of_below HB0.out).trans h2)
  clear h1 h2
  go_wp2
  go_ret2
  exact ⟨rfl, HP.out, HG.out⟩
set_option maxHeartbeats 2000000 in
theorem do0_miss (v : Value) (x y : Nat) (now : Int) (w : World) (h : MissA w v x) : Calls Try.prog 9 #[v, .agg #[.int .u8 0, .int .u32 (x : Int), .int .u32 (y : Int), .int .i64 now]] w fun r w' => r = .returned (.tuple #[.int .u32 0, .int .i64 12]) ∧ Below w.heap.size w w' := by
  obtain ⟨X, hX⟩ : ∃ X : Int, X = (x : Int) := ⟨_, rfl⟩
  obtain ⟨w0, hw0⟩ : ∃ w0, w0 = w.alloc (.cells #[.int .u8 0, .int .u32 X, .int .u32 (y : Int), .int .i64 now] 31) := ⟨_, rfl⟩
  have hb0 : Below w.heap.size w w0 := by rw [hw0]; exact (Below.refl _ _).alloc (Nat.le_refl _) _
  have hq0 : w0.heap[w.heap.size]? = some (.cells #[.int .u8 0, .int .u32 X, .int .u32 (y : Int), .int .i64 now] 31 (0, 0)) := by rw [hw0]; exact heap_alloc_new w _
  have c0 := cell_of_row w0 w.heap.size 0 _ _ _ hq0
  have c1 := cell_of_row w0 w.heap.size 1 _ _ _ hq0
  have c2 := cell_of_row w0 w.heap.size 2 _ _ _ hq0
  have c3 := cell_of_row w0 w.heap.size 3 _ _ _ hq0
  simp at c0 c1 c2 c3
  have hC := hello_miss v x now w0 (h.after hb0)
  rw [← hX] at hC
  have HC := Lib.hid hC
  have HB0 := Lib.hid hb0
  have H0 := Lib.hid hw0
  rw [← hX]
  clear h hC hb0 hw0 hq0 hX
  go_enter Try.func9, Try.ntmps9
  go_upto_region 1 with (fail)
  rw [← H0.out]
  go_wp2_with fail
  refine HC.out.mono ?_
  rintro r w1 ⟨rfl, h2⟩
  have HG := Lib.hid (HB0.out.trans (h2.mono HB0.out.size))
  clear h2
  go_wp2
  go_ret2
  exact ⟨rfl, HG.out⟩
set_option maxHeartbeats 2000000 in
theorem do1_there {B P I : Nat} {beat : Int} {l : List In} (k : Nat) (e : In) (y : Nat) (now : Int) (w : World) (h : Po w B P I beat l) (hk : l[k]? = some e) (hI : Iv e) : Calls Try.prog 9 #[.pointer (some ⟨P, 0, none⟩), .agg #[.int .u8 1, .int .u32 ((k + 1 : Nat) : Int), .int .u32 (y : Int), .int .i64 now]] w (Ret2 (stepQ 1 y now e) B P I beat l k w) := by
  obtain ⟨X, hX⟩ : ∃ X : Int, X = ((k + 1 : Nat) : Int) := ⟨_, rfl⟩
  obtain ⟨q, hq⟩ : ∃ q, q = stepQ 1 y now e := ⟨_, rfl⟩
  obtain ⟨w0, hw0⟩ : ∃ w0, w0 = w.alloc (.cells #[.int .u8 1, .int .u32 X, .int .u32 (y : Int), .int .i64 now] 31) := ⟨_, rfl⟩
  have hb0 : Below w.heap.size w w0 := by rw [hw0]; exact (Below.refl _ _).alloc (Nat.le_refl _) _
  have hq0 : w0.heap[w.heap.size]? = some (.cells #[.int .u8 1, .int .u32 X, .int .u32 (y : Int), .int .i64 now] 31 (0, 0)) := by rw [hw0]; exact heap_alloc_new w _
  have c0 := cell_of_row w0 w.heap.size 0 _ _ _ hq0
  have c1 := cell_of_row w0 w.heap.size 1 _ _ _ hq0
  have c2 := cell_of_row w0 w.heap.size 2 _ _ _ hq0
  have c3 := cell_of_row w0 w.heap.size 3 _ _ _ hq0
  simp at c0 c1 c2 c3
  have hC := beat_all k e y now w0 (h.after hb0) hk hI
  rw [← hq, ← hX] at hC
  have HC := Lib.hid hC
  have HB0 := Lib.hid hb0
  have H0 := Lib.hid hw0
  rw [← hq, ← hX]
  clear h hk hI hC hb0 hw0 hq0 hq hX
  go_enter Try.func9, Try.ntmps9
  go_upto_region 1 with (fail)
  rw [← H0.out]
  go_wp2_with fail
  refine HC.out.mono ?_
  rintro r w1 ⟨rfl, h0, h1, h2⟩
  have HP := Lib.hid h1
  have HG := Lib.hid ((Gr.of_below HB0.out).trans h2)
  obtain ⟨q1, q2, q3⟩ := q
  simp only at h0
  subst h0
  clear h1 h2
  go_wp2
  go_ret2
  exact ⟨rfl, HP.out, HG.out⟩
set_option maxHeartbeats 2000000 in
theorem do1_miss (v : Value) (x y : Nat) (now : Int) (w : World) (h : MissA w v x) : Calls Try.prog 9 #[v, .agg #[.int .u8 1, .int .u32 (x : Int), .int .u32 (y : Int), .int .i64 now]] w fun r w' => r = .returned (.tuple #[.int .u32 0, .int .i64 12]) ∧ Below w.heap.size w w' := by
  obtain ⟨X, hX⟩ : ∃ X : Int, X = (x : Int) := ⟨_, rfl⟩
  obtain ⟨w0, hw0⟩ : ∃ w0, w0 = w.alloc (.cells #[.int .u8 1, .int .u32 X, .int .u32 (y : Int), .int .i64 now] 31) := ⟨_, rfl⟩
  have hb0 : Below w.heap.size w w0 := by rw [hw0]; exact (Below.refl _ _).alloc (Nat.le_refl _) _
  have hq0 : w0.heap[w.heap.size]? = some (.cells #[.int .u8 1, .int .u32 X, .int .u32 (y : Int), .int .i64 now] 31 (0, 0)) := by rw [hw0]; exact heap_alloc_new w _
  have c0 := cell_of_row w0 w.heap.size 0 _ _ _ hq0
  have c1 := cell_of_row w0 w.heap.size 1 _ _ _ hq0
  have c2 := cell_of_row w0 w.heap.size 2 _ _ _ hq0
  have c3 := cell_of_row w0 w.heap.size 3 _ _ _ hq0
  simp at c0 c1 c2 c3
  have hC := beat_miss v x now w0 (h.after hb0)
  rw [← hX] at hC
  have HC := Lib.hid hC
  have HB0 := Lib.hid hb0
  have H0 := Lib.hid hw0
  rw [← hX]
  clear h hC hb0 hw0 hq0 hX
  go_enter Try.func9, Try.ntmps9
  go_upto_region 1 with (fail)
  rw [← H0.out]
  go_wp2_with fail
  refine HC.out.mono ?_
  rintro r w1 ⟨rfl, h2⟩
  have HG := Lib.hid (HB0.out.trans (h2.mono HB0.out.size))
  clear h2
  go_wp2
  go_ret2
  exact ⟨rfl, HG.out⟩
set_option maxHeartbeats 2000000 in
theorem do2_there {B P I : Nat} {beat : Int} {l : List In} (k : Nat) (e : In) (y : Nat) (now : Int) (w : World) (h : Po w B P I beat l) (hk : l[k]? = some e) (hI : Iv e) : Calls Try.prog 9 #[.pointer (some ⟨P, 0, none⟩), .agg #[.int .u8 2, .int .u32 ((k + 1 : Nat) : Int), .int .u32 (y : Int), .int .i64 now]] w (Ret2 (stepQ 2 y now e) B P I beat l k w) := by
  obtain ⟨X, hX⟩ : ∃ X : Int, X = ((k + 1 : Nat) : Int) := ⟨_, rfl⟩
  obtain ⟨q, hq⟩ : ∃ q, q = stepQ 2 y now e := ⟨_, rfl⟩
  obtain ⟨w0, hw0⟩ : ∃ w0, w0 = w.alloc (.cells #[.int .u8 2, .int .u32 X, .int .u32 (y : Int), .int .i64 now] 31) := ⟨_, rfl⟩
  have hb0 : Below w.heap.size w w0 := by rw [hw0]; exact (Below.refl _ _).alloc (Nat.le_refl _) _
  have hq0 : w0.heap[w.heap.size]? = some (.cells #[.int .u8 2, .int .u32 X, .int .u32 (y : Int), .int .i64 now] 31 (0, 0)) := by rw [hw0]; exact heap_alloc_new w _
  have c0 := cell_of_row w0 w.heap.size 0 _ _ _ hq0
  have c1 := cell_of_row w0 w.heap.size 1 _ _ _ hq0
  have c2 := cell_of_row w0 w.heap.size 2 _ _ _ hq0
  have c3 := cell_of_row w0 w.heap.size 3 _ _ _ hq0
  simp at c0 c1 c2 c3
  have hC := hold_all k e y now w0 (h.after hb0) hk hI
  rw [← hq, ← hX] at hC
  have HC := Lib.hid hC
  have HB0 := Lib.hid hb0
  have H0 := Lib.hid hw0
  rw [← hq, ← hX]
  clear h hk hI hC hb0 hw0 hq0 hq hX
  go_enter Try.func9, Try.ntmps9
  go_upto_region 1 with (fail)
  rw [← H0.out]
  go_wp2_with fail
  refine HC.out.mono ?_
  rintro r w1 ⟨rfl, h0, h1, h2⟩
  have HP := Lib.hid h1
  have HG := Lib.hid ((Gr.of_below HB0.out).trans h2)
  obtain ⟨q1, q2, q3⟩ := q
  simp only at h0
  subst h0
  clear h1 h2
  go_wp2
  go_ret2
  exact ⟨rfl, HP.out, HG.out⟩
set_option maxHeartbeats 2000000 in
theorem do2_miss (v : Value) (x y : Nat) (now : Int) (w : World) (h : MissA w v x) : Calls Try.prog 9 #[v, .agg #[.int .u8 2, .int .u32 (x : Int), .int .u32 (y : Int), .int .i64 now]] w fun r w' => r = .returned (.tuple #[.int .u32 0, .int .i64 12]) ∧ Below w.heap.size w w' := by
  obtain ⟨X, hX⟩ : ∃ X : Int, X = (x : Int) := ⟨_, rfl⟩
  obtain ⟨w0, hw0⟩ : ∃ w0, w0 = w.alloc (.cells #[.int .u8 2, .int .u32 X, .int .u32 (y : Int), .int .i64 now] 31) := ⟨_, rfl⟩
  have hb0 : Below w.heap.size w w0 := by rw [hw0]; exact (Below.refl _ _).alloc (Nat.le_refl _) _
  have hq0 : w0.heap[w.heap.size]? = some (.cells #[.int .u8 2, .int .u32 X, .int .u32 (y : Int), .int .i64 now] 31 (0, 0)) := by rw [hw0]; exact heap_alloc_new w _
  have c0 := cell_of_row w0 w.heap.size 0 _ _ _ hq0
  have c1 := cell_of_row w0 w.heap.size 1 _ _ _ hq0
  have c2 := cell_of_row w0 w.heap.size 2 _ _ _ hq0
  have c3 := cell_of_row w0 w.heap.size 3 _ _ _ hq0
  simp at c0 c1 c2 c3
  have hC := hold_miss v x y w0 (h.after hb0)
  rw [← hX] at hC
  have HC := Lib.hid hC
  have HB0 := Lib.hid hb0
  have H0 := Lib.hid hw0
  rw [← hX]
  clear h hC hb0 hw0 hq0 hX
  go_enter Try.func9, Try.ntmps9
  go_upto_region 1 with (fail)
  rw [← H0.out]
  go_wp2_with fail
  refine HC.out.mono ?_
  rintro r w1 ⟨rfl, h2⟩
  have HG := Lib.hid (HB0.out.trans (h2.mono HB0.out.size))
  clear h2
  go_wp2
  go_ret2
  exact ⟨rfl, HG.out⟩
set_option maxHeartbeats 2000000 in
theorem do3_there {B P I : Nat} {beat : Int} {l : List In} (k : Nat) (e : In) (y : Nat) (now : Int) (w : World) (h : Po w B P I beat l) (hk : l[k]? = some e) (hI : Iv e) : Calls Try.prog 9 #[.pointer (some ⟨P, 0, none⟩), .agg #[.int .u8 3, .int .u32 ((k + 1 : Nat) : Int), .int .u32 (y : Int), .int .i64 now]] w (Ret2 (stepQ 3 y now e) B P I beat l k w) := by
  obtain ⟨X, hX⟩ : ∃ X : Int, X = ((k + 1 : Nat) : Int) := ⟨_, rfl⟩
  obtain ⟨q, hq⟩ : ∃ q, q = stepQ 3 y now e := ⟨_, rfl⟩
  obtain ⟨w0, hw0⟩ : ∃ w0, w0 = w.alloc (.cells #[.int .u8 3, .int .u32 X, .int .u32 (y : Int), .int .i64 now] 31) := ⟨_, rfl⟩
  have hb0 : Below w.heap.size w w0 := by rw [hw0]; exact (Below.refl _ _).alloc (Nat.le_refl _) _
  have hq0 : w0.heap[w.heap.size]? = some (.cells #[.int .u8 3, .int .u32 X, .int .u32 (y : Int), .int .i64 now] 31 (0, 0)) := by rw [hw0]; exact heap_alloc_new w _
  have c0 := cell_of_row w0 w.heap.size 0 _ _ _ hq0
  have c1 := cell_of_row w0 w.heap.size 1 _ _ _ hq0
  have c2 := cell_of_row w0 w.heap.size 2 _ _ _ hq0
  have c3 := cell_of_row w0 w.heap.size 3 _ _ _ hq0
  simp at c0 c1 c2 c3
  have hC := start_all k e y now w0 (h.after hb0) hk hI
  rw [← hq, ← hX] at hC
  have HC := Lib.hid hC
  have HB0 := Lib.hid hb0
  have H0 := Lib.hid hw0
  rw [← hq, ← hX]
  clear h hk hI hC hb0 hw0 hq0 hq hX
  go_enter Try.func9, Try.ntmps9
  go_upto_region 1 with (fail)
  rw [← H0.out]
  go_wp2_with fail
  refine HC.out.mono ?_
  rintro r w1 ⟨rfl, h0, h1, h2⟩
  have HP := Lib.hid h1
  have HG := Lib.hid ((Gr.of_below HB0.out).trans h2)
  obtain ⟨q1, q2, q3⟩ := q
  simp only at h0
  subst h0
  clear h1 h2
  go_wp2
  go_ret2
  exact ⟨rfl, HP.out, HG.out⟩
set_option maxHeartbeats 2000000 in
theorem do3_miss (v : Value) (x y : Nat) (now : Int) (w : World) (h : MissA w v x) : Calls Try.prog 9 #[v, .agg #[.int .u8 3, .int .u32 (x : Int), .int .u32 (y : Int), .int .i64 now]] w fun r w' => r = .returned (.tuple #[.int .u32 0, .int .i64 12]) ∧ Below w.heap.size w w' := by
  obtain ⟨X, hX⟩ : ∃ X : Int, X = (x : Int) := ⟨_, rfl⟩
  obtain ⟨w0, hw0⟩ : ∃ w0, w0 = w.alloc (.cells #[.int .u8 3, .int .u32 X, .int .u32 (y : Int), .int .i64 now] 31) := ⟨_, rfl⟩
  have hb0 : Below w.heap.size w w0 := by rw [hw0]; exact (Below.refl _ _).alloc (Nat.le_refl _) _
  have hq0 : w0.heap[w.heap.size]? = some (.cells #[.int .u8 3, .int .u32 X, .int .u32 (y : Int), .int .i64 now] 31 (0, 0)) := by rw [hw0]; exact heap_alloc_new w _
  have c0 := cell_of_row w0 w.heap.size 0 _ _ _ hq0
  have c1 := cell_of_row w0 w.heap.size 1 _ _ _ hq0
  have c2 := cell_of_row w0 w.heap.size 2 _ _ _ hq0
  have c3 := cell_of_row w0 w.heap.size 3 _ _ _ hq0
  simp at c0 c1 c2 c3
  have hC := start_miss v x now w0 (h.after hb0)
  rw [← hX] at hC
  have HC := Lib.hid hC
  have HB0 := Lib.hid hb0
  have H0 := Lib.hid hw0
  rw [← hX]
  clear h hC hb0 hw0 hq0 hX
  go_enter Try.func9, Try.ntmps9
  go_upto_region 1 with (fail)
  rw [← H0.out]
  go_wp2_with fail
  refine HC.out.mono ?_
  rintro r w1 ⟨rfl, h2⟩
  have HG := Lib.hid (HB0.out.trans (h2.mono HB0.out.size))
  clear h2
  go_wp2
  go_ret2
  exact ⟨rfl, HG.out⟩
set_option maxHeartbeats 2000000 in
theorem do4_there {B P I : Nat} {beat : Int} {l : List In} (k : Nat) (e : In) (y : Nat) (now : Int) (w : World) (h : Po w B P I beat l) (hk : l[k]? = some e) (hI : Iv e) : Calls Try.prog 9 #[.pointer (some ⟨P, 0, none⟩), .agg #[.int .u8 4, .int .u32 ((k + 1 : Nat) : Int), .int .u32 (y : Int), .int .i64 now]] w (Ret2 (stepQ 4 y now e) B P I beat l k w) := by
  obtain ⟨X, hX⟩ : ∃ X : Int, X = ((k + 1 : Nat) : Int) := ⟨_, rfl⟩
  obtain ⟨q, hq⟩ : ∃ q, q = stepQ 4 y now e := ⟨_, rfl⟩
  obtain ⟨w0, hw0⟩ : ∃ w0, w0 = w.alloc (.cells #[.int .u8 4, .int .u32 X, .int .u32 (y : Int), .int .i64 now] 31) := ⟨_, rfl⟩
  have hb0 : Below w.heap.size w w0 := by rw [hw0]; exact (Below.refl _ _).alloc (Nat.le_refl _) _
  have hq0 : w0.heap[w.heap.size]? = some (.cells #[.int .u8 4, .int .u32 X, .int .u32 (y : Int), .int .i64 now] 31 (0, 0)) := by rw [hw0]; exact heap_alloc_new w _
  have c0 := cell_of_row w0 w.heap.size 0 _ _ _ hq0
  have c1 := cell_of_row w0 w.heap.size 1 _ _ _ hq0
  have c2 := cell_of_row w0 w.heap.size 2 _ _ _ hq0
  have c3 := cell_of_row w0 w.heap.size 3 _ _ _ hq0
  simp at c0 c1 c2 c3
  have hC := up_all k e y now w0 (h.after hb0) hk hI
  rw [← hq, ← hX] at hC
  have HC := Lib.hid hC
  have HB0 := Lib.hid hb0
  have H0 := Lib.hid hw0
  rw [← hq, ← hX]
  clear h hk hI hC hb0 hw0 hq0 hq hX
  go_enter Try.func9, Try.ntmps9
  go_upto_region 1 with (fail)
  rw [← H0.out]
  go_wp2_with fail
  refine HC.out.mono ?_
  rintro r w1 ⟨rfl, h0, h1, h2⟩
  have HP := Lib.hid h1
  have HG := Lib.hid ((Gr.of_below HB0.out).trans h2)
  obtain ⟨q1, q2, q3⟩ := q
  simp only at h0
  subst h0
  clear h1 h2
  go_wp2
  go_ret2
  exact ⟨rfl, HP.out, HG.out⟩
set_option maxHeartbeats 2000000 in
theorem do4_miss (v : Value) (x y : Nat) (now : Int) (w : World) (h : MissA w v x) : Calls Try.prog 9 #[v, .agg #[.int .u8 4, .int .u32 (x : Int), .int .u32 (y : Int), .int .i64 now]] w fun r w' => r = .returned (.tuple #[.int .u32 0, .int .i64 12]) ∧ Below w.heap.size w w' := by
  obtain ⟨X, hX⟩ : ∃ X : Int, X = (x : Int) := ⟨_, rfl⟩
  obtain ⟨w0, hw0⟩ : ∃ w0, w0 = w.alloc (.cells #[.int .u8 4, .int .u32 X, .int .u32 (y : Int), .int .i64 now] 31) := ⟨_, rfl⟩
  have hb0 : Below w.heap.size w w0 := by rw [hw0]; exact (Below.refl _ _).alloc (Nat.le_refl _) _
  have hq0 : w0.heap[w.heap.size]? = some (.cells #[.int .u8 4, .int .u32 X, .int .u32 (y : Int), .int .i64 now] 31 (0, 0)) := by rw [hw0]; exact heap_alloc_new w _
  have c0 := cell_of_row w0 w.heap.size 0 _ _ _ hq0
  have c1 := cell_of_row w0 w.heap.size 1 _ _ _ hq0
  have c2 := cell_of_row w0 w.heap.size 2 _ _ _ hq0
  have c3 := cell_of_row w0 w.heap.size 3 _ _ _ hq0
  simp at c0 c1 c2 c3
  have hC := up_miss v x now w0 (h.after hb0)
  rw [← hX] at hC
  have HC := Lib.hid hC
  have HB0 := Lib.hid hb0
  have H0 := Lib.hid hw0
  rw [← hX]
  clear h hC hb0 hw0 hq0 hX
  go_enter Try.func9, Try.ntmps9
  go_upto_region 1 with (fail)
  rw [← H0.out]
  go_wp2_with fail
  refine HC.out.mono ?_
  rintro r w1 ⟨rfl, h2⟩
  have HG := Lib.hid (HB0.out.trans (h2.mono HB0.out.size))
  clear h2
  go_wp2
  go_ret2
  exact ⟨rfl, HG.out⟩
set_option maxHeartbeats 2000000 in
theorem do5_there {B P I : Nat} {beat : Int} {l : List In} (k : Nat) (e : In) (y : Nat) (now : Int) (w : World) (h : Po w B P I beat l) (hk : l[k]? = some e) (hI : Iv e) : Calls Try.prog 9 #[.pointer (some ⟨P, 0, none⟩), .agg #[.int .u8 5, .int .u32 ((k + 1 : Nat) : Int), .int .u32 (y : Int), .int .i64 now]] w (Ret2 (stepQ 5 y now e) B P I beat l k w) := by
  obtain ⟨X, hX⟩ : ∃ X : Int, X = ((k + 1 : Nat) : Int) := ⟨_, rfl⟩
  obtain ⟨q, hq⟩ : ∃ q, q = stepQ 5 y now e := ⟨_, rfl⟩
  obtain ⟨w0, hw0⟩ : ∃ w0, w0 = w.alloc (.cells #[.int .u8 5, .int .u32 X, .int .u32 (y : Int), .int .i64 now] 31) := ⟨_, rfl⟩
  have hb0 : Below w.heap.size w w0 := by rw [hw0]; exact (Below.refl _ _).alloc (Nat.le_refl _) _
  have hq0 : w0.heap[w.heap.size]? = some (.cells #[.int .u8 5, .int .u32 X, .int .u32 (y : Int), .int .i64 now] 31 (0, 0)) := by rw [hw0]; exact heap_alloc_new w _
  have c0 := cell_of_row w0 w.heap.size 0 _ _ _ hq0
  have c1 := cell_of_row w0 w.heap.size 1 _ _ _ hq0
  have c2 := cell_of_row w0 w.heap.size 2 _ _ _ hq0
  have c3 := cell_of_row w0 w.heap.size 3 _ _ _ hq0
  simp at c0 c1 c2 c3
  have hC := let__all k e y now w0 (h.after hb0) hk hI
  rw [← hq, ← hX] at hC
  have HC := Lib.hid hC
  have HB0 := Lib.hid hb0
  have H0 := Lib.hid hw0
  rw [← hq, ← hX]
  clear h hk hI hC hb0 hw0 hq0 hq hX
  go_enter Try.func9, Try.ntmps9
  go_upto_region 1 with (fail)
  rw [← H0.out]
  go_wp2_with fail
  refine HC.out.mono ?_
  rintro r w1 ⟨rfl, h0, h1, h2⟩
  have HP := Lib.hid h1
  have HG := Lib.hid ((Gr.of_below HB0.out).trans h2)
  obtain ⟨q1, q2, q3⟩ := q
  simp only at h0
  subst h0
  clear h1 h2
  go_wp2
  go_ret2
  exact ⟨rfl, HP.out, HG.out⟩
set_option maxHeartbeats 2000000 in
theorem do5_miss (v : Value) (x y : Nat) (now : Int) (w : World) (h : MissA w v x) : Calls Try.prog 9 #[v, .agg #[.int .u8 5, .int .u32 (x : Int), .int .u32 (y : Int), .int .i64 now]] w fun r w' => r = .returned (.tuple #[.int .u32 0, .int .i64 12]) ∧ Below w.heap.size w w' := by
  obtain ⟨X, hX⟩ : ∃ X : Int, X = (x : Int) := ⟨_, rfl⟩
  obtain ⟨w0, hw0⟩ : ∃ w0, w0 = w.alloc (.cells #[.int .u8 5, .int .u32 X, .int .u32 (y : Int), .int .i64 now] 31) := ⟨_, rfl⟩
  have hb0 : Below w.heap.size w w0 := by rw [hw0]; exact (Below.refl _ _).alloc (Nat.le_refl _) _
  have hq0 : w0.heap[w.heap.size]? = some (.cells #[.int .u8 5, .int .u32 X, .int .u32 (y : Int), .int .i64 now] 31 (0, 0)) := by rw [hw0]; exact heap_alloc_new w _
  have c0 := cell_of_row w0 w.heap.size 0 _ _ _ hq0
  have c1 := cell_of_row w0 w.heap.size 1 _ _ _ hq0
  have c2 := cell_of_row w0 w.heap.size 2 _ _ _ hq0
  have c3 := cell_of_row w0 w.heap.size 3 _ _ _ hq0
  simp at c0 c1 c2 c3
  have hC := let__miss v x w0 (h.after hb0)
  rw [← hX] at hC
  have HC := Lib.hid hC
  have HB0 := Lib.hid hb0
  have H0 := Lib.hid hw0
  rw [← hX]
  clear h hC hb0 hw0 hq0 hX
  go_enter Try.func9, Try.ntmps9
  go_upto_region 1 with (fail)
  rw [← H0.out]
  go_wp2_with fail
  refine HC.out.mono ?_
  rintro r w1 ⟨rfl, h2⟩
  have HG := Lib.hid (HB0.out.trans (h2.mono HB0.out.size))
  clear h2
  go_wp2
  go_ret2
  exact ⟨rfl, HG.out⟩
set_option maxHeartbeats 2000000 in
theorem do6_there {B P I : Nat} {beat : Int} {l : List In} (k : Nat) (e : In) (y : Nat) (now : Int) (w : World) (h : Po w B P I beat l) (hk : l[k]? = some e) (hI : Iv e) : Calls Try.prog 9 #[.pointer (some ⟨P, 0, none⟩), .agg #[.int .u8 6, .int .u32 ((k + 1 : Nat) : Int), .int .u32 (y : Int), .int .i64 now]] w (Ret2 (stepQ 6 y now e) B P I beat l k w) := by
  obtain ⟨X, hX⟩ : ∃ X : Int, X = ((k + 1 : Nat) : Int) := ⟨_, rfl⟩
  obtain ⟨q, hq⟩ : ∃ q, q = stepQ 6 y now e := ⟨_, rfl⟩
  obtain ⟨w0, hw0⟩ : ∃ w0, w0 = w.alloc (.cells #[.int .u8 6, .int .u32 X, .int .u32 (y : Int), .int .i64 now] 31) := ⟨_, rfl⟩
  have hb0 : Below w.heap.size w w0 := by rw [hw0]; exact (Below.refl _ _).alloc (Nat.le_refl _) _
  have hq0 : w0.heap[w.heap.size]? = some (.cells #[.int .u8 6, .int .u32 X, .int .u32 (y : Int), .int .i64 now] 31 (0, 0)) := by rw [hw0]; exact heap_alloc_new w _
  have c0 := cell_of_row w0 w.heap.size 0 _ _ _ hq0
  have c1 := cell_of_row w0 w.heap.size 1 _ _ _ hq0
  have c2 := cell_of_row w0 w.heap.size 2 _ _ _ hq0
  have c3 := cell_of_row w0 w.heap.size 3 _ _ _ hq0
  simp at c0 c1 c2 c3
  have hC := drain_all k e y now w0 (h.after hb0) hk hI
  rw [← hq, ← hX] at hC
  have HC := Lib.hid hC
  have HB0 := Lib.hid hb0
  have H0 := Lib.hid hw0
  rw [← hq, ← hX]
  clear h hk hI hC hb0 hw0 hq0 hq hX
  go_enter Try.func9, Try.ntmps9
  go_upto_region 1 with (fail)
  rw [← H0.out]
  go_wp2_with fail
  refine HC.out.mono ?_
  rintro r w1 ⟨rfl, h0, h1, h2⟩
  have HP := Lib.hid h1
  have HG := Lib.hid ((Gr.of_below HB0.out).trans h2)
  obtain ⟨q1, q2, q3⟩ := q
  simp only at h0
  subst h0
  clear h1 h2
  go_wp2
  go_ret2
  exact ⟨rfl, HP.out, HG.out⟩
set_option maxHeartbeats 2000000 in
theorem do6_miss (v : Value) (x y : Nat) (now : Int) (w : World) (h : MissA w v x) : Calls Try.prog 9 #[v, .agg #[.int .u8 6, .int .u32 (x : Int), .int .u32 (y : Int), .int .i64 now]] w fun r w' => r = .returned (.tuple #[.int .u32 0, .int .i64 12]) ∧ Below w.heap.size w w' := by
  obtain ⟨X, hX⟩ : ∃ X : Int, X = (x : Int) := ⟨_, rfl⟩
  obtain ⟨w0, hw0⟩ : ∃ w0, w0 = w.alloc (.cells #[.int .u8 6, .int .u32 X, .int .u32 (y : Int), .int .i64 now] 31) := ⟨_, rfl⟩
  have hb0 : Below w.heap.size w w0 := by rw [hw0]; exact (Below.refl _ _).alloc (Nat.le_refl _) _
  have hq0 : w0.heap[w.heap.size]? = some (.cells #[.int .u8 6, .int .u32 X, .int .u32 (y : Int), .int .i64 now] 31 (0, 0)) := by rw [hw0]; exact heap_alloc_new w _
  have c0 := cell_of_row w0 w.heap.size 0 _ _ _ hq0
  have c1 := cell_of_row w0 w.heap.size 1 _ _ _ hq0
  have c2 := cell_of_row w0 w.heap.size 2 _ _ _ hq0
  have c3 := cell_of_row w0 w.heap.size 3 _ _ _ hq0
  simp at c0 c1 c2 c3
  have hC := drain_miss v x w0 (h.after hb0)
  rw [← hX] at hC
  have HC := Lib.hid hC
  have HB0 := Lib.hid hb0
  have H0 := Lib.hid hw0
  rw [← hX]
  clear h hC hb0 hw0 hq0 hX
  go_enter Try.func9, Try.ntmps9
  go_upto_region 1 with (fail)
  rw [← H0.out]
  go_wp2_with fail
  refine HC.out.mono ?_
  rintro r w1 ⟨rfl, h2⟩
  have HG := Lib.hid (HB0.out.trans (h2.mono HB0.out.size))
  clear h2
  go_wp2
  go_ret2
  exact ⟨rfl, HG.out⟩
set_option maxHeartbeats 2000000 in
theorem do7_there {B P I : Nat} {beat : Int} {l : List In} (k : Nat) (e : In) (y : Nat) (now : Int) (w : World) (h : Po w B P I beat l) (hk : l[k]? = some e) (hI : Iv e) : Calls Try.prog 9 #[.pointer (some ⟨P, 0, none⟩), .agg #[.int .u8 7, .int .u32 ((k + 1 : Nat) : Int), .int .u32 (y : Int), .int .i64 now]] w (Ret2 (stepQ 7 y now e) B P I beat l k w) := by
  obtain ⟨X, hX⟩ : ∃ X : Int, X = ((k + 1 : Nat) : Int) := ⟨_, rfl⟩
  obtain ⟨q, hq⟩ : ∃ q, q = stepQ 7 y now e := ⟨_, rfl⟩
  obtain ⟨w0, hw0⟩ : ∃ w0, w0 = w.alloc (.cells #[.int .u8 7, .int .u32 X, .int .u32 (y : Int), .int .i64 now] 31) := ⟨_, rfl⟩
  have hb0 : Below w.heap.size w w0 := by rw [hw0]; exact (Below.refl _ _).alloc (Nat.le_refl _) _
  have hq0 : w0.heap[w.heap.size]? = some (.cells #[.int .u8 7, .int .u32 X, .int .u32 (y : Int), .int .i64 now] 31 (0, 0)) := by rw [hw0]; exact heap_alloc_new w _
  have c0 := cell_of_row w0 w.heap.size 0 _ _ _ hq0
  have c1 := cell_of_row w0 w.heap.size 1 _ _ _ hq0
  have c2 := cell_of_row w0 w.heap.size 2 _ _ _ hq0
  have c3 := cell_of_row w0 w.heap.size 3 _ _ _ hq0
  simp at c0 c1 c2 c3
  have hC := freed_all k e y now w0 (h.after hb0) hk hI
  rw [← hq, ← hX] at hC
  have HC := Lib.hid hC
  have HB0 := Lib.hid hb0
  have H0 := Lib.hid hw0
  rw [← hq, ← hX]
  clear h hk hI hC hb0 hw0 hq0 hq hX
  go_enter Try.func9, Try.ntmps9
  go_upto_region 1 with (fail)
  rw [← H0.out]
  go_wp2_with fail
  refine HC.out.mono ?_
  rintro r w1 ⟨rfl, h0, h1, h2⟩
  have HP := Lib.hid h1
  have HG := Lib.hid ((Gr.of_below HB0.out).trans h2)
  obtain ⟨q1, q2, q3⟩ := q
  simp only at h0
  subst h0
  clear h1 h2
  go_wp2
  go_ret2
  exact ⟨rfl, HP.out, HG.out⟩
set_option maxHeartbeats 2000000 in
theorem do7_miss (v : Value) (x y : Nat) (now : Int) (w : World) (h : MissA w v x) : Calls Try.prog 9 #[v, .agg #[.int .u8 7, .int .u32 (x : Int), .int .u32 (y : Int), .int .i64 now]] w fun r w' => r = .returned (.tuple #[.int .u32 0, .int .i64 12]) ∧ Below w.heap.size w w' := by
  obtain ⟨X, hX⟩ : ∃ X : Int, X = (x : Int) := ⟨_, rfl⟩
  obtain ⟨w0, hw0⟩ : ∃ w0, w0 = w.alloc (.cells #[.int .u8 7, .int .u32 X, .int .u32 (y : Int), .int .i64 now] 31) := ⟨_, rfl⟩
  have hb0 : Below w.heap.size w w0 := by rw [hw0]; exact (Below.refl _ _).alloc (Nat.le_refl _) _
  have hq0 : w0.heap[w.heap.size]? = some (.cells #[.int .u8 7, .int .u32 X, .int .u32 (y : Int), .int .i64 now] 31 (0, 0)) := by rw [hw0]; exact heap_alloc_new w _
  have c0 := cell_of_row w0 w.heap.size 0 _ _ _ hq0
  have c1 := cell_of_row w0 w.heap.size 1 _ _ _ hq0
  have c2 := cell_of_row w0 w.heap.size 2 _ _ _ hq0
  have c3 := cell_of_row w0 w.heap.size 3 _ _ _ hq0
  simp at c0 c1 c2 c3
  have hC := freed_miss v x now w0 (h.after hb0)
  rw [← hX] at hC
  have HC := Lib.hid hC
  have HB0 := Lib.hid hb0
  have H0 := Lib.hid hw0
  rw [← hX]
  clear h hC hb0 hw0 hq0 hX
  go_enter Try.func9, Try.ntmps9
  go_upto_region 1 with (fail)
  rw [← H0.out]
  go_wp2_with fail
  refine HC.out.mono ?_
  rintro r w1 ⟨rfl, h2⟩
  have HG := Lib.hid (HB0.out.trans (h2.mono HB0.out.size))
  clear h2
  go_wp2
  go_ret2
  exact ⟨rfl, HG.out⟩
set_option maxHeartbeats 2000000 in
theorem do8_there {B P I : Nat} {beat : Int} {l : List In} (k : Nat) (e : In) (y : Nat) (now : Int) (d : Int) (hd : 8 ≤ d) (w : World) (h : Po w B P I beat l) (hk : l[k]? = some e) (hI : Iv e) : Calls Try.prog 9 #[.pointer (some ⟨P, 0, none⟩), .agg #[.int .u8 d, .int .u32 ((k + 1 : Nat) : Int), .int .u32 (y : Int), .int .i64 now]] w (Ret2 (stepQ d y now e) B P I beat l k w) := by
  obtain ⟨X, hX⟩ : ∃ X : Int, X = ((k + 1 : Nat) : Int) := ⟨_, rfl⟩
  obtain ⟨q, hq⟩ : ∃ q, q = stepQ d y now e := ⟨_, rfl⟩
  obtain ⟨w0, hw0⟩ : ∃ w0, w0 = w.alloc (.cells #[.int .u8 d, .int .u32 X, .int .u32 (y : Int), .int .i64 now] 31) := ⟨_, rfl⟩
  have hb0 : Below w.heap.size w w0 := by rw [hw0]; exact (Below.refl _ _).alloc (Nat.le_refl _) _
  have hq0 : w0.heap[w.heap.size]? = some (.cells #[.int .u8 d, .int .u32 X, .int .u32 (y : Int), .int .i64 now] 31 (0, 0)) := by rw [hw0]; exact heap_alloc_new w _
  have c0 := cell_of_row w0 w.heap.size 0 _ _ _ hq0
  have c1 := cell_of_row w0 w.heap.size 1 _ _ _ hq0
  have c2 := cell_of_row w0 w.heap.size 2 _ _ _ hq0
  have c3 := cell_of_row w0 w.heap.size 3 _ _ _ hq0
  simp at c0 c1 c2 c3
  have hC := kill_all k e y now w0 (h.after hb0) hk hI d hd
  rw [← hq, ← hX] at hC
  have HC := Lib.hid hC
  have HB0 := Lib.hid hb0
  have H0 := Lib.hid hw0
  rw [← hq, ← hX]
  have n0 : ¬ d = 0 := by omega
  have n1 : ¬ d = 1 := by omega
  have n2 : ¬ d = 2 := by omega
  have n3 : ¬ d = 3 := by omega
  have n4 : ¬ d = 4 := by omega
  have n5 : ¬ d = 5 := by omega
  have n6 : ¬ d = 6 := by omega
  have n7 : ¬ d = 7 := by omega
  clear h hk hI hC hb0 hw0 hq0 hq hX
  go_enter Try.func9, Try.ntmps9
  go_upto_region 1 with (fail)
  rw [← H0.out]
  go_wp2_with fail
  refine HC.out.mono ?_
  rintro r w1 ⟨rfl, h1, h2⟩
  have HP := Lib.hid h1
  have HG := Lib.hid ((Gr.of_below HB0.out).trans h2)
  clear h1 h2
  go_wp2
  go_ret2
  exact ⟨rfl, HP.out, HG.out⟩
set_option maxHeartbeats 2000000 in
theorem do8_miss (d : Int) (hd : 8 ≤ d) (v : Value) (x y : Nat) (now : Int) (w : World) (h : MissA w v x) : Calls Try.prog 9 #[v, .agg #[.int .u8 d, .int .u32 (x : Int), .int .u32 (y : Int), .int .i64 now]] w fun r w' => r = .returned (.tuple #[.int .u32 0, .int .i64 12]) ∧ Below w.heap.size w w' := by
  obtain ⟨X, hX⟩ : ∃ X : Int, X = (x : Int) := ⟨_, rfl⟩
  obtain ⟨w0, hw0⟩ : ∃ w0, w0 = w.alloc (.cells #[.int .u8 d, .int .u32 X, .int .u32 (y : Int), .int .i64 now] 31) := ⟨_, rfl⟩
  have hb0 : Below w.heap.size w w0 := by rw [hw0]; exact (Below.refl _ _).alloc (Nat.le_refl _) _
  have hq0 : w0.heap[w.heap.size]? = some (.cells #[.int .u8 d, .int .u32 X, .int .u32 (y : Int), .int .i64 now] 31 (0, 0)) := by rw [hw0]; exact heap_alloc_new w _
  have c0 := cell_of_row w0 w.heap.size 0 _ _ _ hq0
  have c1 := cell_of_row w0 w.heap.size 1 _ _ _ hq0
  have c2 := cell_of_row w0 w.heap.size 2 _ _ _ hq0
  have c3 := cell_of_row w0 w.heap.size 3 _ _ _ hq0
  simp at c0 c1 c2 c3
  have hC := kill_miss v x w0 (h.after hb0)
  rw [← hX] at hC
  have HC := Lib.hid hC
  have HB0 := Lib.hid hb0
  have H0 := Lib.hid hw0
  rw [← hX]
  have n0 : ¬ d = 0 := by omega
  have n1 : ¬ d = 1 := by omega
  have n2 : ¬ d = 2 := by omega
  have n3 : ¬ d = 3 := by omega
  have n4 : ¬ d = 4 := by omega
  have n5 : ¬ d = 5 := by omega
  have n6 : ¬ d = 6 := by omega
  have n7 : ¬ d = 7 := by omega
  clear h hC hb0 hw0 hq0 hX
  go_enter Try.func9, Try.ntmps9
  go_upto_region 1 with (fail)
  rw [← H0.out]
  go_wp2_with fail
  refine HC.out.mono ?_
  rintro r w1 ⟨rfl, h2⟩
  have HG := Lib.hid (HB0.out.trans (h2.mono HB0.out.size))
  clear h2
  go_wp2
  go_ret2
  exact ⟨rfl, HG.out⟩
theorem do_there {B P I : Nat} {beat : Int} {l : List In} (k : Nat) (e : In) (y : Nat) (now : Int) (w : World) (h : Po w B P I beat l) (hk : l[k]? = some e) (hI : Iv e) (d : Int) (hd : 0 ≤ d) : Calls Try.prog 9 #[.pointer (some ⟨P, 0, none⟩), .agg #[.int .u8 d, .int .u32 ((k + 1 : Nat) : Int), .int .u32 (y : Int), .int .i64 now]] w (Ret2 (stepQ d y now e) B P I beat l k w) := by
  by_cases h8 : 8 ≤ d
  · exact do8_there k e y now d h8 w h hk hI
  · obtain rfl | rfl | rfl | rfl | rfl | rfl | rfl | rfl : d = 0 ∨ d = 1 ∨ d = 2 ∨ d = 3 ∨ d = 4 ∨ d = 5 ∨ d = 6 ∨ d = 7 := by omega
    · exact do0_there k e y now w h hk hI
    · exact do1_there k e y now w h hk hI
    · exact do2_there k e y now w h hk hI
    · exact do3_there k e y now w h hk hI
    · exact do4_there k e y now w h hk hI
    · exact do5_there k e y now w h hk hI
    · exact do6_there k e y now w h hk hI
    · exact do7_there k e y now w h hk hI
theorem do_miss (d : Int) (hd : 0 ≤ d) (v : Value) (x y : Nat) (now : Int) (w : World) (h : MissA w v x) : Calls Try.prog 9 #[v, .agg #[.int .u8 d, .int .u32 (x : Int), .int .u32 (y : Int), .int .i64 now]] w fun r w' => r = .returned (.tuple #[.int .u32 0, .int .i64 12]) ∧ Below w.heap.size w w' := by
  by_cases h8 : 8 ≤ d
  · exact do8_miss d h8 v x y now w h
  · obtain rfl | rfl | rfl | rfl | rfl | rfl | rfl | rfl : d = 0 ∨ d = 1 ∨ d = 2 ∨ d = 3 ∨ d = 4 ∨ d = 5 ∨ d = 6 ∨ d = 7 := by omega
    · exact do0_miss v x y now w h
    · exact do1_miss v x y now w h
    · exact do2_miss v x y now w h
    · exact do3_miss v x y now w h
    · exact do4_miss v x y now w h
    · exact do5_miss v x y now w h
    · exact do6_miss v x y now w h
    · exact do7_miss v x y now w h
end Go.Proofs.Ytddjbkaofodmlaa
