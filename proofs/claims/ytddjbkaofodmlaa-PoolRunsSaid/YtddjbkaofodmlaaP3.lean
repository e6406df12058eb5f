/- Pool: move, touch. -/
import Derived.Test.YtddjbkaofodmlaaP2
namespace Go.Proofs.Ytddjbkaofodmlaa
open Go.RowKit
set_option maxRecDepth 20000
set_option linter.unusedVariables false
set_option linter.unusedSimpArgs false

theorem Po.set0 {w : World} {B P I : Nat} {beat : Int} {l : List In} (h : Po w B P I beat l) {k : Nat} {s m a : Int} (s' : Int) (hk : l[k]? = some (s, m, a)) :
    Po (w.setCell ⟨I, k * 3, none⟩ (.int .i64 s')) B P I beat (l.set k (s', m, a)) ∧ Gr I w (w.setCell ⟨I, k * 3, none⟩ (.int .i64 s')) := h.set (s', m, a) 0 _ hk (by decide) rfl
theorem Po.set1 {w : World} {B P I : Nat} {beat : Int} {l : List In} (h : Po w B P I beat l) {k : Nat} {s m a : Int} (m' : Int) (hk : l[k]? = some (s, m, a)) :
    Po (w.setCell ⟨I, k * 3 + 1, none⟩ (.int .u32 m')) B P I beat (l.set k (s, m', a)) ∧ Gr I w (w.setCell ⟨I, k * 3 + 1, none⟩ (.int .u32 m')) := h.set (s, m', a) 1 _ hk (by decide) rfl
theorem Po.set2 {w : World} {B P I : Nat} {beat : Int} {l : List In} (h : Po w B P I beat l) {k : Nat} {s m a : Int} (a' : Int) (hk : l[k]? = some (s, m, a)) :
    Po (w.setCell ⟨I, k * 3 + 2, none⟩ (.int .i64 a')) B P I beat (l.set k (s, m, a')) ∧ Gr I w (w.setCell ⟨I, k * 3 + 2, none⟩ (.int .i64 a')) := h.set (s, m, a') 2 _ hk (by decide) rfl
theorem set_at {l : List In} {k : Nat} {e e' : In} (hk : l[k]? = some e) : (l.set k e')[k]? = some e' := by
  rw [List.getElem?_set_self (List.getElem?_eq_some_iff.1 hk).1]

set_option maxHeartbeats 2000000 in
theorem move_miss (v sv : Value) (x : Nat) (tO : Int) (w : World) (h : MissA w v x) :
    Calls Try.prog 34 #[v, .int .u32 (x : Int), .int .i64 tO, sv] w fun r w' => r = .returned (.tuple #[.pointer none, .int .i64 12]) ∧ w' = w := by
  have HF := Lib.hid (in_miss v sv x w h)
  clear h
  go_enter Try.func34, Try.ntmps34
  go_wp2_with fail
  refine HF.out.mono ?_
  rintro r w' ⟨rfl, rfl⟩
  go_wp2
  go_ret2
  exact ⟨rfl, rfl⟩
set_option maxHeartbeats 2000000 in
theorem move_bad {B P I : Nat} {beat : Int} {l : List In} (G n : Nat) (ss : List Int) (k : Nat) (s m a tO : Int) (w : World) (h : Po w B P I beat l) (hk : l[k]? = some (s, m, a)) (hn : n = ss.length) (hl : n ≤ 10) (hG : w.heap[G]? = some (.cells (zs ss).toArray 3 (0, 0))) (hs : s ∉ ss) :
    Calls Try.prog 34 #[.pointer (some ⟨P, 0, none⟩), .int .u32 ((k + 1 : Nat) : Int), .int .i64 tO, .slice (some ⟨G, 0, none⟩) n n] w fun r w' => r = .returned (.tuple #[.pointer none, .int .i64 24]) ∧ w' = w := by
  have hI := in_there G n ss k s m a w h hk hn hl hG
  rw [if_neg hs] at hI
  have HF := Lib.hid hI
  clear h hk hn hl hG hs hI
  go_enter Try.func34, Try.ntmps34
  go_wp2_with fail
  refine HF.out.mono ?_
  rintro r w' ⟨rfl, rfl⟩
  go_wp2
  go_ret2
  exact ⟨rfl, rfl⟩
/-- What its match is in a state. -/
def mt (tO m : Int) : Int := if tO ∈ ([2, 3, 4] : List Int) then m else 0
set_option maxHeartbeats 2000000 in
theorem move_ok {B P I : Nat} {beat : Int} {l : List In} (G n : Nat) (ss : List Int) (k : Nat) (s m a tO : Int) (w : World) (h : Po w B P I beat l) (hk : l[k]? = some (s, m, a)) (hn : n = ss.length) (hl : n ≤ 10) (hG : w.heap[G]? = some (.cells (zs ss).toArray 3 (0, 0))) (hs : s ∈ ss) :
    Calls Try.prog 34 #[.pointer (some ⟨P, 0, none⟩), .int .u32 ((k + 1 : Nat) : Int), .int .i64 tO, .slice (some ⟨G, 0, none⟩) n n] w fun r w' => r = .returned (.tuple #[.pointer (some ⟨I, k * 3, none⟩), .int .i64 0]) ∧ Po w' B P I beat (l.set k (tO, mt tO m, a)) ∧ Gr I w w' := by
  have hI := in_there G n ss k s m a w h hk hn hl hG
  rw [if_pos hs] at hI
  have HF := Lib.hid hI
  obtain ⟨c0, c1, -⟩ := h.at hk
  have f0 := h.fz (k * 3)
  obtain ⟨w1, hw1⟩ : ∃ w1, w1 = w.setCell ⟨I, k * 3, none⟩ (.int .i64 tO) := ⟨_, rfl⟩
  obtain ⟨h1, hb1⟩ := h.set0 tO hk
  rw [← hw1] at h1 hb1
  obtain ⟨w2, hw2⟩ : ∃ w2, w2 = w1.alloc (.cells #[.int .i64 2, .int .i64 3, .int .i64 4] 3) := ⟨_, rfl⟩
  have hb2 : Below w1.heap.size w1 w2 := by rw [hw2]; exact (Below.refl _ _).alloc (Nat.le_refl _) _
  have hq2 : w2.heap[w1.heap.size]? = some (.cells (zs [2, 3, 4]).toArray 3 (0, 0)) := by rw [hw2]; exact heap_alloc_new w1 _
  have h2 := h1.after hb2
  have hk2 := set_at (e' := (tO, m, a)) hk
  obtain ⟨-, d1, -⟩ := h2.at hk2
  have f1 := h2.fz (k * 3 + 1)
  have HC := Lib.hid (contains_any w1.heap.size 3 [2, 3, 4] tO w2 rfl (by decide) hq2)
  have H1 := Lib.hid hw1
  have H2 := Lib.hid hw2
  have HB2 := Lib.hid (hb1.trans (Gr.of_below hb2))
  by_cases ht : tO ∈ ([2, 3, 4] : List Int)
  · have hd : decide (tO ∈ ([2, 3, 4] : List Int)) = true := by simpa using ht
    have hm : mt tO m = m := by unfold mt; rw [if_pos ht]
    rw [hd] at HC
    rw [hm]
    have HP := Lib.hid h2
    clear h hk hn hl hG hs hI hw1 hw2 h1 hb1 hb2 hq2 h2 hk2 ht hd hm d1 f1
    go_enter Try.func34, Try.ntmps34
    go_wp2_with fail
    refine HF.out.mono ?_
    rintro r w' ⟨rfl, rfl⟩
    go_upto_region 5 with (fail)
    rw [← H1.out]
    go_wp2_with fail
    rw [← H2.out]
    refine HC.out.mono ?_
    rintro r w' ⟨rfl, rfl⟩
    go_wp2
    go_ret2
    exact ⟨rfl, HP.out, HB2.out⟩
  · have hd : decide (tO ∈ ([2, 3, 4] : List Int)) = false := by simpa using ht
    have hm : mt tO m = 0 := by unfold mt; rw [if_neg ht]
    rw [hd] at HC
    rw [hm]
    obtain ⟨h3, hb3⟩ := h2.set1 0 hk2
    rw [List.set_set] at h3
    have HP := Lib.hid h3
    have HB3 := Lib.hid (HB2.out.trans hb3)
    clear h hk hn hl hG hs hI hw1 hw2 h1 hb1 hb2 hq2 h2 hk2 ht hd hm h3 hb3
    go_enter Try.func34, Try.ntmps34
    go_wp2_with fail
    refine HF.out.mono ?_
    rintro r w' ⟨rfl, rfl⟩
    go_upto_region 5 with (fail)
    rw [← H1.out]
    go_wp2_with fail
    rw [← H2.out]
    refine HC.out.mono ?_
    rintro r w' ⟨rfl, rfl⟩
    go_wp2
    go_ret2
    exact ⟨rfl, HP.out, HB3.out⟩
set_option maxHeartbeats 2000000 in
theorem touch_miss (v sv : Value) (x : Nat) (now tO : Int) (w : World) (h : MissA w v x) :
    Calls Try.prog 37 #[v, .int .u32 (x : Int), .int .i64 now, .int .i64 tO, sv] w fun r w' => r = .returned (.int .i64 12) ∧ w' = w := by
  have HF := Lib.hid (move_miss v sv x tO w h)
  clear h
  go_enter Try.func37, Try.ntmps37
  go_wp2_with fail
  refine HF.out.mono ?_
  rintro r w' ⟨rfl, rfl⟩
  go_wp2
  go_ret
  exact ⟨rfl, rfl⟩
set_option maxHeartbeats 2000000 in
theorem touch_bad {B P I : Nat} {beat : Int} {l : List In} (G n : Nat) (ss : List Int) (k : Nat) (s m a now tO : Int) (w : World) (h : Po w B P I beat l) (hk : l[k]? = some (s, m, a)) (hn : n = ss.length) (hl : n ≤ 10) (hG : w.heap[G]? = some (.cells (zs ss).toArray 3 (0, 0))) (hs : s ∉ ss) :
    Calls Try.prog 37 #[.pointer (some ⟨P, 0, none⟩), .int .u32 ((k + 1 : Nat) : Int), .int .i64 now, .int .i64 tO, .slice (some ⟨G, 0, none⟩) n n] w fun r w' => r = .returned (.int .i64 24) ∧ w' = w := by
  have HF := Lib.hid (move_bad G n ss k s m a tO w h hk hn hl hG hs)
  clear h hk hn hl hG hs
  go_enter Try.func37, Try.ntmps37
  go_wp2_with fail
  refine HF.out.mono ?_
  rintro r w' ⟨rfl, rfl⟩
  go_wp2
  go_ret
  exact ⟨rfl, rfl⟩
set_option maxHeartbeats 2000000 in
theorem touch_ok {B P I : Nat} {beat : Int} {l : List In} (G n : Nat) (ss : List Int) (k : Nat) (s m a now tO : Int) (w : World) (h : Po w B P I beat l) (hk : l[k]? = some (s, m, a)) (hn : n = ss.length) (hl : n ≤ 10) (hG : w.heap[G]? = some (.cells (zs ss).toArray 3 (0, 0))) (hs : s ∈ ss) :
    Calls Try.prog 37 #[.pointer (some ⟨P, 0, none⟩), .int .u32 ((k + 1 : Nat) : Int), .int .i64 now, .int .i64 tO, .slice (some ⟨G, 0, none⟩) n n] w fun r w' => r = .returned (.int .i64 0) ∧ Po w' B P I beat (l.set k (tO, mt tO m, now)) ∧ Gr I w w' := by
  have HF := Lib.hid (move_ok G n ss k s m a tO w h hk hn hl hG hs)
  have HK := Lib.hid hk
  clear h hk hn hl hG hs
  go_enter Try.func37, Try.ntmps37
  go_wp2_with fail
  refine HF.out.mono ?_
  rintro r w1 ⟨rfl, h1, hb1⟩
  have hk1 := set_at (e' := (tO, mt tO m, a)) HK.out
  obtain ⟨h3, hb3⟩ := h1.set2 now hk1
  rw [List.set_set] at h3
  obtain ⟨-, -, c2⟩ := h1.at hk1
  have f2 := h1.fz (k * 3 + 2)
  have HP := Lib.hid h3
  have HB3 := Lib.hid (hb1.trans hb3)
  clear h1 hb1 hk1 h3 hb3
  go_wp2
  go_ret
  exact ⟨rfl, HP.out, HB3.out⟩
end Go.Proofs.Ytddjbkaofodmlaa
