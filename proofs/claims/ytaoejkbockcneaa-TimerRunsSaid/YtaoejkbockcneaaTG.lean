/- Timer: the document's Due. -/
import Derived.Test.YtaoejkbockcneaaTF
namespace Go.Proofs.Ytaoejkbockcneaa
open Go.RowKit
set_option maxRecDepth 20000

theorem min_ex {L : List It} (hl : 0 < L.length) : ∃ m ∈ L, ∀ y ∈ L, lt y m = false := by
  induction L with
  | nil => simp at hl
  | cons a L ih =>
    by_cases h : 0 < L.length
    · obtain ⟨m, hm, hmin⟩ := ih h
      by_cases hc : lt m a = true
      · refine ⟨m, by simp [hm], fun y hy => ?_⟩
        rcases List.mem_cons.1 hy with rfl | hy
        · exact lt_asym hc
        · exact hmin y hy
      · have hc : lt m a = false := by simpa using hc
        refine ⟨a, by simp, fun y hy => ?_⟩
        rcases List.mem_cons.1 hy with rfl | hy
        · rw [lt_iff']; omega
        · exact ge_trans (hmin y hy) hc
    · have h0 : L = [] := List.length_eq_zero_iff.1 (by omega)
      subst h0
      exact ⟨a, by simp, fun y hy => by
        simp at hy
        subst hy
        rw [lt_iff']
        omega⟩

set_option linter.unusedSimpArgs false in
set_option maxHeartbeats 8000000 in
theorem rdue_none (A : Option Addr) (n c : Nat) (L : List It) (now : Int) (w : World) (hn : n = L.length) (hR : Rt w w.heap.size A L) (hl : n ≤ 900) (hs : Ris L) (hlate : ∀ e ∈ L, now < e.2.2.2.1) :
    Calls Try.prog 18 #[.slice A n c, .int .i64 now] w fun r w' => r = .returned (.tuple #[tV 0 0 0, .slice A n c, .bool false]) ∧ Below w.heap.size w w' := by
  by_cases h0 : n = 0
  · subst h0
    clear hs hlate hR hn
    obtain ⟨n, hnz⟩ : ∃ n, n = 0 := ⟨_, rfl⟩
    rw [← hnz]
    subst hnz
    obtain ⟨T4, hT4⟩ : ∃ T4, T4 = w.heap.size := ⟨_, rfl⟩
    obtain ⟨w0, hw0⟩ : ∃ w0, w0 = w.alloc (.cells #[.int .i64 0, .int .u32 0, .int .i64 0] 38) := ⟨_, rfl⟩
    have hb0 : Below w.heap.size w w0 := by rw [hw0]; exact (Below.refl _ _).alloc (Nat.le_refl _) _
    have hr4 : w0.heap[T4]? = some (.cells #[.int .i64 0, .int .u32 0, .int .i64 0] 38 (0, 0)) := by rw [hw0, hT4]; exact heap_alloc_new w _
    have HF := Lib.hid (rfirst_nil A c w0)
    have H0 := Lib.hid hw0
    have HB0 := Lib.hid hb0
    have HR4 := Lib.hid hr4
    have HT4 := Lib.hid hT4
    clear hw0 hb0 hr4
    go_enter Try.func18, Try.ntmps18
    go_upto_region 1 with (fail)
    rw [← H0.out, ← hT4]
    clear hT4
    go_wp2_with fail
    refine HF.out.mono ?_
    rintro r w1 ⟨rfl, hb1⟩
    obtain ⟨T7, hT7⟩ : ∃ T7, T7 = w1.heap.size := ⟨_, rfl⟩
    obtain ⟨w2, hw2⟩ : ∃ w2, w2 = w1.alloc (.cells #[.int .i64 0, .int .u32 0, .int .i64 0] 38) := ⟨_, rfl⟩
    have hb2 : Below w1.heap.size w1 w2 := by rw [hw2]; exact (Below.refl _ _).alloc (Nat.le_refl _) _
    have hx7 : w2.heap[T7]? = some (.cells #[.int .i64 0, .int .u32 0, .int .i64 0] 38 (0, 0)) := by rw [hw2, hT7]; exact heap_alloc_new w1 _
    have hx4 := (hb2.block T4 (Nat.lt_of_lt_of_le (lt_of_block HR4.out) hb1.size)).trans ((hb1.block T4 (lt_of_block HR4.out)).trans HR4.out)
    have HB2 : Hid (Below w.heap.size w w2) := (HB0.out.trans (hb1.mono HB0.out.size)).trans (hb2.mono (Nat.le_trans HB0.out.size hb1.size))
    have HX7 := Lib.hid hx7
    have HX4 := Lib.hid hx4
    have x0 := cell_of_row w2 T7 0 _ _ _ hx7
    have x1 := cell_of_row w2 T7 1 _ _ _ hx7
    have x2 := cell_of_row w2 T7 2 _ _ _ hx7
    have xf : ∀ i, w2.frozen? ⟨T7, i, none⟩ = false := fun i => frozen_of_row w2 _ i _ _ hx7
    simp at x0 x1 x2
    have y0 := cell_of_row w2 T4 0 _ _ _ hx4
    have y1 := cell_of_row w2 T4 1 _ _ _ hx4
    have y2 := cell_of_row w2 T4 2 _ _ _ hx4
    have yf : ∀ i, w2.frozen? ⟨T4, i, none⟩ = false := fun i => frozen_of_row w2 _ i _ _ hx4
    simp at y0 y1 y2
    have H2 := Lib.hid hw2
    clear hb1 hb2 hw2 hx7 hx4
    go_upto_region 2 with (fail)
    rw [← H2.out, ← hT7]
    clear hT7
    have hc3 := cells3 (k := .int .i64 0) (x := .int .u32 0) (a := .int .i64 0) HX4.out
    have z0 := cell_of_row _ T4 0 _ _ _ hc3
    have z1 := cell_of_row _ T4 1 _ _ _ hc3
    have z2 := cell_of_row _ T4 2 _ _ _ hc3
    simp at z0 z1 z2
    have HBF : Hid (Below w.heap.size w (((w2.setCell ⟨T4, 0, none⟩ (.int .i64 0)).setCell ⟨T4, 1, none⟩ (.int .u32 0)).setCell ⟨T4, 2, none⟩ (.int .i64 0))) := by
      have hT := HT4.out
      exact ((HB2.out.setCell (by show w.heap.size ≤ T4; omega) _).setCell (by show w.heap.size ≤ T4; omega) _).setCell (by show w.heap.size ≤ T4; omega) _
    clear hc3
    go_wp2
    exact bodyPost_ret (v := .tuple #[tV 0 0 0, .slice A 0 c, .bool false]) (by simp [results, Try.results18, go_sem, z0, z1, z2]) rfl ⟨rfl, HBF.out⟩
  · obtain ⟨m, hm, hmin⟩ := min_ex (L := L) (by omega)
    have hml : m.2.2.2.1 > now := hlate m hm
    have hRs : ∀ W, Below w.heap.size w W → Rt W W.heap.size A L := fun W hW => (hR.below hW).mono hW.size
    obtain ⟨T4, hT4⟩ : ∃ T4, T4 = w.heap.size := ⟨_, rfl⟩
    obtain ⟨w0, hw0⟩ : ∃ w0, w0 = w.alloc (.cells #[.int .i64 0, .int .u32 0, .int .i64 0] 38) := ⟨_, rfl⟩
    have hb0 : Below w.heap.size w w0 := by rw [hw0]; exact (Below.refl _ _).alloc (Nat.le_refl _) _
    have hr4 : w0.heap[T4]? = some (.cells #[.int .i64 0, .int .u32 0, .int .i64 0] 38 (0, 0)) := by rw [hw0, hT4]; exact heap_alloc_new w _
    have HF := Lib.hid (rfirst_some A n c L m w0 hn (hRs w0 hb0) hl hs hm hmin)
    have H0 := Lib.hid hw0
    have HB0 := Lib.hid hb0
    have HR4 := Lib.hid hr4
    have HT4 := Lib.hid hT4
    clear hw0 hb0 hr4 hn hR hs hlate hm hmin hRs
    go_enter Try.func18, Try.ntmps18
    go_upto_region 1 with (fail)
    rw [← H0.out, ← hT4]
    clear hT4
    go_wp2_with fail
    refine HF.out.mono ?_
    rintro r w1 ⟨rfl, hb1⟩
    obtain ⟨T7, hT7⟩ : ∃ T7, T7 = w1.heap.size := ⟨_, rfl⟩
    obtain ⟨w2, hw2⟩ : ∃ w2, w2 = w1.alloc (.cells #[.int .i64 m.2.1, .int .u32 (m.2.2.1 : Int), .int .i64 m.2.2.2.1] 38) := ⟨_, rfl⟩
    have hb2 : Below w1.heap.size w1 w2 := by rw [hw2]; exact (Below.refl _ _).alloc (Nat.le_refl _) _
    have hx7 : w2.heap[T7]? = some (.cells #[.int .i64 m.2.1, .int .u32 (m.2.2.1 : Int), .int .i64 m.2.2.2.1] 38 (0, 0)) := by rw [hw2, hT7]; exact heap_alloc_new w1 _
    have hx4 := (hb2.block T4 (Nat.lt_of_lt_of_le (lt_of_block HR4.out) hb1.size)).trans ((hb1.block T4 (lt_of_block HR4.out)).trans HR4.out)
    have HB2 : Hid (Below w.heap.size w w2) := (HB0.out.trans (hb1.mono HB0.out.size)).trans (hb2.mono (Nat.le_trans HB0.out.size hb1.size))
    have HX7 := Lib.hid hx7
    have HX4 := Lib.hid hx4
    have x0 := cell_of_row w2 T7 0 _ _ _ hx7
    have x1 := cell_of_row w2 T7 1 _ _ _ hx7
    have x2 := cell_of_row w2 T7 2 _ _ _ hx7
    have xf : ∀ i, w2.frozen? ⟨T7, i, none⟩ = false := fun i => frozen_of_row w2 _ i _ _ hx7
    simp at x0 x1 x2
    have y0 := cell_of_row w2 T4 0 _ _ _ hx4
    have y1 := cell_of_row w2 T4 1 _ _ _ hx4
    have y2 := cell_of_row w2 T4 2 _ _ _ hx4
    have yf : ∀ i, w2.frozen? ⟨T4, i, none⟩ = false := fun i => frozen_of_row w2 _ i _ _ hx4
    simp at y0 y1 y2
    have H2 := Lib.hid hw2
    clear hb1 hb2 hw2 hx7 hx4
    go_upto_region 2 with (fail)
    rw [← H2.out, ← hT7]
    clear hT7
    have hc3 := cells3 (k := .int .i64 0) (x := .int .u32 0) (a := .int .i64 0) HX4.out
    have z0 := cell_of_row _ T4 0 _ _ _ hc3
    have z1 := cell_of_row _ T4 1 _ _ _ hc3
    have z2 := cell_of_row _ T4 2 _ _ _ hc3
    simp at z0 z1 z2
    have HBF : Hid (Below w.heap.size w (((w2.setCell ⟨T4, 0, none⟩ (.int .i64 0)).setCell ⟨T4, 1, none⟩ (.int .u32 0)).setCell ⟨T4, 2, none⟩ (.int .i64 0))) := by
      have hT := HT4.out
      exact ((HB2.out.setCell (by show w.heap.size ≤ T4; omega) _).setCell (by show w.heap.size ≤ T4; omega) _).setCell (by show w.heap.size ≤ T4; omega) _
    clear hc3
    go_wp2
    exact bodyPost_ret (v := .tuple #[tV 0 0 0, .slice A n c, .bool false]) (by simp [results, Try.results18, go_sem, z0, z1, z2]) rfl ⟨rfl, HBF.out⟩

set_option linter.unusedSimpArgs false in
set_option maxHeartbeats 8000000 in
theorem rdue_some (A : Option Addr) (n c : Nat) (L : List It) (m : It) (now : Int) (w : World) (hn : n = L.length) (hR : Rt w w.heap.size A L) (hl : n ≤ 900) (hs : Ris L) (hm : m ∈ L) (hmin : ∀ y ∈ L, lt y m = false) (hnow : m.2.2.2.1 ≤ now) :
    Calls Try.prog 18 #[.slice A n c, .int .i64 now] w fun r w' => ∃ B k c', r = .returned (.tuple #[tV m.2.1 m.2.2.1 m.2.2.2.1, .slice B k c', .bool true]) ∧ k = (offN m.2.1 m.2.2.1 L).length ∧ w'.ownsRow w.heap.size 38 3 (.slice B k c') k (tr (offN m.2.1 m.2.2.1 L)) ∧ Below w.heap.size w w' := by
  have hRs : ∀ W, Below w.heap.size w W → Rt W W.heap.size A L := fun W hW => (hR.below hW).mono hW.size
  have HRS := Lib.hid hRs
  have HN := Lib.hid hn
  have hnd : ¬ m.2.2.2.1 > now := by omega
  obtain ⟨T4, hT4⟩ : ∃ T4, T4 = w.heap.size := ⟨_, rfl⟩
  obtain ⟨w0, hw0⟩ : ∃ w0, w0 = w.alloc (.cells #[.int .i64 0, .int .u32 0, .int .i64 0] 38) := ⟨_, rfl⟩
  have hb0 : Below w.heap.size w w0 := by rw [hw0]; exact (Below.refl _ _).alloc (Nat.le_refl _) _
  have hr4 : w0.heap[T4]? = some (.cells #[.int .i64 0, .int .u32 0, .int .i64 0] 38 (0, 0)) := by rw [hw0, hT4]; exact heap_alloc_new w _
  have HF := Lib.hid (rfirst_some A n c L m w0 hn (hRs w0 hb0) hl hs hm hmin)
  have H0 := Lib.hid hw0
  have HB0 := Lib.hid hb0
  have HR4 := Lib.hid hr4
  have HT4 := Lib.hid hT4
  clear hw0 hb0 hr4 hn hR hs hm hmin hRs
  go_enter Try.func18, Try.ntmps18
  go_upto_region 1 with (fail)
  rw [← H0.out, ← hT4]
  clear hT4
  go_wp2_with fail
  refine HF.out.mono ?_
  rintro r w1 ⟨rfl, hb1⟩
  obtain ⟨T7, hT7⟩ : ∃ T7, T7 = w1.heap.size := ⟨_, rfl⟩
  obtain ⟨w2, hw2⟩ : ∃ w2, w2 = w1.alloc (.cells #[.int .i64 m.2.1, .int .u32 (m.2.2.1 : Int), .int .i64 m.2.2.2.1] 38) := ⟨_, rfl⟩
  have hb2 : Below w1.heap.size w1 w2 := by rw [hw2]; exact (Below.refl _ _).alloc (Nat.le_refl _) _
  have hx7 : w2.heap[T7]? = some (.cells #[.int .i64 m.2.1, .int .u32 (m.2.2.1 : Int), .int .i64 m.2.2.2.1] 38 (0, 0)) := by rw [hw2, hT7]; exact heap_alloc_new w1 _
  have hx4 := (hb2.block T4 (Nat.lt_of_lt_of_le (lt_of_block HR4.out) hb1.size)).trans ((hb1.block T4 (lt_of_block HR4.out)).trans HR4.out)
  have HB2 : Hid (Below w.heap.size w w2) := (HB0.out.trans (hb1.mono HB0.out.size)).trans (hb2.mono (Nat.le_trans HB0.out.size hb1.size))
  have HX7 := Lib.hid hx7
  have HX4 := Lib.hid hx4
  have x0 := cell_of_row w2 T7 0 _ _ _ hx7
  have x1 := cell_of_row w2 T7 1 _ _ _ hx7
  have x2 := cell_of_row w2 T7 2 _ _ _ hx7
  have xf : ∀ i, w2.frozen? ⟨T7, i, none⟩ = false := fun i => frozen_of_row w2 _ i _ _ hx7
  simp at x0 x1 x2
  have y0 := cell_of_row w2 T4 0 _ _ _ hx4
  have y1 := cell_of_row w2 T4 1 _ _ _ hx4
  have y2 := cell_of_row w2 T4 2 _ _ _ hx4
  have yf : ∀ i, w2.frozen? ⟨T4, i, none⟩ = false := fun i => frozen_of_row w2 _ i _ _ hx4
  simp at y0 y1 y2
  have H2 := Lib.hid hw2
  clear hb1 hb2 hw2 hx7 hx4
  go_upto_region 2 with (fail)
  rw [← H2.out, ← hT7]
  clear hT7
  have HCL := Lib.hid (rclear_any A n c m.2.1 m.2.2.1 L w2 HN.out (HRS.out w2 HB2.out) hl)
  go_wp2_with fail
  refine HCL.out.mono ?_
  rintro r w3 ⟨B, k, c', b, rfl, hk, _, hown, hb3⟩
  have hx7 := (hb3.block T7 (lt_of_block HX7.out)).trans HX7.out
  have hx4 := (hb3.block T4 (lt_of_block HX4.out)).trans HX4.out
  have HB3 : Hid (Below w.heap.size w w3) := HB2.out.trans (hb3.mono HB2.out.size)
  have HK := Lib.hid hk
  clear x0 x1 x2 xf y0 y1 y2 yf
  have x0 := cell_of_row w3 T7 0 _ _ _ hx7
  have x1 := cell_of_row w3 T7 1 _ _ _ hx7
  have x2 := cell_of_row w3 T7 2 _ _ _ hx7
  have xf : ∀ i, w3.frozen? ⟨T7, i, none⟩ = false := fun i => frozen_of_row w3 _ i _ _ hx7
  simp at x0 x1 x2
  have y0 := cell_of_row w3 T4 0 _ _ _ hx4
  have y1 := cell_of_row w3 T4 1 _ _ _ hx4
  have y2 := cell_of_row w3 T4 2 _ _ _ hx4
  have yf : ∀ i, w3.frozen? ⟨T4, i, none⟩ = false := fun i => frozen_of_row w3 _ i _ _ hx4
  simp at y0 y1 y2
  have hc3 := cells3 (k := .int .i64 m.2.1) (x := .int .u32 (m.2.2.1 : Int)) (a := .int .i64 m.2.2.2.1) hx4
  have z0 := cell_of_row _ T4 0 _ _ _ hc3
  have z1 := cell_of_row _ T4 1 _ _ _ hc3
  have z2 := cell_of_row _ T4 2 _ _ _ hc3
  simp at z0 z1 z2
  have HBF : Hid (Below w.heap.size w (((w3.setCell ⟨T4, 0, none⟩ (.int .i64 m.2.1)).setCell ⟨T4, 1, none⟩ (.int .u32 (m.2.2.1 : Int))).setCell ⟨T4, 2, none⟩ (.int .i64 m.2.2.2.1)) ∧ (((w3.setCell ⟨T4, 0, none⟩ (.int .i64 m.2.1)).setCell ⟨T4, 1, none⟩ (.int .u32 (m.2.2.1 : Int))).setCell ⟨T4, 2, none⟩ (.int .i64 m.2.2.2.1)).ownsRow w.heap.size 38 3 (.slice B k c') k (tr (offN m.2.1 m.2.2.1 L))) := by
    have hT := HT4.out
    refine ⟨((HB3.out.setCell (by show w.heap.size ≤ T4; omega) _).setCell (by show w.heap.size ≤ T4; omega) _).setCell (by show w.heap.size ≤ T4; omega) _, own3_base HB2.out.size (own3_after hown fun g hg => keep3 g ?_)⟩
    have h1 := (hown.lt g hg).1
    have h2 := lt_of_block HX4.out
    omega
  clear hc3 hx7 hx4 hown hb3 hk
  go_wp2
  exact bodyPost_ret (v := .tuple #[tV m.2.1 m.2.2.1 m.2.2.2.1, .slice B k c', .bool true]) (by simp [results, Try.results18, go_sem, z0, z1, z2]) rfl ⟨B, k, c', rfl, HK.out, HBF.out.2, HBF.out.1⟩
end Go.Proofs.Ytaoejkbockcneaa
