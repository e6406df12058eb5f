/- Pass: OpenTicket, OpenToken; the document's own seals. -/
import Derived.Test.YtaefgieodehceaaDoorR1
import Derived.Deep.RegionLaw
import Derived.Deep.RegionHeld3

/- Pass: OpenTicket. -/
namespace Go.Proofs.YtaefgieodehceaaDoor
open Go.RowKit
set_option maxRecDepth 20000

def openT (ko : Option (List UInt8)) (l : List UInt8) : Nat × Nat × Int × Nat :=
  if l.length = 53 ∧ l[0]? = some 116 then (if fitO ko (l.drop 21) (l.take 21) = true then (0, numAt l 1 4, in64 (numAt l 5 8), numAt l 13 8) else (8, 0, 0, 0)) else (7, 0, 0, 0)

def TPost (w : World) (r : Nat × Nat × Int × Nat) (e : Ending) (w' : World) : Prop :=
  e = .returned (.tuple #[tickV r.2.1 r.2.2.1 r.2.2.2, .int .i64 (r.1 : Int)]) ∧ Below w.heap.size w w'

set_option maxHeartbeats 4000000 in
theorem opent_any (ko : Option (List UInt8)) (kv : Value) (s : ByteArray) (w : World) (hk : KeyAt w kv ko) (hs : Sh w) :
    Calls Tryd.prog 18 #[kv, .string s] w (TPost w (openT ko s.data.toList)) := by
  obtain ⟨w0, hw0⟩ : ∃ w0, w0 = w.alloc (.cells #[.int .u32 0, .int .i64 0, .int .u64 0] 35) := ⟨_, rfl⟩
  have hb0 : Below w.heap.size w w0 := by rw [hw0]; exact (Below.refl _ _).alloc (Nat.le_refl _) _
  have hp0 : w0.heap[w.heap.size]? = some (.cells #[.int .u32 0, .int .i64 0, .int .u64 0] 35 (0, 0)) := by rw [hw0]; exact heap_alloc_new w _
  by_cases hok : s.data.toList.length = 53 ∧ s.data.toList[0]? = some 116
  · have hz : s.size = 21 + 32 := by simpa using hok.1
    have hop := open_main ko kv ⟨#[98, 100, 113, 113]⟩ s 116 21 w0 (hk.below hb0) (hs.below hb0) least_tick (by omega) hz hok.2 _ (tick_read s.data.toList hok.2 (by omega))
    obtain ⟨res, hres⟩ : ∃ res, res = openT ko s.data.toList := ⟨_, rfl⟩
    rw [← hres]
    unfold openT at hres
    rw [if_pos hok] at hres
    obtain ⟨fb, hfb⟩ : ∃ fb, fb = fitO ko (s.data.toList.drop 21) (s.data.toList.take 21) := ⟨_, rfl⟩
    rw [← hfb] at hop hres
    obtain ⟨n1, hn1⟩ : ∃ n1, n1 = numAt s.data.toList 1 4 := ⟨_, rfl⟩
    obtain ⟨n2, hn2⟩ : ∃ n2, n2 = numAt s.data.toList 5 8 := ⟨_, rfl⟩
    obtain ⟨n3, hn3⟩ : ∃ n3, n3 = numAt s.data.toList 13 8 := ⟨_, rfl⟩
    have l1 : n1 < 4294967296 := by rw [hn1]; exact numAt_lt _ 1 4
    have l2 : n2 < 18446744073709551616 := by rw [hn2]; exact numAt_lt _ 5 8
    rw [← hn1, ← hn2, ← hn3] at hop hres
    have HOP := Lib.hid hop
    have HRES := Lib.hid hres
    have HB0 := Lib.hid hb0
    have HP0 := Lib.hid hp0
    have H0 := Lib.hid hw0
    clear hop hres hb0 hp0 hw0 hfb hn1 hn2 hn3 hk hs hok hz
    rcases fb with _ | _
    · have HX : Hid (res = (8, 0, 0, 0)) := HRES.out
      go_enter Tryd.func18, Tryd.ntmps18
      go_upto_region 1 with (fail)
      rw [← H0.out]
      go_wp2_with fail
      refine HOP.out.mono ?_
      rintro e w1 ⟨A, c, rfl, _, hb1⟩
      have hp1 := (hb1.block w.heap.size (lt_of_block HP0.out)).trans HP0.out
      have f0 : ∀ i, w1.frozen? ⟨w.heap.size, i, none⟩ = false := fun i => frozen_of_row w1 _ i _ _ hp1
      have g0 := cell_of_row w1 w.heap.size 0 _ _ _ hp1
      have g1 := cell_of_row w1 w.heap.size 1 _ _ _ hp1
      have g2 := cell_of_row w1 w.heap.size 2 _ _ _ hp1
      simp at g0 g1 g2
      have hb01 := HB0.out.trans (hb1.mono HB0.out.size)
      clear hp1
      go_wp2
      exact bodyPost_ret (v := .tuple #[tickV 0 0 0, .int .i64 8]) (by simp [results, Tryd.results18, go_sem, g0, g1, g2]) rfl (by rw [HX.out]; exact ⟨rfl, ((hb01.setCell (by simp) _).setCell (by simp) _).setCell (by simp) _⟩)
    · have HX : Hid (res = (0, n1, in64 n2, n3)) := HRES.out
      obtain ⟨z2, hz2⟩ : ∃ z2, z2 = in64 n2 := ⟨_, rfl⟩
      rw [← hz2] at HX
      have hwz := in_wrap n2 l2
      rw [← hz2] at hwz
      have hw32 : IntKind.u32.wrap (n1 : Int) = (n1 : Int) := by rw [IntKind.wrap_u32']; omega
      clear hz2
      go_enter Tryd.func18, Tryd.ntmps18
      go_upto_region 1 with (fail)
      rw [← H0.out]
      go_wp2_with fail
      refine HOP.out.mono ?_
      rintro e w1 ⟨A, c, rfl, ho, hb1⟩
      have ho := ho rfl
      have hblt := ho.lt
      obtain ⟨A', c', e1, hrd, _, _⟩ := own_rd ho
      injection e1 with e1 _ e2
      subst e1 e2
      obtain ⟨b, o, rfl, hbl, hcell⟩ := hrd (by simp [uv])
      have k1 := hcell 1 (.int .u64 (n1 : Int)) rfl
      have k2 := hcell 2 (.int .u64 (n2 : Int)) rfl
      have k3 := hcell 3 (.int .u64 (n3 : Int)) rfl
      have hp1 := (hb1.block w.heap.size (lt_of_block HP0.out)).trans HP0.out
      have HB1 := Lib.hid (HB0.out.trans (hb1.mono HB0.out.size))
      have HCELL : Hid (∀ W, Below w1.heap.size w1 W → W.cell? ⟨b, o + 1, none⟩ = some (.int .u64 (n1 : Int)) ∧ W.cell? ⟨b, o + 2, none⟩ = some (.int .u64 (n2 : Int)) ∧ W.cell? ⟨b, o + 3, none⟩ = some (.int .u64 (n3 : Int)) ∧ W.heap[w.heap.size]? = some (.cells #[.int .u32 0, .int .i64 0, .int .u64 0] 35 (0, 0))) := fun W hW =>
        ⟨(hW.cell (p := ⟨b, o + 1, none⟩) hbl).trans k1, (hW.cell (p := ⟨b, o + 2, none⟩) hbl).trans k2, (hW.cell (p := ⟨b, o + 3, none⟩) hbl).trans k3, (hW.block w.heap.size (lt_of_block hp1)).trans hp1⟩
      clear ho hrd hcell hb1 hblt hp1
      have f0 : ∀ i, w1.frozen? ⟨w.heap.size, i, none⟩ = false := fun i => frozen_of_row w1 _ i _ _ (HCELL.out w1 (Below.refl _ _)).2.2.2
      have g0 := cell_of_row w1 w.heap.size 0 _ _ _ (HCELL.out w1 (Below.refl _ _)).2.2.2
      have g1 := cell_of_row w1 w.heap.size 1 _ _ _ (HCELL.out w1 (Below.refl _ _)).2.2.2
      have g2 := cell_of_row w1 w.heap.size 2 _ _ _ (HCELL.out w1 (Below.refl _ _)).2.2.2
      simp at g0 g1 g2
      go_upto_region 4 with (fail)
      go_region_law (first
        | (go_simp; go_at_call 29; refine (stamp_any n2 n3 z2 hwz _).mono ?_; rintro e w6 ⟨rfl, hb6⟩; have hc6 : Below w1.heap.size w1 w6 := ((Below.refl _ _).drew).trans hb6; obtain ⟨m1, m2, m3, mt⟩ := HCELL.out w6 hc6; have q0 : ∀ i, w6.frozen? ⟨w.heap.size, i, none⟩ = false := (fun i => frozen_of_row w6 _ i _ _ mt); have r0 := cell_of_row w6 w.heap.size 0 _ _ _ mt; have r1 := cell_of_row w6 w.heap.size 1 _ _ _ mt; have r2 := cell_of_row w6 w.heap.size 2 _ _ _ mt; clear mt; simp at r0 r1 r2)
        | fail)
      all_goals
        go_wp2
        exact bodyPost_ret (v := .tuple #[tickV n1 z2 n3, .int .i64 0]) (by simp [results, Tryd.results18, go_sem, r0, r1, r2]) rfl (by rw [HX.out]; exact ⟨rfl, (((HB1.out.trans (hc6.mono HB1.out.size)).setCell (by simp) _).setCell (by simp) _).setCell (by simp) _⟩)
  · have hop := open_form kv ⟨#[98, 100, 113, 113]⟩ s 116 21 w0 least_tick (by omega) (fun h => hok ⟨by simpa using h.1, h.2⟩)
    have e1 : openT ko s.data.toList = (7, 0, 0, 0) := by unfold openT; rw [if_neg hok]
    rw [e1]
    have HOP := Lib.hid hop
    have HB0 := Lib.hid hb0
    have H0 := Lib.hid hw0
    have f0 : ∀ i, w0.frozen? ⟨w.heap.size, i, none⟩ = false := fun i => frozen_of_row w0 _ i _ _ hp0
    have g0 := cell_of_row w0 w.heap.size 0 _ _ _ hp0
    have g1 := cell_of_row w0 w.heap.size 1 _ _ _ hp0
    have g2 := cell_of_row w0 w.heap.size 2 _ _ _ hp0
    simp at g0 g1 g2
    clear hop hb0 hp0 hw0 hk hs hok e1
    go_enter Tryd.func18, Tryd.ntmps18
    go_upto_region 1 with (fail)
    rw [← H0.out]
    go_wp2_with fail
    refine HOP.out.mono ?_
    rintro e w1 ⟨rfl, rfl⟩
    go_wp2
    exact bodyPost_ret (v := .tuple #[tickV 0 0 0, .int .i64 7]) (by simp [results, Tryd.results18, go_sem, g0, g1, g2]) rfl ⟨rfl, ((HB0.out.setCell (by simp) _).setCell (by simp) _).setCell (by simp) _⟩
end Go.Proofs.YtaefgieodehceaaDoor

/- Pass: OpenToken. -/
namespace Go.Proofs.YtaefgieodehceaaDoor
open Go.RowKit
set_option maxRecDepth 20000

def openK (ko : Option (List UInt8)) (l : List UInt8) : Nat × Nat × Nat × Nat × Nat × Int × Nat :=
  if l.length = 60 ∧ l[0]? = some 106 then (if fitO ko (l.drop 28) (l.take 28) = true then (0, numAt l 1 4, numAt l 5 4, numAt l 9 2, numAt l 11 1, in64 (numAt l 12 8), numAt l 20 8) else (8, 0, 0, 0, 0, 0, 0)) else (7, 0, 0, 0, 0, 0, 0)

def KPost (w : World) (r : Nat × Nat × Nat × Nat × Nat × Int × Nat) (e : Ending) (w' : World) : Prop :=
  e = .returned (.tuple #[tokV r.2.1 r.2.2.1 r.2.2.2.1 r.2.2.2.2.1 r.2.2.2.2.2.1 r.2.2.2.2.2.2, .int .i64 (r.1 : Int)]) ∧ Below w.heap.size w w'

theorem cell_far {W : World} {T i b j : Nat} {u : Value} (h : b ≠ T) : (W.setCell ⟨T, i, none⟩ u).cell? ⟨b, j, none⟩ = W.cell? ⟨b, j, none⟩ := by
  simp [go_sem]

set_option maxHeartbeats 4000000 in
theorem openk_any (ko : Option (List UInt8)) (kv : Value) (s : ByteArray) (w : World) (hk : KeyAt w kv ko) (hs : Sh w) :
    Calls Tryd.prog 20 #[kv, .string s] w (KPost w (openK ko s.data.toList)) := by
  obtain ⟨w0, hw0⟩ : ∃ w0, w0 = w.alloc (.cells #[.int .u32 0, .int .u32 0, .int .u16 0, .int .u8 0, .int .i64 0, .int .u64 0] 40) := ⟨_, rfl⟩
  have hb0 : Below w.heap.size w w0 := by rw [hw0]; exact (Below.refl _ _).alloc (Nat.le_refl _) _
  have hp0 : w0.heap[w.heap.size]? = some (.cells #[.int .u32 0, .int .u32 0, .int .u16 0, .int .u8 0, .int .i64 0, .int .u64 0] 40 (0, 0)) := by rw [hw0]; exact heap_alloc_new w _
  by_cases hok : s.data.toList.length = 60 ∧ s.data.toList[0]? = some 106
  · have hz : s.size = 28 + 32 := by simpa using hok.1
    have hop := open_main ko kv ⟨#[98, 100, 100, 119, 98, 113, 113]⟩ s 106 28 w0 (hk.below hb0) (hs.below hb0) least_tok (by omega) hz hok.2 _ (tok_read s.data.toList hok.2 (by omega))
    obtain ⟨res, hres⟩ : ∃ res, res = openK ko s.data.toList := ⟨_, rfl⟩
    rw [← hres]
    unfold openK at hres
    rw [if_pos hok] at hres
    obtain ⟨fb, hfb⟩ : ∃ fb, fb = fitO ko (s.data.toList.drop 28) (s.data.toList.take 28) := ⟨_, rfl⟩
    rw [← hfb] at hop hres
    obtain ⟨n1, hn1⟩ : ∃ n1, n1 = numAt s.data.toList 1 4 := ⟨_, rfl⟩
    obtain ⟨n2, hn2⟩ : ∃ n2, n2 = numAt s.data.toList 5 4 := ⟨_, rfl⟩
    obtain ⟨n3, hn3⟩ : ∃ n3, n3 = numAt s.data.toList 9 2 := ⟨_, rfl⟩
    obtain ⟨n4, hn4⟩ : ∃ n4, n4 = numAt s.data.toList 11 1 := ⟨_, rfl⟩
    obtain ⟨n5, hn5⟩ : ∃ n5, n5 = numAt s.data.toList 12 8 := ⟨_, rfl⟩
    obtain ⟨n6, hn6⟩ : ∃ n6, n6 = numAt s.data.toList 20 8 := ⟨_, rfl⟩
    have l1 : n1 < 4294967296 := by rw [hn1]; exact numAt_lt _ 1 4
    have l2 : n2 < 4294967296 := by rw [hn2]; exact numAt_lt _ 5 4
    have l3 : n3 < 65536 := by rw [hn3]; exact numAt_lt _ 9 2
    have l4 : n4 < 256 := by rw [hn4]; exact numAt_lt _ 11 1
    have l5 : n5 < 18446744073709551616 := by rw [hn5]; exact numAt_lt _ 12 8
    rw [← hn1, ← hn2, ← hn3, ← hn4, ← hn5, ← hn6] at hop hres
    have HOP := Lib.hid hop
    have HRES := Lib.hid hres
    have HB0 := Lib.hid hb0
    have HP0 := Lib.hid hp0
    have H0 := Lib.hid hw0
    clear hop hres hb0 hp0 hw0 hfb hn1 hn2 hn3 hn4 hn5 hn6 hk hs hok hz
    rcases fb with _ | _
    · have HX : Hid (res = (8, 0, 0, 0, 0, 0, 0)) := HRES.out
      go_enter Tryd.func20, Tryd.ntmps20
      go_upto_region 1 with (fail)
      rw [← H0.out]
      go_wp2_with fail
      refine HOP.out.mono ?_
      rintro e w1 ⟨A, c, rfl, _, hb1⟩
      have hp1 := (hb1.block w.heap.size (lt_of_block HP0.out)).trans HP0.out
      have f0 : ∀ i, w1.frozen? ⟨w.heap.size, i, none⟩ = false := fun i => frozen_of_row w1 _ i _ _ hp1
      have g0 := cell_of_row w1 w.heap.size 0 _ _ _ hp1
      have g1 := cell_of_row w1 w.heap.size 1 _ _ _ hp1
      have g2 := cell_of_row w1 w.heap.size 2 _ _ _ hp1
      have g3 := cell_of_row w1 w.heap.size 3 _ _ _ hp1
      have g4 := cell_of_row w1 w.heap.size 4 _ _ _ hp1
      have g5 := cell_of_row w1 w.heap.size 5 _ _ _ hp1
      simp at g0 g1 g2 g3 g4 g5
      have hb01 := HB0.out.trans (hb1.mono HB0.out.size)
      clear hp1
      go_wp2
      exact bodyPost_ret (v := .tuple #[tokV 0 0 0 0 0 0, .int .i64 8]) (by simp [results, Tryd.results20, go_sem, g0, g1, g2, g3, g4, g5]) rfl (by rw [HX.out]; exact ⟨rfl, (((((hb01.setCell (by simp) _).setCell (by simp) _).setCell (by simp) _).setCell (by simp) _).setCell (by simp) _).setCell (by simp) _⟩)
    · have HX : Hid (res = (0, n1, n2, n3, n4, in64 n5, n6)) := HRES.out
      obtain ⟨z5, hz5⟩ : ∃ z5, z5 = in64 n5 := ⟨_, rfl⟩
      rw [← hz5] at HX
      have hwz := in_wrap n5 l5
      rw [← hz5] at hwz
      have hw1 : IntKind.u32.wrap (n1 : Int) = (n1 : Int) := by rw [IntKind.wrap_u32']; omega
      have hw2 : IntKind.u32.wrap (n2 : Int) = (n2 : Int) := by rw [IntKind.wrap_u32']; omega
      have hw3 : IntKind.u16.wrap (n3 : Int) = (n3 : Int) := by unfold IntKind.wrap; simp [IntKind.signed, IntKind.bits]; omega
      have hw4 : IntKind.u8.wrap (n4 : Int) = (n4 : Int) := by unfold IntKind.wrap; simp [IntKind.signed, IntKind.bits]; omega
      clear hz5
      go_enter Tryd.func20, Tryd.ntmps20
      go_upto_region 1 with (fail)
      rw [← H0.out]
      go_wp2_with fail
      refine HOP.out.mono ?_
      rintro e w1 ⟨A, c, rfl, ho, hb1⟩
      have ho := ho rfl
      have hblt := ho.lt
      obtain ⟨A', c', e1, hrd, _, _⟩ := own_rd ho
      injection e1 with e1 _ e2
      subst e1 e2
      obtain ⟨b, o, rfl, hbl, hcell⟩ := hrd (by simp [uv])
      have k1 := hcell 1 (.int .u64 (n1 : Int)) rfl
      have k2 := hcell 2 (.int .u64 (n2 : Int)) rfl
      have k3 := hcell 3 (.int .u64 (n3 : Int)) rfl
      have k4 := hcell 4 (.int .u64 (n4 : Int)) rfl
      have k5 := hcell 5 (.int .u64 (n5 : Int)) rfl
      have k6 := hcell 6 (.int .u64 (n6 : Int)) rfl
      have hp1 := (hb1.block w.heap.size (lt_of_block HP0.out)).trans HP0.out
      have HB1 := Lib.hid (HB0.out.trans (hb1.mono HB0.out.size))
      have HCELL : Hid (∀ W, Below w1.heap.size w1 W → W.cell? ⟨b, o + 1, none⟩ = some (.int .u64 (n1 : Int)) ∧ W.cell? ⟨b, o + 2, none⟩ = some (.int .u64 (n2 : Int)) ∧ W.cell? ⟨b, o + 3, none⟩ = some (.int .u64 (n3 : Int)) ∧ W.cell? ⟨b, o + 4, none⟩ = some (.int .u64 (n4 : Int)) ∧ W.cell? ⟨b, o + 5, none⟩ = some (.int .u64 (n5 : Int)) ∧ W.cell? ⟨b, o + 6, none⟩ = some (.int .u64 (n6 : Int)) ∧ W.heap[w.heap.size]? = some (.cells #[.int .u32 0, .int .u32 0, .int .u16 0, .int .u8 0, .int .i64 0, .int .u64 0] 40 (0, 0))) := fun W hW =>
        ⟨(hW.cell (p := ⟨b, o + 1, none⟩) hbl).trans k1, (hW.cell (p := ⟨b, o + 2, none⟩) hbl).trans k2, (hW.cell (p := ⟨b, o + 3, none⟩) hbl).trans k3, (hW.cell (p := ⟨b, o + 4, none⟩) hbl).trans k4, (hW.cell (p := ⟨b, o + 5, none⟩) hbl).trans k5, (hW.cell (p := ⟨b, o + 6, none⟩) hbl).trans k6, (hW.block w.heap.size (lt_of_block hp1)).trans hp1⟩
      have HBT : Hid (b ≠ w.heap.size) := by
        have h1 := (hblt b rfl).1
        have h2 := lt_of_block HP0.out
        simp only [Hid]
        omega
      clear ho hrd hcell hb1 hblt hp1
      have f0 : ∀ i, w1.frozen? ⟨w.heap.size, i, none⟩ = false := fun i => frozen_of_row w1 _ i _ _ (HCELL.out w1 (Below.refl _ _)).2.2.2.2.2.2
      have g0 := cell_of_row w1 w.heap.size 0 _ _ _ (HCELL.out w1 (Below.refl _ _)).2.2.2.2.2.2
      have g1 := cell_of_row w1 w.heap.size 1 _ _ _ (HCELL.out w1 (Below.refl _ _)).2.2.2.2.2.2
      have g2 := cell_of_row w1 w.heap.size 2 _ _ _ (HCELL.out w1 (Below.refl _ _)).2.2.2.2.2.2
      have g3 := cell_of_row w1 w.heap.size 3 _ _ _ (HCELL.out w1 (Below.refl _ _)).2.2.2.2.2.2
      have g4 := cell_of_row w1 w.heap.size 4 _ _ _ (HCELL.out w1 (Below.refl _ _)).2.2.2.2.2.2
      have g5 := cell_of_row w1 w.heap.size 5 _ _ _ (HCELL.out w1 (Below.refl _ _)).2.2.2.2.2.2
      simp at g0 g1 g2 g3 g4 g5
      go_upto_region 4 with (fail)
      have HS : Hid ((fun W : World => W.cell? ⟨b, o + 1, none⟩ = some (.int .u64 (n1 : Int)) ∧ W.cell? ⟨b, o + 2, none⟩ = some (.int .u64 (n2 : Int)) ∧ W.cell? ⟨b, o + 3, none⟩ = some (.int .u64 (n3 : Int)) ∧ W.cell? ⟨b, o + 4, none⟩ = some (.int .u64 (n4 : Int)) ∧ W.cell? ⟨b, o + 5, none⟩ = some (.int .u64 (n5 : Int)) ∧ W.cell? ⟨b, o + 6, none⟩ = some (.int .u64 (n6 : Int))) w1.drew) := ⟨k1, k2, k3, k4, k5, k6⟩
      refine wp_region_held_drew (S := fun W : World => W.cell? ⟨b, o + 1, none⟩ = some (.int .u64 (n1 : Int)) ∧ W.cell? ⟨b, o + 2, none⟩ = some (.int .u64 (n2 : Int)) ∧ W.cell? ⟨b, o + 3, none⟩ = some (.int .u64 (n3 : Int)) ∧ W.cell? ⟨b, o + 4, none⟩ = some (.int .u64 (n4 : Int)) ∧ W.cell? ⟨b, o + 5, none⟩ = some (.int .u64 (n5 : Int)) ∧ W.cell? ⟨b, o + 6, none⟩ = some (.int .u64 (n6 : Int))) (by kernel_rfl) HS.out (fun hHeld => ?_)
      obtain ⟨W0, hW0⟩ : ∃ W0, W0 = w1.drew := ⟨_, rfl⟩
      have HB0' := Lib.hid (show Below w1.heap.size w1 W0 by rw [hW0]; exact (Below.refl _ _).drew)
      rw [← hW0] at hHeld ⊢
      clear hW0 k1 k2 k3 k4 k5 k6 g0 g1 g2 g3 g4 g5 f0
      refine wpAnyH_take (i := 0) (oi := ?oi0) (v := ?v0) ?hi0 ?hs0 ?hf0 ?hr0 ?hQ0 ?hy0 ?hS0 ?h0
      case hi0 => exact (by simp only [List.getElem?_toArray, List.getElem?_cons_zero]; rfl)
      case hs0 => kernel_rfl
      case hf0 => kernel_rfl
      case hr0 => kernel_rfl
      case hQ0 => exact fun _ _ _ h => h
      case hy0 =>
        refine Or.inl ⟨rfl, ?_⟩
        intro W hSw
        obtain ⟨y1, y2, y3, y4, y5, y6⟩ := hSw
        go_simp
        try with_reducible rfl
      case hS0 => assumption
      try simp only [Act.put, List.setIfInBounds_toArray, List.set_cons_zero, List.set_cons_succ]
      refine wpAnyH_take (i := 1) (oi := ?oi1) (v := ?v1) ?hi1 ?hs1 ?hf1 ?hr1 ?hQ1 ?hy1 ?hS1 ?h1
      case hi1 => exact (by simp only [List.getElem?_toArray, List.getElem?_cons_succ, List.getElem?_cons_zero]; rfl)
      case hs1 => kernel_rfl
      case hf1 => kernel_rfl
      case hr1 => kernel_rfl
      case hQ1 => exact fun _ _ _ h => h
      case hy1 =>
        refine Or.inl ⟨rfl, ?_⟩
        intro W hSw
        obtain ⟨y1, y2, y3, y4, y5, y6⟩ := hSw
        go_simp
        try with_reducible rfl
      case hS1 => assumption
      try simp only [Act.put, List.setIfInBounds_toArray, List.set_cons_zero, List.set_cons_succ]
      refine wpAnyH_take (i := 2) (oi := ?oi2) (v := ?v2) ?hi2 ?hs2 ?hf2 ?hr2 ?hQ2 ?hy2 ?hS2 ?h2
      case hi2 => exact (by simp only [List.getElem?_toArray, List.getElem?_cons_succ, List.getElem?_cons_zero]; rfl)
      case hs2 => kernel_rfl
      case hf2 => kernel_rfl
      case hr2 => kernel_rfl
      case hQ2 => exact fun _ _ _ h => h
      case hy2 =>
        refine Or.inl ⟨rfl, ?_⟩
        intro W hSw
        obtain ⟨y1, y2, y3, y4, y5, y6⟩ := hSw
        go_simp
        try with_reducible rfl
      case hS2 => assumption
      try simp only [Act.put, List.setIfInBounds_toArray, List.set_cons_zero, List.set_cons_succ]
      refine wpAnyH_take (i := 3) (oi := ?oi3) (v := ?v3) ?hi3 ?hs3 ?hf3 ?hr3 ?hQ3 ?hy3 ?hS3 ?h3
      case hi3 => exact (by simp only [List.getElem?_toArray, List.getElem?_cons_succ, List.getElem?_cons_zero]; rfl)
      case hs3 => kernel_rfl
      case hf3 => kernel_rfl
      case hr3 => kernel_rfl
      case hQ3 => exact fun _ _ _ h => h
      case hy3 =>
        refine Or.inl ⟨rfl, ?_⟩
        intro W hSw
        obtain ⟨y1, y2, y3, y4, y5, y6⟩ := hSw
        go_simp
        try with_reducible rfl
      case hS3 => assumption
      try simp only [Act.put, List.setIfInBounds_toArray, List.set_cons_zero, List.set_cons_succ]
      refine wpAnyH_take (i := 4) (oi := ?oi4) (v := ?v4) ?hi4 ?hs4 ?hf4 ?hr4 ?hQ4 ?hy4 ?hS4 ?h4
      case hi4 => exact (by simp only [List.getElem?_toArray, List.getElem?_cons_succ, List.getElem?_cons_zero]; rfl)
      case hs4 => kernel_rfl
      case hf4 => kernel_rfl
      case hr4 => kernel_rfl
      case hQ4 => exact fun _ _ _ h => h
      case hy4 =>
        refine Or.inl ⟨rfl, ?_⟩
        intro W hSw
        obtain ⟨y1, y2, y3, y4, y5, y6⟩ := hSw
        go_simp
        try with_reducible rfl
      case hS4 => assumption
      try simp only [Act.put, List.setIfInBounds_toArray, List.set_cons_zero, List.set_cons_succ]
      refine wpAnyH_take (i := 5) (oi := ?oi5) (v := ?v5) ?hi5 ?hs5 ?hf5 ?hr5 ?hQ5 ?hy5 ?hS5 ?h5
      case hi5 => exact (by simp only [List.getElem?_toArray, List.getElem?_cons_succ, List.getElem?_cons_zero]; rfl)
      case hs5 => kernel_rfl
      case hf5 => kernel_rfl
      case hr5 => kernel_rfl
      case hQ5 => exact fun _ _ _ h => h
      case hy5 =>
        refine Or.inl ⟨rfl, ?_⟩
        intro W hSw
        obtain ⟨y1, y2, y3, y4, y5, y6⟩ := hSw
        go_simp
        try with_reducible rfl
      case hS5 => assumption
      try simp only [Act.put, List.setIfInBounds_toArray, List.set_cons_zero, List.set_cons_succ]
      refine wpAnyH_take (i := 6) (oi := ?oi6) (v := ?v6) ?hi6 ?hs6 ?hf6 ?hr6 ?hQ6 ?hy6 ?hS6 ?h6
      case hi6 => exact (by simp only [List.getElem?_toArray, List.getElem?_cons_succ, List.getElem?_cons_zero]; rfl)
      case hs6 => kernel_rfl
      case hf6 => kernel_rfl
      case hr6 => kernel_rfl
      case hQ6 => exact fun _ _ _ h => h
      case hy6 =>
        refine Or.inl ⟨rfl, ?_⟩
        intro W hSw
        obtain ⟨y1, y2, y3, y4, y5, y6⟩ := hSw
        go_simp
        try with_reducible rfl
      case hS6 => assumption
      try simp only [Act.put, List.setIfInBounds_toArray, List.set_cons_zero, List.set_cons_succ]
      refine wpAnyH_take (i := 7) (oi := ?oi7) (v := ?v7) ?hi7 ?hs7 ?hf7 ?hr7 ?hQ7 ?hy7 ?hS7 ?h7
      case hi7 => exact (by simp only [List.getElem?_toArray, List.getElem?_cons_succ, List.getElem?_cons_zero]; rfl)
      case hs7 => kernel_rfl
      case hf7 => kernel_rfl
      case hr7 => kernel_rfl
      case hQ7 => exact fun _ _ _ h => h
      case hy7 =>
        refine Or.inl ⟨rfl, ?_⟩
        intro W hSw
        obtain ⟨y1, y2, y3, y4, y5, y6⟩ := hSw
        go_simp
        try with_reducible rfl
      case hS7 => assumption
      try simp only [Act.put, List.setIfInBounds_toArray, List.set_cons_zero, List.set_cons_succ]
      refine wpAnyH_take (i := 8) (oi := ?oi8) (v := ?v8) ?hi8 ?hs8 ?hf8 ?hr8 ?hQ8 ?hy8 ?hS8 ?h8
      case hi8 => exact (by simp only [List.getElem?_toArray, List.getElem?_cons_succ, List.getElem?_cons_zero]; rfl)
      case hs8 => kernel_rfl
      case hf8 => kernel_rfl
      case hr8 => kernel_rfl
      case hQ8 => exact fun _ _ _ h => h
      case hy8 =>
        refine Or.inl ⟨rfl, ?_⟩
        intro W hSw
        obtain ⟨y1, y2, y3, y4, y5, y6⟩ := hSw
        go_simp
        try with_reducible rfl
      case hS8 => assumption
      try simp only [Act.put, List.setIfInBounds_toArray, List.set_cons_zero, List.set_cons_succ]
      refine wpAnyH_take (i := 9) (oi := ?oi9) (v := ?v9) ?hi9 ?hs9 ?hf9 ?hr9 ?hQ9 ?hy9 ?hS9 ?h9
      case hi9 => exact (by simp only [List.getElem?_toArray, List.getElem?_cons_succ, List.getElem?_cons_zero]; rfl)
      case hs9 => kernel_rfl
      case hf9 => kernel_rfl
      case hr9 => kernel_rfl
      case hQ9 => exact fun _ _ _ h => h
      case hy9 =>
        refine Or.inl ⟨rfl, ?_⟩
        intro W hSw
        obtain ⟨y1, y2, y3, y4, y5, y6⟩ := hSw
        go_simp
        try with_reducible rfl
      case hS9 => assumption
      try simp only [Act.put, List.setIfInBounds_toArray, List.set_cons_zero, List.set_cons_succ]
      refine wpAnyH_take (i := 10) (oi := ?oi10) (v := ?v10) ?hi10 ?hs10 ?hf10 ?hr10 ?hQ10 ?hy10 ?hS10 ?h10
      case hi10 => exact (by simp only [List.getElem?_toArray, List.getElem?_cons_succ, List.getElem?_cons_zero]; rfl)
      case hs10 => kernel_rfl
      case hf10 => kernel_rfl
      case hr10 => kernel_rfl
      case hQ10 => exact fun _ _ _ h => h
      case hy10 =>
        refine Or.inl ⟨rfl, ?_⟩
        intro W hSw
        obtain ⟨y1, y2, y3, y4, y5, y6⟩ := hSw
        go_simp
        try with_reducible rfl
      case hS10 => assumption
      try simp only [Act.put, List.setIfInBounds_toArray, List.set_cons_zero, List.set_cons_succ]
      refine wpAnyH_take (i := 11) (oi := ?oi11) (v := ?v11) ?hi11 ?hs11 ?hf11 ?hr11 ?hQ11 ?hy11 ?hS11 ?h11
      case hi11 => exact (by simp only [List.getElem?_toArray, List.getElem?_cons_succ, List.getElem?_cons_zero]; rfl)
      case hs11 => kernel_rfl
      case hf11 => kernel_rfl
      case hr11 => kernel_rfl
      case hQ11 => exact fun _ _ _ h => h
      case hy11 =>
        refine Or.inl ⟨rfl, ?_⟩
        intro W hSw
        obtain ⟨y1, y2, y3, y4, y5, y6⟩ := hSw
        go_simp
        try with_reducible rfl
      case hS11 => assumption
      try simp only [Act.put, List.setIfInBounds_toArray, List.set_cons_zero, List.set_cons_succ]
      refine wpAnyH_take (i := 12) (oi := ?oi12) (v := ?v12) ?hi12 ?hs12 ?hf12 ?hr12 ?hQ12 ?hy12 ?hS12 ?h12
      case hi12 => exact (by simp only [List.getElem?_toArray, List.getElem?_cons_succ, List.getElem?_cons_zero]; rfl)
      case hs12 => kernel_rfl
      case hf12 => kernel_rfl
      case hr12 => kernel_rfl
      case hQ12 => exact fun _ _ _ h => h
      case hy12 =>
        refine Or.inl ⟨rfl, ?_⟩
        intro W hSw
        obtain ⟨y1, y2, y3, y4, y5, y6⟩ := hSw
        go_simp
        try with_reducible rfl
      case hS12 => assumption
      try simp only [Act.put, List.setIfInBounds_toArray, List.set_cons_zero, List.set_cons_succ]
      refine wpAnyH_take (i := 13) (oi := ?oi13) (v := ?v13) ?hi13 ?hs13 ?hf13 ?hr13 ?hQ13 ?hy13 ?hS13 ?h13
      case hi13 => exact (by simp only [List.getElem?_toArray, List.getElem?_cons_succ, List.getElem?_cons_zero]; rfl)
      case hs13 => kernel_rfl
      case hf13 => kernel_rfl
      case hr13 => kernel_rfl
      case hQ13 => exact fun _ _ _ h => h
      case hy13 =>
        refine Or.inl ⟨rfl, ?_⟩
        intro W hSw
        obtain ⟨y1, y2, y3, y4, y5, y6⟩ := hSw
        go_simp
        try with_reducible rfl
      case hS13 => assumption
      try simp only [Act.put, List.setIfInBounds_toArray, List.set_cons_zero, List.set_cons_succ]
      refine wpAnyH_take (i := 14) (oi := ?oi14) (v := ?v14) ?hi14 ?hs14 ?hf14 ?hr14 ?hQ14 ?hy14 ?hS14 ?h14
      case hi14 => exact (by simp only [List.getElem?_toArray, List.getElem?_cons_succ, List.getElem?_cons_zero]; rfl)
      case hs14 => kernel_rfl
      case hf14 => kernel_rfl
      case hr14 => kernel_rfl
      case hQ14 => exact fun _ _ _ h => h
      case hy14 =>
        refine Or.inl ⟨rfl, ?_⟩
        intro W hSw
        obtain ⟨y1, y2, y3, y4, y5, y6⟩ := hSw
        go_simp
        try with_reducible rfl
      case hS14 => assumption
      try simp only [Act.put, List.setIfInBounds_toArray, List.set_cons_zero, List.set_cons_succ]
      refine wpAnyH_take (i := 15) (oi := ?oi15) (v := ?v15) ?hi15 ?hs15 ?hf15 ?hr15 ?hQ15 ?hy15 ?hS15 ?h15
      case hi15 => exact (by simp only [List.getElem?_toArray, List.getElem?_cons_succ, List.getElem?_cons_zero]; rfl)
      case hs15 => kernel_rfl
      case hf15 => kernel_rfl
      case hr15 => kernel_rfl
      case hQ15 => exact fun _ _ _ h => h
      case hy15 =>
        refine Or.inl ⟨rfl, ?_⟩
        intro W hSw
        obtain ⟨y1, y2, y3, y4, y5, y6⟩ := hSw
        go_simp
        try with_reducible rfl
      case hS15 => assumption
      try simp only [Act.put, List.setIfInBounds_toArray, List.set_cons_zero, List.set_cons_succ]
      refine wpAnyH_take (i := 16) (oi := ?oi16) (v := ?v16) ?hi16 ?hs16 ?hf16 ?hr16 ?hQ16 ?hy16 ?hS16 ?h16
      case hi16 => exact (by simp only [List.getElem?_toArray, List.getElem?_cons_succ, List.getElem?_cons_zero]; rfl)
      case hs16 => kernel_rfl
      case hf16 => kernel_rfl
      case hr16 => kernel_rfl
      case hQ16 => exact fun _ _ _ h => h
      case hy16 =>
        refine Or.inl ⟨rfl, ?_⟩
        intro W hSw
        obtain ⟨y1, y2, y3, y4, y5, y6⟩ := hSw
        go_simp
        try with_reducible rfl
      case hS16 => assumption
      try simp only [Act.put, List.setIfInBounds_toArray, List.set_cons_zero, List.set_cons_succ]
      refine wpAnyH_take (i := 17) (oi := ?oi17) (v := ?v17) ?hi17 ?hs17 ?hf17 ?hr17 ?hQ17 ?hy17 ?hS17 ?h17
      case hi17 => exact (by simp only [List.getElem?_toArray, List.getElem?_cons_succ, List.getElem?_cons_zero]; rfl)
      case hs17 => kernel_rfl
      case hf17 => kernel_rfl
      case hr17 => kernel_rfl
      case hQ17 => exact fun _ _ _ h => h
      case hy17 =>
        refine Or.inl ⟨rfl, ?_⟩
        intro W hSw
        obtain ⟨y1, y2, y3, y4, y5, y6⟩ := hSw
        go_simp
        try with_reducible rfl
      case hS17 => assumption
      try simp only [Act.put, List.setIfInBounds_toArray, List.set_cons_zero, List.set_cons_succ]
      refine wpAnyH_take (i := 18) (oi := ?oi18) (v := ?v18) ?hi18 ?hs18 ?hf18 ?hr18 ?hQ18 ?hy18 ?hS18 ?h18
      case hi18 => exact (by simp only [List.getElem?_toArray, List.getElem?_cons_succ, List.getElem?_cons_zero]; rfl)
      case hs18 => kernel_rfl
      case hf18 => kernel_rfl
      case hr18 => kernel_rfl
      case hQ18 => exact fun _ _ _ h => h
      case hy18 =>
        refine Or.inl ⟨rfl, ?_⟩
        intro W hSw
        obtain ⟨y1, y2, y3, y4, y5, y6⟩ := hSw
        go_simp
        try with_reducible rfl
      case hS18 => assumption
      try simp only [Act.put, List.setIfInBounds_toArray, List.set_cons_zero, List.set_cons_succ]
      refine wpAnyH_take (i := 19) (oi := ?oi19) (v := ?v19) ?hi19 ?hs19 ?hf19 ?hr19 ?hQ19 ?hy19 ?hS19 ?h19
      case hi19 => exact (by simp only [List.getElem?_toArray, List.getElem?_cons_succ, List.getElem?_cons_zero]; rfl)
      case hs19 => kernel_rfl
      case hf19 => kernel_rfl
      case hr19 => kernel_rfl
      case hQ19 => exact fun _ _ _ h => h
      case hy19 =>
        refine Or.inl ⟨rfl, ?_⟩
        intro W hSw
        obtain ⟨y1, y2, y3, y4, y5, y6⟩ := hSw
        go_simp
        try with_reducible rfl
      case hS19 => assumption
      try simp only [Act.put, List.setIfInBounds_toArray, List.set_cons_zero, List.set_cons_succ]
      refine wpAnyH_take (i := 20) (oi := ?oi20) (v := ?v20) ?hi20 ?hs20 ?hf20 ?hr20 ?hQ20 ?hy20 ?hS20 ?h20
      case hi20 => exact (by simp only [List.getElem?_toArray, List.getElem?_cons_succ, List.getElem?_cons_zero]; rfl)
      case hs20 => kernel_rfl
      case hf20 => kernel_rfl
      case hr20 => kernel_rfl
      case hQ20 => exact fun _ _ _ h => h
      case hy20 =>
        refine Or.inl ⟨rfl, ?_⟩
        intro W hSw
        obtain ⟨y1, y2, y3, y4, y5, y6⟩ := hSw
        go_simp
        try with_reducible rfl
      case hS20 => assumption
      try simp only [Act.put, List.setIfInBounds_toArray, List.set_cons_zero, List.set_cons_succ]
      refine wpAnyH_take (i := 21) (oi := ?oi21) (v := ?v21) ?hi21 ?hs21 ?hf21 ?hr21 ?hQ21 ?hy21 ?hS21 ?h21
      case hi21 => exact (by simp only [List.getElem?_toArray, List.getElem?_cons_succ, List.getElem?_cons_zero]; rfl)
      case hs21 => kernel_rfl
      case hf21 => kernel_rfl
      case hr21 => kernel_rfl
      case hQ21 => exact fun _ _ _ h => h
      case hy21 =>
        refine Or.inl ⟨rfl, ?_⟩
        intro W hSw
        obtain ⟨y1, y2, y3, y4, y5, y6⟩ := hSw
        go_simp
        try with_reducible rfl
      case hS21 => assumption
      try simp only [Act.put, List.setIfInBounds_toArray, List.set_cons_zero, List.set_cons_succ]
      refine wpAnyH_ready (rs := [22]) (by kernel_rfl) (by simp) ?_
      refine AllReadyH.cons (o := _) rfl (fun K hK => ?_) AllReadyH.nil
      go_simp
      refine (stamp_any n5 n6 z5 hwz W0).mono ?_
      rintro e w6 ⟨rfl, hb6⟩
      have hc6 : Below w1.heap.size w1 w6 := HB0'.out.trans (hb6.mono HB0'.out.size)
      obtain ⟨m1, m2, m3, m4, m5, m6, mt⟩ := HCELL.out w6 hc6
      have q0 : ∀ i, w6.frozen? ⟨w.heap.size, i, none⟩ = false := (fun i => frozen_of_row w6 _ i _ _ mt)
      have r0 := cell_of_row w6 w.heap.size 0 _ _ _ mt
      have r1 := cell_of_row w6 w.heap.size 1 _ _ _ mt
      have r2 := cell_of_row w6 w.heap.size 2 _ _ _ mt
      have r3 := cell_of_row w6 w.heap.size 3 _ _ _ mt
      have r4 := cell_of_row w6 w.heap.size 4 _ _ _ mt
      have r5 := cell_of_row w6 w.heap.size 5 _ _ _ mt
      clear mt
      simp at r0 r1 r2 r3 r4 r5
      refine hK.out _ _ ⟨m1, m2, m3, m4, m5, m6⟩ (fun hHeld => ?_)
      clear hK K
      try simp only [Act.put, List.setIfInBounds_toArray, List.set_cons_zero, List.set_cons_succ]
      refine wpAnyH_ready (rs := [23]) (by kernel_rfl) (by simp) ?_
      refine AllReadyH.cons (o := _) rfl (fun K hK => ?_) AllReadyH.nil
      go_simp
      refine hK.out _ _ hHeld (fun hHeld => ?_)
      clear hK K
      try simp only [Act.put, List.setIfInBounds_toArray, List.set_cons_zero, List.set_cons_succ]
      refine wpAnyH_ready (rs := [24]) (by kernel_rfl) (by simp) ?_
      refine AllReadyH.cons (o := _) rfl (fun K hK => ?_) AllReadyH.nil
      go_simp
      refine hK.out _ _ (by simp only [cell_far HBT.out]; exact hHeld) (fun hHeld => ?_)
      clear hK K
      try simp only [Act.put, List.setIfInBounds_toArray, List.set_cons_zero, List.set_cons_succ]
      refine wpAnyH_ready (rs := [25]) (by kernel_rfl) (by simp) ?_
      refine AllReadyH.cons (o := _) rfl (fun K hK => ?_) AllReadyH.nil
      go_simp
      refine hK.out _ _ hHeld (fun hHeld => ?_)
      clear hK K
      try simp only [Act.put, List.setIfInBounds_toArray, List.set_cons_zero, List.set_cons_succ]
      refine wpAnyH_done (by kernel_rfl) ?_ _
      go_wp2
      exact bodyPost_ret (v := .tuple #[tokV n1 n2 n3 n4 z5 n6, .int .i64 0]) (by simp [results, Tryd.results20, go_sem, r0, r1, r2, r3, r4, r5]) rfl (by rw [HX.out]; exact ⟨rfl, ((((((HB1.out.trans (hc6.mono HB1.out.size)).setCell (by simp) _).setCell (by simp) _).setCell (by simp) _).setCell (by simp) _).setCell (by simp) _).setCell (by simp) _⟩)
  · have hop := open_form kv ⟨#[98, 100, 100, 119, 98, 113, 113]⟩ s 106 28 w0 least_tok (by omega) (fun h => hok ⟨by simpa using h.1, h.2⟩)
    have e1 : openK ko s.data.toList = (7, 0, 0, 0, 0, 0, 0) := by unfold openK; rw [if_neg hok]
    rw [e1]
    have HOP := Lib.hid hop
    have HB0 := Lib.hid hb0
    have H0 := Lib.hid hw0
    have f0 : ∀ i, w0.frozen? ⟨w.heap.size, i, none⟩ = false := fun i => frozen_of_row w0 _ i _ _ hp0
    have g0 := cell_of_row w0 w.heap.size 0 _ _ _ hp0
    have g1 := cell_of_row w0 w.heap.size 1 _ _ _ hp0
    have g2 := cell_of_row w0 w.heap.size 2 _ _ _ hp0
    have g3 := cell_of_row w0 w.heap.size 3 _ _ _ hp0
    have g4 := cell_of_row w0 w.heap.size 4 _ _ _ hp0
    have g5 := cell_of_row w0 w.heap.size 5 _ _ _ hp0
    simp at g0 g1 g2 g3 g4 g5
    clear hop hb0 hp0 hw0 hk hs hok e1
    go_enter Tryd.func20, Tryd.ntmps20
    go_upto_region 1 with (fail)
    rw [← H0.out]
    go_wp2_with fail
    refine HOP.out.mono ?_
    rintro e w1 ⟨rfl, rfl⟩
    go_wp2
    exact bodyPost_ret (v := .tuple #[tokV 0 0 0 0 0 0, .int .i64 7]) (by simp [results, Tryd.results20, go_sem, g0, g1, g2, g3, g4, g5]) rfl ⟨rfl, (((((HB0.out.setCell (by simp) _).setCell (by simp) _).setCell (by simp) _).setCell (by simp) _).setCell (by simp) _).setCell (by simp) _⟩
end Go.Proofs.YtaefgieodehceaaDoor

/- Pass: the document's own seals. -/
namespace Go.Proofs.YtaefgieodehceaaDoor
open Go.RowKit
set_option maxRecDepth 20000

theorem cat_text (a b : List UInt8) : (⟨a.toArray⟩ : ByteArray) ++ ⟨b.toArray⟩ = ⟨(a ++ b).toArray⟩ := by
  apply ByteArray.ext
  simp

set_option maxHeartbeats 1000000 in
theorem signed_any (v u : Value) (key l : List UInt8) (w : World) (hv : Bs w w.heap.size v key) (hu : Bs w w.heap.size u l) (hkl : key.length ≤ 900000) (hl : l.length ≤ 1000) :
    Calls Tryd.prog 27 #[v, u] w fun e w' => e = .returned (.string ⟨(l ++ tagO (some (Sha.blockP key)) l).toArray⟩) ∧ Below w.heap.size w w' := by
  have hsl : l.length ≤ 800000 := by omega
  have htg : Calls Tryd.prog 22 #[v, u] w fun e w' => e = .returned (.agg (bv (tagO (some (Sha.blockP key)) l)).toArray) ∧ Below w.heap.size w w' := Sha.rtag_any v u key l w (pb_bs hv) (pb_bs hu) hkl hsl
  obtain ⟨T, hT⟩ : ∃ T, T = tagO (some (Sha.blockP key)) l := ⟨_, rfl⟩
  have hTl : T.length = 32 := by rw [hT, tagO_len]
  rw [← hT] at htg ⊢
  obtain ⟨A, c, rfl, hc, hr⟩ := hu
  obtain ⟨m, hm⟩ : ∃ m, m = l.length := ⟨_, rfl⟩
  rw [← hm] at htg ⊢
  have I30 := Lib.hid (show (Tryd.prog.info? 57).map (·.size) = some ((bv T).toArray.size) by
    rw [Sha.Tryd.size57]
    simp [bv, hTl])
  have S30 := Lib.hid (show Sha.z32.size = (bv T).toArray.size by
    simp only [bv, List.size_toArray, List.length_map, hTl]
    rfl)
  have HTG := Lib.hid htg
  have HR := Lib.hid hr
  have HM := Lib.hid hm
  have HTL := Lib.hid hTl
  clear htg hr hm hT hTl hv hc hkl hsl
  go_enter Tryd.func27, Tryd.ntmps27
  go_wp2_with fail
  refine HTG.out.mono ?_
  rintro e w2 ⟨rfl, hb2⟩
  have HB2 := Lib.hid hb2
  clear hb2
  go_upto_region 2 with (refine wpList_store_row rfl 57 (.tmp 5) (.tmp 8) rfl w2.heap.size (bv T).toArray rfl rfl 57 Sha.z32 (heap_alloc_new w2 _) I30.out S30.out (Sha.bv_one _) ?_; rw [World.setRow_alloc_new])
  obtain ⟨w3, hw3⟩ : ∃ w3, w3 = w2.alloc (.cells (bv T).toArray 57) := ⟨_, rfl⟩
  rw [← hw3]
  have hb23 : Below w2.heap.size w2 w3 := by rw [hw3]; exact (Below.refl _ _).alloc (Nat.le_refl _) _
  have hq3 : w3.heap[w2.heap.size]? = some (.cells (bv T).toArray 57 (0, 0)) := by rw [hw3]; exact heap_alloc_new w2 _
  have HB3 := Lib.hid (HB2.out.trans (hb23.mono HB2.out.size))
  have hcl := conv_rd (w := w3.drew) (HR.out.below HB3.out.drew (Nat.le_refl _)) c
  have hct := conv_rd (w := w3.drew) (l := T) (rd_block' (w := w3.drew) hq3 rfl (lt_of_block hq3)) 32
  rw [← HM.out] at hcl
  rw [HTL.out] at hct
  have hsum : ¬ (9223372036854775807 < l.length + T.length) := by rw [HTL.out]; omega
  clear hb23 hq3 hw3
  go_region_law fail
  all_goals
    go_wp2
    go_ret
    exact ⟨by rw [cat_text]; rfl, HB3.out.drew⟩

set_option maxHeartbeats 4000000 in
theorem rtseal_any (v : Value) (key : List UInt8) (p : Nat) (e : Int) (n : Nat) (w : World) (hv : Bs w w.heap.size v key) (hkl : key.length ≤ 900000) (hp : p < 4294967296) (hn : n < 18446744073709551616) :
    Calls Tryd.prog 13 #[v, tickV p e n] w fun r w' => r = .returned (.string ⟨(sealT (some (Sha.blockP key)) p e n).toArray⟩) ∧ Below w.heap.size w w' := by
  obtain ⟨u, hu⟩ : ∃ u, u = un64 e := ⟨_, rfl⟩
  have hul : u < 18446744073709551616 := by rw [hu]; exact un_lt e
  have hwu := un_wrap e
  rw [← hu] at hwu
  have HU := Lib.hid hu
  have hwp := u64_small p (by omega)
  obtain ⟨w1, hw1⟩ : ∃ w1, w1 = w.alloc (.cells #[.int .u32 (p : Int), .int .i64 e, .int .u64 (n : Int)] 26) := ⟨_, rfl⟩
  have hb1 : Below w.heap.size w w1 := by rw [hw1]; exact (Below.refl _ _).alloc (Nat.le_refl _) _
  have HP1 : Hid (w1.heap[w.heap.size]? = some (.cells #[.int .u32 (p : Int), .int .i64 e, .int .u64 (n : Int)] 26 (0, 0))) := by rw [hw1]; exact heap_alloc_new w _
  have HB1 := Lib.hid hb1
  have H1 := Lib.hid hw1
  have HV := Lib.hid hv
  clear hb1 hw1 hv hu
  have hol := World.ownsRow_lit (base := w.heap.size + 1) (e := 5) (size := 1) w1 #[.int .u8 116] 1 (by have := lt_of_block HP1.out; omega) (by unfold maxLen; omega) (by simp)
  have hba : Below w1.heap.size w1 (w1.alloc (.cells #[.int .u8 116] 5)) := (Below.refl _ _).alloc (Nat.le_refl _) _
  have HO2 : Hid ((w1.alloc (.cells #[.int .u8 116] 5)).ownsRow (w.heap.size + 1) 5 1 (.slice (some ⟨w1.heap.size, 0, none⟩) 1 1) 1 (bv [116])) := hol
  have HB2 := Lib.hid (HB1.out.alloc HB1.out.size (.cells #[.int .u8 116] 5))
  have HP2 := Lib.hid ((hba.block w.heap.size (lt_of_block HP1.out)).trans HP1.out)
  have p0 := cell_of_row w1 w.heap.size 0 _ _ _ HP1.out
  have p1 := cell_of_row (w1.alloc (.cells #[.int .u8 116] 5)) w.heap.size 0 _ _ _ HP2.out
  simp at p0 p1
  clear hol hba
  go_enter Tryd.func13, Tryd.ntmps13
  go_upto_region 1 with (fail)
  rw [← H1.out]
  have hput : Calls Tryd.prog 26 #[.int .u64 (p : Int), .int .i64 4] (w1.alloc (.cells #[.int .u8 116] 5)) fun e w' => ∃ v, e = .returned v ∧ w'.ownsRow (w1.alloc (.cells #[.int .u8 116] 5)).heap.size 5 1 v 4 (bv (be 4 p)) ∧ Below (w1.alloc (.cells #[.int .u8 116] 5)).heap.size (w1.alloc (.cells #[.int .u8 116] 5)) w' := rput_any p 4 (w1.alloc (.cells #[.int .u8 116] 5)) (by omega) (by omega)
  have HPUT := Lib.hid hput
  clear hput
  go_wp2_with fail
  refine HPUT.out.mono ?_
  rintro r w3 ⟨v3, rfl, ho3, hb3⟩
  obtain ⟨A3, c3, rfl, _⟩ := own_rd ho3
  have HX3 := Lib.hid (Bs.of_own (w := w3) (base := (w1.alloc (.cells #[.int .u8 116] 5)).heap.size) (l := be 4 p) (v := .slice A3 4 c3) (by rw [be_length]; exact ho3))
  have HB3 := Lib.hid (HB2.out.trans (hb3.mono HB2.out.size))
  have HO3 := Lib.hid (own_after HO2.out hb3)
  have HP3 := Lib.hid ((hb3.block w.heap.size (lt_of_block HP2.out)).trans HP2.out)
  clear ho3 hb3 HPUT
  go_wp2_with (at_builtin; refine wpList_append_bytes rfl (.tmp 6) (.tmp 10) rfl (w.heap.size + 1) w3.heap.size (.slice (some ⟨w1.heap.size, 0, none⟩) 1 1) (.slice A3 4 c3) ([116] : List UInt8) (be 4 p) rfl rfl HO3.out HX3.out (by simp [be_length]) (by have := lt_of_block HP3.out; omega) ?_; intro v4 w4 hown4 hg4; rw [show (([116] : List UInt8) ++ (be 4 p)).length = 5 by simp [be_length]] at hown4; obtain ⟨A4, c4, rfl, _⟩ := own_rd hown4; have HO4 := Lib.hid hown4; have HB4 := Lib.hid (HB3.out.grown hg4 HB3.out.size (fun g hg => Nat.le_of_succ_le (HO3.out.lt g hg).1)); have HP4 := Lib.hid ((hg4.block w.heap.size (lt_of_block HP3.out) (fun e => by have := (HO3.out.lt w.heap.size e.symm).1; omega)).trans HP3.out); have p4 := cell_of_row w4 w.heap.size 1 _ _ _ HP4.out; simp at p4; clear hown4 hg4)
  have hput : Calls Tryd.prog 26 #[.int .u64 (u : Int), .int .i64 8] w4 fun e w' => ∃ v, e = .returned v ∧ w'.ownsRow w4.heap.size 5 1 v 8 (bv (be 8 u)) ∧ Below w4.heap.size w4 w' := rput_any u 8 w4 (by omega) (by omega)
  have HPUT := Lib.hid hput
  clear hput
  go_wp2_with fail
  refine HPUT.out.mono ?_
  rintro r w5 ⟨v5, rfl, ho5, hb5⟩
  obtain ⟨A5, c5, rfl, _⟩ := own_rd ho5
  have HX5 := Lib.hid (Bs.of_own (w := w5) (base := w4.heap.size) (l := be 8 u) (v := .slice A5 8 c5) (by rw [be_length]; exact ho5))
  have HB5 := Lib.hid (HB4.out.trans (hb5.mono HB4.out.size))
  have HO5 := Lib.hid (own_after HO4.out hb5)
  have HP5 := Lib.hid ((hb5.block w.heap.size (lt_of_block HP4.out)).trans HP4.out)
  clear ho5 hb5 HPUT
  go_wp2_with (at_builtin; refine wpList_append_bytes rfl (.tmp 12) (.tmp 16) rfl (w.heap.size + 1) w5.heap.size (.slice A4 5 c4) (.slice A5 8 c5) (([116] : List UInt8) ++ (be 4 p)) (be 8 u) rfl rfl HO5.out HX5.out (by simp [be_length]) (by have := lt_of_block HP5.out; omega) ?_; intro v6 w6 hown6 hg6; rw [show ((([116] : List UInt8) ++ (be 4 p)) ++ (be 8 u)).length = 13 by simp [be_length]] at hown6; obtain ⟨A6, c6, rfl, _⟩ := own_rd hown6; have HO6 := Lib.hid hown6; have HB6 := Lib.hid (HB5.out.grown hg6 HB5.out.size (fun g hg => Nat.le_of_succ_le (HO5.out.lt g hg).1)); have HP6 := Lib.hid ((hg6.block w.heap.size (lt_of_block HP5.out) (fun e => by have := (HO5.out.lt w.heap.size e.symm).1; omega)).trans HP5.out); have p6 := cell_of_row w6 w.heap.size 2 _ _ _ HP6.out; simp at p6; clear hown6 hg6)
  have hput : Calls Tryd.prog 26 #[.int .u64 (n : Int), .int .i64 8] w6 fun e w' => ∃ v, e = .returned v ∧ w'.ownsRow w6.heap.size 5 1 v 8 (bv (be 8 n)) ∧ Below w6.heap.size w6 w' := rput_any n 8 w6 (by omega) (by omega)
  have HPUT := Lib.hid hput
  clear hput
  go_wp2_with fail
  refine HPUT.out.mono ?_
  rintro r w7 ⟨v7, rfl, ho7, hb7⟩
  obtain ⟨A7, c7, rfl, _⟩ := own_rd ho7
  have HX7 := Lib.hid (Bs.of_own (w := w7) (base := w6.heap.size) (l := be 8 n) (v := .slice A7 8 c7) (by rw [be_length]; exact ho7))
  have HB7 := Lib.hid (HB6.out.trans (hb7.mono HB6.out.size))
  have HO7 := Lib.hid (own_after HO6.out hb7)
  have HP7 := Lib.hid ((hb7.block w.heap.size (lt_of_block HP6.out)).trans HP6.out)
  clear ho7 hb7 HPUT
  go_wp2_with (at_builtin; refine wpList_append_bytes rfl (.tmp 19) (.tmp 22) rfl (w.heap.size + 1) w7.heap.size (.slice A6 13 c6) (.slice A7 8 c7) ((([116] : List UInt8) ++ (be 4 p)) ++ (be 8 u)) (be 8 n) rfl rfl HO7.out HX7.out (by simp [be_length]) (by have := lt_of_block HP7.out; omega) ?_; intro v8 w8 hown8 hg8; rw [show (((([116] : List UInt8) ++ (be 4 p)) ++ (be 8 u)) ++ (be 8 n)).length = 21 by simp [be_length]] at hown8; obtain ⟨A8, c8, rfl, _⟩ := own_rd hown8; have HO8 := Lib.hid hown8; have HB8 := Lib.hid (HB7.out.grown hg8 HB7.out.size (fun g hg => Nat.le_of_succ_le (HO7.out.lt g hg).1)); have HP8 := Lib.hid ((hg8.block w.heap.size (lt_of_block HP7.out) (fun e => by have := (HO7.out.lt w.heap.size e.symm).1; omega)).trans HP7.out); clear hown8 hg8)
  have hbs : Bs w8 w8.heap.size (.slice A8 21 c8) (((([116] : List UInt8) ++ (be 4 p)) ++ (be 8 u)) ++ (be 8 n)) := Bs.of_own (by rw [show (((([116] : List UInt8) ++ (be 4 p)) ++ (be 8 u)) ++ (be 8 n)).length = 21 by simp [be_length]]; exact HO8.out)
  refine (signed_any v (.slice A8 21 c8) key (((([116] : List UInt8) ++ (be 4 p)) ++ (be 8 u)) ++ (be 8 n)) w8 (bs_up (HV.out.below HB8.out (Nat.le_refl _)) HB8.out.size) hbs hkl (by simp [be_length])).mono ?_
  rintro r w9 ⟨rfl, hb9⟩
  have hfin : (((([116] : List UInt8) ++ (be 4 p)) ++ (be 8 u)) ++ (be 8 n)) = tickB p e n := by unfold tickB; rw [← HU.out]; simp
  rw [hfin]
  go_wp2
  go_ret
  exact ⟨rfl, HB8.out.trans (hb9.mono HB8.out.size)⟩
end Go.Proofs.YtaefgieodehceaaDoor

/- Pass: the document's own seal of a token. -/
namespace Go.Proofs.YtaefgieodehceaaDoor
open Go.RowKit
set_option maxRecDepth 20000

set_option maxHeartbeats 4000000 in
theorem rkseal_any (v : Value) (key : List UInt8) (p m i s : Nat) (e : Int) (n : Nat) (w : World) (hv : Bs w w.heap.size v key) (hkl : key.length ≤ 900000) (hp : p < 4294967296) (hm : m < 4294967296) (hi : i < 65536) (hs : s < 256) (hn : n < 18446744073709551616) :
    Calls Tryd.prog 16 #[v, tokV p m i s e n] w fun r w' => r = .returned (.string ⟨(sealK (some (Sha.blockP key)) p m i s e n).toArray⟩) ∧ Below w.heap.size w w' := by
  obtain ⟨u, hu⟩ : ∃ u, u = un64 e := ⟨_, rfl⟩
  have hul : u < 18446744073709551616 := by rw [hu]; exact un_lt e
  have hwu := un_wrap e
  rw [← hu] at hwu
  have HU := Lib.hid hu
  have hwp := u64_small p (by omega)
  have hwm := u64_small m (by omega)
  have hwi := u64_small i (by omega)
  have hws := u64_small s (by omega)
  obtain ⟨w1, hw1⟩ : ∃ w1, w1 = w.alloc (.cells #[.int .u32 (p : Int), .int .u32 (m : Int), .int .u16 (i : Int), .int .u8 (s : Int), .int .i64 e, .int .u64 (n : Int)] 29) := ⟨_, rfl⟩
  have hb1 : Below w.heap.size w w1 := by rw [hw1]; exact (Below.refl _ _).alloc (Nat.le_refl _) _
  have HP1 : Hid (w1.heap[w.heap.size]? = some (.cells #[.int .u32 (p : Int), .int .u32 (m : Int), .int .u16 (i : Int), .int .u8 (s : Int), .int .i64 e, .int .u64 (n : Int)] 29 (0, 0))) := by rw [hw1]; exact heap_alloc_new w _
  have HB1 := Lib.hid hb1
  have H1 := Lib.hid hw1
  have HV := Lib.hid hv
  clear hb1 hw1 hv hu
  have hol := World.ownsRow_lit (base := w.heap.size + 1) (e := 5) (size := 1) w1 #[.int .u8 106] 1 (by have := lt_of_block HP1.out; omega) (by unfold maxLen; omega) (by simp)
  have hba : Below w1.heap.size w1 (w1.alloc (.cells #[.int .u8 106] 5)) := (Below.refl _ _).alloc (Nat.le_refl _) _
  have HO2 : Hid ((w1.alloc (.cells #[.int .u8 106] 5)).ownsRow (w.heap.size + 1) 5 1 (.slice (some ⟨w1.heap.size, 0, none⟩) 1 1) 1 (bv [106])) := hol
  have HB2 := Lib.hid (HB1.out.alloc HB1.out.size (.cells #[.int .u8 106] 5))
  have HP2 := Lib.hid ((hba.block w.heap.size (lt_of_block HP1.out)).trans HP1.out)
  have p0 := cell_of_row w1 w.heap.size 0 _ _ _ HP1.out
  have p1 := cell_of_row (w1.alloc (.cells #[.int .u8 106] 5)) w.heap.size 0 _ _ _ HP2.out
  simp at p0 p1
  clear hol hba
  go_enter Tryd.func16, Tryd.ntmps16
  go_upto_region 1 with (fail)
  rw [← H1.out]
  have hput : Calls Tryd.prog 26 #[.int .u64 (p : Int), .int .i64 4] (w1.alloc (.cells #[.int .u8 106] 5)) fun e w' => ∃ v, e = .returned v ∧ w'.ownsRow (w1.alloc (.cells #[.int .u8 106] 5)).heap.size 5 1 v 4 (bv (be 4 p)) ∧ Below (w1.alloc (.cells #[.int .u8 106] 5)).heap.size (w1.alloc (.cells #[.int .u8 106] 5)) w' := rput_any p 4 (w1.alloc (.cells #[.int .u8 106] 5)) (by omega) (by omega)
  have HPUT := Lib.hid hput
  clear hput
  go_wp2_with fail
  refine HPUT.out.mono ?_
  rintro r w3 ⟨v3, rfl, ho3, hb3⟩
  obtain ⟨A3, c3, rfl, _⟩ := own_rd ho3
  have HX3 := Lib.hid (Bs.of_own (w := w3) (base := (w1.alloc (.cells #[.int .u8 106] 5)).heap.size) (l := be 4 p) (v := .slice A3 4 c3) (by rw [be_length]; exact ho3))
  have HB3 := Lib.hid (HB2.out.trans (hb3.mono HB2.out.size))
  have HO3 := Lib.hid (own_after HO2.out hb3)
  have HP3 := Lib.hid ((hb3.block w.heap.size (lt_of_block HP2.out)).trans HP2.out)
  clear ho3 hb3 HPUT
  go_wp2_with (at_builtin; refine wpList_append_bytes rfl (.tmp 6) (.tmp 10) rfl (w.heap.size + 1) w3.heap.size (.slice (some ⟨w1.heap.size, 0, none⟩) 1 1) (.slice A3 4 c3) ([106] : List UInt8) (be 4 p) rfl rfl HO3.out HX3.out (by simp [be_length]) (by have := lt_of_block HP3.out; omega) ?_; intro v4 w4 hown4 hg4; rw [show (([106] : List UInt8) ++ (be 4 p)).length = 5 by simp [be_length]] at hown4; obtain ⟨A4, c4, rfl, _⟩ := own_rd hown4; have HO4 := Lib.hid hown4; have HB4 := Lib.hid (HB3.out.grown hg4 HB3.out.size (fun g hg => Nat.le_of_succ_le (HO3.out.lt g hg).1)); have HP4 := Lib.hid ((hg4.block w.heap.size (lt_of_block HP3.out) (fun e => by have := (HO3.out.lt w.heap.size e.symm).1; omega)).trans HP3.out); have p4 := cell_of_row w4 w.heap.size 1 _ _ _ HP4.out; simp at p4; clear hown4 hg4)
  have hput : Calls Tryd.prog 26 #[.int .u64 (m : Int), .int .i64 4] w4 fun e w' => ∃ v, e = .returned v ∧ w'.ownsRow w4.heap.size 5 1 v 4 (bv (be 4 m)) ∧ Below w4.heap.size w4 w' := rput_any m 4 w4 (by omega) (by omega)
  have HPUT := Lib.hid hput
  clear hput
  go_wp2_with fail
  refine HPUT.out.mono ?_
  rintro r w5 ⟨v5, rfl, ho5, hb5⟩
  obtain ⟨A5, c5, rfl, _⟩ := own_rd ho5
  have HX5 := Lib.hid (Bs.of_own (w := w5) (base := w4.heap.size) (l := be 4 m) (v := .slice A5 4 c5) (by rw [be_length]; exact ho5))
  have HB5 := Lib.hid (HB4.out.trans (hb5.mono HB4.out.size))
  have HO5 := Lib.hid (own_after HO4.out hb5)
  have HP5 := Lib.hid ((hb5.block w.heap.size (lt_of_block HP4.out)).trans HP4.out)
  clear ho5 hb5 HPUT
  go_wp2_with (at_builtin; refine wpList_append_bytes rfl (.tmp 12) (.tmp 16) rfl (w.heap.size + 1) w5.heap.size (.slice A4 5 c4) (.slice A5 4 c5) (([106] : List UInt8) ++ (be 4 p)) (be 4 m) rfl rfl HO5.out HX5.out (by simp [be_length]) (by have := lt_of_block HP5.out; omega) ?_; intro v6 w6 hown6 hg6; rw [show ((([106] : List UInt8) ++ (be 4 p)) ++ (be 4 m)).length = 9 by simp [be_length]] at hown6; obtain ⟨A6, c6, rfl, _⟩ := own_rd hown6; have HO6 := Lib.hid hown6; have HB6 := Lib.hid (HB5.out.grown hg6 HB5.out.size (fun g hg => Nat.le_of_succ_le (HO5.out.lt g hg).1)); have HP6 := Lib.hid ((hg6.block w.heap.size (lt_of_block HP5.out) (fun e => by have := (HO5.out.lt w.heap.size e.symm).1; omega)).trans HP5.out); have p6 := cell_of_row w6 w.heap.size 2 _ _ _ HP6.out; simp at p6; clear hown6 hg6)
  have hput : Calls Tryd.prog 26 #[.int .u64 (i : Int), .int .i64 2] w6 fun e w' => ∃ v, e = .returned v ∧ w'.ownsRow w6.heap.size 5 1 v 2 (bv (be 2 i)) ∧ Below w6.heap.size w6 w' := rput_any i 2 w6 (by omega) (by omega)
  have HPUT := Lib.hid hput
  clear hput
  go_wp2_with fail
  refine HPUT.out.mono ?_
  rintro r w7 ⟨v7, rfl, ho7, hb7⟩
  obtain ⟨A7, c7, rfl, _⟩ := own_rd ho7
  have HX7 := Lib.hid (Bs.of_own (w := w7) (base := w6.heap.size) (l := be 2 i) (v := .slice A7 2 c7) (by rw [be_length]; exact ho7))
  have HB7 := Lib.hid (HB6.out.trans (hb7.mono HB6.out.size))
  have HO7 := Lib.hid (own_after HO6.out hb7)
  have HP7 := Lib.hid ((hb7.block w.heap.size (lt_of_block HP6.out)).trans HP6.out)
  clear ho7 hb7 HPUT
  go_upto_region 4 with (at_builtin; refine wpList_append_bytes rfl (.tmp 18) (.tmp 22) rfl (w.heap.size + 1) w7.heap.size (.slice A6 9 c6) (.slice A7 2 c7) ((([106] : List UInt8) ++ (be 4 p)) ++ (be 4 m)) (be 2 i) rfl rfl HO7.out HX7.out (by simp [be_length]) (by have := lt_of_block HP7.out; omega) ?_; intro v8 w8 hown8 hg8; rw [show (((([106] : List UInt8) ++ (be 4 p)) ++ (be 4 m)) ++ (be 2 i)).length = 11 by simp [be_length]] at hown8; obtain ⟨A8, c8, rfl, _⟩ := own_rd hown8; have HO8 := Lib.hid hown8; have HB8 := Lib.hid (HB7.out.grown hg8 HB7.out.size (fun g hg => Nat.le_of_succ_le (HO7.out.lt g hg).1)); have HP8 := Lib.hid ((hg8.block w.heap.size (lt_of_block HP7.out) (fun e => by have := (HO7.out.lt w.heap.size e.symm).1; omega)).trans HP7.out); have p8 := cell_of_row w8 w.heap.size 3 _ _ _ HP8.out; simp at p8; clear hown8 hg8)
  have HBL9 := Lib.hid (show Below w8.heap.size w8 (w8.alloc (.cells #[.int .u8 (s : Int)] 5)) from (Below.refl _ _).alloc (Nat.le_refl _) _)
  have HO9 := Lib.hid (own_after HO8.out HBL9.out)
  have HB9 := Lib.hid (HB8.out.trans (HBL9.out.mono HB8.out.size))
  have HP9 := Lib.hid ((HBL9.out.block w.heap.size (lt_of_block HP8.out)).trans HP8.out)
  have HX9 : Hid (Bs (w8.alloc (.cells #[.int .u8 (s : Int)] 5)) (w8.alloc (.cells #[.int .u8 (s : Int)] 5)).heap.size (.slice (some ⟨w8.heap.size, 0, none⟩) 1 1) (be 1 s)) := ⟨_, 1, by rw [be_length], by rw [be_length]; omega, rd_block' (heap_alloc_new w8 _) (by simp [bv, one_byte]; omega) (lt_of_block (heap_alloc_new w8 _))⟩
  go_wp2_with (at_builtin; refine wpList_append_bytes rfl (.tmp 24) (.tmp 27) rfl (w.heap.size + 1) (w8.alloc (.cells #[.int .u8 (s : Int)] 5)).heap.size (.slice A8 11 c8) (.slice (some ⟨w8.heap.size, 0, none⟩) 1 1) (((([106] : List UInt8) ++ (be 4 p)) ++ (be 4 m)) ++ (be 2 i)) (be 1 s) rfl rfl HO9.out HX9.out (by simp [be_length]) (by have := lt_of_block HP9.out; omega) ?_; intro v10 w10 hown10 hg10; rw [show ((((([106] : List UInt8) ++ (be 4 p)) ++ (be 4 m)) ++ (be 2 i)) ++ (be 1 s)).length = 12 by simp [be_length]] at hown10; obtain ⟨A10, c10, rfl, _⟩ := own_rd hown10; have HO10 := Lib.hid hown10; have HB10 := Lib.hid (HB9.out.grown hg10 HB9.out.size (fun g hg => Nat.le_of_succ_le (HO9.out.lt g hg).1)); have HP10 := Lib.hid ((hg10.block w.heap.size (lt_of_block HP9.out) (fun e => by have := (HO9.out.lt w.heap.size e.symm).1; omega)).trans HP9.out); have p10 := cell_of_row w10 w.heap.size 4 _ _ _ HP10.out; simp at p10; clear hown10 hg10)
  have hput : Calls Tryd.prog 26 #[.int .u64 (u : Int), .int .i64 8] w10 fun e w' => ∃ v, e = .returned v ∧ w'.ownsRow w10.heap.size 5 1 v 8 (bv (be 8 u)) ∧ Below w10.heap.size w10 w' := rput_any u 8 w10 (by omega) (by omega)
  have HPUT := Lib.hid hput
  clear hput
  go_wp2_with fail
  refine HPUT.out.mono ?_
  rintro r w11 ⟨v11, rfl, ho11, hb11⟩
  obtain ⟨A11, c11, rfl, _⟩ := own_rd ho11
  have HX11 := Lib.hid (Bs.of_own (w := w11) (base := w10.heap.size) (l := be 8 u) (v := .slice A11 8 c11) (by rw [be_length]; exact ho11))
  have HB11 := Lib.hid (HB10.out.trans (hb11.mono HB10.out.size))
  have HO11 := Lib.hid (own_after HO10.out hb11)
  have HP11 := Lib.hid ((hb11.block w.heap.size (lt_of_block HP10.out)).trans HP10.out)
  clear ho11 hb11 HPUT
  go_wp2_with (at_builtin; refine wpList_append_bytes rfl (.tmp 29) (.tmp 33) rfl (w.heap.size + 1) w11.heap.size (.slice A10 12 c10) (.slice A11 8 c11) ((((([106] : List UInt8) ++ (be 4 p)) ++ (be 4 m)) ++ (be 2 i)) ++ (be 1 s)) (be 8 u) rfl rfl HO11.out HX11.out (by simp [be_length]) (by have := lt_of_block HP11.out; omega) ?_; intro v12 w12 hown12 hg12; rw [show (((((([106] : List UInt8) ++ (be 4 p)) ++ (be 4 m)) ++ (be 2 i)) ++ (be 1 s)) ++ (be 8 u)).length = 20 by simp [be_length]] at hown12; obtain ⟨A12, c12, rfl, _⟩ := own_rd hown12; have HO12 := Lib.hid hown12; have HB12 := Lib.hid (HB11.out.grown hg12 HB11.out.size (fun g hg => Nat.le_of_succ_le (HO11.out.lt g hg).1)); have HP12 := Lib.hid ((hg12.block w.heap.size (lt_of_block HP11.out) (fun e => by have := (HO11.out.lt w.heap.size e.symm).1; omega)).trans HP11.out); have p12 := cell_of_row w12 w.heap.size 5 _ _ _ HP12.out; simp at p12; clear hown12 hg12)
  have hput : Calls Tryd.prog 26 #[.int .u64 (n : Int), .int .i64 8] w12 fun e w' => ∃ v, e = .returned v ∧ w'.ownsRow w12.heap.size 5 1 v 8 (bv (be 8 n)) ∧ Below w12.heap.size w12 w' := rput_any n 8 w12 (by omega) (by omega)
  have HPUT := Lib.hid hput
  clear hput
  go_wp2_with fail
  refine HPUT.out.mono ?_
  rintro r w13 ⟨v13, rfl, ho13, hb13⟩
  obtain ⟨A13, c13, rfl, _⟩ := own_rd ho13
  have HX13 := Lib.hid (Bs.of_own (w := w13) (base := w12.heap.size) (l := be 8 n) (v := .slice A13 8 c13) (by rw [be_length]; exact ho13))
  have HB13 := Lib.hid (HB12.out.trans (hb13.mono HB12.out.size))
  have HO13 := Lib.hid (own_after HO12.out hb13)
  have HP13 := Lib.hid ((hb13.block w.heap.size (lt_of_block HP12.out)).trans HP12.out)
  clear ho13 hb13 HPUT
  go_wp2_with (at_builtin; refine wpList_append_bytes rfl (.tmp 36) (.tmp 39) rfl (w.heap.size + 1) w13.heap.size (.slice A12 20 c12) (.slice A13 8 c13) (((((([106] : List UInt8) ++ (be 4 p)) ++ (be 4 m)) ++ (be 2 i)) ++ (be 1 s)) ++ (be 8 u)) (be 8 n) rfl rfl HO13.out HX13.out (by simp [be_length]) (by have := lt_of_block HP13.out; omega) ?_; intro v14 w14 hown14 hg14; rw [show ((((((([106] : List UInt8) ++ (be 4 p)) ++ (be 4 m)) ++ (be 2 i)) ++ (be 1 s)) ++ (be 8 u)) ++ (be 8 n)).length = 28 by simp [be_length]] at hown14; obtain ⟨A14, c14, rfl, _⟩ := own_rd hown14; have HO14 := Lib.hid hown14; have HB14 := Lib.hid (HB13.out.grown hg14 HB13.out.size (fun g hg => Nat.le_of_succ_le (HO13.out.lt g hg).1)); have HP14 := Lib.hid ((hg14.block w.heap.size (lt_of_block HP13.out) (fun e => by have := (HO13.out.lt w.heap.size e.symm).1; omega)).trans HP13.out); clear hown14 hg14)
  have hbs : Bs w14 w14.heap.size (.slice A14 28 c14) ((((((([106] : List UInt8) ++ (be 4 p)) ++ (be 4 m)) ++ (be 2 i)) ++ (be 1 s)) ++ (be 8 u)) ++ (be 8 n)) := Bs.of_own (by rw [show ((((((([106] : List UInt8) ++ (be 4 p)) ++ (be 4 m)) ++ (be 2 i)) ++ (be 1 s)) ++ (be 8 u)) ++ (be 8 n)).length = 28 by simp [be_length]]; exact HO14.out)
  refine (signed_any v (.slice A14 28 c14) key ((((((([106] : List UInt8) ++ (be 4 p)) ++ (be 4 m)) ++ (be 2 i)) ++ (be 1 s)) ++ (be 8 u)) ++ (be 8 n)) w14 (bs_up (HV.out.below HB14.out (Nat.le_refl _)) HB14.out.size) hbs hkl (by simp [be_length])).mono ?_
  rintro r w15 ⟨rfl, hb15⟩
  have hfin : ((((((([106] : List UInt8) ++ (be 4 p)) ++ (be 4 m)) ++ (be 2 i)) ++ (be 1 s)) ++ (be 8 u)) ++ (be 8 n)) = tokB p m i s e n := by unfold tokB; rw [← HU.out]; simp
  rw [hfin]
  go_wp2
  go_ret
  exact ⟨rfl, HB14.out.trans (hb15.mono HB14.out.size)⟩
end Go.Proofs.YtaefgieodehceaaDoor
