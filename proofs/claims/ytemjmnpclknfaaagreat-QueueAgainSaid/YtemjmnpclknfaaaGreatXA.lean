/- Rack: Drop, at things. -/
import Derived.Test.YtemjmnpclknfaaaGreatTA
import Derived.Test.YtemjmnpclknfaaaGreatX9
namespace Go.Proofs.YtemjmnpclknfaaaGreat.T
open Go.RowKit
open Go.Proofs.YtemjmnpclknfaaaGreat.P (Sl un)
set_option maxRecDepth 20000

theorem up_del {ids : List Nat} (p : Nat) (hu : Up ids) : Up (ids.take p ++ ids.drop (p + 1)) := by
  have get : ∀ j, (ids.take p ++ ids.drop (p + 1))[j]? = if j < p then ids[j]? else ids[j + 1]? := fun j => by
    by_cases hj : j < p
    · rw [if_pos hj]
      by_cases hjl : j < (ids.take p).length
      · rw [List.getElem?_append_left hjl, List.getElem?_take, if_pos hj]
      · rw [List.getElem?_append_right (by omega), List.getElem?_drop]
        rw [List.length_take] at hjl
        rw [List.getElem?_eq_none (by rw [List.length_take]; omega), List.getElem?_eq_none (by omega)]
    · rw [if_neg hj]
      by_cases hp : p ≤ ids.length
      · rw [List.getElem?_append_right (by rw [List.length_take]; omega), List.getElem?_drop, List.length_take, show p + 1 + (j - min p ids.length) = j + 1 by omega]
      · rw [List.getElem?_eq_none (by rw [List.length_append, List.length_take, List.length_drop]; omega), List.getElem?_eq_none (by omega)]
  intro i j a b hij ha hb
  rw [get] at ha hb
  by_cases hi : i < p
  · rw [if_pos hi] at ha
    by_cases hj : j < p
    · rw [if_pos hj] at hb; exact hu i j a b hij ha hb
    · rw [if_neg hj] at hb; exact hu i (j + 1) a b (by omega) ha hb
  · rw [if_neg hi] at ha
    rw [if_neg (by omega)] at hb
    exact hu (i + 1) (j + 1) a b (by omega) ha hb
theorem un_del (ids : List Nat) (p : Nat) : un (ids.take p ++ ids.drop (p + 1)) = (un ids).take p ++ (un ids).drop (p + 1) := by simp [un, List.map_take, List.map_drop]
theorem del_len {α : Type} (l : List α) (p : Nat) (h : p < l.length) : (l.take p ++ l.drop (p + 1)).length = l.length - 1 := by
  rw [List.length_append, List.length_take, List.length_drop]
  omega

set_option maxHeartbeats 2000000 in
theorem drop_none (R : Nat) (most : Int) (vi vt : Value) (ids : List Nat) (ths : List Mk) (x : Nat) (w : World) (h : IsR w R most vi vt ids ths) (hl : ids.length ≤ 1000) (hx : x ∉ ids) :
    Calls Tryz.prog 26 #[.pointer (some ⟨R, 0, none⟩), .int .u32 (x : Int)] w fun r w' => r = .returned (.tuple #[.agg mZ, .bool false]) ∧ Below w.heap.size w w' := by
  obtain ⟨w0, hw0⟩ : ∃ w0, w0 = w.alloc (.cells (mZ) 39) := ⟨_, rfl⟩
  have hb0 : Below w.heap.size w w0 := by rw [hw0]; exact (Below.refl _ _).alloc (Nat.le_refl _) _
  have hq0 : w0.heap[w.heap.size]? = some (.cells (mZ) 39 (0, 0)) := by rw [hw0]; exact heap_alloc_new w _
  have z0 := cell_of_row w0 w.heap.size 0 _ _ _ hq0
  have z1 := cell_of_row w0 w.heap.size 1 _ _ _ hq0
  have z2 := cell_of_row w0 w.heap.size 2 _ _ _ hq0
  have z3 := cell_of_row w0 w.heap.size 3 _ _ _ hq0
  have z4 := cell_of_row w0 w.heap.size 4 _ _ _ hq0
  simp at z0 z1 z2 z3 z4
  have H0 := Lib.hid hw0
  have HB0 := Lib.hid hb0
  have HQ0 := Lib.hid hq0
  have zf : ∀ i, w0.frozen? ⟨w.heap.size, i, none⟩ = false := fun i => frozen_of_row w0 _ i _ _ hq0
  have HRB : Hid (R < w.heap.size) := lt_of_block h.row
  replace h := h.after hb0
  clear hw0 hb0 hq0
  have HP := Lib.hid (place_any R most vi vt ids ths x w0 h hl)
  have HU := Lib.hid h.up
  have HX := Lib.hid hx
  clear h hx
  go_enter Tryz.func26, Tryz.ntmps26
  go_wp2_with fail
  rw [← H0.out]
  refine HP.out.mono ?_
  rintro r w' ⟨rfl, p, hp, rfl⟩
  have hd : decide (ids[p]? = some x) = false := by rw [decide_eq_false_iff_not]; exact fun e => HX.out ((pl_mem HU.out hp).2 e)
  rw [hd]
  have hq1 : (w'.alloc (.cells (mZ) 39)).heap[w.heap.size]? = some (.cells (mZ) 39 (0, 0)) := (Below.heap_alloc _ _ _ (lt_of_block HQ0.out)).trans HQ0.out
  have y0 := cell_of_row _ w.heap.size 0 _ _ _ hq1
  have y1 := cell_of_row _ w.heap.size 1 _ _ _ hq1
  have y2 := cell_of_row _ w.heap.size 2 _ _ _ hq1
  have y3 := cell_of_row _ w.heap.size 3 _ _ _ hq1
  have y4 := cell_of_row _ w.heap.size 4 _ _ _ hq1
  have yf : ∀ i, (w'.alloc (.cells (mZ) 39)).frozen? ⟨w.heap.size, i, none⟩ = false := fun i => frozen_of_row _ _ i _ _ hq1
  have HT := Lib.hid (three (.int .u32 0) (.int .i64 0) (.slice none 0 0) (.int .i64 0) (.int .i64 0) hq1)
  have HTB := Lib.hid (three_below (.int .u32 0) (.int .i64 0) (.slice none 0 0) (.int .i64 0) (.int .i64 0) (HB0.out.alloc HB0.out.size (.cells (mZ) 39)) (Nat.le_refl w.heap.size))
  clear hq1
  clear hp
  go_wp2
  obtain ⟨e0, e1, e2, e3, e4, _⟩ := HT.out
  exact bodyPost_ret (v := .tuple #[.agg mZ, .bool false]) (by simp [results, Tryz.results26, go_sem, e0, e1, e2, e3, e4]) rfl ⟨rfl, HTB.out⟩



theorem mz_del (l : List Mk) (p : Nat) : mz (l.take p ++ l.drop (p + 1)) = (mz l).take (p * 5) ++ (mz l).drop ((p + 1) * 5) := by rw [mz_app, mz_take, mz_drop]
set_option linter.unusedSimpArgs false in
set_option maxHeartbeats 4000000 in
theorem drop_there (R : Nat) (most : Int) (vi vt : Value) (ids : List Nat) (ths : List Mk) (x : Nat) (w : World) (h : IsR w R most vi vt ids ths) (hl : ids.length ≤ 1000) (hx : x ∈ ids) :
    Calls Tryz.prog 26 #[.pointer (some ⟨R, 0, none⟩), .int .u32 (x : Int)] w fun r w' => ∃ (p : Nat) (y1 : Nat) (y2 : Int) (y3 : Sl) (y4 : Int) (y5 : Int), ids[p]? = some x ∧ ths[p]? = some (y1, y2, y3, y4, y5) ∧ r = .returned (.tuple #[mV y1 y2 y3 y4 y5, .bool true]) ∧ ChR R vi vt w w' ∧ ∃ vi' vt', vi'.ownBlock = vi.ownBlock ∧ vt'.ownBlock = vt.ownBlock ∧ IsR w' R most vi' vt' (ids.take p ++ ids.drop (p + 1)) (ths.take p ++ ths.drop (p + 1)) := by
  obtain ⟨w0, hw0⟩ : ∃ w0, w0 = w.alloc (.cells (mZ) 39) := ⟨_, rfl⟩
  have hb0 : Below w.heap.size w w0 := by rw [hw0]; exact (Below.refl _ _).alloc (Nat.le_refl _) _
  have hq0 : w0.heap[w.heap.size]? = some (.cells (mZ) 39 (0, 0)) := by rw [hw0]; exact heap_alloc_new w _
  have z0 := cell_of_row w0 w.heap.size 0 _ _ _ hq0
  have z1 := cell_of_row w0 w.heap.size 1 _ _ _ hq0
  have z2 := cell_of_row w0 w.heap.size 2 _ _ _ hq0
  have z3 := cell_of_row w0 w.heap.size 3 _ _ _ hq0
  have z4 := cell_of_row w0 w.heap.size 4 _ _ _ hq0
  simp at z0 z1 z2 z3 z4
  have H0 := Lib.hid hw0
  have HOI := Lib.hid (ownlt h.rio)
  have HOT := Lib.hid (ownlt h.rto)
  have HB0 := Lib.hid hb0
  have HQ0 := Lib.hid hq0
  have zf : ∀ i, w0.frozen? ⟨w.heap.size, i, none⟩ = false := fun i => frozen_of_row w0 _ i _ _ hq0
  have HRB : Hid (R < w.heap.size) := lt_of_block h.row
  replace h := h.after hb0
  clear hw0 hb0 hq0
  have HP := Lib.hid (place_any R most vi vt ids ths x w0 h hl)
  have HH := Lib.hid h
  have HX := Lib.hid hx
  have hn0 : 0 < ids.length := List.length_pos_of_mem hx
  rcases h.rio.2 with ⟨_, h0⟩ | ⟨gi, capi, curi, rfl, hbi, hhi, hnci, hcmi, hcsi, hti⟩
  · omega
  rcases h.rto.2 with ⟨_, h0⟩ | ⟨gt, capt, curt, rfl, hbt, hht, hnct, hcmt, hcst, htt⟩
  · omega
  rw [Nat.mul_one] at hcsi hti
  have hgne : gi ≠ gt := fun e => by rw [e, hht] at hhi; injection hhi with hhi; injection hhi with _ hhi; exact absurd hhi (by decide)
  obtain ⟨n, hn⟩ : ∃ n, n = ids.length := ⟨_, rfl⟩
  have hrow := h.row
  rw [← hn] at hrow hnci hti hnct htt hl
  have c2 := cell_of_row w0 R 2 _ _ _ hrow
  have c1 := cell_of_row w0 R 1 _ _ _ hrow
  simp at c1 c2
  have HROW := Lib.hid hrow
  have HN := Lib.hid hn
  have HI := Lib.hid (And.intro hbi (And.intro hhi (And.intro hnci (And.intro hcmi (And.intro hcsi hti)))))
  have HT := Lib.hid (And.intro hbt (And.intro hht (And.intro hnct (And.intro hcmt (And.intro hcst htt)))))
  have HGN := Lib.hid hgne
  clear h hx hn0 hbi hhi hnci hcmi hcsi hti hbt hht hnct hcmt hcst htt hgne hrow hn
  go_enter Tryz.func26, Tryz.ntmps26
  go_wp2_with fail
  rw [← H0.out]
  refine HP.out.mono ?_
  rintro r w' ⟨rfl, p, hp, rfl⟩
  have hget := (pl_mem HH.out.up hp).1 HX.out
  have hd : decide (ids[p]? = some x) = true := by simpa using hget
  have hpn : p < n := by have := (List.getElem?_eq_some_iff.1 hget).1; have := HN.out; omega
  obtain ⟨g, cap, y1, y2, y3, y4, y5, hv, hy, q0, q1, q2, q3, q4⟩ := thing_at HH.out (p := p) (by have := HN.out; omega)
  injection hv with e1 _ e3
  injection e1 with e1
  injection e1 with e1
  subst e1 e3
  rw [hd]
  obtain ⟨v0, hv0⟩ : ∃ v0, v0 = w'.alloc (.cells (mC y1 y2 y3 y4 y5) 39) := ⟨_, rfl⟩
  have hbv : Below w'.heap.size w' v0 := by rw [hv0]; exact (Below.refl _ _).alloc (Nat.le_refl _) _
  have hqv : v0.heap[w'.heap.size]? = some (.cells (mC y1 y2 y3 y4 y5) 39 (0, 0)) := by rw [hv0]; exact heap_alloc_new w' _
  have HVB : Hid (w.heap.size < w'.heap.size) := lt_of_block HQ0.out
  have HQ0 := Lib.hid ((hbv.block w.heap.size (lt_of_block HQ0.out)).trans HQ0.out)
  have HROW := Lib.hid ((hbv.block R (lt_of_block HROW.out)).trans HROW.out)
  have HI := Lib.hid (And.intro HI.out.1 (And.intro ((hbv.block gi (lt_of_block HI.out.2.1)).trans HI.out.2.1) HI.out.2.2))
  have HT := Lib.hid (And.intro HT.out.1 (And.intro ((hbv.block gt (lt_of_block HT.out.2.1)).trans HT.out.2.1) HT.out.2.2))
  have HV0 := Lib.hid hv0
  have HQV := Lib.hid hqv
  have HB0 := Lib.hid (HB0.out.trans (hbv.mono (Nat.le_of_lt HVB.out)))
  have c1 := cell_of_row v0 R 1 _ _ _ HROW.out
  have c2 := cell_of_row v0 R 2 _ _ _ HROW.out
  simp at c1 c2
  have a1 : (w'.alloc (.cells (mC y1 y2 y3 y4 y5) 39)).cell? ⟨R, 1, none⟩ = some (.slice (some ⟨gi, 0, none⟩) n capi) := by rw [← hv0]; exact c1
  have a2 : (w'.alloc (.cells (mC y1 y2 y3 y4 y5) 39)).cell? ⟨R, 2, none⟩ = some (.slice (some ⟨gt, 0, none⟩) n capt) := by rw [← hv0]; exact c2
  clear hv0 hbv hqv
  have HD1 := Lib.hid (del32_row (R + 1) n p gi capi curi (un ids) v0 hpn hl HI.out.1 HI.out.2.1 HI.out.2.2.1 HI.out.2.2.2.1 HI.out.2.2.2.2.1 HI.out.2.2.2.2.2 (un_one ids))
  have HGY := Lib.hid (And.intro hget hy)
  clear hget hp hd hy
  go_wp2_with fail
  rw [← HV0.out]
  refine HD1.out.mono ?_
  rintro r w1 ⟨rfl, hio1, hgr1⟩
  have hRgi : R ≠ gi := by have := HI.out.1; omega
  have hRgt : R ≠ gt := by have := HT.out.1; omega
  have hrow1 := (hgr1.block R (lt_of_block HROW.out) (fun e => by injection e with e; exact hRgi e)).trans HROW.out
  have hht1 := (hgr1.block gt (lt_of_block HT.out.2.1) (fun e => by injection e with e; exact HGN.out e.symm)).trans HT.out.2.1
  obtain ⟨w2, hw2⟩ : ∃ w2, w2 = w1.setCell ⟨R, 1, none⟩ (.slice (some ⟨gi, 0, none⟩) (n - 1) capi) := ⟨_, rfl⟩
  have hrow2 : w2.heap[R]? = some (.cells #[.int .i64 most, .slice (some ⟨gi, 0, none⟩) (n - 1) capi, .slice (some ⟨gt, 0, none⟩) n capt] 89 (0, 0)) := by rw [hw2]; exact heap_setCell_same w1 R 1 _ 89 _ hrow1
  have hht2 : w2.heap[gt]? = some (.cells curt 39 (0, 0)) := by rw [hw2]; exact (Below.heap_setCell _ _ _ _ (fun e => hRgt e.symm)).trans hht1
  have hio2 : w2.ownsRow (R + 1) 33 1 (.slice (some ⟨gi, 0, none⟩) (n - 1) capi) (n - 1) ((un ids).take p ++ (un ids).drop (p + 1)) := own_after hio1 fun k hk => by rw [hw2]; exact Below.heap_setCell _ _ _ _ (by have := (ownlt hio1 k hk).1; show k ≠ R; omega)
  have hb2 : Below R v0 w2 := by rw [hw2]; exact (((Below.refl _ _).grown hgr1 (Nat.le_of_lt (lt_of_block HROW.out)) (fun k hk => by injection hk with hk; have := HI.out.1; omega))).setCell (Nat.le_refl R) _
  have HD2 := Lib.hid (delM_row (R + 1) n p gt capt curt (mz ths) w2 hpn hl HT.out.1 hht2 HT.out.2.2.1 HT.out.2.2.2.1 HT.out.2.2.2.2.1 HT.out.2.2.2.2.2 (mz_one ths))
  have H2 := Lib.hid hw2
  have HROW2 := Lib.hid hrow2
  have HIO2 := Lib.hid hio2
  have HB2 := Lib.hid hb2
  have HK2 : Hid (∀ k, k < v0.heap.size → k ≠ R → some k ≠ Value.ownBlock (.slice (some ⟨gi, 0, none⟩) n capi) → w2.heap[k]? = v0.heap[k]?) := fun k a1 a2 a3 => by rw [hw2]; exact (Below.heap_setCell _ _ _ _ a2).trans (hgr1.block k a1 (fun e => a3 (by injection e with e; rw [e]; rfl)))
  have HHT2 := Lib.hid hht2
  have d1 := cell_of_row w1 R 1 _ _ _ hrow1
  have f1 : ∀ i, w1.frozen? ⟨R, i, none⟩ = false := fun i => frozen_of_row w1 _ i _ _ hrow1
  have e2 := cell_of_row w2 R 2 _ _ _ hrow2
  simp at d1 e2
  clear hio1 hgr1 hrow1 hht1 hw2 hrow2 hht2 hio2 hb2 c1 c2 q0 q1 q2 q3 q4
  go_upto_region 7 with (fail)
  rw [← H2.out]
  clear d1 f1
  go_wp2_with fail
  refine HD2.out.mono ?_
  rintro r w3 ⟨rfl, hto3, hgr3⟩
  have hrow3 := (hgr3.block R (lt_of_block HROW2.out) (fun e => by injection e with e; exact hRgt e)).trans HROW2.out
  have hio3 := own_after HIO2.out fun k hk => hgr3.block k (ownlt HIO2.out k hk).2 (fun e => by
    injection e with e
    obtain ⟨cc, hcc⟩ := own_type HIO2.out hk
    rw [e, HHT2.out] at hcc
    injection hcc with hcc
    injection hcc with _ hcc
    exact absurd hcc (by decide))
  have HFIN : Hid (IsR (w3.setCell ⟨R, 2, none⟩ (.slice (some ⟨gt, 0, none⟩) (n - 1) capt)) R most (.slice (some ⟨gi, 0, none⟩) (n - 1) capi) (.slice (some ⟨gt, 0, none⟩) (n - 1) capt) (ids.take p ++ ids.drop (p + 1)) (ths.take p ++ ths.drop (p + 1))) := by
    have hlen := HH.out.len
    have hN := HN.out
    refine ⟨heap_setCell_same w3 R 2 _ 89 _ hrow3, ?_, ?_, ?_, up_del p HH.out.up, ?_⟩
    · rw [un_del, del_len _ _ (by omega), ← hN]
      exact own_after hio3 fun k hk => Below.heap_setCell _ _ _ _ (by have := (ownlt hio3 k hk).1; show k ≠ R; omega)
    · rw [mz_del, del_len _ _ (by omega), ← hN]
      exact own_after hto3 fun k hk => Below.heap_setCell _ _ _ _ (by have := (ownlt hto3 k hk).1; show k ≠ R; omega)
    · rw [del_len _ _ (by omega), del_len _ _ (by omega), hlen]
    · intro z hz
      simp only [List.mem_append] at hz
      rcases hz with hz | hz
      · exact HH.out.ok z (List.mem_of_mem_take hz)
      · exact HH.out.ok z (List.mem_of_mem_drop hz)
  have HBF : Hid (Below R v0 (w3.setCell ⟨R, 2, none⟩ (.slice (some ⟨gt, 0, none⟩) (n - 1) capt))) := (HB2.out.grown hgr3 (Nat.le_of_lt (lt_of_block HROW2.out)) (fun k hk => by injection hk with hk; have := HT.out.1; omega)).setCell (Nat.le_refl R) _
  have HCH : Hid (ChR R (.slice (some ⟨gi, 0, none⟩) n capi) (.slice (some ⟨gt, 0, none⟩) n capt) v0 (w3.setCell ⟨R, 2, none⟩ (.slice (some ⟨gt, 0, none⟩) (n - 1) capt))) := by
    refine ⟨HBF.out, ?_, fun k a1 a2 a3 a4 => ?_⟩
    · rw [World.size_setCell]
      exact Nat.le_trans HB2.out.size hgr3.size
    · have hk2 : k < w2.heap.size := Nat.lt_of_lt_of_le a1 HB2.out.size
      exact ((Below.heap_setCell _ _ _ _ a2).trans (hgr3.block k hk2 (fun e => a4 e))).trans (HK2.out k a1 a2 a3)
  have d2 := cell_of_row w3 R 2 _ _ _ hrow3
  have f3 : ∀ i, w3.frozen? ⟨R, i, none⟩ = false := fun i => frozen_of_row w3 _ i _ _ hrow3
  simp at d2
  have HRB := HRB
  have hgi := (HOI.out gi rfl).2
  have hgt := (HOT.out gt rfl).2
  have hRw : R < w.heap.size := HRB.out
  have hVB : w.heap.size < w'.heap.size := HVB.out
  have hsz0 : w'.heap.size < v0.heap.size := lt_of_block HQV.out
  have kb : ∀ k, k < v0.heap.size → k ≠ R → k ≠ gi → k ≠ gt → w3.heap[k]? = v0.heap[k]? := fun k a1 a2 a3 a4 =>
    (hgr3.block k (Nat.lt_of_lt_of_le a1 HB2.out.size) (fun e => by injection e with e; exact a4 e)).trans (HK2.out k a1 a2 (fun e => by injection e with e; exact a3 e))
  have hV3 := (kb w'.heap.size hsz0 (by omega) (by omega) (by omega)).trans HQV.out
  have hB3 := (kb w.heap.size (by omega) (by omega) (by omega) (by omega)).trans HQ0.out
  obtain ⟨W4, hW4⟩ : ∃ W4, W4 = w3.setCell ⟨R, 2, none⟩ (.slice (some ⟨gt, 0, none⟩) (n - 1) capt) := ⟨_, rfl⟩
  have hV4 : W4.heap[w'.heap.size]? = some (.cells (mC y1 y2 y3 y4 y5) 39 (0, 0)) := by rw [hW4]; exact (Below.heap_setCell _ _ _ _ (by show w'.heap.size ≠ R; omega)).trans hV3
  have hB4 : W4.heap[w.heap.size]? = some (.cells (mZ) 39 (0, 0)) := by rw [hW4]; exact (Below.heap_setCell _ _ _ _ (by show w.heap.size ≠ R; omega)).trans hB3
  rw [← hW4] at HFIN HBF HCH
  have HT5 := Lib.hid (three (.int .u32 (y1 : Int)) (.int .i64 y2) (.slice y3.a y3.n y3.c) (.int .i64 y4) (.int .i64 y5) hB4)
  have hoth : ∀ k, k ≠ w.heap.size → (((((W4.setCell ⟨w.heap.size, 0, none⟩ (.int .u32 (y1 : Int))).setCell ⟨w.heap.size, 1, none⟩ (.int .i64 y2)).setCell ⟨w.heap.size, 2, none⟩ (.slice y3.a y3.n y3.c)).setCell ⟨w.heap.size, 3, none⟩ (.int .i64 y4)).setCell ⟨w.heap.size, 4, none⟩ (.int .i64 y5)).heap[k]? = W4.heap[k]? := fun k hk => by
    rw [Below.heap_setCell _ _ _ _ hk, Below.heap_setCell _ _ _ _ hk, Below.heap_setCell _ _ _ _ hk, Below.heap_setCell _ _ _ _ hk, Below.heap_setCell _ _ _ _ hk]
  have HFIN5 : Hid (IsR (((((W4.setCell ⟨w.heap.size, 0, none⟩ (.int .u32 (y1 : Int))).setCell ⟨w.heap.size, 1, none⟩ (.int .i64 y2)).setCell ⟨w.heap.size, 2, none⟩ (.slice y3.a y3.n y3.c)).setCell ⟨w.heap.size, 3, none⟩ (.int .i64 y4)).setCell ⟨w.heap.size, 4, none⟩ (.int .i64 y5)) R most (.slice (some ⟨gi, 0, none⟩) (n - 1) capi) (.slice (some ⟨gt, 0, none⟩) (n - 1) capt) (ids.take p ++ ids.drop (p + 1)) (ths.take p ++ ths.drop (p + 1))) := by
    have hf := HFIN.out
    exact ⟨(hoth R (by omega)).trans hf.row, own_after hf.rio fun k hk => hoth k (by have e : gi = k := Option.some.inj hk; omega), own_after hf.rto fun k hk => hoth k (by have e : gt = k := Option.some.inj hk; omega), hf.len, hf.up, hf.ok⟩
  have HCH5 : Hid (ChR R (.slice (some ⟨gi, 0, none⟩) ids.length capi) (.slice (some ⟨gt, 0, none⟩) ids.length capt) w (((((W4.setCell ⟨w.heap.size, 0, none⟩ (.int .u32 (y1 : Int))).setCell ⟨w.heap.size, 1, none⟩ (.int .i64 y2)).setCell ⟨w.heap.size, 2, none⟩ (.slice y3.a y3.n y3.c)).setCell ⟨w.heap.size, 3, none⟩ (.int .i64 y4)).setCell ⟨w.heap.size, 4, none⟩ (.int .i64 y5))) := by
    rw [← HN.out]
    have hc := ChR.from_below (Nat.le_of_lt hRw) HB0.out HCH.out
    refine ⟨three_below _ _ _ _ _ hc.1 (Nat.le_of_lt hRw), ?_, fun k b1 b2 b3 b4 => (hoth k (by omega)).trans (hc.2.2 k b1 b2 b3 b4)⟩
    rw [World.size_setCell, World.size_setCell, World.size_setCell, World.size_setCell, World.size_setCell]
    exact hc.2.1
  have HW4 := Lib.hid hW4
  have g0 : W4.cell? ⟨w'.heap.size, 0, none⟩ = some (.int .u32 (y1 : Int)) := by rw [cell_of_row W4 _ _ _ _ _ hV4]; rfl
  have g1 : W4.cell? ⟨w'.heap.size, 1, none⟩ = some (.int .i64 y2) := by rw [cell_of_row W4 _ _ _ _ _ hV4]; rfl
  have g2 : W4.cell? ⟨w'.heap.size, 2, none⟩ = some (.slice y3.a y3.n y3.c) := by rw [cell_of_row W4 _ _ _ _ _ hV4]; rfl
  have g3 : W4.cell? ⟨w'.heap.size, 3, none⟩ = some (.int .i64 y4) := by rw [cell_of_row W4 _ _ _ _ _ hV4]; rfl
  have g4 : W4.cell? ⟨w'.heap.size, 4, none⟩ = some (.int .i64 y5) := by rw [cell_of_row W4 _ _ _ _ _ hV4]; rfl
  have b0 : W4.cell? ⟨w.heap.size, 0, none⟩ = some (.int .u32 0) := by rw [cell_of_row W4 _ _ _ _ _ hB4]; rfl
  have b1 : W4.cell? ⟨w.heap.size, 1, none⟩ = some (.int .i64 0) := by rw [cell_of_row W4 _ _ _ _ _ hB4]; rfl
  have b2 : W4.cell? ⟨w.heap.size, 2, none⟩ = some (.slice none 0 0) := by rw [cell_of_row W4 _ _ _ _ _ hB4]; rfl
  have b3 : W4.cell? ⟨w.heap.size, 3, none⟩ = some (.int .i64 0) := by rw [cell_of_row W4 _ _ _ _ _ hB4]; rfl
  have b4 : W4.cell? ⟨w.heap.size, 4, none⟩ = some (.int .i64 0) := by rw [cell_of_row W4 _ _ _ _ _ hB4]; rfl
  have bf : ∀ i, W4.frozen? ⟨w.heap.size, i, none⟩ = false := fun i => frozen_of_row W4 _ i _ _ hB4
  clear hto3 hgr3 hio3 e2 hW4 hV4 hB4 hoth kb hV3 hB3 hgi hgt hRw hVB hsz0 hrow3 a1 a2 z0 z1 z2 z3 z4 zf
  go_upto_region 8 with (fail)
  rw [← HW4.out]
  go_wp2
  obtain ⟨e0, e1, e2, e3, e4, _⟩ := HT5.out
  exact bodyPost_ret (v := .tuple #[mV y1 y2 y3 y4 y5, .bool true]) (by simp [results, Tryz.results26, go_sem, e0, e1, e2, e3, e4]) rfl ⟨p, y1, y2, y3, y4, y5, HGY.out.1, HGY.out.2, rfl, HCH5.out, .slice (some ⟨gi, 0, none⟩) (n - 1) capi, .slice (some ⟨gt, 0, none⟩) (n - 1) capt, rfl, rfl, HFIN5.out⟩
end Go.Proofs.YtemjmnpclknfaaaGreat.T
