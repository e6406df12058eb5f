/- Rack: Get, Drop and Put of a rack of bytes. -/
import Derived.Test.YtbilkelbelimjaaKD
namespace Go.Proofs.Ytbilkelbelimjaa.B
open Go.RowKit
set_option maxRecDepth 20000

theorem thing_at {w : World} {R : Nat} {most : Int} {vi vt : Value} {ids : List Nat} {ths : List Int} (h : IsR w R most vi vt ids ths) {p : Nat} (hp : p < ids.length) : ∃ g cap y, vt = .slice (some ⟨g, 0, none⟩) ids.length cap ∧ w.cell? ⟨g, p, none⟩ = some (.int .u8 y) := by
  rcases h.rto.2 with ⟨_, h0⟩ | ⟨g, cap, cur, rfl, hr⟩
  · omega
  · obtain ⟨y, hy⟩ : ∃ y, ths[p]? = some y := ⟨ths[p]'(by rw [h.len]; exact hp), List.getElem?_eq_getElem _⟩
    have := h.rto.cells (g := g) rfl p (.int .u8 y) (by unfold zn; rw [List.getElem?_map, hy]; rfl)
    rw [Go.WideShapes.add_plain, Nat.zero_add] at this
    exact ⟨g, cap, y, rfl, this⟩

set_option maxHeartbeats 2000000 in
theorem get_any (R : Nat) (most : Int) (vi vt : Value) (ids : List Nat) (ths : List Int) (x : Nat) (w : World) (h : IsR w R most vi vt ids ths) (hl : ids.length ≤ 1000) :
    Calls Try.prog 39 #[.pointer (some ⟨R, 0, none⟩), .int .u32 (x : Int)] w fun r w' => (∃ v, r = .returned (.tuple #[v, .bool (decide (x ∈ ids))])) ∧ Below w.heap.size w w' := by
  have hbr : Below w.heap.size w w := Below.refl _ _
  have HP := Lib.hid (place_any R most vi vt ids ths x w h hl)
  have HU := Lib.hid h.up
  by_cases hx : x ∈ ids
  · have hd : decide (x ∈ ids) = true := by simpa using hx
    rw [hd]
    obtain ⟨n, hn⟩ : ∃ n, n = ids.length := ⟨_, rfl⟩
    have HH := Lib.hid h
    have hrow := h.row
    have HN := Lib.hid hn
    have HX := Lib.hid hx
    obtain ⟨g0, cap0, y0, hv, _⟩ := thing_at h (p := 0) (by exact List.length_pos_of_mem hx)
    rw [← hn] at hv
    subst hv
    rw [← hn] at hl
    have c2 := cell_of_row w R 2 _ _ _ hrow
    simp at c2
    clear h hd hx hrow hn
    go_enter Try.func39, Try.ntmps39
    go_wp2_with fail
    refine HP.out.mono ?_
    rintro r w' ⟨rfl, p, hp, rfl⟩
    have hget := (pl_mem HU.out hp).1 HX.out
    have hd : decide (ids[p]? = some x) = true := by simpa using hget
    have hpn : p < n := by have := (List.getElem?_eq_some_iff.1 hget).1; have := HN.out; omega
    obtain ⟨g, cap, y, hv, d⟩ := thing_at HH.out (p := p) (by have := HN.out; omega)
    injection hv with e1 _ e3
    injection e1 with e1
    injection e1 with e1
    subst e1 e3
    rw [hd]
    clear hget hp
    go_wp2
    exact bodyPost_ret (v := .tuple #[.int .u8 y, .bool true]) (by simp [results, Try.results39, go_sem]) rfl ⟨⟨_, rfl⟩, hbr⟩
  · have hd : decide (x ∈ ids) = false := by simpa using hx
    rw [hd]
    have HX := Lib.hid hx
    clear h hd hx
    go_enter Try.func39, Try.ntmps39
    go_wp2_with fail
    refine HP.out.mono ?_
    rintro r w' ⟨rfl, p, hp, rfl⟩
    have hd : decide (ids[p]? = some x) = false := by rw [decide_eq_false_iff_not]; exact fun e => HX.out ((pl_mem HU.out hp).2 e)
    rw [hd]
    clear hp
    go_wp2
    exact bodyPost_ret (v := .tuple #[.int .u8 0, .bool false]) (by simp [results, Try.results39, go_sem]) rfl ⟨⟨_, rfl⟩, hbr⟩

theorem up_del {ids : List Nat} (p : Nat) (hu : Up ids) : Up (ids.take p ++ ids.drop (p + 1)) := by
  have get : ∀ j, (ids.take p ++ ids.drop (p + 1))[j]? = if j < p then ids[j]? else ids[j + 1]? := fun j => by
    by_cases hj : j < p
    · rw [if_pos hj]
      by_cases hjl : j < (ids.take p).length
      · rw [List.getElem?_append_left hjl, List.getElem?_take, if_pos hj]
      · rw [List.getElem?_append_right (by omega), List.getElem?_drop]
        rw [List.length_take] at hjl
        rw [List.getElem?_eq_none (by rw [List.length_take]; omega), List.getElem?_eq_none (by omega)]
    · rw [if_neg hj]
      by_cases hp : p ≤ ids.length
      · rw [List.getElem?_append_right (by rw [List.length_take]; omega), List.getElem?_drop, List.length_take, show p + 1 + (j - min p ids.length) = j + 1 by omega]
      · rw [List.getElem?_eq_none (by rw [List.length_append, List.length_take, List.length_drop]; omega), List.getElem?_eq_none (by omega)]
  intro i j a b hij ha hb
  rw [get] at ha hb
  by_cases hi : i < p
  · rw [if_pos hi] at ha
    by_cases hj : j < p
    · rw [if_pos hj] at hb; exact hu i j a b hij ha hb
    · rw [if_neg hj] at hb; exact hu i (j + 1) a b (by omega) ha hb
  · rw [if_neg hi] at ha
    rw [if_neg (by omega)] at hb
    exact hu (i + 1) (j + 1) a b (by omega) ha hb
theorem un_del (ids : List Nat) (p : Nat) : un (ids.take p ++ ids.drop (p + 1)) = (un ids).take p ++ (un ids).drop (p + 1) := by simp [un, List.map_take, List.map_drop]
theorem zn_del (l : List Int) (p : Nat) : zn (l.take p ++ l.drop (p + 1)) = (zn l).take p ++ (zn l).drop (p + 1) := by simp [zn, List.map_take, List.map_drop]
theorem del_len {α : Type} (l : List α) (p : Nat) (h : p < l.length) : (l.take p ++ l.drop (p + 1)).length = l.length - 1 := by
  rw [List.length_append, List.length_take, List.length_drop]
  omega

set_option maxHeartbeats 2000000 in
theorem drop_none (R : Nat) (most : Int) (vi vt : Value) (ids : List Nat) (ths : List Int) (x : Nat) (w : World) (h : IsR w R most vi vt ids ths) (hl : ids.length ≤ 1000) (hx : x ∉ ids) :
    Calls Try.prog 37 #[.pointer (some ⟨R, 0, none⟩), .int .u32 (x : Int)] w fun r w' => (∃ v, r = .returned v) ∧ Below w.heap.size w w' := by
  have hbr : Below w.heap.size w w := Below.refl _ _
  have HP := Lib.hid (place_any R most vi vt ids ths x w h hl)
  have HU := Lib.hid h.up
  have HX := Lib.hid hx
  clear h hx
  go_enter Try.func37, Try.ntmps37
  go_wp2_with fail
  refine HP.out.mono ?_
  rintro r w' ⟨rfl, p, hp, rfl⟩
  have hd : decide (ids[p]? = some x) = false := by rw [decide_eq_false_iff_not]; exact fun e => HX.out ((pl_mem HU.out hp).2 e)
  rw [hd]
  clear hp
  go_wp2
  exact bodyPost_ret (v := .tuple #[.int .u8 0, .bool false]) (by simp [results, Try.results37, go_sem]) rfl ⟨⟨_, rfl⟩, hbr⟩

set_option linter.unusedSimpArgs false in
set_option maxHeartbeats 4000000 in
theorem drop_there (R : Nat) (most : Int) (vi vt : Value) (ids : List Nat) (ths : List Int) (x : Nat) (w : World) (h : IsR w R most vi vt ids ths) (hl : ids.length ≤ 1000) (hx : x ∈ ids) :
    Calls Try.prog 37 #[.pointer (some ⟨R, 0, none⟩), .int .u32 (x : Int)] w fun r w' => (∃ v, r = .returned v) ∧ Below R w w' ∧ ∃ vi' vt' ids' ths', IsR w' R most vi' vt' ids' ths' ∧ ids'.length ≤ ids.length := by
  have HP := Lib.hid (place_any R most vi vt ids ths x w h hl)
  have HH := Lib.hid h
  have HX := Lib.hid hx
  have hn0 : 0 < ids.length := List.length_pos_of_mem hx
  rcases h.rio.2 with ⟨_, h0⟩ | ⟨gi, capi, curi, rfl, hbi, hhi, hnci, hcmi, hcsi, hti⟩
  · omega
  rcases h.rto.2 with ⟨_, h0⟩ | ⟨gt, capt, curt, rfl, hbt, hht, hnct, hcmt, hcst, htt⟩
  · omega
  rw [Nat.mul_one] at hcsi hti hcst htt
  have hgne : gi ≠ gt := fun e => by rw [e, hht] at hhi; injection hhi with hhi; injection hhi with _ hhi; exact absurd hhi (by decide)
  obtain ⟨n, hn⟩ : ∃ n, n = ids.length := ⟨_, rfl⟩
  have hrow := h.row
  rw [← hn] at hrow hnci hti hnct htt hl
  have c2 := cell_of_row w R 2 _ _ _ hrow
  have c1 := cell_of_row w R 1 _ _ _ hrow
  simp at c1 c2
  have HROW := Lib.hid hrow
  have HN := Lib.hid hn
  have HI := Lib.hid (And.intro hbi (And.intro hhi (And.intro hnci (And.intro hcmi (And.intro hcsi hti)))))
  have HT := Lib.hid (And.intro hbt (And.intro hht (And.intro hnct (And.intro hcmt (And.intro hcst htt)))))
  have HGN := Lib.hid hgne
  clear h hx hn0 hbi hhi hnci hcmi hcsi hti hbt hht hnct hcmt hcst htt hgne hrow hn
  go_enter Try.func37, Try.ntmps37
  go_wp2_with fail
  refine HP.out.mono ?_
  rintro r w' ⟨rfl, p, hp, rfl⟩
  have hget := (pl_mem HH.out.up hp).1 HX.out
  have hd : decide (ids[p]? = some x) = true := by simpa using hget
  have hpn : p < n := by have := (List.getElem?_eq_some_iff.1 hget).1; have := HN.out; omega
  obtain ⟨g, cap, y, hv, d⟩ := thing_at HH.out (p := p) (by have := HN.out; omega)
  injection hv with e1 _ e3
  injection e1 with e1
  injection e1 with e1
  subst e1 e3
  rw [hd]
  have HD1 := Lib.hid (del32_row (R + 1) n p gi capi curi (un ids) w' hpn hl HI.out.1 HI.out.2.1 HI.out.2.2.1 HI.out.2.2.2.1 HI.out.2.2.2.2.1 HI.out.2.2.2.2.2 (un_one ids))
  clear hget hp hd
  go_wp2_with fail
  refine HD1.out.mono ?_
  rintro r w1 ⟨vi', rfl, hio1, hgr1⟩
  obtain ⟨A', c', rfl⟩ := own_form1 hio1
  have hRgi : R ≠ gi := by have := HI.out.1; omega
  have hRgt : R ≠ gt := by have := HT.out.1; omega
  have hrow1 := (hgr1.block R (lt_of_block HROW.out) (fun e => by injection e with e; exact hRgi e)).trans HROW.out
  have hht1 := (hgr1.block gt (lt_of_block HT.out.2.1) (fun e => by injection e with e; exact HGN.out e.symm)).trans HT.out.2.1
  obtain ⟨w2, hw2⟩ : ∃ w2, w2 = w1.setCell ⟨R, 1, none⟩ (.slice A' (n - 1) c') := ⟨_, rfl⟩
  have hrow2 : w2.heap[R]? = some (.cells #[.int .i64 most, .slice A' (n - 1) c', .slice (some ⟨gt, 0, none⟩) n capt] 110 (0, 0)) := by rw [hw2]; exact heap_setCell_same w1 R 1 _ 110 _ hrow1
  have hht2 : w2.heap[gt]? = some (.cells curt 5 (0, 0)) := by rw [hw2]; exact (Below.heap_setCell _ _ _ _ (fun e => hRgt e.symm)).trans hht1
  have hio2 : w2.ownsRow (R + 1) 28 1 (.slice A' (n - 1) c') (n - 1) ((un ids).take p ++ (un ids).drop (p + 1)) := own_after hio1 fun k hk => by rw [hw2]; exact Below.heap_setCell _ _ _ _ (by have := (ownlt hio1 k hk).1; show k ≠ R; omega)
  have hb2 : Below R w' w2 := by rw [hw2]; exact (((Below.refl _ _).grown hgr1 (Nat.le_of_lt (lt_of_block HROW.out)) (fun k hk => by injection hk with hk; have := HI.out.1; omega))).setCell (Nat.le_refl R) _
  have HD2 := Lib.hid (delB_row (R + 1) n p gt capt curt (zn ths) w2 hpn hl HT.out.1 hht2 HT.out.2.2.1 HT.out.2.2.2.1 HT.out.2.2.2.2.1 HT.out.2.2.2.2.2 (zn_one ths))
  have H2 := Lib.hid hw2
  have HROW2 := Lib.hid hrow2
  have HIO2 := Lib.hid hio2
  have HB2 := Lib.hid hb2
  have HHT2 := Lib.hid hht2
  have d1 := cell_of_row w1 R 1 _ _ _ hrow1
  have f1 : ∀ i, w1.frozen? ⟨R, i, none⟩ = false := fun i => frozen_of_row w1 _ i _ _ hrow1
  have e2 := cell_of_row w2 R 2 _ _ _ hrow2
  simp at d1 e2
  clear hio1 hgr1 hrow1 hht1 hw2 hrow2 hht2 hio2 hb2 c1 c2 d
  go_upto_region 7 with (fail)
  rw [← H2.out]
  clear d1 f1
  go_wp2_with fail
  refine HD2.out.mono ?_
  rintro r w3 ⟨vt', rfl, hto3, hgr3⟩
  obtain ⟨A2, c2', rfl⟩ := own_form1 hto3
  have hrow3 := (hgr3.block R (lt_of_block HROW2.out) (fun e => by injection e with e; exact hRgt e)).trans HROW2.out
  have hio3 := own_after HIO2.out fun k hk => hgr3.block k (ownlt HIO2.out k hk).2 (fun e => by
    injection e with e
    obtain ⟨cc, hcc⟩ := own_type HIO2.out hk
    rw [e, HHT2.out] at hcc
    injection hcc with hcc
    injection hcc with _ hcc
    exact absurd hcc (by decide))
  have HFIN : Hid (IsR (w3.setCell ⟨R, 2, none⟩ (.slice A2 (n - 1) c2')) R most (.slice A' (n - 1) c') (.slice A2 (n - 1) c2') (ids.take p ++ ids.drop (p + 1)) (ths.take p ++ ths.drop (p + 1))) := by
    have hlen := HH.out.len
    have hN := HN.out
    refine ⟨heap_setCell_same w3 R 2 _ 110 _ hrow3, ?_, ?_, ?_, up_del p HH.out.up, ?_⟩
    · rw [un_del, del_len _ _ (by omega), ← hN]
      exact own_after hio3 fun k hk => Below.heap_setCell _ _ _ _ (by have := (ownlt hio3 k hk).1; show k ≠ R; omega)
    · rw [zn_del, del_len _ _ (by omega), ← hN]
      exact own_after hto3 fun k hk => Below.heap_setCell _ _ _ _ (by have := (ownlt hto3 k hk).1; show k ≠ R; omega)
    · rw [del_len _ _ (by omega), del_len _ _ (by omega), hlen]
    · intro z hz
      simp only [List.mem_append] at hz
      rcases hz with hz | hz
      · exact HH.out.ok z (List.mem_of_mem_take hz)
      · exact HH.out.ok z (List.mem_of_mem_drop hz)
  have HBF : Hid (Below R w' (w3.setCell ⟨R, 2, none⟩ (.slice A2 (n - 1) c2'))) := (HB2.out.grown hgr3 (Nat.le_of_lt (lt_of_block HROW2.out)) (fun k hk => by injection hk with hk; have := HT.out.1; omega)).setCell (Nat.le_refl R) _
  have HLE : Hid ((ids.take p ++ ids.drop (p + 1)).length ≤ ids.length) := by rw [Hid, del_len _ _ (by have := HN.out; omega)]; omega
  have d2 := cell_of_row w3 R 2 _ _ _ hrow3
  have f3 : ∀ i, w3.frozen? ⟨R, i, none⟩ = false := fun i => frozen_of_row w3 _ i _ _ hrow3
  simp at d2
  clear hto3 hgr3 hrow3 hio3 e2
  go_wp2
  exact bodyPost_ret (v := .tuple #[.int .u8 y, .bool true]) (by simp [results, Try.results37, go_sem]) rfl ⟨⟨_, rfl⟩, HBF.out, _, _, _, _, HFIN.out, HLE.out⟩
end Go.Proofs.Ytbilkelbelimjaa.B
