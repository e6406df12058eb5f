/- Queue: those. -/
import Derived.Test.YtemjmnpclknfaaaGreatU1
namespace Go.Proofs.YtemjmnpclknfaaaGreat.T
open Go.RowKit
open Go.Proofs.YtemjmnpclknfaaaGreat.P (Sl un)
set_option maxRecDepth 20000
set_option linter.unusedVariables false
set_option linter.unusedSimpArgs false
set_option maxHeartbeats 8000000 in
theorem those_96 (B R : Nat) (mo : Int) (vi : Value) (ms : Sl) (L : List Tk) (X : Nat) (S : Tk → Bool) (w : World) (h : Bq w B R mo vi ms L) (hl : L.length ≤ 1000)
    (HS : Hid (∀ (W : World) (e : Tk) (s : Sl), Below w.heap.size w W → e ∈ L → P.Fl W R vi s e.mem → Calls Tryz.prog 61 #[.agg (mC e.id e.md s e.rt e.sn), .pointer (some ⟨X, 0, none⟩)] W fun r w' => r = .returned (.bool (S e)) ∧ Below W.heap.size W w')) :
    Calls Tryz.prog 33 #[qp B, .func (.func 61) #[] #[.pointer (some ⟨X, 0, none⟩)]] w fun r w' => ∃ A n c, r = .returned (.slice A n c) ∧ Pw w' R vi w.heap.size A n c (L.filter S) ∧ Below w.heap.size w w' := by
  have HB := Lib.hid h
  obtain ⟨vt, ths, h4, _⟩ := h.ex
  have HWA : Hid (∀ W, Below w.heap.size w W → Calls Tryz.prog 25 #[qp B] W fun r w' => r = .returned (qp R) ∧ w' = W) := fun W hW => waiting_any B R mo vi ms L W (h.after hW)
  have HID := Lib.hid (ids_any R mo vi vt _ ths w h4 (by rw [List.length_map]; exact hl))
  have HGA : Hid (∀ (k : Nat) (e : Tk), L[k]? = some e → ∀ W, Below w.heap.size w W → Calls Tryz.prog 40 #[qp R, .int .u32 (e.id : Int)] W fun r w' => ∃ s : Sl, r = .returned (.tuple #[.agg (mC e.id e.md s e.rt e.sn), .bool true]) ∧ P.Fl w' R vi s e.mem ∧ Below W.heap.size W w') := fun k e hk W hW => get_at (h.after hW) hl hk
  obtain ⟨n, hn⟩ : ∃ n, n = L.length := ⟨_, rfl⟩
  have HN := Lib.hid hn
  rw [List.length_map, ← hn] at HID
  rw [← hn] at hl
  have HBr : Hid (Below w.heap.size w w) := Below.refl _ _
  clear h h4 hn
  go_enter Tryz.func33, Tryz.ntmps33
  go_wp2_with fail
  refine (HWA.out w HBr.out).mono ?_
  rintro r wq ⟨rfl, hw⟩
  have hw := hw.symm
  subst hw
  go_wp2_with fail
  refine HID.out.mono ?_
  rintro r w1 ⟨v1, rfl, ho1, hb1⟩
  obtain ⟨A1, c1, rfl⟩ := own_form1 ho1
  have HR1 := Lib.hid (P.Rn.of_own ho1).2
  have HB1 := Lib.hid hb1
  have HP0 : Hid (Pw w1 R vi w1.heap.size none 0 0 ((L.take 0).filter S)) := by simp only [Hid]; rw [List.take_zero]; exact Pw.nil
  have HBB : Hid (Below w1.heap.size w1 w1) := Below.refl _ _
  clear ho1 hb1
  go_wp2_with fail
  go_loopw [5, 14] (fun v u wr => ∃ (k m : Nat) (B2 : Option Addr) (c2 : Nat), k ≤ n ∧ u = .int .i64 (k : Int) ∧ v = .slice B2 m c2 ∧ Hid (Pw wr R vi w1.heap.size B2 m c2 ((L.take k).filter S) ∧ Below w1.heap.size w1 wr)) (fun _ u _ => n - (intOf u).toNat)
  case atStart => exact ⟨0, 0, none, 0, by omega, rfl, rfl, HP0.out, HBB.out⟩
  case round =>
    obtain ⟨k, m, B2, c2, hk, rfl, rfl, HV⟩ := hrel
    by_cases hlt : k < n
    · obtain ⟨e, hy⟩ : ∃ e, L[k]? = some e := ⟨L[k]'(by rw [← HN.out]; exact hlt), List.getElem?_eq_getElem _⟩
      obtain ⟨b, o, rfl, hb, hcc⟩ := HR1.out (by rw [List.length_map, ← HN.out]; omega)
      have HBW : Hid (Below w.heap.size w wr) := HB1.out.trans (HV.out.2.mono HB1.out.size)
      have HGK := Lib.hid (HGA.out k e hy wr HBW.out)
      have HEL : Hid (e ∈ L) := List.mem_of_getElem? hy
      have hmk : m ≤ 1000 := by
        have h1 := HV.out.1.len
        have h2 : ((L.take k).filter S).length ≤ (L.take k).length := List.length_filter_le _ _
        rw [List.length_take] at h2
        omega
      have HTK : Hid ((L.take (k + 1)).filter S = (L.take k).filter S ++ if S e = true then [e] else []) := by
        simp only [Hid]
        rw [List.take_add_one, hy, List.filter_append]
        congr 1
        cases hh : S e <;> simp [hh]
      obtain ⟨x, hx⟩ : ∃ x, x = e.id := ⟨_, rfl⟩
      have d0 : wr.cell? ⟨b, o + k, none⟩ = some (.int .u32 (x : Int)) := (HV.out.2.cell (p := ⟨b, _, none⟩) hb).trans (hcc k x (by rw [List.getElem?_map, hy, hx]; rfl))
      have HXX := Lib.hid hx
      rw [← hx] at HGK
      clear hy hb hcc hx
      go_wp2_with fail
      refine (HWA.out wr HBW.out).mono ?_
      rintro r wq ⟨rfl, hw⟩
      have hw := hw.symm
      subst hw
      go_wp2_with fail
      refine HGK.out.mono ?_
      rintro r w2 ⟨s, rfl, f2, hb2⟩
      obtain ⟨t, ht⟩ : ∃ t, t = S e := ⟨_, rfl⟩
      obtain ⟨md, hmd⟩ : ∃ t, t = e.md := ⟨_, rfl⟩
      obtain ⟨rt, hrt⟩ : ∃ t, t = e.rt := ⟨_, rfl⟩
      obtain ⟨sn, hsn⟩ : ∃ t, t = e.sn := ⟨_, rfl⟩
      rw [← hmd, ← hrt, ← hsn]
      obtain ⟨G, hG⟩ : ∃ G, G = w2.heap.size := ⟨_, rfl⟩
      obtain ⟨w3, hw3⟩ : ∃ W, W = w2.alloc (.cells (mC x md s rt sn) 39) := ⟨_, rfl⟩
      have hq3 : w3.heap[G]? = some (.cells (mC x md s rt sn) 39 (0, 0)) := by rw [hw3, hG]; exact heap_alloc_new w2 _
      have hb3 : Below w2.heap.size w2 w3 := by rw [hw3]; exact (Below.refl _ _).alloc (Nat.le_refl _) _
      have hb23 := hb2.trans (hb3.mono hb2.size)
      have HB3 : Hid (Below w1.heap.size w1 w3) := HV.out.2.trans (hb23.mono HV.out.2.size)
      have HBW3 : Hid (Below w.heap.size w w3) := HB1.out.trans (HB3.out.mono HB1.out.size)
      have HF3 := Lib.hid (f2.after hb3)
      have HP3 := Lib.hid (HV.out.1.after hb23)
      have HCL := Lib.hid (HS.out w3 e s HBW3.out HEL.out HF3.out)
      rw [← HXX.out, ← hmd, ← hrt, ← hsn, ← ht] at HCL
      have HEE : Hid (e.id = x ∧ e.md = md ∧ e.rt = rt ∧ e.sn = sn) := ⟨HXX.out.symm, hmd.symm, hrt.symm, hsn.symm⟩
      have H3 := Lib.hid hw3
      have HGG := Lib.hid hG
      have HQ3 := Lib.hid hq3
      have z0 := cell_of_row w3 G 0 _ _ _ hq3
      have z1 := cell_of_row w3 G 1 _ _ _ hq3
      have z2 := cell_of_row w3 G 2 _ _ _ hq3
      have z3 := cell_of_row w3 G 3 _ _ _ hq3
      have z4 := cell_of_row w3 G 4 _ _ _ hq3
      simp at z0 z1 z2 z3 z4
      rw [← ht] at HTK
      clear hw3 hG hq3 hb3 hb23 hb2 f2 d0 ht hmd hrt hsn
      go_upto_region 6 with (fail)
      rw [← H3.out, ← HGG.out]
      go_wp2_with fail
      refine HCL.out.mono ?_
      rintro r w4 ⟨rfl, hb4⟩
      have HB4 : Hid (Below w1.heap.size w1 w4) := HB3.out.trans (hb4.mono HB3.out.size)
      have HF4 := Lib.hid (HF3.out.after hb4)
      have HP4 := Lib.hid (HP3.out.after hb4)
      have hq4 := (hb4.block _ (lt_of_block HQ3.out)).trans HQ3.out
      clear z0 z1 z2 z3 z4 hb4
      have y0 := cell_of_row w4 G 0 _ _ _ hq4
      have y1 := cell_of_row w4 G 1 _ _ _ hq4
      have y2 := cell_of_row w4 G 2 _ _ _ hq4
      have y3 := cell_of_row w4 G 3 _ _ _ hq4
      have y4 := cell_of_row w4 G 4 _ _ _ hq4
      simp at y0 y1 y2 y3 y4
      clear hq4
      cases t
      · rw [if_neg Bool.false_ne_true, List.append_nil] at HTK
        go_wp2_with fail
        go_roundw
        case rel => exact ⟨k + 1, m, B2, c2, by omega, by go_num, rfl, by rw [HTK.out]; exact HP4.out, HB4.out⟩
        case measure => simp [intOf] <;> omega
      · rw [if_pos rfl] at HTK
        go_wp2_with (at_builtin; refine wpList_append_tk rfl _ _ rfl R vi w1.heap.size w4.heap.size B2 m c2 ((L.take k).filter S) e s rfl rfl (HP4.out.after ((Below.refl _ _).alloc (Nat.le_refl _) _)) (by rw [HEE.out.1, HEE.out.2.1, HEE.out.2.2.1, HEE.out.2.2.2]; exact heap_alloc_new _ _) hmk (by have := HB4.out.size; simp; omega) (HF4.out.after ((Below.refl _ _).alloc (Nat.le_refl _) _)) ?_; intro B8 c8 w8 hpo hgr hbs; have HP8 := Lib.hid hpo; have HB8 : Hid (Below w1.heap.size w1 w8) := (HB4.out.alloc HB4.out.size _).grown hgr (by have := HB4.out.size; simp; omega) hbs; clear hpo hgr hbs)
        go_roundw
        case rel => exact ⟨k + 1, _, B8, c8, by omega, by go_num, rfl, by rw [HTK.out]; exact HP8.out, HB8.out⟩
        case measure => simp [intOf] <;> omega
    · obtain rfl : k = n := by omega
      have hF : L.take k = L := List.take_of_length_le (by rw [← HN.out]; exact Nat.le_refl _)
      have HPE : Hid (Pw wr R vi w.heap.size B2 m c2 (L.filter S)) := by have h := HV.out.1; rw [hF] at h; exact h.base HB1.out.size
      have HBE : Hid (Below w.heap.size w wr) := HB1.out.trans (HV.out.2.mono HB1.out.size)
      clear hF
      go_wp2_with fail
      go_ret
      exact ⟨_, _, _, rfl, HPE.out, HBE.out⟩
set_option maxHeartbeats 8000000 in
theorem those_74 (B R : Nat) (mo : Int) (vi : Value) (ms : Sl) (L : List Tk) (X : Nat) (S : Tk → Bool) (w : World) (h : Bq w B R mo vi ms L) (hl : L.length ≤ 1000)
    (HS : Hid (∀ (W : World) (e : Tk) (s : Sl), Below w.heap.size w W → e ∈ L → P.Fl W R vi s e.mem → Calls Tryz.prog 41 #[.agg (mC e.id e.md s e.rt e.sn), .pointer (some ⟨X, 0, none⟩)] W fun r w' => r = .returned (.bool (S e)) ∧ Below W.heap.size W w')) :
    Calls Tryz.prog 33 #[qp B, .func (.func 41) #[] #[.pointer (some ⟨X, 0, none⟩)]] w fun r w' => ∃ A n c, r = .returned (.slice A n c) ∧ Pw w' R vi w.heap.size A n c (L.filter S) ∧ Below w.heap.size w w' := by
  have HB := Lib.hid h
  obtain ⟨vt, ths, h4, _⟩ := h.ex
  have HWA : Hid (∀ W, Below w.heap.size w W → Calls Tryz.prog 25 #[qp B] W fun r w' => r = .returned (qp R) ∧ w' = W) := fun W hW => waiting_any B R mo vi ms L W (h.after hW)
  have HID := Lib.hid (ids_any R mo vi vt _ ths w h4 (by rw [List.length_map]; exact hl))
  have HGA : Hid (∀ (k : Nat) (e : Tk), L[k]? = some e → ∀ W, Below w.heap.size w W → Calls Tryz.prog 40 #[qp R, .int .u32 (e.id : Int)] W fun r w' => ∃ s : Sl, r = .returned (.tuple #[.agg (mC e.id e.md s e.rt e.sn), .bool true]) ∧ P.Fl w' R vi s e.mem ∧ Below W.heap.size W w') := fun k e hk W hW => get_at (h.after hW) hl hk
  obtain ⟨n, hn⟩ : ∃ n, n = L.length := ⟨_, rfl⟩
  have HN := Lib.hid hn
  rw [List.length_map, ← hn] at HID
  rw [← hn] at hl
  have HBr : Hid (Below w.heap.size w w) := Below.refl _ _
  clear h h4 hn
  go_enter Tryz.func33, Tryz.ntmps33
  go_wp2_with fail
  refine (HWA.out w HBr.out).mono ?_
  rintro r wq ⟨rfl, hw⟩
  have hw := hw.symm
  subst hw
  go_wp2_with fail
  refine HID.out.mono ?_
  rintro r w1 ⟨v1, rfl, ho1, hb1⟩
  obtain ⟨A1, c1, rfl⟩ := own_form1 ho1
  have HR1 := Lib.hid (P.Rn.of_own ho1).2
  have HB1 := Lib.hid hb1
  have HP0 : Hid (Pw w1 R vi w1.heap.size none 0 0 ((L.take 0).filter S)) := by simp only [Hid]; rw [List.take_zero]; exact Pw.nil
  have HBB : Hid (Below w1.heap.size w1 w1) := Below.refl _ _
  clear ho1 hb1
  go_wp2_with fail
  go_loopw [5, 14] (fun v u wr => ∃ (k m : Nat) (B2 : Option Addr) (c2 : Nat), k ≤ n ∧ u = .int .i64 (k : Int) ∧ v = .slice B2 m c2 ∧ Hid (Pw wr R vi w1.heap.size B2 m c2 ((L.take k).filter S) ∧ Below w1.heap.size w1 wr)) (fun _ u _ => n - (intOf u).toNat)
  case atStart => exact ⟨0, 0, none, 0, by omega, rfl, rfl, HP0.out, HBB.out⟩
  case round =>
    obtain ⟨k, m, B2, c2, hk, rfl, rfl, HV⟩ := hrel
    by_cases hlt : k < n
    · obtain ⟨e, hy⟩ : ∃ e, L[k]? = some e := ⟨L[k]'(by rw [← HN.out]; exact hlt), List.getElem?_eq_getElem _⟩
      obtain ⟨b, o, rfl, hb, hcc⟩ := HR1.out (by rw [List.length_map, ← HN.out]; omega)
      have HBW : Hid (Below w.heap.size w wr) := HB1.out.trans (HV.out.2.mono HB1.out.size)
      have HGK := Lib.hid (HGA.out k e hy wr HBW.out)
      have HEL : Hid (e ∈ L) := List.mem_of_getElem? hy
      have hmk : m ≤ 1000 := by
        have h1 := HV.out.1.len
        have h2 : ((L.take k).filter S).length ≤ (L.take k).length := List.length_filter_le _ _
        rw [List.length_take] at h2
        omega
      have HTK : Hid ((L.take (k + 1)).filter S = (L.take k).filter S ++ if S e = true then [e] else []) := by
        simp only [Hid]
        rw [List.take_add_one, hy, List.filter_append]
        congr 1
        cases hh : S e <;> simp [hh]
      obtain ⟨x, hx⟩ : ∃ x, x = e.id := ⟨_, rfl⟩
      have d0 : wr.cell? ⟨b, o + k, none⟩ = some (.int .u32 (x : Int)) := (HV.out.2.cell (p := ⟨b, _, none⟩) hb).trans (hcc k x (by rw [List.getElem?_map, hy, hx]; rfl))
      have HXX := Lib.hid hx
      rw [← hx] at HGK
      clear hy hb hcc hx
      go_wp2_with fail
      refine (HWA.out wr HBW.out).mono ?_
      rintro r wq ⟨rfl, hw⟩
      have hw := hw.symm
      subst hw
      go_wp2_with fail
      refine HGK.out.mono ?_
      rintro r w2 ⟨s, rfl, f2, hb2⟩
      obtain ⟨t, ht⟩ : ∃ t, t = S e := ⟨_, rfl⟩
      obtain ⟨md, hmd⟩ : ∃ t, t = e.md := ⟨_, rfl⟩
      obtain ⟨rt, hrt⟩ : ∃ t, t = e.rt := ⟨_, rfl⟩
      obtain ⟨sn, hsn⟩ : ∃ t, t = e.sn := ⟨_, rfl⟩
      rw [← hmd, ← hrt, ← hsn]
      obtain ⟨G, hG⟩ : ∃ G, G = w2.heap.size := ⟨_, rfl⟩
      obtain ⟨w3, hw3⟩ : ∃ W, W = w2.alloc (.cells (mC x md s rt sn) 39) := ⟨_, rfl⟩
      have hq3 : w3.heap[G]? = some (.cells (mC x md s rt sn) 39 (0, 0)) := by rw [hw3, hG]; exact heap_alloc_new w2 _
      have hb3 : Below w2.heap.size w2 w3 := by rw [hw3]; exact (Below.refl _ _).alloc (Nat.le_refl _) _
      have hb23 := hb2.trans (hb3.mono hb2.size)
      have HB3 : Hid (Below w1.heap.size w1 w3) := HV.out.2.trans (hb23.mono HV.out.2.size)
      have HBW3 : Hid (Below w.heap.size w w3) := HB1.out.trans (HB3.out.mono HB1.out.size)
      have HF3 := Lib.hid (f2.after hb3)
      have HP3 := Lib.hid (HV.out.1.after hb23)
      have HCL := Lib.hid (HS.out w3 e s HBW3.out HEL.out HF3.out)
      rw [← HXX.out, ← hmd, ← hrt, ← hsn, ← ht] at HCL
      have HEE : Hid (e.id = x ∧ e.md = md ∧ e.rt = rt ∧ e.sn = sn) := ⟨HXX.out.symm, hmd.symm, hrt.symm, hsn.symm⟩
      have H3 := Lib.hid hw3
      have HGG := Lib.hid hG
      have HQ3 := Lib.hid hq3
      have z0 := cell_of_row w3 G 0 _ _ _ hq3
      have z1 := cell_of_row w3 G 1 _ _ _ hq3
      have z2 := cell_of_row w3 G 2 _ _ _ hq3
      have z3 := cell_of_row w3 G 3 _ _ _ hq3
      have z4 := cell_of_row w3 G 4 _ _ _ hq3
      simp at z0 z1 z2 z3 z4
      rw [← ht] at HTK
      clear hw3 hG hq3 hb3 hb23 hb2 f2 d0 ht hmd hrt hsn
      go_upto_region 6 with (fail)
      rw [← H3.out, ← HGG.out]
      go_wp2_with fail
      refine HCL.out.mono ?_
      rintro r w4 ⟨rfl, hb4⟩
      have HB4 : Hid (Below w1.heap.size w1 w4) := HB3.out.trans (hb4.mono HB3.out.size)
      have HF4 := Lib.hid (HF3.out.after hb4)
      have HP4 := Lib.hid (HP3.out.after hb4)
      have hq4 := (hb4.block _ (lt_of_block HQ3.out)).trans HQ3.out
      clear z0 z1 z2 z3 z4 hb4
      have y0 := cell_of_row w4 G 0 _ _ _ hq4
      have y1 := cell_of_row w4 G 1 _ _ _ hq4
      have y2 := cell_of_row w4 G 2 _ _ _ hq4
      have y3 := cell_of_row w4 G 3 _ _ _ hq4
      have y4 := cell_of_row w4 G 4 _ _ _ hq4
      simp at y0 y1 y2 y3 y4
      clear hq4
      cases t
      · rw [if_neg Bool.false_ne_true, List.append_nil] at HTK
        go_wp2_with fail
        go_roundw
        case rel => exact ⟨k + 1, m, B2, c2, by omega, by go_num, rfl, by rw [HTK.out]; exact HP4.out, HB4.out⟩
        case measure => simp [intOf] <;> omega
      · rw [if_pos rfl] at HTK
        go_wp2_with (at_builtin; refine wpList_append_tk rfl _ _ rfl R vi w1.heap.size w4.heap.size B2 m c2 ((L.take k).filter S) e s rfl rfl (HP4.out.after ((Below.refl _ _).alloc (Nat.le_refl _) _)) (by rw [HEE.out.1, HEE.out.2.1, HEE.out.2.2.1, HEE.out.2.2.2]; exact heap_alloc_new _ _) hmk (by have := HB4.out.size; simp; omega) (HF4.out.after ((Below.refl _ _).alloc (Nat.le_refl _) _)) ?_; intro B8 c8 w8 hpo hgr hbs; have HP8 := Lib.hid hpo; have HB8 : Hid (Below w1.heap.size w1 w8) := (HB4.out.alloc HB4.out.size _).grown hgr (by have := HB4.out.size; simp; omega) hbs; clear hpo hgr hbs)
        go_roundw
        case rel => exact ⟨k + 1, _, B8, c8, by omega, by go_num, rfl, by rw [HTK.out]; exact HP8.out, HB8.out⟩
        case measure => simp [intOf] <;> omega
    · obtain rfl : k = n := by omega
      have hF : L.take k = L := List.take_of_length_le (by rw [← HN.out]; exact Nat.le_refl _)
      have HPE : Hid (Pw wr R vi w.heap.size B2 m c2 (L.filter S)) := by have h := HV.out.1; rw [hF] at h; exact h.base HB1.out.size
      have HBE : Hid (Below w.heap.size w wr) := HB1.out.trans (HV.out.2.mono HB1.out.size)
      clear hF
      go_wp2_with fail
      go_ret
      exact ⟨_, _, _, rfl, HPE.out, HBE.out⟩
set_option maxHeartbeats 8000000 in
theorem those_92 (B R : Nat) (mo : Int) (vi : Value) (ms : Sl) (L : List Tk) (X : Nat) (S : Tk → Bool) (w : World) (h : Bq w B R mo vi ms L) (hl : L.length ≤ 1000)
    (HS : Hid (∀ (W : World) (e : Tk) (s : Sl), Below w.heap.size w W → e ∈ L → P.Fl W R vi s e.mem → Calls Tryz.prog 56 #[.agg (mC e.id e.md s e.rt e.sn), .pointer (some ⟨X, 0, none⟩)] W fun r w' => r = .returned (.bool (S e)) ∧ Below W.heap.size W w')) :
    Calls Tryz.prog 33 #[qp B, .func (.func 56) #[] #[.pointer (some ⟨X, 0, none⟩)]] w fun r w' => ∃ A n c, r = .returned (.slice A n c) ∧ Pw w' R vi w.heap.size A n c (L.filter S) ∧ Below w.heap.size w w' := by
  have HB := Lib.hid h
  obtain ⟨vt, ths, h4, _⟩ := h.ex
  have HWA : Hid (∀ W, Below w.heap.size w W → Calls Tryz.prog 25 #[qp B] W fun r w' => r = .returned (qp R) ∧ w' = W) := fun W hW => waiting_any B R mo vi ms L W (h.after hW)
  have HID := Lib.hid (ids_any R mo vi vt _ ths w h4 (by rw [List.length_map]; exact hl))
  have HGA : Hid (∀ (k : Nat) (e : Tk), L[k]? = some e → ∀ W, Below w.heap.size w W → Calls Tryz.prog 40 #[qp R, .int .u32 (e.id : Int)] W fun r w' => ∃ s : Sl, r = .returned (.tuple #[.agg (mC e.id e.md s e.rt e.sn), .bool true]) ∧ P.Fl w' R vi s e.mem ∧ Below W.heap.size W w') := fun k e hk W hW => get_at (h.after hW) hl hk
  obtain ⟨n, hn⟩ : ∃ n, n = L.length := ⟨_, rfl⟩
  have HN := Lib.hid hn
  rw [List.length_map, ← hn] at HID
  rw [← hn] at hl
  have HBr : Hid (Below w.heap.size w w) := Below.refl _ _
  clear h h4 hn
  go_enter Tryz.func33, Tryz.ntmps33
  go_wp2_with fail
  refine (HWA.out w HBr.out).mono ?_
  rintro r wq ⟨rfl, hw⟩
  have hw := hw.symm
  subst hw
  go_wp2_with fail
  refine HID.out.mono ?_
  rintro r w1 ⟨v1, rfl, ho1, hb1⟩
  obtain ⟨A1, c1, rfl⟩ := own_form1 ho1
  have HR1 := Lib.hid (P.Rn.of_own ho1).2
  have HB1 := Lib.hid hb1
  have HP0 : Hid (Pw w1 R vi w1.heap.size none 0 0 ((L.take 0).filter S)) := by simp only [Hid]; rw [List.take_zero]; exact Pw.nil
  have HBB : Hid (Below w1.heap.size w1 w1) := Below.refl _ _
  clear ho1 hb1
  go_wp2_with fail
  go_loopw [5, 14] (fun v u wr => ∃ (k m : Nat) (B2 : Option Addr) (c2 : Nat), k ≤ n ∧ u = .int .i64 (k : Int) ∧ v = .slice B2 m c2 ∧ Hid (Pw wr R vi w1.heap.size B2 m c2 ((L.take k).filter S) ∧ Below w1.heap.size w1 wr)) (fun _ u _ => n - (intOf u).toNat)
  case atStart => exact ⟨0, 0, none, 0, by omega, rfl, rfl, HP0.out, HBB.out⟩
  case round =>
    obtain ⟨k, m, B2, c2, hk, rfl, rfl, HV⟩ := hrel
    by_cases hlt : k < n
    · obtain ⟨e, hy⟩ : ∃ e, L[k]? = some e := ⟨L[k]'(by rw [← HN.out]; exact hlt), List.getElem?_eq_getElem _⟩
      obtain ⟨b, o, rfl, hb, hcc⟩ := HR1.out (by rw [List.length_map, ← HN.out]; omega)
      have HBW : Hid (Below w.heap.size w wr) := HB1.out.trans (HV.out.2.mono HB1.out.size)
      have HGK := Lib.hid (HGA.out k e hy wr HBW.out)
      have HEL : Hid (e ∈ L) := List.mem_of_getElem? hy
      have hmk : m ≤ 1000 := by
        have h1 := HV.out.1.len
        have h2 : ((L.take k).filter S).length ≤ (L.take k).length := List.length_filter_le _ _
        rw [List.length_take] at h2
        omega
      have HTK : Hid ((L.take (k + 1)).filter S = (L.take k).filter S ++ if S e = true then [e] else []) := by
        simp only [Hid]
        rw [List.take_add_one, hy, List.filter_append]
        congr 1
        cases hh : S e <;> simp [hh]
      obtain ⟨x, hx⟩ : ∃ x, x = e.id := ⟨_, rfl⟩
      have d0 : wr.cell? ⟨b, o + k, none⟩ = some (.int .u32 (x : Int)) := (HV.out.2.cell (p := ⟨b, _, none⟩) hb).trans (hcc k x (by rw [List.getElem?_map, hy, hx]; rfl))
      have HXX := Lib.hid hx
      rw [← hx] at HGK
      clear hy hb hcc hx
      go_wp2_with fail
      refine (HWA.out wr HBW.out).mono ?_
      rintro r wq ⟨rfl, hw⟩
      have hw := hw.symm
      subst hw
      go_wp2_with fail
      refine HGK.out.mono ?_
      rintro r w2 ⟨s, rfl, f2, hb2⟩
      obtain ⟨t, ht⟩ : ∃ t, t = S e := ⟨_, rfl⟩
      obtain ⟨md, hmd⟩ : ∃ t, t = e.md := ⟨_, rfl⟩
      obtain ⟨rt, hrt⟩ : ∃ t, t = e.rt := ⟨_, rfl⟩
      obtain ⟨sn, hsn⟩ : ∃ t, t = e.sn := ⟨_, rfl⟩
      rw [← hmd, ← hrt, ← hsn]
      obtain ⟨G, hG⟩ : ∃ G, G = w2.heap.size := ⟨_, rfl⟩
      obtain ⟨w3, hw3⟩ : ∃ W, W = w2.alloc (.cells (mC x md s rt sn) 39) := ⟨_, rfl⟩
      have hq3 : w3.heap[G]? = some (.cells (mC x md s rt sn) 39 (0, 0)) := by rw [hw3, hG]; exact heap_alloc_new w2 _
      have hb3 : Below w2.heap.size w2 w3 := by rw [hw3]; exact (Below.refl _ _).alloc (Nat.le_refl _) _
      have hb23 := hb2.trans (hb3.mono hb2.size)
      have HB3 : Hid (Below w1.heap.size w1 w3) := HV.out.2.trans (hb23.mono HV.out.2.size)
      have HBW3 : Hid (Below w.heap.size w w3) := HB1.out.trans (HB3.out.mono HB1.out.size)
      have HF3 := Lib.hid (f2.after hb3)
      have HP3 := Lib.hid (HV.out.1.after hb23)
      have HCL := Lib.hid (HS.out w3 e s HBW3.out HEL.out HF3.out)
      rw [← HXX.out, ← hmd, ← hrt, ← hsn, ← ht] at HCL
      have HEE : Hid (e.id = x ∧ e.md = md ∧ e.rt = rt ∧ e.sn = sn) := ⟨HXX.out.symm, hmd.symm, hrt.symm, hsn.symm⟩
      have H3 := Lib.hid hw3
      have HGG := Lib.hid hG
      have HQ3 := Lib.hid hq3
      have z0 := cell_of_row w3 G 0 _ _ _ hq3
      have z1 := cell_of_row w3 G 1 _ _ _ hq3
      have z2 := cell_of_row w3 G 2 _ _ _ hq3
      have z3 := cell_of_row w3 G 3 _ _ _ hq3
      have z4 := cell_of_row w3 G 4 _ _ _ hq3
      simp at z0 z1 z2 z3 z4
      rw [← ht] at HTK
      clear hw3 hG hq3 hb3 hb23 hb2 f2 d0 ht hmd hrt hsn
      go_upto_region 6 with (fail)
      rw [← H3.out, ← HGG.out]
      go_wp2_with fail
      refine HCL.out.mono ?_
      rintro r w4 ⟨rfl, hb4⟩
      have HB4 : Hid (Below w1.heap.size w1 w4) := HB3.out.trans (hb4.mono HB3.out.size)
      have HF4 := Lib.hid (HF3.out.after hb4)
      have HP4 := Lib.hid (HP3.out.after hb4)
      have hq4 := (hb4.block _ (lt_of_block HQ3.out)).trans HQ3.out
      clear z0 z1 z2 z3 z4 hb4
      have y0 := cell_of_row w4 G 0 _ _ _ hq4
      have y1 := cell_of_row w4 G 1 _ _ _ hq4
      have y2 := cell_of_row w4 G 2 _ _ _ hq4
      have y3 := cell_of_row w4 G 3 _ _ _ hq4
      have y4 := cell_of_row w4 G 4 _ _ _ hq4
      simp at y0 y1 y2 y3 y4
      clear hq4
      cases t
      · rw [if_neg Bool.false_ne_true, List.append_nil] at HTK
        go_wp2_with fail
        go_roundw
        case rel => exact ⟨k + 1, m, B2, c2, by omega, by go_num, rfl, by rw [HTK.out]; exact HP4.out, HB4.out⟩
        case measure => simp [intOf] <;> omega
      · rw [if_pos rfl] at HTK
        go_wp2_with (at_builtin; refine wpList_append_tk rfl _ _ rfl R vi w1.heap.size w4.heap.size B2 m c2 ((L.take k).filter S) e s rfl rfl (HP4.out.after ((Below.refl _ _).alloc (Nat.le_refl _) _)) (by rw [HEE.out.1, HEE.out.2.1, HEE.out.2.2.1, HEE.out.2.2.2]; exact heap_alloc_new _ _) hmk (by have := HB4.out.size; simp; omega) (HF4.out.after ((Below.refl _ _).alloc (Nat.le_refl _) _)) ?_; intro B8 c8 w8 hpo hgr hbs; have HP8 := Lib.hid hpo; have HB8 : Hid (Below w1.heap.size w1 w8) := (HB4.out.alloc HB4.out.size _).grown hgr (by have := HB4.out.size; simp; omega) hbs; clear hpo hgr hbs)
        go_roundw
        case rel => exact ⟨k + 1, _, B8, c8, by omega, by go_num, rfl, by rw [HTK.out]; exact HP8.out, HB8.out⟩
        case measure => simp [intOf] <;> omega
    · obtain rfl : k = n := by omega
      have hF : L.take k = L := List.take_of_length_le (by rw [← HN.out]; exact Nat.le_refl _)
      have HPE : Hid (Pw wr R vi w.heap.size B2 m c2 (L.filter S)) := by have h := HV.out.1; rw [hF] at h; exact h.base HB1.out.size
      have HBE : Hid (Below w.heap.size w wr) := HB1.out.trans (HV.out.2.mono HB1.out.size)
      clear hF
      go_wp2_with fail
      go_ret
      exact ⟨_, _, _, rfl, HPE.out, HBE.out⟩
end Go.Proofs.YtemjmnpclknfaaaGreat.T
