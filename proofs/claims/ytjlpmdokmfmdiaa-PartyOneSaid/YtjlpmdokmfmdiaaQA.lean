/- Party: whoever is lost to a party. -/
import Derived.Test.YtjlpmdokmfmdiaaQ9
import Derived.Deep.CutBlock
namespace Go.Proofs.Ytjlpmdokmfmdiaa.P
open Go.RowKit
set_option maxRecDepth 20000
set_option linter.unusedVariables false
set_option linter.unusedSimpArgs false

def LoseP (B R : Nat) (most : Int) (vi : Value) (L : List Pt) (g : Pt) (p : Nat) (w : World) (r : Ending) (w' : World) : Prop := r = .returned (.bool (overB (cut g p))) ∧ PutP B R most vi (putS L (cut g p)) w w'
def CallL (R : Nat) (vi : Value) (l : List Nat) (m : Nat) (w : World) (r : Ending) (w' : World) : Prop := ∃ A c, r = .returned (.slice A m c) ∧ Fl w' R vi ⟨A, m, c⟩ l ∧ Below w.heap.size w w'
theorem without_fl (R : Nat) (vi : Value) (s : Sl) (l : List Nat) (p m : Nat) (w : World) (hc : Ctx w R vi) (hs : Fl w R vi s l) (hm : m = (wo l p).length) (hl : l.length ≤ 100) : Calls Try.prog 77 #[.slice s.a s.n s.c, .int .u32 (p : Int)] w fun r w' => CallL R vi (wo l p) m w r w' :=
  (without_any s.a s.n s.c l p w hs.1 hs.rn (by have := hs.1; omega)).mono fun r w' ⟨A, c, h1, h2, h3⟩ => by
    subst hm
    exact ⟨A, c, h1, Fl.fresh hc (Nat.le_refl _) h2, h3⟩
theorem with_fl (R : Nat) (vi : Value) (s : Sl) (l : List Nat) (p m : Nat) (w : World) (hc : Ctx w R vi) (hs : Fl w R vi s l) (hm : m = (l ++ [p]).length) (hl : l.length ≤ 99) : Calls Try.prog 72 #[.slice s.a s.n s.c, .int .u32 (p : Int)] w fun r w' => CallL R vi (l ++ [p]) m w r w' :=
  (with_any s.a s.n s.c l p w hs.1 hs.rn (by have := hs.1; omega)).mono fun r w' ⟨A, c, h1, h2, h3⟩ => by
    have e : s.n + 1 = m := by rw [hm, List.length_append, hs.1]; rfl
    rw [e] at h1 h2
    exact ⟨A, c, h1, Fl.fresh hc (Nat.le_refl _) h2, h3⟩
set_option maxHeartbeats 16000000 in
theorem lose_any (B R : Nat) (most : Int) (vi : Value) (L : List Pt) (p : Nat) (g : Pt) (y1 : Nat) (y2 y3 : Sl) (w : World) (h : Bk w B R most vi L) (hI : Inv L) (hl : L.length ≤ 100) (hg : g ∈ L) (e1 : y1 = g.ld) (f2 : Fl w R vi y2 g.mem) (f3 : Fl w R vi y3 g.inv) :
    Calls Try.prog 75 #[bp B, .int .u32 (g.id : Int), mV y1 y2 y3, .int .u32 (p : Int)] w fun r w' => LoseP B R most vi L g p w r w' := by
  have hk := hI.each g hg
  obtain ⟨w0, hw0⟩ : ∃ w0, w0 = w.alloc (.cells (mC y1 y2 y3) 112) := ⟨_, rfl⟩
  obtain ⟨G, hG⟩ : ∃ G, G = w.heap.size := ⟨_, rfl⟩
  have hb0 : Below w.heap.size w w0 := by rw [hw0]; exact (Below.refl _ _).alloc (Nat.le_refl _) _
  have hq0 : w0.heap[G]? = some (.cells #[.int .u32 (y1 : Int), .slice y2.a y2.n y2.c, .slice y3.a y3.n y3.c] 112 (0, 0)) := by rw [hw0, hG]; exact heap_alloc_new w _
  obtain ⟨m2, hm2⟩ : ∃ m, m = (wo g.mem p).length := ⟨_, rfl⟩
  obtain ⟨m3, hm3⟩ : ∃ m, m = (wo g.inv p).length := ⟨_, rfl⟩
  obtain ⟨x, hx⟩ : ∃ x, x = g.id := ⟨_, rfl⟩
  have HGR : Hid (∀ W, Below w0.heap.size w0 W → W.heap[G]? = some (.cells #[.int .u32 (y1 : Int), .slice y2.a y2.n y2.c, .slice y3.a y3.n y3.c] 112 (0, 0))) := fun W hW => (hW.block _ (lt_of_block hq0)).trans hq0
  have HC3 : Hid (∀ W, Below w0.heap.size w0 W → Calls Try.prog 77 #[.slice y2.a y2.n y2.c, .int .u32 (p : Int)] W fun r w' => CallL R vi (wo g.mem p) m2 W r w') := fun W hW => without_fl R vi y2 g.mem p m2 W ((h.after hb0).after hW).ctx ((f2.after hb0).after hW) hm2 (by have := hk.four; omega)
  have HC7 : Hid (∀ W, Below w0.heap.size w0 W → Calls Try.prog 77 #[.slice y3.a y3.n y3.c, .int .u32 (p : Int)] W fun r w' => CallL R vi (wo g.inv p) m3 W r w') := fun W hW => without_fl R vi y3 g.inv p m3 W ((h.after hb0).after hW).ctx ((f3.after hb0).after hW) hm3 (by have := hk.four; omega)
  have H0 := Lib.hid hw0
  have HB0 := Lib.hid hb0
  have HGG := Lib.hid hG
  have HBK := Lib.hid h
  have HKK := Lib.hid hk
  have HGL := Lib.hid hg
  have HE1 := Lib.hid e1
  have HM2 := Lib.hid hm2
  have HM3 := Lib.hid hm3
  have HX := Lib.hid hx
  have HL := Lib.hid hl
  have HM : Hid (m2 + m3 ≤ 4) := by have := wo_len g.mem p; have := wo_len g.inv p; have := hk.four; simp only [Hid]; omega
  rw [← hx]
  clear hw0 hb0 hq0 hG h hI hk hg e1 f2 f3 hm2 hm3 hx hl
  go_enter Try.func75, Try.ntmps75
  go_upto_region 1 with (fail)
  rw [← H0.out, ← HGG.out]
  go_cut [] (fun wx => ∃ (A2 A3 : Option Addr) (c2 c3 : Nat), Hid (wx.heap[G]? = some (.cells #[.int .u32 (y1 : Int), .slice A2 m2 c2, .slice A3 m3 c3] 112 (0, 0)) ∧ Fl wx R vi ⟨A2, m2, c2⟩ (wo g.mem p) ∧ Fl wx R vi ⟨A3, m3, c3⟩ (wo g.inv p) ∧ Below w.heap.size w wx))
  case first =>
    have HDk : Hid (Below w0.heap.size w0 w0.drew) := (Below.refl _ _).drew
    refine wp_region_held_drew (S := fun _ => True) (by kernel_rfl) trivial (fun hHeld => ?_)
    obtain ⟨Wk0, hW0⟩ : ∃ W0, W0 = w0.drew := ⟨_, rfl⟩
    rw [← hW0] at HDk ⊢
    clear hW0
    refine wpAnyH_take (i := 0) (oi := ?oi0k) (v := ?v0k) ?hi0k ?hs0k ?hf0k ?hr0k ?hQ0k ?hy0k ?hS0k ?h0k
    case hi0k => exact (by simp only [List.getElem?_toArray, List.getElem?_cons_zero]; rfl)
    case hs0k => kernel_rfl
    case hf0k => kernel_rfl
    case hr0k => kernel_rfl
    case hQ0k => exact fun _ _ _ h => h
    case hy0k =>
      refine Or.inl ⟨rfl, ?_⟩
      intro W hSw
      go_simp
      try with_reducible rfl
    case hS0k => assumption
    try simp only [Act.put, List.setIfInBounds_toArray, List.set_cons_zero, List.set_cons_succ]
    refine wpAnyH_take (i := 2) (oi := ?oi2k) (v := ?v2k) ?hi2k ?hs2k ?hf2k ?hr2k ?hQ2k ?hy2k ?hS2k ?h2k
    case hi2k => exact (by simp only [List.getElem?_toArray, List.getElem?_cons_succ, List.getElem?_cons_zero]; rfl)
    case hs2k => kernel_rfl
    case hf2k => kernel_rfl
    case hr2k => kernel_rfl
    case hQ2k => exact fun _ _ _ h => h
    case hy2k =>
      refine Or.inl ⟨rfl, ?_⟩
      intro W hSw
      go_simp
      try with_reducible rfl
    case hS2k => assumption
    try simp only [Act.put, List.setIfInBounds_toArray, List.set_cons_zero, List.set_cons_succ]
    refine wpAnyH_take (i := 4) (oi := ?oi4k) (v := ?v4k) ?hi4k ?hs4k ?hf4k ?hr4k ?hQ4k ?hy4k ?hS4k ?h4k
    case hi4k => exact (by simp only [List.getElem?_toArray, List.getElem?_cons_succ, List.getElem?_cons_zero]; rfl)
    case hs4k => kernel_rfl
    case hf4k => kernel_rfl
    case hr4k => kernel_rfl
    case hQ4k => exact fun _ _ _ h => h
    case hy4k =>
      refine Or.inl ⟨rfl, ?_⟩
      intro W hSw
      go_simp
      try with_reducible rfl
    case hS4k => assumption
    try simp only [Act.put, List.setIfInBounds_toArray, List.set_cons_zero, List.set_cons_succ]
    refine wpAnyH_take (i := 6) (oi := ?oi6k) (v := ?v6k) ?hi6k ?hs6k ?hf6k ?hr6k ?hQ6k ?hy6k ?hS6k ?h6k
    case hi6k => exact (by simp only [List.getElem?_toArray, List.getElem?_cons_succ, List.getElem?_cons_zero]; rfl)
    case hs6k => kernel_rfl
    case hf6k => kernel_rfl
    case hr6k => kernel_rfl
    case hQ6k => exact fun _ _ _ h => h
    case hy6k =>
      refine Or.inl ⟨rfl, ?_⟩
      intro W hSw
      go_simp
      try with_reducible rfl
    case hS6k => assumption
    try simp only [Act.put, List.setIfInBounds_toArray, List.set_cons_zero, List.set_cons_succ]
    refine wpAnyH_ready (rs := [1, 5]) (by kernel_rfl) (by simp) ?_
    refine AllReadyH.cons (o := _) rfl (fun K hK => ?_) (AllReadyH.cons (o := _) rfl (fun K hK => ?_) AllReadyH.nil)
    · have hqr := HGR.out Wk0 HDk.out
      have x1 := cell_of_row _ G 1 _ _ _ hqr
      simp at x1
      go_simp
      clear x1 hqr
      refine hK.out _ _ trivial (fun hHeld => ?_)
      clear hK K
      try simp only [Act.put, List.setIfInBounds_toArray, List.set_cons_zero, List.set_cons_succ]
      refine wpAnyH_ready (rs := [3, 5]) (by kernel_rfl) (by simp) ?_
      refine AllReadyH.cons (o := _) rfl (fun K hK => ?_) (AllReadyH.cons (o := _) rfl (fun K hK => ?_) AllReadyH.nil)
      · go_simp
        refine (HC3.out Wk0 HDk.out).mono ?_
        rintro r Wa1 ⟨A2, c2, rfl, f2, hbq⟩
        have HBWa1 := Lib.hid (HDk.out.trans (hbq.mono HDk.out.size))
        have F2 := Lib.hid f2
        clear f2 hbq
        refine hK.out _ _ trivial (fun hHeld => ?_)
        clear hK K
        try simp only [Act.put, List.setIfInBounds_toArray, List.set_cons_zero, List.set_cons_succ]
        refine wpAnyH_ready (rs := [5]) (by kernel_rfl) (by simp) ?_
        refine AllReadyH.cons (o := _) rfl (fun K hK => ?_) AllReadyH.nil
        have hqr := HGR.out Wa1 HBWa1.out
        have x1 := cell_of_row _ G 2 _ _ _ hqr
        simp at x1
        go_simp
        clear x1 hqr
        refine hK.out _ _ trivial (fun hHeld => ?_)
        clear hK K
        try simp only [Act.put, List.setIfInBounds_toArray, List.set_cons_zero, List.set_cons_succ]
        refine wpAnyH_take (i := 8) (oi := ?oi8ka) (v := ?v8ka) ?hi8ka ?hs8ka ?hf8ka ?hr8ka ?hQ8ka ?hy8ka ?hS8ka ?h8ka
        case hi8ka => exact (by simp only [List.getElem?_toArray, List.getElem?_cons_succ, List.getElem?_cons_zero]; rfl)
        case hs8ka => kernel_rfl
        case hf8ka => kernel_rfl
        case hr8ka => kernel_rfl
        case hQ8ka => exact fun _ _ _ h => h
        case hy8ka =>
          refine Or.inl ⟨rfl, ?_⟩
          intro W hSw
          go_simp
          try with_reducible rfl
        case hS8ka => assumption
        try simp only [Act.put, List.setIfInBounds_toArray, List.set_cons_zero, List.set_cons_succ]
        refine wpAnyH_ready (rs := [7]) (by kernel_rfl) (by simp) ?_
        refine AllReadyH.cons (o := _) rfl (fun K hK => ?_) AllReadyH.nil
        go_simp
        refine (HC7.out Wa1 HBWa1.out).mono ?_
        rintro r Wa2 ⟨A3, c3, rfl, f3, hbq⟩
        have HBWa2 := Lib.hid (HBWa1.out.trans (hbq.mono HBWa1.out.size))
        have F3 := Lib.hid f3
        have F2b := Lib.hid (F2.out.after hbq)
        clear f3 hbq
        refine hK.out _ _ trivial (fun hHeld => ?_)
        clear hK K
        try simp only [Act.put, List.setIfInBounds_toArray, List.set_cons_zero, List.set_cons_succ]
        refine wpAnyH_ready (rs := [9]) (by kernel_rfl) (by simp) ?_
        refine AllReadyH.cons (o := _) rfl (fun K hK => ?_) AllReadyH.nil
        have hqr := HGR.out Wa2 HBWa2.out
        have x1 := cell_of_row _ G 1 _ _ _ hqr
        simp at x1
        have xf : ∀ i, Wa2.frozen? ⟨G, i, none⟩ = false := fun i => frozen_of_row _ _ i _ _ hqr
        go_simp
        clear x1 xf
        obtain ⟨W8, hW8⟩ : ∃ W8, W8 = Wa2.setCell ⟨G, 1, none⟩ (.slice A2 m2 c2) := ⟨_, rfl⟩
        have HQ8 : Hid (W8.heap[G]? = some (.cells #[.int .u32 (y1 : Int), .slice A2 m2 c2, .slice y3.a y3.n y3.c] 112 (0, 0))) := by rw [hW8]; exact heap_setCell_same _ G 1 _ 112 _ hqr
        have HO8 : Hid (∀ g, g ≠ G → W8.heap[g]? = Wa2.heap[g]?) := fun g hg => by rw [hW8]; exact Below.heap_setCell _ _ _ _ hg
        have HB8 : Hid (Below w.heap.size w W8) := by rw [hW8]; exact (HB0.out.trans (HBWa2.out.mono HB0.out.size)).setCell (by rw [HGG.out]; exact Nat.le_refl _) _
        rw [← hW8]
        clear hW8
        refine hK.out _ _ trivial (fun hHeld => ?_)
        clear hK K
        try simp only [Act.put, List.setIfInBounds_toArray, List.set_cons_zero, List.set_cons_succ]
        refine wpAnyH_take (i := 10) (oi := ?oi10ka) (v := ?v10ka) ?hi10ka ?hs10ka ?hf10ka ?hr10ka ?hQ10ka ?hy10ka ?hS10ka ?h10ka
        case hi10ka => exact (by simp only [List.getElem?_toArray, List.getElem?_cons_succ, List.getElem?_cons_zero]; rfl)
        case hs10ka => kernel_rfl
        case hf10ka => kernel_rfl
        case hr10ka => kernel_rfl
        case hQ10ka => exact fun _ _ _ h => h
        case hy10ka =>
          refine Or.inl ⟨rfl, ?_⟩
          intro W hSw
          go_simp
          try with_reducible rfl
        case hS10ka => assumption
        try simp only [Act.put, List.setIfInBounds_toArray, List.set_cons_zero, List.set_cons_succ]
        refine wpAnyH_ready (rs := [11]) (by kernel_rfl) (by simp) ?_
        refine AllReadyH.cons (o := _) rfl (fun K hK => ?_) AllReadyH.nil
        have hq8 := HQ8.out
        have x1 := cell_of_row _ G 2 _ _ _ hq8
        simp at x1
        have xf : ∀ i, W8.frozen? ⟨G, i, none⟩ = false := fun i => frozen_of_row _ _ i _ _ hq8
        go_simp
        clear x1 xf
        obtain ⟨W9, hW9⟩ : ∃ W9, W9 = W8.setCell ⟨G, 2, none⟩ (.slice A3 m3 c3) := ⟨_, rfl⟩
        have HQ9 : Hid (W9.heap[G]? = some (.cells #[.int .u32 (y1 : Int), .slice A2 m2 c2, .slice A3 m3 c3] 112 (0, 0))) := by rw [hW9]; exact heap_setCell_same _ G 2 _ 112 _ hq8
        have HO9 : Hid (∀ g, g ≠ G → W9.heap[g]? = Wa2.heap[g]?) := fun g hg => by rw [hW9]; exact (Below.heap_setCell _ _ _ _ hg).trans (HO8.out g hg)
        have HB9 : Hid (Below w.heap.size w W9) := by rw [hW9]; exact HB8.out.setCell (by rw [HGG.out]; exact Nat.le_refl _) _
        have hnn := not26 hqr
        have HREL : Hid (W9.heap[G]? = some (.cells #[.int .u32 (y1 : Int), .slice A2 m2 c2, .slice A3 m3 c3] 112 (0, 0)) ∧ Fl W9 R vi ⟨A2, m2, c2⟩ (wo g.mem p) ∧ Fl W9 R vi ⟨A3, m3, c3⟩ (wo g.inv p) ∧ Below w.heap.size w W9) := ⟨HQ9.out, fl_other F2b.out HO9.out hnn, fl_other F3.out HO9.out hnn, HB9.out⟩
        rw [← hW9]
        clear hW9 hqr hq8 hnn
        refine hK.out _ _ trivial (fun hHeld => ?_)
        clear hK K
        try simp only [Act.put, List.setIfInBounds_toArray, List.set_cons_zero, List.set_cons_succ]
        refine wpAnyH_done (by kernel_rfl) ?_ _
        go_wp2_with fail
        go_meet
        case rel => exact ⟨_, _, _, _, HREL⟩
      · have hqr := HGR.out Wk0 HDk.out
        have x1 := cell_of_row _ G 2 _ _ _ hqr
        simp at x1
        go_simp
        clear x1 hqr
        refine hK.out _ _ trivial (fun hHeld => ?_)
        clear hK K
        try simp only [Act.put, List.setIfInBounds_toArray, List.set_cons_zero, List.set_cons_succ]
        refine wpAnyH_ready (rs := [3]) (by kernel_rfl) (by simp) ?_
        refine AllReadyH.cons (o := _) rfl (fun K hK => ?_) AllReadyH.nil
        go_simp
        refine (HC3.out Wk0 HDk.out).mono ?_
        rintro r Wb1 ⟨A2, c2, rfl, f2, hbq⟩
        have HBWb1 := Lib.hid (HDk.out.trans (hbq.mono HDk.out.size))
        have F2 := Lib.hid f2
        clear f2 hbq
        refine hK.out _ _ trivial (fun hHeld => ?_)
        clear hK K
        try simp only [Act.put, List.setIfInBounds_toArray, List.set_cons_zero, List.set_cons_succ]
        refine wpAnyH_take (i := 8) (oi := ?oi8kb) (v := ?v8kb) ?hi8kb ?hs8kb ?hf8kb ?hr8kb ?hQ8kb ?hy8kb ?hS8kb ?h8kb
        case hi8kb => exact (by simp only [List.getElem?_toArray, List.getElem?_cons_succ, List.getElem?_cons_zero]; rfl)
        case hs8kb => kernel_rfl
        case hf8kb => kernel_rfl
        case hr8kb => kernel_rfl
        case hQ8kb => exact fun _ _ _ h => h
        case hy8kb =>
          refine Or.inl ⟨rfl, ?_⟩
          intro W hSw
          go_simp
          try with_reducible rfl
        case hS8kb => assumption
        try simp only [Act.put, List.setIfInBounds_toArray, List.set_cons_zero, List.set_cons_succ]
        refine wpAnyH_ready (rs := [7]) (by kernel_rfl) (by simp) ?_
        refine AllReadyH.cons (o := _) rfl (fun K hK => ?_) AllReadyH.nil
        go_simp
        refine (HC7.out Wb1 HBWb1.out).mono ?_
        rintro r Wb2 ⟨A3, c3, rfl, f3, hbq⟩
        have HBWb2 := Lib.hid (HBWb1.out.trans (hbq.mono HBWb1.out.size))
        have F3 := Lib.hid f3
        have F2b := Lib.hid (F2.out.after hbq)
        clear f3 hbq
        refine hK.out _ _ trivial (fun hHeld => ?_)
        clear hK K
        try simp only [Act.put, List.setIfInBounds_toArray, List.set_cons_zero, List.set_cons_succ]
        refine wpAnyH_ready (rs := [9]) (by kernel_rfl) (by simp) ?_
        refine AllReadyH.cons (o := _) rfl (fun K hK => ?_) AllReadyH.nil
        have hqr := HGR.out Wb2 HBWb2.out
        have x1 := cell_of_row _ G 1 _ _ _ hqr
        simp at x1
        have xf : ∀ i, Wb2.frozen? ⟨G, i, none⟩ = false := fun i => frozen_of_row _ _ i _ _ hqr
        go_simp
        clear x1 xf
        obtain ⟨W8, hW8⟩ : ∃ W8, W8 = Wb2.setCell ⟨G, 1, none⟩ (.slice A2 m2 c2) := ⟨_, rfl⟩
        have HQ8 : Hid (W8.heap[G]? = some (.cells #[.int .u32 (y1 : Int), .slice A2 m2 c2, .slice y3.a y3.n y3.c] 112 (0, 0))) := by rw [hW8]; exact heap_setCell_same _ G 1 _ 112 _ hqr
        have HO8 : Hid (∀ g, g ≠ G → W8.heap[g]? = Wb2.heap[g]?) := fun g hg => by rw [hW8]; exact Below.heap_setCell _ _ _ _ hg
        have HB8 : Hid (Below w.heap.size w W8) := by rw [hW8]; exact (HB0.out.trans (HBWb2.out.mono HB0.out.size)).setCell (by rw [HGG.out]; exact Nat.le_refl _) _
        rw [← hW8]
        clear hW8
        refine hK.out _ _ trivial (fun hHeld => ?_)
        clear hK K
        try simp only [Act.put, List.setIfInBounds_toArray, List.set_cons_zero, List.set_cons_succ]
        refine wpAnyH_take (i := 10) (oi := ?oi10kb) (v := ?v10kb) ?hi10kb ?hs10kb ?hf10kb ?hr10kb ?hQ10kb ?hy10kb ?hS10kb ?h10kb
        case hi10kb => exact (by simp only [List.getElem?_toArray, List.getElem?_cons_succ, List.getElem?_cons_zero]; rfl)
        case hs10kb => kernel_rfl
        case hf10kb => kernel_rfl
        case hr10kb => kernel_rfl
        case hQ10kb => exact fun _ _ _ h => h
        case hy10kb =>
          refine Or.inl ⟨rfl, ?_⟩
          intro W hSw
          go_simp
          try with_reducible rfl
        case hS10kb => assumption
        try simp only [Act.put, List.setIfInBounds_toArray, List.set_cons_zero, List.set_cons_succ]
        refine wpAnyH_ready (rs := [11]) (by kernel_rfl) (by simp) ?_
        refine AllReadyH.cons (o := _) rfl (fun K hK => ?_) AllReadyH.nil
        have hq8 := HQ8.out
        have x1 := cell_of_row _ G 2 _ _ _ hq8
        simp at x1
        have xf : ∀ i, W8.frozen? ⟨G, i, none⟩ = false := fun i => frozen_of_row _ _ i _ _ hq8
        go_simp
        clear x1 xf
        obtain ⟨W9, hW9⟩ : ∃ W9, W9 = W8.setCell ⟨G, 2, none⟩ (.slice A3 m3 c3) := ⟨_, rfl⟩
        have HQ9 : Hid (W9.heap[G]? = some (.cells #[.int .u32 (y1 : Int), .slice A2 m2 c2, .slice A3 m3 c3] 112 (0, 0))) := by rw [hW9]; exact heap_setCell_same _ G 2 _ 112 _ hq8
        have HO9 : Hid (∀ g, g ≠ G → W9.heap[g]? = Wb2.heap[g]?) := fun g hg => by rw [hW9]; exact (Below.heap_setCell _ _ _ _ hg).trans (HO8.out g hg)
        have HB9 : Hid (Below w.heap.size w W9) := by rw [hW9]; exact HB8.out.setCell (by rw [HGG.out]; exact Nat.le_refl _) _
        have hnn := not26 hqr
        have HREL : Hid (W9.heap[G]? = some (.cells #[.int .u32 (y1 : Int), .slice A2 m2 c2, .slice A3 m3 c3] 112 (0, 0)) ∧ Fl W9 R vi ⟨A2, m2, c2⟩ (wo g.mem p) ∧ Fl W9 R vi ⟨A3, m3, c3⟩ (wo g.inv p) ∧ Below w.heap.size w W9) := ⟨HQ9.out, fl_other F2b.out HO9.out hnn, fl_other F3.out HO9.out hnn, HB9.out⟩
        rw [← hW9]
        clear hW9 hqr hq8 hnn
        refine hK.out _ _ trivial (fun hHeld => ?_)
        clear hK K
        try simp only [Act.put, List.setIfInBounds_toArray, List.set_cons_zero, List.set_cons_succ]
        refine wpAnyH_done (by kernel_rfl) ?_ _
        go_wp2_with fail
        go_meet
        case rel => exact ⟨_, _, _, _, HREL⟩
    · have hqr := HGR.out Wk0 HDk.out
      have x1 := cell_of_row _ G 2 _ _ _ hqr
      simp at x1
      go_simp
      clear x1 hqr
      refine hK.out _ _ trivial (fun hHeld => ?_)
      clear hK K
      try simp only [Act.put, List.setIfInBounds_toArray, List.set_cons_zero, List.set_cons_succ]
      refine wpAnyH_ready (rs := [1]) (by kernel_rfl) (by simp) ?_
      refine AllReadyH.cons (o := _) rfl (fun K hK => ?_) AllReadyH.nil
      have hqr := HGR.out Wk0 HDk.out
      have x1 := cell_of_row _ G 1 _ _ _ hqr
      simp at x1
      go_simp
      clear x1 hqr
      refine hK.out _ _ trivial (fun hHeld => ?_)
      clear hK K
      try simp only [Act.put, List.setIfInBounds_toArray, List.set_cons_zero, List.set_cons_succ]
      refine wpAnyH_ready (rs := [3]) (by kernel_rfl) (by simp) ?_
      refine AllReadyH.cons (o := _) rfl (fun K hK => ?_) AllReadyH.nil
      go_simp
      refine (HC3.out Wk0 HDk.out).mono ?_
      rintro r Wc1 ⟨A2, c2, rfl, f2, hbq⟩
      have HBWc1 := Lib.hid (HDk.out.trans (hbq.mono HDk.out.size))
      have F2 := Lib.hid f2
      clear f2 hbq
      refine hK.out _ _ trivial (fun hHeld => ?_)
      clear hK K
      try simp only [Act.put, List.setIfInBounds_toArray, List.set_cons_zero, List.set_cons_succ]
      refine wpAnyH_take (i := 8) (oi := ?oi8kc) (v := ?v8kc) ?hi8kc ?hs8kc ?hf8kc ?hr8kc ?hQ8kc ?hy8kc ?hS8kc ?h8kc
      case hi8kc => exact (by simp only [List.getElem?_toArray, List.getElem?_cons_succ, List.getElem?_cons_zero]; rfl)
      case hs8kc => kernel_rfl
      case hf8kc => kernel_rfl
      case hr8kc => kernel_rfl
      case hQ8kc => exact fun _ _ _ h => h
      case hy8kc =>
        refine Or.inl ⟨rfl, ?_⟩
        intro W hSw
        go_simp
        try with_reducible rfl
      case hS8kc => assumption
      try simp only [Act.put, List.setIfInBounds_toArray, List.set_cons_zero, List.set_cons_succ]
      refine wpAnyH_ready (rs := [7]) (by kernel_rfl) (by simp) ?_
      refine AllReadyH.cons (o := _) rfl (fun K hK => ?_) AllReadyH.nil
      go_simp
      refine (HC7.out Wc1 HBWc1.out).mono ?_
      rintro r Wc2 ⟨A3, c3, rfl, f3, hbq⟩
      have HBWc2 := Lib.hid (HBWc1.out.trans (hbq.mono HBWc1.out.size))
      have F3 := Lib.hid f3
      have F2b := Lib.hid (F2.out.after hbq)
      clear f3 hbq
      refine hK.out _ _ trivial (fun hHeld => ?_)
      clear hK K
      try simp only [Act.put, List.setIfInBounds_toArray, List.set_cons_zero, List.set_cons_succ]
      refine wpAnyH_ready (rs := [9]) (by kernel_rfl) (by simp) ?_
      refine AllReadyH.cons (o := _) rfl (fun K hK => ?_) AllReadyH.nil
      have hqr := HGR.out Wc2 HBWc2.out
      have x1 := cell_of_row _ G 1 _ _ _ hqr
      simp at x1
      have xf : ∀ i, Wc2.frozen? ⟨G, i, none⟩ = false := fun i => frozen_of_row _ _ i _ _ hqr
      go_simp
      clear x1 xf
      obtain ⟨W8, hW8⟩ : ∃ W8, W8 = Wc2.setCell ⟨G, 1, none⟩ (.slice A2 m2 c2) := ⟨_, rfl⟩
      have HQ8 : Hid (W8.heap[G]? = some (.cells #[.int .u32 (y1 : Int), .slice A2 m2 c2, .slice y3.a y3.n y3.c] 112 (0, 0))) := by rw [hW8]; exact heap_setCell_same _ G 1 _ 112 _ hqr
      have HO8 : Hid (∀ g, g ≠ G → W8.heap[g]? = Wc2.heap[g]?) := fun g hg => by rw [hW8]; exact Below.heap_setCell _ _ _ _ hg
      have HB8 : Hid (Below w.heap.size w W8) := by rw [hW8]; exact (HB0.out.trans (HBWc2.out.mono HB0.out.size)).setCell (by rw [HGG.out]; exact Nat.le_refl _) _
      rw [← hW8]
      clear hW8
      refine hK.out _ _ trivial (fun hHeld => ?_)
      clear hK K
      try simp only [Act.put, List.setIfInBounds_toArray, List.set_cons_zero, List.set_cons_succ]
      refine wpAnyH_take (i := 10) (oi := ?oi10kc) (v := ?v10kc) ?hi10kc ?hs10kc ?hf10kc ?hr10kc ?hQ10kc ?hy10kc ?hS10kc ?h10kc
      case hi10kc => exact (by simp only [List.getElem?_toArray, List.getElem?_cons_succ, List.getElem?_cons_zero]; rfl)
      case hs10kc => kernel_rfl
      case hf10kc => kernel_rfl
      case hr10kc => kernel_rfl
      case hQ10kc => exact fun _ _ _ h => h
      case hy10kc =>
        refine Or.inl ⟨rfl, ?_⟩
        intro W hSw
        go_simp
        try with_reducible rfl
      case hS10kc => assumption
      try simp only [Act.put, List.setIfInBounds_toArray, List.set_cons_zero, List.set_cons_succ]
      refine wpAnyH_ready (rs := [11]) (by kernel_rfl) (by simp) ?_
      refine AllReadyH.cons (o := _) rfl (fun K hK => ?_) AllReadyH.nil
      have hq8 := HQ8.out
      have x1 := cell_of_row _ G 2 _ _ _ hq8
      simp at x1
      have xf : ∀ i, W8.frozen? ⟨G, i, none⟩ = false := fun i => frozen_of_row _ _ i _ _ hq8
      go_simp
      clear x1 xf
      obtain ⟨W9, hW9⟩ : ∃ W9, W9 = W8.setCell ⟨G, 2, none⟩ (.slice A3 m3 c3) := ⟨_, rfl⟩
      have HQ9 : Hid (W9.heap[G]? = some (.cells #[.int .u32 (y1 : Int), .slice A2 m2 c2, .slice A3 m3 c3] 112 (0, 0))) := by rw [hW9]; exact heap_setCell_same _ G 2 _ 112 _ hq8
      have HO9 : Hid (∀ g, g ≠ G → W9.heap[g]? = Wc2.heap[g]?) := fun g hg => by rw [hW9]; exact (Below.heap_setCell _ _ _ _ hg).trans (HO8.out g hg)
      have HB9 : Hid (Below w.heap.size w W9) := by rw [hW9]; exact HB8.out.setCell (by rw [HGG.out]; exact Nat.le_refl _) _
      have hnn := not26 hqr
      have HREL : Hid (W9.heap[G]? = some (.cells #[.int .u32 (y1 : Int), .slice A2 m2 c2, .slice A3 m3 c3] 112 (0, 0)) ∧ Fl W9 R vi ⟨A2, m2, c2⟩ (wo g.mem p) ∧ Fl W9 R vi ⟨A3, m3, c3⟩ (wo g.inv p) ∧ Below w.heap.size w W9) := ⟨HQ9.out, fl_other F2b.out HO9.out hnn, fl_other F3.out HO9.out hnn, HB9.out⟩
      rw [← hW9]
      clear hW9 hqr hq8 hnn
      refine hK.out _ _ trivial (fun hHeld => ?_)
      clear hK K
      try simp only [Act.put, List.setIfInBounds_toArray, List.set_cons_zero, List.set_cons_succ]
      refine wpAnyH_done (by kernel_rfl) ?_ _
      go_wp2_with fail
      go_meet
      case rel => exact ⟨_, _, _, _, HREL⟩
  case rest =>
    obtain ⟨A2, A3, c2, c3, HR⟩ := hcut
    rename World => w5
    have HO := Lib.hid (over_any y1 ⟨A2, m2, c2⟩ ⟨A3, m3, c3⟩ (wo g.mem p) (wo g.inv p) w5 HM2.out HR.out.2.1.rn HM3.out HR.out.2.2.1.rn (by have := HM.out; have := HM2.out; have := HM3.out; omega))
    have hq := HR.out.1
    have d0 := cell_of_row _ G 0 _ _ _ hq
    have d1 := cell_of_row _ G 1 _ _ _ hq
    have d2 := cell_of_row _ G 2 _ _ _ hq
    simp at d0 d1 d2
    have HOV : Hid (decide ((wo g.mem p).length = 0 ∨ (wo g.mem p).length + (wo g.inv p).length = 1) = overB (cut g p)) := by
      show decide ((wo g.mem p).length = 0 ∨ (wo g.mem p).length + (wo g.inv p).length = 1) = decide ((wo g.mem p).length + (wo g.inv p).length < 2 ∨ (wo g.mem p).length = 0)
      rw [decide_eq_decide]
      omega
    rw [HOV.out] at HO
    obtain ⟨t, ht⟩ : ∃ t, t = overB (cut g p) := ⟨_, rfl⟩
    rw [← ht] at HO
    have HT := Lib.hid ht
    have HBQ : Hid (∀ W, Below w5.heap.size w5 W → W.cell? ⟨B, 0, none⟩ = some (bp R) ∧ Below w.heap.size w W ∧ Bk W B R most vi L) := fun W hW => by
      have hb : Below w.heap.size w W := HR.out.2.2.2.trans (hW.mono HR.out.2.2.2.size)
      exact ⟨cell_of_row W B 0 _ _ _ (HBK.out.after hb).blk, hb, HBK.out.after hb⟩
    clear hq ht
    go_wp2_with fail
    refine HO.out.mono ?_
    rintro r w6 ⟨rfl, hb6⟩
    clear d0 d1 d2
    obtain ⟨k1, k2, k3⟩ := HBQ.out w6 hb6
    have HEX : Hid (∃ e ∈ L, e.id = x) := ⟨g, HGL.out, HX.out.symm⟩
    cases t
    · have HNO : Hid (¬ ((wo g.mem p).length + (wo g.inv p).length < 2 ∨ (wo g.mem p).length = 0)) := by
        have h1 : decide ((wo g.mem p).length + (wo g.inv p).length < 2 ∨ (wo g.mem p).length = 0) = false := HT.out.symm
        exact of_decide_eq_false h1
      have HPS : Hid (putS L (cut g p) = insL L (fixP (cut g p))) := by
        simp only [Hid]
        unfold putS
        rw [← HT.out, if_neg (by simp)]
      have hqG := (hb6.block _ (lt_of_block HR.out.1)).trans HR.out.1
      have d0 := cell_of_row _ G 0 _ _ _ hqG
      have d1 := cell_of_row _ G 1 _ _ _ hqG
      have d2 := cell_of_row _ G 2 _ _ _ hqG
      simp at d0 d1 d2
      have f2 := HR.out.2.1.after hb6
      have f3 := HR.out.2.2.1.after hb6
      by_cases hlp : y1 = p
      · subst hlp
        have hnl : ¬ ((cut g y1).ld ∈ (cut g y1).mem) := by show ¬ (g.ld ∈ wo g.mem y1); rw [← HE1.out]; exact fun hm => (mem_wo.1 hm).2 rfl
        obtain ⟨ld, hld⟩ : ∃ z, z = (wo g.mem y1).headD 0 := ⟨_, rfl⟩
        have hm0 : 0 < m2 := by have := HNO.out; have := HM2.out; omega
        have hm0z : (0 : Int) < (m2 : Int) := by omega
        have hfix : fixP (cut g y1) = ⟨g.id, ld, wo g.mem y1, wo g.inv y1⟩ := by
          unfold fixP
          rw [if_neg hnl, hld]
          rfl
        obtain ⟨b1, o1, e1, q2, q3⟩ := f2.rn (by have := HM2.out; omega)
        simp only at e1
        subst e1
        have hhd : (wo g.mem y1)[0]? = some ld := by
          rw [hld]
          cases hmm : wo g.mem y1 with
          | nil => have := HM2.out; rw [hmm] at this; simp at this; omega
          | cons z l => rfl
        have l0 := q3 0 ld hhd
        rw [Nat.add_zero] at l0
        have xf : ∀ i, w6.frozen? ⟨G, i, none⟩ = false := fun i => frozen_of_row _ _ i _ _ hqG
        obtain ⟨w7, hw7⟩ : ∃ w7, w7 = w6.setCell ⟨G, 0, none⟩ (.int .u32 (ld : Int)) := ⟨_, rfl⟩
        have hq7 : w7.heap[G]? = some (.cells #[.int .u32 (ld : Int), .slice (some ⟨b1, o1, none⟩) m2 c2, .slice A3 m3 c3] 112 (0, 0)) := by rw [hw7]; exact heap_setCell_same _ G 0 _ 112 _ hqG
        have ho7 : ∀ k, k ≠ G → w7.heap[k]? = w6.heap[k]? := fun k hk => by rw [hw7]; exact Below.heap_setCell _ _ _ _ hk
        have hb7 : Below w.heap.size w w7 := by rw [hw7]; exact k2.setCell (by rw [HGG.out]; exact Nat.le_refl _) _
        have hn7 := not26 hqG
        have HB7 := Lib.hid hb7
        have HQG : Hid (∀ W, Below w7.heap.size w7 W → W.heap[G]? = some (.cells #[.int .u32 (ld : Int), .slice (some ⟨b1, o1, none⟩) m2 c2, .slice A3 m3 c3] 112 (0, 0))) := fun W hW => (hW.block _ (lt_of_block hq7)).trans hq7
        have HSS : Hid (∀ W, Below w7.heap.size w7 W → (fun W : World => W.cell? ⟨B, 0, none⟩ = some (bp R) ∧ W.cell? ⟨G, 0, none⟩ = some (.int .u32 (ld : Int)) ∧ W.cell? ⟨G, 1, none⟩ = some (.slice (some ⟨b1, o1, none⟩) m2 c2) ∧ W.cell? ⟨G, 2, none⟩ = some (.slice A3 m3 c3)) W) := fun W hW => by
          have hq := (hW.block _ (lt_of_block hq7)).trans hq7
          have hb : Below w.heap.size w W := HB7.out.trans (hW.mono HB7.out.size)
          exact ⟨cell_of_row W B 0 _ _ _ (HBK.out.after hb).blk, cell_of_row W G 0 _ _ _ hq, cell_of_row W G 1 _ _ _ hq, cell_of_row W G 2 _ _ _ hq⟩
        have HPUT : Hid (∀ W, Below w7.heap.size w7 W → Calls Try.prog 73 #[bp R, .int .u32 (x : Int), mV ld ⟨some ⟨b1, o1, none⟩, m2, c2⟩ ⟨A3, m3, c3⟩] W fun r w' => r = .returned (.int .i64 0) ∧ PutP B R most vi (insL L (fixP (cut g y1))) W w' ∧ ∀ k, w.heap.size ≤ k → k < W.heap.size → w'.heap[k]? = W.heap[k]?) := fun W hW => by
          have hb : Below w.heap.size w W := HB7.out.trans (hW.mono HB7.out.size)
          have := bput_there B R most vi L ld ⟨some ⟨b1, o1, none⟩, m2, c2⟩ ⟨A3, m3, c3⟩ (fixP (cut g y1)) w W HBK.out hb HL.out ⟨g, HGL.out, by rw [fix_id]; rfl⟩ (by rw [hfix]; exact ⟨rfl, (fl_other f2 ho7 hn7).after hW, (fl_other f3 ho7 hn7).after hW⟩)
          rw [fix_id] at this
          rw [HX.out]
          exact this
        have HEND : Hid (∀ W, PutP B R most vi (insL L (fixP (cut g y1))) w7 W → LoseP B R most vi L g y1 w (.returned (.bool false)) W) := fun W hp => ⟨by rw [← HT.out], by rw [HPS.out]; exact hp.from (Nat.le_of_lt HBK.out.ctx.1) HB7.out⟩
        have HW7 := Lib.hid hw7
        clear hqG f2 f3 hnl hld hm0 hfix q2 q3 hhd hw7 hq7 ho7 hb7 hn7 k1 k2 k3 hb6
        go_upto_region 7 with (fail)
        rw [← HW7.out]
        have HDkp : Hid (Below w7.heap.size w7 w7.drew) := (Below.refl _ _).drew
        refine wp_region_held_drew (S := fun W : World => W.cell? ⟨B, 0, none⟩ = some (bp R) ∧ W.cell? ⟨G, 0, none⟩ = some (.int .u32 (ld : Int)) ∧ W.cell? ⟨G, 1, none⟩ = some (.slice (some ⟨b1, o1, none⟩) m2 c2) ∧ W.cell? ⟨G, 2, none⟩ = some (.slice A3 m3 c3)) (by kernel_rfl) (HSS.out _ HDkp.out) (fun hHeld => ?_)
        obtain ⟨Wpp, hW0⟩ : ∃ W0, W0 = w7.drew := ⟨_, rfl⟩
        rw [← hW0] at hHeld HDkp ⊢
        clear hW0
        refine wpAnyH_take (i := 0) (oi := ?oi0p) (v := ?v0p) ?hi0p ?hs0p ?hf0p ?hr0p ?hQ0p ?hy0p ?hS0p ?h0p
        case hi0p => exact (by simp only [List.getElem?_toArray, List.getElem?_cons_zero]; rfl)
        case hs0p => kernel_rfl
        case hf0p => kernel_rfl
        case hr0p => kernel_rfl
        case hQ0p => exact fun _ _ _ h => h
        case hy0p =>
          refine Or.inl ⟨rfl, ?_⟩
          intro W hSw
          obtain ⟨q9, q0, q1, q2⟩ := hSw
          go_simp
          try with_reducible rfl
        case hS0p => assumption
        try simp only [Act.put, List.setIfInBounds_toArray, List.set_cons_zero, List.set_cons_succ]
        refine wpAnyH_take (i := 1) (oi := ?oi1p) (v := ?v1p) ?hi1p ?hs1p ?hf1p ?hr1p ?hQ1p ?hy1p ?hS1p ?h1p
        case hi1p => exact (by simp only [List.getElem?_toArray, List.getElem?_cons_succ, List.getElem?_cons_zero]; rfl)
        case hs1p => kernel_rfl
        case hf1p => kernel_rfl
        case hr1p => kernel_rfl
        case hQ1p => exact fun _ _ _ h => h
        case hy1p =>
          refine Or.inl ⟨rfl, ?_⟩
          intro W hSw
          obtain ⟨q9, q0, q1, q2⟩ := hSw
          go_simp
          try with_reducible rfl
        case hS1p => assumption
        try simp only [Act.put, List.setIfInBounds_toArray, List.set_cons_zero, List.set_cons_succ]
        refine wpAnyH_take (i := 2) (oi := ?oi2p) (v := ?v2p) ?hi2p ?hs2p ?hf2p ?hr2p ?hQ2p ?hy2p ?hS2p ?h2p
        case hi2p => exact (by simp only [List.getElem?_toArray, List.getElem?_cons_succ, List.getElem?_cons_zero]; rfl)
        case hs2p => kernel_rfl
        case hf2p => kernel_rfl
        case hr2p => kernel_rfl
        case hQ2p => exact fun _ _ _ h => h
        case hy2p =>
          refine Or.inl ⟨rfl, ?_⟩
          intro W hSw
          obtain ⟨q9, q0, q1, q2⟩ := hSw
          go_simp
          try with_reducible rfl
        case hS2p => assumption
        try simp only [Act.put, List.setIfInBounds_toArray, List.set_cons_zero, List.set_cons_succ]
        refine wpAnyH_take (i := 3) (oi := ?oi3p) (v := ?v3p) ?hi3p ?hs3p ?hf3p ?hr3p ?hQ3p ?hy3p ?hS3p ?h3p
        case hi3p => exact (by simp only [List.getElem?_toArray, List.getElem?_cons_succ, List.getElem?_cons_zero]; rfl)
        case hs3p => kernel_rfl
        case hf3p => kernel_rfl
        case hr3p => kernel_rfl
        case hQ3p => exact fun _ _ _ h => h
        case hy3p =>
          refine Or.inl ⟨rfl, ?_⟩
          intro W hSw
          obtain ⟨q9, q0, q1, q2⟩ := hSw
          go_simp
          try with_reducible rfl
        case hS3p => assumption
        try simp only [Act.put, List.setIfInBounds_toArray, List.set_cons_zero, List.set_cons_succ]
        refine wpAnyH_take (i := 4) (oi := ?oi4p) (v := ?v4p) ?hi4p ?hs4p ?hf4p ?hr4p ?hQ4p ?hy4p ?hS4p ?h4p
        case hi4p => exact (by simp only [List.getElem?_toArray, List.getElem?_cons_succ, List.getElem?_cons_zero]; rfl)
        case hs4p => kernel_rfl
        case hf4p => kernel_rfl
        case hr4p => kernel_rfl
        case hQ4p => exact fun _ _ _ h => h
        case hy4p =>
          refine Or.inl ⟨rfl, ?_⟩
          intro W hSw
          obtain ⟨q9, q0, q1, q2⟩ := hSw
          go_simp
          try with_reducible rfl
        case hS4p => assumption
        try simp only [Act.put, List.setIfInBounds_toArray, List.set_cons_zero, List.set_cons_succ]
        refine wpAnyH_take (i := 5) (oi := ?oi5p) (v := ?v5p) ?hi5p ?hs5p ?hf5p ?hr5p ?hQ5p ?hy5p ?hS5p ?h5p
        case hi5p => exact (by simp only [List.getElem?_toArray, List.getElem?_cons_succ, List.getElem?_cons_zero]; rfl)
        case hs5p => kernel_rfl
        case hf5p => kernel_rfl
        case hr5p => kernel_rfl
        case hQ5p => exact fun _ _ _ h => h
        case hy5p =>
          refine Or.inl ⟨rfl, ?_⟩
          intro W hSw
          obtain ⟨q9, q0, q1, q2⟩ := hSw
          go_simp
          try with_reducible rfl
        case hS5p => assumption
        try simp only [Act.put, List.setIfInBounds_toArray, List.set_cons_zero, List.set_cons_succ]
        refine wpAnyH_ready (rs := [6]) (by kernel_rfl) (by simp) ?_
        refine AllReadyH.cons (o := _) rfl (fun K hK => ?_) AllReadyH.nil
        go_simp
        refine (HPUT.out Wpp HDkp.out).mono ?_
        rintro r Wq ⟨rfl, hp, hkp⟩
        have HFIN := Lib.hid (HEND.out Wq (hp.from (by have := HBK.out.ctx.1; have := HB7.out.size; have := HDkp.out.size; omega) HDkp.out))
        have HSQ : (fun W : World => W.cell? ⟨B, 0, none⟩ = some (bp R) ∧ W.cell? ⟨G, 0, none⟩ = some (.int .u32 (ld : Int)) ∧ W.cell? ⟨G, 1, none⟩ = some (.slice (some ⟨b1, o1, none⟩) m2 c2) ∧ W.cell? ⟨G, 2, none⟩ = some (.slice A3 m3 c3)) Wq := by
          obtain ⟨vq, hbq, _⟩ := hp
          have hgw := lt_of_block (HQG.out Wpp HDkp.out)
          have hq := (hkp G (by rw [HGG.out]; exact Nat.le_refl _) hgw).trans (HQG.out Wpp HDkp.out)
          exact ⟨cell_of_row Wq B 0 _ _ _ hbq.blk, cell_of_row Wq G 0 _ _ _ hq, cell_of_row Wq G 1 _ _ _ hq, cell_of_row Wq G 2 _ _ _ hq⟩
        clear hp hkp
        refine hK.out _ _ HSQ (fun hHeld => ?_)
        clear hK K HSQ
        try simp only [Act.put, List.setIfInBounds_toArray, List.set_cons_zero, List.set_cons_succ]
        refine wpAnyH_done (by kernel_rfl) ?_ _
        go_wp2
        go_ret
        exact HFIN.out
      · have hnl : (cut g p).ld ∈ (cut g p).mem := mem_wo.2 ⟨HKK.out.ld, by show g.ld ≠ p; rw [← HE1.out]; exact hlp⟩
        have hfix : fixP (cut g p) = ⟨g.id, y1, wo g.mem p, wo g.inv p⟩ := by
          unfold fixP
          rw [if_pos hnl, HE1.out]
          rfl
        have hlp' : ¬ ((y1 : Int) = (p : Int)) := by omega
        obtain ⟨ld, hld⟩ : ∃ z, z = y1 := ⟨_, rfl⟩
        rw [← hld] at d0 hlp' hqG hfix
        have HB7 := Lib.hid k2
        have HQG : Hid (∀ W, Below w6.heap.size w6 W → W.heap[G]? = some (.cells #[.int .u32 (ld : Int), .slice A2 m2 c2, .slice A3 m3 c3] 112 (0, 0))) := fun W hW => (hW.block _ (lt_of_block hqG)).trans hqG
        have HSS : Hid (∀ W, Below w6.heap.size w6 W → (fun W : World => W.cell? ⟨B, 0, none⟩ = some (bp R) ∧ W.cell? ⟨G, 0, none⟩ = some (.int .u32 (ld : Int)) ∧ W.cell? ⟨G, 1, none⟩ = some (.slice A2 m2 c2) ∧ W.cell? ⟨G, 2, none⟩ = some (.slice A3 m3 c3)) W) := fun W hW => by
          have hq := (hW.block _ (lt_of_block hqG)).trans hqG
          have hb : Below w.heap.size w W := HB7.out.trans (hW.mono HB7.out.size)
          exact ⟨cell_of_row W B 0 _ _ _ (HBK.out.after hb).blk, cell_of_row W G 0 _ _ _ hq, cell_of_row W G 1 _ _ _ hq, cell_of_row W G 2 _ _ _ hq⟩
        have HPUT : Hid (∀ W, Below w6.heap.size w6 W → Calls Try.prog 73 #[bp R, .int .u32 (x : Int), mV ld ⟨A2, m2, c2⟩ ⟨A3, m3, c3⟩] W fun r w' => r = .returned (.int .i64 0) ∧ PutP B R most vi (insL L (fixP (cut g p))) W w' ∧ ∀ k, w.heap.size ≤ k → k < W.heap.size → w'.heap[k]? = W.heap[k]?) := fun W hW => by
          have hb : Below w.heap.size w W := HB7.out.trans (hW.mono HB7.out.size)
          have := bput_there B R most vi L ld ⟨A2, m2, c2⟩ ⟨A3, m3, c3⟩ (fixP (cut g p)) w W HBK.out hb HL.out ⟨g, HGL.out, by rw [fix_id]; rfl⟩ (by rw [hfix]; exact ⟨rfl, f2.after hW, f3.after hW⟩)
          rw [fix_id] at this
          rw [HX.out]
          exact this
        have HEND : Hid (∀ W, PutP B R most vi (insL L (fixP (cut g p))) w6 W → LoseP B R most vi L g p w (.returned (.bool false)) W) := fun W hp => ⟨by rw [← HT.out], by rw [HPS.out]; exact hp.from (Nat.le_of_lt HBK.out.ctx.1) HB7.out⟩
        clear hqG f2 f3 hnl hfix k1 k2 k3 hb6 hlp hld
        go_upto_region 7 with (fail)
        have HDkq : Hid (Below w6.heap.size w6 w6.drew) := (Below.refl _ _).drew
        refine wp_region_held_drew (S := fun W : World => W.cell? ⟨B, 0, none⟩ = some (bp R) ∧ W.cell? ⟨G, 0, none⟩ = some (.int .u32 (ld : Int)) ∧ W.cell? ⟨G, 1, none⟩ = some (.slice A2 m2 c2) ∧ W.cell? ⟨G, 2, none⟩ = some (.slice A3 m3 c3)) (by kernel_rfl) (HSS.out _ HDkq.out) (fun hHeld => ?_)
        obtain ⟨Wpq, hW0⟩ : ∃ W0, W0 = w6.drew := ⟨_, rfl⟩
        rw [← hW0] at hHeld HDkq ⊢
        clear hW0
        refine wpAnyH_take (i := 0) (oi := ?oi0q) (v := ?v0q) ?hi0q ?hs0q ?hf0q ?hr0q ?hQ0q ?hy0q ?hS0q ?h0q
        case hi0q => exact (by simp only [List.getElem?_toArray, List.getElem?_cons_zero]; rfl)
        case hs0q => kernel_rfl
        case hf0q => kernel_rfl
        case hr0q => kernel_rfl
        case hQ0q => exact fun _ _ _ h => h
        case hy0q =>
          refine Or.inl ⟨rfl, ?_⟩
          intro W hSw
          obtain ⟨q9, q0, q1, q2⟩ := hSw
          go_simp
          try with_reducible rfl
        case hS0q => assumption
        try simp only [Act.put, List.setIfInBounds_toArray, List.set_cons_zero, List.set_cons_succ]
        refine wpAnyH_take (i := 1) (oi := ?oi1q) (v := ?v1q) ?hi1q ?hs1q ?hf1q ?hr1q ?hQ1q ?hy1q ?hS1q ?h1q
        case hi1q => exact (by simp only [List.getElem?_toArray, List.getElem?_cons_succ, List.getElem?_cons_zero]; rfl)
        case hs1q => kernel_rfl
        case hf1q => kernel_rfl
        case hr1q => kernel_rfl
        case hQ1q => exact fun _ _ _ h => h
        case hy1q =>
          refine Or.inl ⟨rfl, ?_⟩
          intro W hSw
          obtain ⟨q9, q0, q1, q2⟩ := hSw
          go_simp
          try with_reducible rfl
        case hS1q => assumption
        try simp only [Act.put, List.setIfInBounds_toArray, List.set_cons_zero, List.set_cons_succ]
        refine wpAnyH_take (i := 2) (oi := ?oi2q) (v := ?v2q) ?hi2q ?hs2q ?hf2q ?hr2q ?hQ2q ?hy2q ?hS2q ?h2q
        case hi2q => exact (by simp only [List.getElem?_toArray, List.getElem?_cons_succ, List.getElem?_cons_zero]; rfl)
        case hs2q => kernel_rfl
        case hf2q => kernel_rfl
        case hr2q => kernel_rfl
        case hQ2q => exact fun _ _ _ h => h
        case hy2q =>
          refine Or.inl ⟨rfl, ?_⟩
          intro W hSw
          obtain ⟨q9, q0, q1, q2⟩ := hSw
          go_simp
          try with_reducible rfl
        case hS2q => assumption
        try simp only [Act.put, List.setIfInBounds_toArray, List.set_cons_zero, List.set_cons_succ]
        refine wpAnyH_take (i := 3) (oi := ?oi3q) (v := ?v3q) ?hi3q ?hs3q ?hf3q ?hr3q ?hQ3q ?hy3q ?hS3q ?h3q
        case hi3q => exact (by simp only [List.getElem?_toArray, List.getElem?_cons_succ, List.getElem?_cons_zero]; rfl)
        case hs3q => kernel_rfl
        case hf3q => kernel_rfl
        case hr3q => kernel_rfl
        case hQ3q => exact fun _ _ _ h => h
        case hy3q =>
          refine Or.inl ⟨rfl, ?_⟩
          intro W hSw
          obtain ⟨q9, q0, q1, q2⟩ := hSw
          go_simp
          try with_reducible rfl
        case hS3q => assumption
        try simp only [Act.put, List.setIfInBounds_toArray, List.set_cons_zero, List.set_cons_succ]
        refine wpAnyH_take (i := 4) (oi := ?oi4q) (v := ?v4q) ?hi4q ?hs4q ?hf4q ?hr4q ?hQ4q ?hy4q ?hS4q ?h4q
        case hi4q => exact (by simp only [List.getElem?_toArray, List.getElem?_cons_succ, List.getElem?_cons_zero]; rfl)
        case hs4q => kernel_rfl
        case hf4q => kernel_rfl
        case hr4q => kernel_rfl
        case hQ4q => exact fun _ _ _ h => h
        case hy4q =>
          refine Or.inl ⟨rfl, ?_⟩
          intro W hSw
          obtain ⟨q9, q0, q1, q2⟩ := hSw
          go_simp
          try with_reducible rfl
        case hS4q => assumption
        try simp only [Act.put, List.setIfInBounds_toArray, List.set_cons_zero, List.set_cons_succ]
        refine wpAnyH_take (i := 5) (oi := ?oi5q) (v := ?v5q) ?hi5q ?hs5q ?hf5q ?hr5q ?hQ5q ?hy5q ?hS5q ?h5q
        case hi5q => exact (by simp only [List.getElem?_toArray, List.getElem?_cons_succ, List.getElem?_cons_zero]; rfl)
        case hs5q => kernel_rfl
        case hf5q => kernel_rfl
        case hr5q => kernel_rfl
        case hQ5q => exact fun _ _ _ h => h
        case hy5q =>
          refine Or.inl ⟨rfl, ?_⟩
          intro W hSw
          obtain ⟨q9, q0, q1, q2⟩ := hSw
          go_simp
          try with_reducible rfl
        case hS5q => assumption
        try simp only [Act.put, List.setIfInBounds_toArray, List.set_cons_zero, List.set_cons_succ]
        refine wpAnyH_ready (rs := [6]) (by kernel_rfl) (by simp) ?_
        refine AllReadyH.cons (o := _) rfl (fun K hK => ?_) AllReadyH.nil
        go_simp
        refine (HPUT.out Wpq HDkq.out).mono ?_
        rintro r Wq ⟨rfl, hp, hkp⟩
        have HFIN := Lib.hid (HEND.out Wq (hp.from (by have := HBK.out.ctx.1; have := HB7.out.size; have := HDkq.out.size; omega) HDkq.out))
        have HSQ : (fun W : World => W.cell? ⟨B, 0, none⟩ = some (bp R) ∧ W.cell? ⟨G, 0, none⟩ = some (.int .u32 (ld : Int)) ∧ W.cell? ⟨G, 1, none⟩ = some (.slice A2 m2 c2) ∧ W.cell? ⟨G, 2, none⟩ = some (.slice A3 m3 c3)) Wq := by
          obtain ⟨vq, hbq, _⟩ := hp
          have hgw := lt_of_block (HQG.out Wpq HDkq.out)
          have hq := (hkp G (by rw [HGG.out]; exact Nat.le_refl _) hgw).trans (HQG.out Wpq HDkq.out)
          exact ⟨cell_of_row Wq B 0 _ _ _ hbq.blk, cell_of_row Wq G 0 _ _ _ hq, cell_of_row Wq G 1 _ _ _ hq, cell_of_row Wq G 2 _ _ _ hq⟩
        clear hp hkp
        refine hK.out _ _ HSQ (fun hHeld => ?_)
        clear hK K HSQ
        try simp only [Act.put, List.setIfInBounds_toArray, List.set_cons_zero, List.set_cons_succ]
        refine wpAnyH_done (by kernel_rfl) ?_ _
        go_wp2
        go_ret
        exact HFIN.out
    · have HPS : Hid (putS L (cut g p) = delL L x) := by
        simp only [Hid]
        unfold putS
        rw [← HT.out, if_pos rfl, HX.out]
        rfl
      have HDR := Lib.hid (bdrop B R most vi L x w6 k3 HL.out HEX.out)
      have HB6 := Lib.hid k2
      clear k2 k3 hb6
      go_wp2_with fail
      refine HDR.out.mono ?_
      rintro r w7 ⟨⟨z1, z2, z3, rfl⟩, hp⟩
      have HFIN : Hid (LoseP B R most vi L g p w (.returned (.bool true)) w7) := ⟨by rw [← HT.out], by rw [HPS.out]; exact hp.from (Nat.le_of_lt HBK.out.ctx.1) HB6.out⟩
      clear hp
      go_wp2
      go_ret
      exact HFIN.out
end Go.Proofs.Ytjlpmdokmfmdiaa.P
