/- Party: the document's kick. -/
import Derived.Test.YtjlpmdokmfmdiaaDE
namespace Go.Proofs.Ytjlpmdokmfmdiaa.P
open Go.RowKit
set_option maxRecDepth 20000
set_option linter.unusedVariables false
set_option linter.unusedSimpArgs false

set_option maxHeartbeats 16000000 in
theorem dkick_any (R : Nat) (vi : Value) (A : Option Addr) (n c : Nat) (L : List Pt) (a p : Nat) (w : World) (h : Dd w R vi A n L) (hI : Inv L) (hl : n ≤ 100) :
    Calls Try.prog 57 #[.slice A n c, .int .u32 (a : Int), .int .u32 (p : Int)] w fun r w' => DP2 R vi (kickS L a p) w r w' := by
  have HD := Lib.hid h
  have HI := Lib.hid hI
  have HL := Lib.hid hl
  by_cases hz : ledC L a p ≠ 0
  · obtain ⟨e0, hc⟩ : ∃ c, c = ledC L a p := ⟨_, rfl⟩
    have e : kickS L a p = (L, false, (e0 : Int)) := by unfold kickS; rw [if_pos hz, hc]
    rw [e]
    have HLD : Hid (Calls Try.prog 121 #[.slice A n c, .int .u32 (a : Int), .int .u32 (p : Int)] w fun r w' => (∃ (i l : Nat) (m v : Sl), r = .returned (.tuple #[.agg (dC i l m v), .int .i64 (e0 : Int)])) ∧ Below w.heap.size w w') := by
      rw [hc]
      exact dled_err R vi A n c L a p w h hI hl hz
    have hcz : ¬ ((e0 : Int) = 0) := by rw [hc]; omega
    have hcz' : ¬ (e0 = 0) := by rw [hc]; exact hz
    clear h hI hl hz hc e
    go_enter Try.func57, Try.ntmps57
    go_wp2_with fail
    refine HLD.out.mono ?_
    rintro r w1 ⟨⟨i, l, m, v, rfl⟩, hb⟩
    have HF : Hid (∀ w', Below w1.heap.size w1 w' → DP2 R vi (L, false, (e0 : Int)) w (.returned (.tuple #[.slice A n c, .bool false, .int .i64 (e0 : Int)])) w') := fun w' hb' => ⟨_, _, _, rfl, HD.out.after (hb.trans (hb'.mono hb.size)), hb.trans (hb'.mono hb.size)⟩
    clear hb
    go_wp2
    refine bodyPost_ret (v := .tuple #[.slice A n c, .bool false, .int .i64 (e0 : Int)]) (by simp [results, Try.results57, go_sem]) rfl ?_
    exact HF.out _ ((Below.refl _ _).alloc (Nat.le_refl _) _)
  · obtain ⟨g, hg, hld, hap⟩ := ledC_some hz
    obtain ⟨hm, hgi0⟩ := get_some hg
    have HK := Lib.hid (hI.each g hm)
    have HLD := Lib.hid (dled_0 R vi A n c L a p w h hI hl g hg hld hap)
    obtain ⟨gi, hgi⟩ : ∃ z, z = g.id := ⟨_, rfl⟩
    obtain ⟨gl, hgl⟩ : ∃ z, z = g.ld := ⟨_, rfl⟩
    have HGI : Hid (gi = g.id ∧ gl = g.ld) := ⟨hgi, hgl⟩
    by_cases hp : p ∈ g.mem ∨ p ∈ g.inv
    · have e : kickS L a p = (putS L (cut g p), overB (cut g p), 0) := by unfold kickS; rw [if_neg hz, hg]; simp only; rw [if_pos hp]
      rw [e]
      obtain ⟨t, ht⟩ : ∃ t, t = overB (cut g p) := ⟨_, rfl⟩
      have HT := Lib.hid ht
      rw [← ht]
      have HEQ : Hid ((⟨gi, gl, wo g.mem p, wo g.inv p⟩ : Pt) = cut g p) := by simp only [Hid]; rw [hgi, hgl]; rfl
      have HPM := Lib.hid hp
      obtain ⟨m2, hm2⟩ : ∃ m, m = (wo g.mem p).length := ⟨_, rfl⟩
      obtain ⟨m3, hm3⟩ : ∃ m, m = (wo g.inv p).length := ⟨_, rfl⟩
      have HM2 := Lib.hid hm2
      have HM3 := Lib.hid hm3
      clear h hI hl hg e hp hm hgi0 hgi hgl hld hap hz ht hm2 hm3
      go_enter Try.func57, Try.ntmps57
      go_wp2_with fail
      refine HLD.out.mono ?_
      rintro r w1 ⟨m, v, rfl, f1, f2, hb⟩
      rw [← HGI.out.1, ← HGI.out.2]
      obtain ⟨G, hG⟩ : ∃ G, G = w1.heap.size := ⟨_, rfl⟩
      obtain ⟨w0, hq9⟩ : ∃ W, W = w1.alloc (.cells #[.int .u32 (gi : Int), .int .u32 (gl : Int), .slice m.a m.n m.c, .slice v.a v.n v.c] 124) := ⟨_, rfl⟩
      have hq : w0.heap[G]? = some (.cells #[.int .u32 (gi : Int), .int .u32 (gl : Int), .slice m.a m.n m.c, .slice v.a v.n v.c] 124 (0, 0)) := by rw [hq9, hG]; exact heap_alloc_new w1 _
      have hb3 : Below w1.heap.size w1 w0 := by rw [hq9]; exact (Below.refl _ _).alloc (Nat.le_refl _) _
      have z0 := cell_of_row _ G 0 _ _ _ hq
      have z1 := cell_of_row _ G 1 _ _ _ hq
      have z2 := cell_of_row _ G 2 _ _ _ hq
      have z3 := cell_of_row _ G 3 _ _ _ hq
      simp at z0 z1 z2 z3
      have HW3 : Hid (Below w.heap.size w w0 ∧ Fl w0 R vi m g.mem ∧ Fl w0 R vi v g.inv ∧ w0.heap[G]? = some (.cells #[.int .u32 (gi : Int), .int .u32 (gl : Int), .slice m.a m.n m.c, .slice v.a v.n v.c] 124 (0, 0))) := ⟨hb.trans (hb3.mono hb.size), f1.after hb3, f2.after hb3, hq⟩
      have HGW : Hid (w.heap.size ≤ G) := by have := hb.size; simp only [Hid]; omega
      have H3 := Lib.hid hq9
      have HGG := Lib.hid hG
      clear hq9 hG hq hb3 hb f1 f2
      have HH := Lib.hid (has_any m.a m.n m.c g.mem p w0 HW3.out.2.1.1 HW3.out.2.1.rn (by have := HK.out.four; have := HW3.out.2.1.1; omega))
      have HH2 := Lib.hid (has_any v.a v.n v.c g.inv p w0 HW3.out.2.2.1.1 HW3.out.2.2.1.rn (by have := HK.out.four; have := HW3.out.2.2.1.1; omega))
      go_upto_region 2 with (fail)
      rw [← H3.out, ← HGG.out]
      go_upto_region 4 with (fail)
      go_cut [34] (fun v wx => v = .bool false ∧ wx = w0)
      case first =>
        by_cases hp1 : p ∈ g.mem
        · rw [decide_eq_true hp1] at HH
          clear hp1
          go_wp2_with fail
          refine HH.out.mono ?_
          rintro r wq ⟨rfl, hwq⟩
          have hwq := hwq.symm
          subst hwq
          go_wp2_with fail
          go_meet
          case rel => exact ⟨rfl, rfl⟩
        · have hp2 : p ∈ g.inv := HPM.out.resolve_left hp1
          rw [decide_eq_false hp1] at HH
          rw [decide_eq_true hp2] at HH2
          clear hp1 hp2
          go_wp2_with fail
          refine HH.out.mono ?_
          rintro r wq ⟨rfl, hwq⟩
          have hwq := hwq.symm
          subst hwq
          go_wp2_with fail
          refine HH2.out.mono ?_
          rintro r wq ⟨rfl, hwq⟩
          have hwq := hwq.symm
          subst hwq
          go_wp2_with fail
          go_meet
          case rel => exact ⟨rfl, rfl⟩
      case rest =>
        obtain ⟨rfl, rfl⟩ := hcut
        rename World => w0
        have HB0 : Hid (Below w.heap.size w w0) := HW3.out.1
        have HGR : Hid (∀ W, Below w0.heap.size w0 W → W.heap[G]? = some (.cells #[.int .u32 (gi : Int), .int .u32 (gl : Int), .slice m.a m.n m.c, .slice v.a v.n v.c] 124 (0, 0))) := fun W hW => (hW.block _ (lt_of_block HW3.out.2.2.2)).trans HW3.out.2.2.2
        have HC3 : Hid (∀ W, Below w0.heap.size w0 W → Calls Try.prog 120 #[.slice m.a m.n m.c, .int .u32 (p : Int)] W fun r w' => CallL R vi (wo g.mem p) m2 W r w') := fun W hW => dwo_fl R vi m g.mem p m2 W ((HD.out.ctx.size HB0.out.size).size hW.size) (HW3.out.2.1.after hW) HM2.out (by have := HK.out.four; omega)
        have HC7 : Hid (∀ W, Below w0.heap.size w0 W → Calls Try.prog 120 #[.slice v.a v.n v.c, .int .u32 (p : Int)] W fun r w' => CallL R vi (wo g.inv p) m3 W r w') := fun W hW => dwo_fl R vi v g.inv p m3 W ((HD.out.ctx.size HB0.out.size).size hW.size) (HW3.out.2.2.1.after hW) HM3.out (by have := HK.out.four; omega)
        clear z0 z1 z2 z3
        go_upto_region 6 with (fail)
        go_cut [] (fun wx => ∃ (A2 A3 : Option Addr) (c2 c3 : Nat), Hid (wx.heap[G]? = some (.cells #[.int .u32 (gi : Int), .int .u32 (gl : Int), .slice A2 m2 c2, .slice A3 m3 c3] 124 (0, 0)) ∧ Fl wx R vi ⟨A2, m2, c2⟩ (wo g.mem p) ∧ Fl wx R vi ⟨A3, m3, c3⟩ (wo g.inv p) ∧ Below w.heap.size w wx))
        case first =>
          have HDk : Hid (Below w0.heap.size w0 w0.drew) := (Below.refl _ _).drew
          refine wp_region_held_drew (S := fun _ => True) (by kernel_rfl) trivial (fun hHeld => ?_)
          obtain ⟨Wk0, hW0⟩ : ∃ W0, W0 = w0.drew := ⟨_, rfl⟩
          rw [← hW0] at HDk ⊢
          clear hW0
          refine wpAnyH_take (i := 0) (oi := ?oi0k) (v := ?v0k) ?hi0k ?hs0k ?hf0k ?hr0k ?hQ0k ?hy0k ?hS0k ?h0k
          case hi0k => exact (by simp only [List.getElem?_toArray, List.getElem?_cons_zero]; rfl)
          case hs0k => kernel_rfl
          case hf0k => kernel_rfl
          case hr0k => kernel_rfl
          case hQ0k => exact fun _ _ _ h => h
          case hy0k =>
            refine Or.inl ⟨rfl, ?_⟩
            intro W hSw
            go_simp
            try with_reducible rfl
          case hS0k => assumption
          try simp only [Act.put, List.setIfInBounds_toArray, List.set_cons_zero, List.set_cons_succ]
          refine wpAnyH_take (i := 2) (oi := ?oi2k) (v := ?v2k) ?hi2k ?hs2k ?hf2k ?hr2k ?hQ2k ?hy2k ?hS2k ?h2k
          case hi2k => exact (by simp only [List.getElem?_toArray, List.getElem?_cons_succ, List.getElem?_cons_zero]; rfl)
          case hs2k => kernel_rfl
          case hf2k => kernel_rfl
          case hr2k => kernel_rfl
          case hQ2k => exact fun _ _ _ h => h
          case hy2k =>
            refine Or.inl ⟨rfl, ?_⟩
            intro W hSw
            go_simp
            try with_reducible rfl
          case hS2k => assumption
          try simp only [Act.put, List.setIfInBounds_toArray, List.set_cons_zero, List.set_cons_succ]
          refine wpAnyH_take (i := 4) (oi := ?oi4k) (v := ?v4k) ?hi4k ?hs4k ?hf4k ?hr4k ?hQ4k ?hy4k ?hS4k ?h4k
          case hi4k => exact (by simp only [List.getElem?_toArray, List.getElem?_cons_succ, List.getElem?_cons_zero]; rfl)
          case hs4k => kernel_rfl
          case hf4k => kernel_rfl
          case hr4k => kernel_rfl
          case hQ4k => exact fun _ _ _ h => h
          case hy4k =>
            refine Or.inl ⟨rfl, ?_⟩
            intro W hSw
            go_simp
            try with_reducible rfl
          case hS4k => assumption
          try simp only [Act.put, List.setIfInBounds_toArray, List.set_cons_zero, List.set_cons_succ]
          refine wpAnyH_take (i := 6) (oi := ?oi6k) (v := ?v6k) ?hi6k ?hs6k ?hf6k ?hr6k ?hQ6k ?hy6k ?hS6k ?h6k
          case hi6k => exact (by simp only [List.getElem?_toArray, List.getElem?_cons_succ, List.getElem?_cons_zero]; rfl)
          case hs6k => kernel_rfl
          case hf6k => kernel_rfl
          case hr6k => kernel_rfl
          case hQ6k => exact fun _ _ _ h => h
          case hy6k =>
            refine Or.inl ⟨rfl, ?_⟩
            intro W hSw
            go_simp
            try with_reducible rfl
          case hS6k => assumption
          try simp only [Act.put, List.setIfInBounds_toArray, List.set_cons_zero, List.set_cons_succ]
          refine wpAnyH_ready (rs := [1, 5]) (by kernel_rfl) (by simp) ?_
          refine AllReadyH.cons (o := _) rfl (fun K hK => ?_) (AllReadyH.cons (o := _) rfl (fun K hK => ?_) AllReadyH.nil)
          · have hqr := HGR.out Wk0 HDk.out
            have x1 := cell_of_row _ G 2 _ _ _ hqr
            simp at x1
            go_simp
            clear x1 hqr
            refine hK.out _ _ trivial (fun hHeld => ?_)
            clear hK K
            try simp only [Act.put, List.setIfInBounds_toArray, List.set_cons_zero, List.set_cons_succ]
            refine wpAnyH_ready (rs := [3, 5]) (by kernel_rfl) (by simp) ?_
            refine AllReadyH.cons (o := _) rfl (fun K hK => ?_) (AllReadyH.cons (o := _) rfl (fun K hK => ?_) AllReadyH.nil)
            · go_simp
              refine (HC3.out Wk0 HDk.out).mono ?_
              rintro r Wa1 ⟨A2, c2, rfl, f2, hbq⟩
              have HBWa1 := Lib.hid (HDk.out.trans (hbq.mono HDk.out.size))
              have F2 := Lib.hid f2
              clear f2 hbq
              refine hK.out _ _ trivial (fun hHeld => ?_)
              clear hK K
              try simp only [Act.put, List.setIfInBounds_toArray, List.set_cons_zero, List.set_cons_succ]
              refine wpAnyH_ready (rs := [5]) (by kernel_rfl) (by simp) ?_
              refine AllReadyH.cons (o := _) rfl (fun K hK => ?_) AllReadyH.nil
              have hqr := HGR.out Wa1 HBWa1.out
              have x1 := cell_of_row _ G 3 _ _ _ hqr
              simp at x1
              go_simp
              clear x1 hqr
              refine hK.out _ _ trivial (fun hHeld => ?_)
              clear hK K
              try simp only [Act.put, List.setIfInBounds_toArray, List.set_cons_zero, List.set_cons_succ]
              refine wpAnyH_take (i := 8) (oi := ?oi8ka) (v := ?v8ka) ?hi8ka ?hs8ka ?hf8ka ?hr8ka ?hQ8ka ?hy8ka ?hS8ka ?h8ka
              case hi8ka => exact (by simp only [List.getElem?_toArray, List.getElem?_cons_succ, List.getElem?_cons_zero]; rfl)
              case hs8ka => kernel_rfl
              case hf8ka => kernel_rfl
              case hr8ka => kernel_rfl
              case hQ8ka => exact fun _ _ _ h => h
              case hy8ka =>
                refine Or.inl ⟨rfl, ?_⟩
                intro W hSw
                go_simp
                try with_reducible rfl
              case hS8ka => assumption
              try simp only [Act.put, List.setIfInBounds_toArray, List.set_cons_zero, List.set_cons_succ]
              refine wpAnyH_ready (rs := [7]) (by kernel_rfl) (by simp) ?_
              refine AllReadyH.cons (o := _) rfl (fun K hK => ?_) AllReadyH.nil
              go_simp
              refine (HC7.out Wa1 HBWa1.out).mono ?_
              rintro r Wa2 ⟨A3, c3, rfl, f3, hbq⟩
              have HBWa2 := Lib.hid (HBWa1.out.trans (hbq.mono HBWa1.out.size))
              have F3 := Lib.hid f3
              have F2b := Lib.hid (F2.out.after hbq)
              clear f3 hbq
              refine hK.out _ _ trivial (fun hHeld => ?_)
              clear hK K
              try simp only [Act.put, List.setIfInBounds_toArray, List.set_cons_zero, List.set_cons_succ]
              refine wpAnyH_ready (rs := [9]) (by kernel_rfl) (by simp) ?_
              refine AllReadyH.cons (o := _) rfl (fun K hK => ?_) AllReadyH.nil
              have hqr := HGR.out Wa2 HBWa2.out
              have x1 := cell_of_row _ G 2 _ _ _ hqr
              simp at x1
              have xf : ∀ i, Wa2.frozen? ⟨G, i, none⟩ = false := fun i => frozen_of_row _ _ i _ _ hqr
              go_simp
              clear x1 xf
              obtain ⟨W8, hW8⟩ : ∃ W8, W8 = Wa2.setCell ⟨G, 2, none⟩ (.slice A2 m2 c2) := ⟨_, rfl⟩
              have HQ8 : Hid (W8.heap[G]? = some (.cells #[.int .u32 (gi : Int), .int .u32 (gl : Int), .slice A2 m2 c2, .slice v.a v.n v.c] 124 (0, 0))) := by rw [hW8]; exact heap_setCell_same _ G 2 _ 124 _ hqr
              have HO8 : Hid (∀ g, g ≠ G → W8.heap[g]? = Wa2.heap[g]?) := fun g hg => by rw [hW8]; exact Below.heap_setCell _ _ _ _ hg
              have HB8 : Hid (Below w.heap.size w W8) := by rw [hW8]; exact (HB0.out.trans (HBWa2.out.mono HB0.out.size)).setCell HGW.out _
              rw [← hW8]
              clear hW8
              refine hK.out _ _ trivial (fun hHeld => ?_)
              clear hK K
              try simp only [Act.put, List.setIfInBounds_toArray, List.set_cons_zero, List.set_cons_succ]
              refine wpAnyH_take (i := 10) (oi := ?oi10ka) (v := ?v10ka) ?hi10ka ?hs10ka ?hf10ka ?hr10ka ?hQ10ka ?hy10ka ?hS10ka ?h10ka
              case hi10ka => exact (by simp only [List.getElem?_toArray, List.getElem?_cons_succ, List.getElem?_cons_zero]; rfl)
              case hs10ka => kernel_rfl
              case hf10ka => kernel_rfl
              case hr10ka => kernel_rfl
              case hQ10ka => exact fun _ _ _ h => h
              case hy10ka =>
                refine Or.inl ⟨rfl, ?_⟩
                intro W hSw
                go_simp
                try with_reducible rfl
              case hS10ka => assumption
              try simp only [Act.put, List.setIfInBounds_toArray, List.set_cons_zero, List.set_cons_succ]
              refine wpAnyH_ready (rs := [11]) (by kernel_rfl) (by simp) ?_
              refine AllReadyH.cons (o := _) rfl (fun K hK => ?_) AllReadyH.nil
              have hq8 := HQ8.out
              have x1 := cell_of_row _ G 3 _ _ _ hq8
              simp at x1
              have xf : ∀ i, W8.frozen? ⟨G, i, none⟩ = false := fun i => frozen_of_row _ _ i _ _ hq8
              go_simp
              clear x1 xf
              obtain ⟨W9, hW9⟩ : ∃ W9, W9 = W8.setCell ⟨G, 3, none⟩ (.slice A3 m3 c3) := ⟨_, rfl⟩
              have HQ9 : Hid (W9.heap[G]? = some (.cells #[.int .u32 (gi : Int), .int .u32 (gl : Int), .slice A2 m2 c2, .slice A3 m3 c3] 124 (0, 0))) := by rw [hW9]; exact heap_setCell_same _ G 3 _ 124 _ hq8
              have HO9 : Hid (∀ g, g ≠ G → W9.heap[g]? = Wa2.heap[g]?) := fun g hg => by rw [hW9]; exact (Below.heap_setCell _ _ _ _ hg).trans (HO8.out g hg)
              have HB9 : Hid (Below w.heap.size w W9) := by rw [hW9]; exact HB8.out.setCell HGW.out _
              have hnn := drow hqr
              have HREL : Hid (W9.heap[G]? = some (.cells #[.int .u32 (gi : Int), .int .u32 (gl : Int), .slice A2 m2 c2, .slice A3 m3 c3] 124 (0, 0)) ∧ Fl W9 R vi ⟨A2, m2, c2⟩ (wo g.mem p) ∧ Fl W9 R vi ⟨A3, m3, c3⟩ (wo g.inv p) ∧ Below w.heap.size w W9) := ⟨HQ9.out, fl_oth F2b.out HO9.out hnn, fl_oth F3.out HO9.out hnn, HB9.out⟩
              rw [← hW9]
              clear hW9 hqr hq8 hnn
              refine hK.out _ _ trivial (fun hHeld => ?_)
              clear hK K
              try simp only [Act.put, List.setIfInBounds_toArray, List.set_cons_zero, List.set_cons_succ]
              refine wpAnyH_done (by kernel_rfl) ?_ _
              go_wp2_with fail
              go_meet
              case rel => exact ⟨_, _, _, _, HREL⟩
            · have hqr := HGR.out Wk0 HDk.out
              have x1 := cell_of_row _ G 3 _ _ _ hqr
              simp at x1
              go_simp
              clear x1 hqr
              refine hK.out _ _ trivial (fun hHeld => ?_)
              clear hK K
              try simp only [Act.put, List.setIfInBounds_toArray, List.set_cons_zero, List.set_cons_succ]
              refine wpAnyH_ready (rs := [3]) (by kernel_rfl) (by simp) ?_
              refine AllReadyH.cons (o := _) rfl (fun K hK => ?_) AllReadyH.nil
              go_simp
              refine (HC3.out Wk0 HDk.out).mono ?_
              rintro r Wb1 ⟨A2, c2, rfl, f2, hbq⟩
              have HBWb1 := Lib.hid (HDk.out.trans (hbq.mono HDk.out.size))
              have F2 := Lib.hid f2
              clear f2 hbq
              refine hK.out _ _ trivial (fun hHeld => ?_)
              clear hK K
              try simp only [Act.put, List.setIfInBounds_toArray, List.set_cons_zero, List.set_cons_succ]
              refine wpAnyH_take (i := 8) (oi := ?oi8kb) (v := ?v8kb) ?hi8kb ?hs8kb ?hf8kb ?hr8kb ?hQ8kb ?hy8kb ?hS8kb ?h8kb
              case hi8kb => exact (by simp only [List.getElem?_toArray, List.getElem?_cons_succ, List.getElem?_cons_zero]; rfl)
              case hs8kb => kernel_rfl
              case hf8kb => kernel_rfl
              case hr8kb => kernel_rfl
              case hQ8kb => exact fun _ _ _ h => h
              case hy8kb =>
                refine Or.inl ⟨rfl, ?_⟩
                intro W hSw
                go_simp
                try with_reducible rfl
              case hS8kb => assumption
              try simp only [Act.put, List.setIfInBounds_toArray, List.set_cons_zero, List.set_cons_succ]
              refine wpAnyH_ready (rs := [7]) (by kernel_rfl) (by simp) ?_
              refine AllReadyH.cons (o := _) rfl (fun K hK => ?_) AllReadyH.nil
              go_simp
              refine (HC7.out Wb1 HBWb1.out).mono ?_
              rintro r Wb2 ⟨A3, c3, rfl, f3, hbq⟩
              have HBWb2 := Lib.hid (HBWb1.out.trans (hbq.mono HBWb1.out.size))
              have F3 := Lib.hid f3
              have F2b := Lib.hid (F2.out.after hbq)
              clear f3 hbq
              refine hK.out _ _ trivial (fun hHeld => ?_)
              clear hK K
              try simp only [Act.put, List.setIfInBounds_toArray, List.set_cons_zero, List.set_cons_succ]
              refine wpAnyH_ready (rs := [9]) (by kernel_rfl) (by simp) ?_
              refine AllReadyH.cons (o := _) rfl (fun K hK => ?_) AllReadyH.nil
              have hqr := HGR.out Wb2 HBWb2.out
              have x1 := cell_of_row _ G 2 _ _ _ hqr
              simp at x1
              have xf : ∀ i, Wb2.frozen? ⟨G, i, none⟩ = false := fun i => frozen_of_row _ _ i _ _ hqr
              go_simp
              clear x1 xf
              obtain ⟨W8, hW8⟩ : ∃ W8, W8 = Wb2.setCell ⟨G, 2, none⟩ (.slice A2 m2 c2) := ⟨_, rfl⟩
              have HQ8 : Hid (W8.heap[G]? = some (.cells #[.int .u32 (gi : Int), .int .u32 (gl : Int), .slice A2 m2 c2, .slice v.a v.n v.c] 124 (0, 0))) := by rw [hW8]; exact heap_setCell_same _ G 2 _ 124 _ hqr
              have HO8 : Hid (∀ g, g ≠ G → W8.heap[g]? = Wb2.heap[g]?) := fun g hg => by rw [hW8]; exact Below.heap_setCell _ _ _ _ hg
              have HB8 : Hid (Below w.heap.size w W8) := by rw [hW8]; exact (HB0.out.trans (HBWb2.out.mono HB0.out.size)).setCell HGW.out _
              rw [← hW8]
              clear hW8
              refine hK.out _ _ trivial (fun hHeld => ?_)
              clear hK K
              try simp only [Act.put, List.setIfInBounds_toArray, List.set_cons_zero, List.set_cons_succ]
              refine wpAnyH_take (i := 10) (oi := ?oi10kb) (v := ?v10kb) ?hi10kb ?hs10kb ?hf10kb ?hr10kb ?hQ10kb ?hy10kb ?hS10kb ?h10kb
              case hi10kb => exact (by simp only [List.getElem?_toArray, List.getElem?_cons_succ, List.getElem?_cons_zero]; rfl)
              case hs10kb => kernel_rfl
              case hf10kb => kernel_rfl
              case hr10kb => kernel_rfl
              case hQ10kb => exact fun _ _ _ h => h
              case hy10kb =>
                refine Or.inl ⟨rfl, ?_⟩
                intro W hSw
                go_simp
                try with_reducible rfl
              case hS10kb => assumption
              try simp only [Act.put, List.setIfInBounds_toArray, List.set_cons_zero, List.set_cons_succ]
              refine wpAnyH_ready (rs := [11]) (by kernel_rfl) (by simp) ?_
              refine AllReadyH.cons (o := _) rfl (fun K hK => ?_) AllReadyH.nil
              have hq8 := HQ8.out
              have x1 := cell_of_row _ G 3 _ _ _ hq8
              simp at x1
              have xf : ∀ i, W8.frozen? ⟨G, i, none⟩ = false := fun i => frozen_of_row _ _ i _ _ hq8
              go_simp
              clear x1 xf
              obtain ⟨W9, hW9⟩ : ∃ W9, W9 = W8.setCell ⟨G, 3, none⟩ (.slice A3 m3 c3) := ⟨_, rfl⟩
              have HQ9 : Hid (W9.heap[G]? = some (.cells #[.int .u32 (gi : Int), .int .u32 (gl : Int), .slice A2 m2 c2, .slice A3 m3 c3] 124 (0, 0))) := by rw [hW9]; exact heap_setCell_same _ G 3 _ 124 _ hq8
              have HO9 : Hid (∀ g, g ≠ G → W9.heap[g]? = Wb2.heap[g]?) := fun g hg => by rw [hW9]; exact (Below.heap_setCell _ _ _ _ hg).trans (HO8.out g hg)
              have HB9 : Hid (Below w.heap.size w W9) := by rw [hW9]; exact HB8.out.setCell HGW.out _
              have hnn := drow hqr
              have HREL : Hid (W9.heap[G]? = some (.cells #[.int .u32 (gi : Int), .int .u32 (gl : Int), .slice A2 m2 c2, .slice A3 m3 c3] 124 (0, 0)) ∧ Fl W9 R vi ⟨A2, m2, c2⟩ (wo g.mem p) ∧ Fl W9 R vi ⟨A3, m3, c3⟩ (wo g.inv p) ∧ Below w.heap.size w W9) := ⟨HQ9.out, fl_oth F2b.out HO9.out hnn, fl_oth F3.out HO9.out hnn, HB9.out⟩
              rw [← hW9]
              clear hW9 hqr hq8 hnn
              refine hK.out _ _ trivial (fun hHeld => ?_)
              clear hK K
              try simp only [Act.put, List.setIfInBounds_toArray, List.set_cons_zero, List.set_cons_succ]
              refine wpAnyH_done (by kernel_rfl) ?_ _
              go_wp2_with fail
              go_meet
              case rel => exact ⟨_, _, _, _, HREL⟩
          · have hqr := HGR.out Wk0 HDk.out
            have x1 := cell_of_row _ G 3 _ _ _ hqr
            simp at x1
            go_simp
            clear x1 hqr
            refine hK.out _ _ trivial (fun hHeld => ?_)
            clear hK K
            try simp only [Act.put, List.setIfInBounds_toArray, List.set_cons_zero, List.set_cons_succ]
            refine wpAnyH_ready (rs := [1]) (by kernel_rfl) (by simp) ?_
            refine AllReadyH.cons (o := _) rfl (fun K hK => ?_) AllReadyH.nil
            have hqr := HGR.out Wk0 HDk.out
            have x1 := cell_of_row _ G 2 _ _ _ hqr
            simp at x1
            go_simp
            clear x1 hqr
            refine hK.out _ _ trivial (fun hHeld => ?_)
            clear hK K
            try simp only [Act.put, List.setIfInBounds_toArray, List.set_cons_zero, List.set_cons_succ]
            refine wpAnyH_ready (rs := [3]) (by kernel_rfl) (by simp) ?_
            refine AllReadyH.cons (o := _) rfl (fun K hK => ?_) AllReadyH.nil
            go_simp
            refine (HC3.out Wk0 HDk.out).mono ?_
            rintro r Wc1 ⟨A2, c2, rfl, f2, hbq⟩
            have HBWc1 := Lib.hid (HDk.out.trans (hbq.mono HDk.out.size))
            have F2 := Lib.hid f2
            clear f2 hbq
            refine hK.out _ _ trivial (fun hHeld => ?_)
            clear hK K
            try simp only [Act.put, List.setIfInBounds_toArray, List.set_cons_zero, List.set_cons_succ]
            refine wpAnyH_take (i := 8) (oi := ?oi8kc) (v := ?v8kc) ?hi8kc ?hs8kc ?hf8kc ?hr8kc ?hQ8kc ?hy8kc ?hS8kc ?h8kc
            case hi8kc => exact (by simp only [List.getElem?_toArray, List.getElem?_cons_succ, List.getElem?_cons_zero]; rfl)
            case hs8kc => kernel_rfl
            case hf8kc => kernel_rfl
            case hr8kc => kernel_rfl
            case hQ8kc => exact fun _ _ _ h => h
            case hy8kc =>
              refine Or.inl ⟨rfl, ?_⟩
              intro W hSw
              go_simp
              try with_reducible rfl
            case hS8kc => assumption
            try simp only [Act.put, List.setIfInBounds_toArray, List.set_cons_zero, List.set_cons_succ]
            refine wpAnyH_ready (rs := [7]) (by kernel_rfl) (by simp) ?_
            refine AllReadyH.cons (o := _) rfl (fun K hK => ?_) AllReadyH.nil
            go_simp
            refine (HC7.out Wc1 HBWc1.out).mono ?_
            rintro r Wc2 ⟨A3, c3, rfl, f3, hbq⟩
            have HBWc2 := Lib.hid (HBWc1.out.trans (hbq.mono HBWc1.out.size))
            have F3 := Lib.hid f3
            have F2b := Lib.hid (F2.out.after hbq)
            clear f3 hbq
            refine hK.out _ _ trivial (fun hHeld => ?_)
            clear hK K
            try simp only [Act.put, List.setIfInBounds_toArray, List.set_cons_zero, List.set_cons_succ]
            refine wpAnyH_ready (rs := [9]) (by kernel_rfl) (by simp) ?_
            refine AllReadyH.cons (o := _) rfl (fun K hK => ?_) AllReadyH.nil
            have hqr := HGR.out Wc2 HBWc2.out
            have x1 := cell_of_row _ G 2 _ _ _ hqr
            simp at x1
            have xf : ∀ i, Wc2.frozen? ⟨G, i, none⟩ = false := fun i => frozen_of_row _ _ i _ _ hqr
            go_simp
            clear x1 xf
            obtain ⟨W8, hW8⟩ : ∃ W8, W8 = Wc2.setCell ⟨G, 2, none⟩ (.slice A2 m2 c2) := ⟨_, rfl⟩
            have HQ8 : Hid (W8.heap[G]? = some (.cells #[.int .u32 (gi : Int), .int .u32 (gl : Int), .slice A2 m2 c2, .slice v.a v.n v.c] 124 (0, 0))) := by rw [hW8]; exact heap_setCell_same _ G 2 _ 124 _ hqr
            have HO8 : Hid (∀ g, g ≠ G → W8.heap[g]? = Wc2.heap[g]?) := fun g hg => by rw [hW8]; exact Below.heap_setCell _ _ _ _ hg
            have HB8 : Hid (Below w.heap.size w W8) := by rw [hW8]; exact (HB0.out.trans (HBWc2.out.mono HB0.out.size)).setCell HGW.out _
            rw [← hW8]
            clear hW8
            refine hK.out _ _ trivial (fun hHeld => ?_)
            clear hK K
            try simp only [Act.put, List.setIfInBounds_toArray, List.set_cons_zero, List.set_cons_succ]
            refine wpAnyH_take (i := 10) (oi := ?oi10kc) (v := ?v10kc) ?hi10kc ?hs10kc ?hf10kc ?hr10kc ?hQ10kc ?hy10kc ?hS10kc ?h10kc
            case hi10kc => exact (by simp only [List.getElem?_toArray, List.getElem?_cons_succ, List.getElem?_cons_zero]; rfl)
            case hs10kc => kernel_rfl
            case hf10kc => kernel_rfl
            case hr10kc => kernel_rfl
            case hQ10kc => exact fun _ _ _ h => h
            case hy10kc =>
              refine Or.inl ⟨rfl, ?_⟩
              intro W hSw
              go_simp
              try with_reducible rfl
            case hS10kc => assumption
            try simp only [Act.put, List.setIfInBounds_toArray, List.set_cons_zero, List.set_cons_succ]
            refine wpAnyH_ready (rs := [11]) (by kernel_rfl) (by simp) ?_
            refine AllReadyH.cons (o := _) rfl (fun K hK => ?_) AllReadyH.nil
            have hq8 := HQ8.out
            have x1 := cell_of_row _ G 3 _ _ _ hq8
            simp at x1
            have xf : ∀ i, W8.frozen? ⟨G, i, none⟩ = false := fun i => frozen_of_row _ _ i _ _ hq8
            go_simp
            clear x1 xf
            obtain ⟨W9, hW9⟩ : ∃ W9, W9 = W8.setCell ⟨G, 3, none⟩ (.slice A3 m3 c3) := ⟨_, rfl⟩
            have HQ9 : Hid (W9.heap[G]? = some (.cells #[.int .u32 (gi : Int), .int .u32 (gl : Int), .slice A2 m2 c2, .slice A3 m3 c3] 124 (0, 0))) := by rw [hW9]; exact heap_setCell_same _ G 3 _ 124 _ hq8
            have HO9 : Hid (∀ g, g ≠ G → W9.heap[g]? = Wc2.heap[g]?) := fun g hg => by rw [hW9]; exact (Below.heap_setCell _ _ _ _ hg).trans (HO8.out g hg)
            have HB9 : Hid (Below w.heap.size w W9) := by rw [hW9]; exact HB8.out.setCell HGW.out _
            have hnn := drow hqr
            have HREL : Hid (W9.heap[G]? = some (.cells #[.int .u32 (gi : Int), .int .u32 (gl : Int), .slice A2 m2 c2, .slice A3 m3 c3] 124 (0, 0)) ∧ Fl W9 R vi ⟨A2, m2, c2⟩ (wo g.mem p) ∧ Fl W9 R vi ⟨A3, m3, c3⟩ (wo g.inv p) ∧ Below w.heap.size w W9) := ⟨HQ9.out, fl_oth F2b.out HO9.out hnn, fl_oth F3.out HO9.out hnn, HB9.out⟩
            rw [← hW9]
            clear hW9 hqr hq8 hnn
            refine hK.out _ _ trivial (fun hHeld => ?_)
            clear hK K
            try simp only [Act.put, List.setIfInBounds_toArray, List.set_cons_zero, List.set_cons_succ]
            refine wpAnyH_done (by kernel_rfl) ?_ _
            go_wp2_with fail
            go_meet
            case rel => exact ⟨_, _, _, _, HREL⟩
        case rest =>
          obtain ⟨A2, A3, c2, c3, HR⟩ := hcut
          rename World => w5
          have hq5 := HR.out.1
          have x0 := cell_of_row _ G 0 _ _ _ hq5
          have x1 := cell_of_row _ G 1 _ _ _ hq5
          have x2 := cell_of_row _ G 2 _ _ _ hq5
          have x3 := cell_of_row _ G 3 _ _ _ hq5
          simp at x0 x1 x2 x3
          have HPT : Hid (Calls Try.prog 119 #[.slice A n c, .agg #[.int .u32 (gi : Int), .int .u32 (gl : Int), .slice A2 m2 c2, .slice A3 m3 c3]] w5 fun r w' => DPutP R vi (putS L (cut g p)) t w5 r w') := by
            have hh := dput_any R vi A n c L ⟨gi, gl, wo g.mem p, wo g.inv p⟩ (⟨A2, m2, c2⟩) (⟨A3, m3, c3⟩) w5 (HD.out.ctx.size (HR.out.2.2.2).size) HD.out.n (HD.out.dr.after HR.out.2.2.2) HL.out HI.out.ris HR.out.2.1 HR.out.2.2.1 (by show (wo g.mem p).length ≤ 100 ∧ (wo g.inv p).length ≤ 100; have h1 := HK.out.four; have h2 := wo_len g.mem p; have h3 := wo_len g.inv p; (try simp only [List.length_append, List.length_cons, List.length_nil]); omega)
            dsimp only at hh
            rw [HEQ.out, ← HT.out] at hh
            exact hh
          have HBW := Lib.hid (HR.out.2.2.2)
          clear hq5
          go_wp2_with fail
          refine HPT.out.mono ?_
          rintro r w9 ⟨A9, n9, c9, rfl, hn9, hd9, hb9⟩
          have HFIN : Hid (DP2 R vi (putS L (cut g p), t, 0) w (.returned (.tuple #[.slice A9 n9 c9, .bool t, .int .i64 0])) w9) := ⟨_, _, _, rfl, ⟨hn9, hd9, (HD.out.ctx.size HBW.out.size).size hb9.size⟩, HBW.out.trans (hb9.mono HBW.out.size)⟩
          clear hn9 hd9 hb9
          go_wp2
          exact bodyPost_ret (v := .tuple #[.slice A9 n9 c9, .bool t, .int .i64 0]) (by simp [results, Try.results57, go_sem]) rfl HFIN.out
    · have e : kickS L a p = (L, false, 13) := by unfold kickS; rw [if_neg hz, hg]; simp only; rw [if_neg hp]
      rw [e]
      have HPM : Hid (decide (p ∈ g.mem) = false ∧ decide (p ∈ g.inv) = false) := ⟨by simpa using fun hh => hp (.inl hh), by simpa using fun hh => hp (.inr hh)⟩
      clear h hI hl hg e hp hm hgi0 hgi hgl hld hap hz
      go_enter Try.func57, Try.ntmps57
      go_wp2_with fail
      refine HLD.out.mono ?_
      rintro r w1 ⟨m, v, rfl, f1, f2, hb⟩
      rw [← HGI.out.1, ← HGI.out.2]
      obtain ⟨G, hG⟩ : ∃ G, G = w1.heap.size := ⟨_, rfl⟩
      obtain ⟨w3, hw3⟩ : ∃ W, W = w1.alloc (.cells #[.int .u32 (gi : Int), .int .u32 (gl : Int), .slice m.a m.n m.c, .slice v.a v.n v.c] 124) := ⟨_, rfl⟩
      have hq : w3.heap[G]? = some (.cells #[.int .u32 (gi : Int), .int .u32 (gl : Int), .slice m.a m.n m.c, .slice v.a v.n v.c] 124 (0, 0)) := by rw [hw3, hG]; exact heap_alloc_new w1 _
      have hb3 : Below w1.heap.size w1 w3 := by rw [hw3]; exact (Below.refl _ _).alloc (Nat.le_refl _) _
      have z0 := cell_of_row _ G 0 _ _ _ hq
      have z1 := cell_of_row _ G 1 _ _ _ hq
      have z2 := cell_of_row _ G 2 _ _ _ hq
      have z3 := cell_of_row _ G 3 _ _ _ hq
      simp at z0 z1 z2 z3
      have HW3 : Hid (Below w.heap.size w w3 ∧ Fl w3 R vi m g.mem ∧ Fl w3 R vi v g.inv ∧ w3.heap[G]? = some (.cells #[.int .u32 (gi : Int), .int .u32 (gl : Int), .slice m.a m.n m.c, .slice v.a v.n v.c] 124 (0, 0))) := ⟨hb.trans (hb3.mono hb.size), f1.after hb3, f2.after hb3, hq⟩
      have HGW : Hid (w.heap.size ≤ G) := by have := hb.size; simp only [Hid]; omega
      have H3 := Lib.hid hw3
      have HGG := Lib.hid hG
      clear hw3 hG hq hb3 hb f1 f2
      have HH := Lib.hid (has_any m.a m.n m.c g.mem p w3 HW3.out.2.1.1 HW3.out.2.1.rn (by have := HK.out.four; have := HW3.out.2.1.1; omega))
      have HH2 := Lib.hid (has_any v.a v.n v.c g.inv p w3 HW3.out.2.2.1.1 HW3.out.2.2.1.rn (by have := HK.out.four; have := HW3.out.2.2.1.1; omega))
      rw [HPM.out.1] at HH
      rw [HPM.out.2] at HH2
      go_upto_region 2 with (fail)
      rw [← H3.out, ← HGG.out]
      go_wp2_with fail
      refine HH.out.mono ?_
      rintro r wq ⟨rfl, hw⟩
      have hw := hw.symm
      subst hw
      go_wp2_with fail
      refine HH2.out.mono ?_
      rintro r wq ⟨rfl, hw⟩
      have hw := hw.symm
      subst hw
      have HFIN : Hid (DP2 R vi (L, false, 13) w (.returned (.tuple #[.slice A n c, .bool false, .int .i64 13])) w3) := ⟨_, _, _, rfl, HD.out.after HW3.out.1, HW3.out.1⟩
      go_wp2
      exact bodyPost_ret (v := .tuple #[.slice A n c, .bool false, .int .i64 13]) (by simp [results, Try.results57, go_sem]) rfl HFIN.out
end Go.Proofs.Ytjlpmdokmfmdiaa.P
