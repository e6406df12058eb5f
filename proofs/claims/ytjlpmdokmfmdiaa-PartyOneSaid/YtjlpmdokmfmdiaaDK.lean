/- Party: the document's invite. -/
import Derived.Test.YtjlpmdokmfmdiaaDJ
namespace Go.Proofs.Ytjlpmdokmfmdiaa.P
open Go.RowKit
set_option maxRecDepth 20000
set_option linter.unusedVariables false
set_option linter.unusedSimpArgs false
set_option maxHeartbeats 16000000 in
theorem dinvite_any (R : Nat) (vi : Value) (A : Option Addr) (n c : Nat) (L : List Pt) (most : Int) (a p : Nat) (w : World) (h : Dd w R vi A n L) (hI : Inv L) (hl : n ≤ 100) :
    Calls Try.prog 53 #[.slice A n c, .int .i64 most, .int .u32 (a : Int), .int .u32 (p : Int)] w fun r w' => DP4 R vi (inviteS most L a p) w r w' := by
  have HD := Lib.hid h
  have HI := Lib.hid hI
  have HL := Lib.hid hl
  by_cases ha : okI a
  · have HRA := Lib.hid (dright_t a w ha)
    by_cases hp : okI p
    · have HRB := Lib.hid (dright_t p w hp)
      by_cases hap : a = p
      · have e : inviteS most L a p = (L, 0, 16) := by unfold inviteS; rw [if_neg (by simp [ha, hp]), if_pos hap]
        rw [e]
        subst hap
        have HFIN : Hid (DP4 R vi (L, 0, 16) w (.returned (.tuple #[.slice A n c, .int .u32 0, .int .i64 16])) w) := ⟨_, _, _, rfl, HD.out.after (Below.refl _ _), (Below.refl _ _)⟩
        clear h hI hl e ha hp
        go_enter Try.func53, Try.ntmps53
        go_wp2_with fail
        refine HRA.out.mono ?_
        rintro r wq ⟨rfl, hw⟩
        have hw := hw.symm
        subst hw
        go_wp2_with fail
        refine HRB.out.mono ?_
        rintro r wq ⟨rfl, hw⟩
        have hw := hw.symm
        subst hw
        go_wp2
        exact bodyPost_ret (v := .tuple #[.slice A n c, .int .u32 0, .int .i64 16]) (by simp [results, Try.results53, go_sem]) rfl HFIN.out
      · have hap' : ¬ ((a : Int) = (p : Int)) := by omega
        have HOF := Lib.hid (dof_any R vi A n c L a w h.n h.dr hl (fun e he => by have := (hI.each e he).four; omega))
        obtain ⟨x, hx⟩ : ∃ x, x = ofP L a := ⟨_, rfl⟩
        rw [← hx] at HOF
        have e0 : inviteS most L a p = match getP L x with
          | none => if most ≤ (L.length : Int) then (L, 0, 10) else (insL L ⟨lst L, a, [a], [p]⟩, lst L, 0)
          | some g => if g.ld ≠ a then (L, 0, 18) else if p ∈ g.mem ∨ p ∈ g.inv then (L, 0, 11) else if 4 ≤ g.mem.length + g.inv.length then (L, 0, 21) else (insL L { g with inv := g.inv ++ [p] }, g.id, 0) := by
          unfold inviteS
          rw [if_neg (by simp [ha, hp]), if_neg hap, hx]
          cases getP L (ofP L a) <;> rfl
        rw [e0]
        clear e0
        cases hg : getP L x with
        | none =>
          simp only
          exact dinvite_none R vi A n c L most a p w h hI hl ha hp hap (by rw [← hx]; exact hg)
        | some g =>
          obtain ⟨hm, hix⟩ := get_some hg
          simp only
          have HK := Lib.hid (hI.each g hm)
          have HG := Lib.hid (dget_some R vi A n c L x g w h.n h.dr hl hg)
          obtain ⟨gi, hgi⟩ : ∃ z, z = g.id := ⟨_, rfl⟩
          obtain ⟨gl, hgl⟩ : ∃ z, z = g.ld := ⟨_, rfl⟩
          have HGI : Hid (gi = g.id ∧ gl = g.ld) := ⟨hgi, hgl⟩
          by_cases hld : g.ld = a
          · rw [if_neg (by simpa using hld)]
            obtain rfl : gl = a := by rw [hgl]; exact hld
            by_cases hpm : p ∈ g.mem ∨ p ∈ g.inv
            · rw [if_pos hpm]
              have HPM := Lib.hid hpm
              clear h hI hl ha hp hap hx hg hm hix hgi hgl hld hpm
              go_enter Try.func53, Try.ntmps53
              go_wp2_with fail
              refine HRA.out.mono ?_
              rintro r wq ⟨rfl, hw⟩
              have hw := hw.symm
              subst hw
              go_wp2_with fail
              refine HRB.out.mono ?_
              rintro r wq ⟨rfl, hw⟩
              have hw := hw.symm
              subst hw
              go_wp2_with fail
              refine HOF.out.mono ?_
              rintro r wq ⟨rfl, hw⟩
              have hw := hw.symm
              subst hw
              go_wp2_with fail
              refine HG.out.mono ?_
              rintro r w1 ⟨m, v, rfl, f1, f2, hb⟩
              rw [← HGI.out.1, ← HGI.out.2]
              obtain ⟨G, hG⟩ : ∃ G, G = w1.heap.size := ⟨_, rfl⟩
              obtain ⟨w3, hw3⟩ : ∃ W, W = w1.alloc (.cells #[.int .u32 (gi : Int), .int .u32 (gl : Int), .slice m.a m.n m.c, .slice v.a v.n v.c] 124) := ⟨_, rfl⟩
              have hq : w3.heap[G]? = some (.cells #[.int .u32 (gi : Int), .int .u32 (gl : Int), .slice m.a m.n m.c, .slice v.a v.n v.c] 124 (0, 0)) := by rw [hw3, hG]; exact heap_alloc_new w1 _
              have hb3 : Below w1.heap.size w1 w3 := by rw [hw3]; exact (Below.refl _ _).alloc (Nat.le_refl _) _
              have z0 := cell_of_row _ G 0 _ _ _ hq
              have z1 := cell_of_row _ G 1 _ _ _ hq
              have z2 := cell_of_row _ G 2 _ _ _ hq
              have z3 := cell_of_row _ G 3 _ _ _ hq
              simp at z0 z1 z2 z3
              have HW3 : Hid (Below w.heap.size w w3 ∧ Fl w3 R vi m g.mem ∧ Fl w3 R vi v g.inv ∧ w3.heap[G]? = some (.cells #[.int .u32 (gi : Int), .int .u32 (gl : Int), .slice m.a m.n m.c, .slice v.a v.n v.c] 124 (0, 0))) := ⟨hb.trans (hb3.mono hb.size), f1.after hb3, f2.after hb3, hq⟩
              have HGW : Hid (w.heap.size ≤ G) := by have := hb.size; simp only [Hid]; omega
              have H3 := Lib.hid hw3
              have HGG := Lib.hid hG
              clear hw3 hG hq hb3 hb f1 f2
              go_upto_region 6 with (fail)
              rw [← H3.out, ← HGG.out]
              have HH := Lib.hid (has_any m.a m.n m.c g.mem p w3 HW3.out.2.1.1 HW3.out.2.1.rn (by have := HK.out.four; have := HW3.out.2.1.1; omega))
              have HH2 := Lib.hid (has_any v.a v.n v.c g.inv p w3 HW3.out.2.2.1.1 HW3.out.2.2.1.rn (by have := HK.out.four; have := HW3.out.2.2.1.1; omega))
              have HFIN : Hid (DP4 R vi (L, 0, 11) w (.returned (.tuple #[.slice A n c, .int .u32 0, .int .i64 11])) w3) := ⟨_, _, _, rfl, HD.out.after HW3.out.1, HW3.out.1⟩
              by_cases hp1 : p ∈ g.mem
              · rw [decide_eq_true hp1] at HH
                clear hp1
                go_wp2_with fail
                refine HH.out.mono ?_
                rintro r wq ⟨rfl, hw⟩
                have hw := hw.symm
                subst hw
                go_wp2
                exact bodyPost_ret (v := .tuple #[.slice A n c, .int .u32 0, .int .i64 11]) (by simp [results, Try.results53, go_sem]) rfl HFIN.out
              · have hp2 : p ∈ g.inv := HPM.out.resolve_left hp1
                rw [decide_eq_false hp1] at HH
                rw [decide_eq_true hp2] at HH2
                clear hp1 hp2
                go_wp2_with fail
                refine HH.out.mono ?_
                rintro r wq ⟨rfl, hw⟩
                have hw := hw.symm
                subst hw
                go_wp2_with fail
                refine HH2.out.mono ?_
                rintro r wq ⟨rfl, hw⟩
                have hw := hw.symm
                subst hw
                go_wp2
                exact bodyPost_ret (v := .tuple #[.slice A n c, .int .u32 0, .int .i64 11]) (by simp [results, Try.results53, go_sem]) rfl HFIN.out
            · rw [if_neg hpm]
              have HPM : Hid (decide (p ∈ g.mem) = false ∧ decide (p ∈ g.inv) = false) := ⟨by simpa using fun hh => hpm (.inl hh), by simpa using fun hh => hpm (.inr hh)⟩
              by_cases h4 : 4 ≤ g.mem.length + g.inv.length
              · rw [if_pos h4]
                have H4 := Lib.hid h4
                clear h hI hl ha hp hap hx hg hm hix hgi hgl hld hpm h4
                go_enter Try.func53, Try.ntmps53
                go_wp2_with fail
                refine HRA.out.mono ?_
                rintro r wq ⟨rfl, hw⟩
                have hw := hw.symm
                subst hw
                go_wp2_with fail
                refine HRB.out.mono ?_
                rintro r wq ⟨rfl, hw⟩
                have hw := hw.symm
                subst hw
                go_wp2_with fail
                refine HOF.out.mono ?_
                rintro r wq ⟨rfl, hw⟩
                have hw := hw.symm
                subst hw
                go_wp2_with fail
                refine HG.out.mono ?_
                rintro r w1 ⟨m, v, rfl, f1, f2, hb⟩
                rw [← HGI.out.1, ← HGI.out.2]
                obtain ⟨G, hG⟩ : ∃ G, G = w1.heap.size := ⟨_, rfl⟩
                obtain ⟨w3, hw3⟩ : ∃ W, W = w1.alloc (.cells #[.int .u32 (gi : Int), .int .u32 (gl : Int), .slice m.a m.n m.c, .slice v.a v.n v.c] 124) := ⟨_, rfl⟩
                have hq : w3.heap[G]? = some (.cells #[.int .u32 (gi : Int), .int .u32 (gl : Int), .slice m.a m.n m.c, .slice v.a v.n v.c] 124 (0, 0)) := by rw [hw3, hG]; exact heap_alloc_new w1 _
                have hb3 : Below w1.heap.size w1 w3 := by rw [hw3]; exact (Below.refl _ _).alloc (Nat.le_refl _) _
                have z0 := cell_of_row _ G 0 _ _ _ hq
                have z1 := cell_of_row _ G 1 _ _ _ hq
                have z2 := cell_of_row _ G 2 _ _ _ hq
                have z3 := cell_of_row _ G 3 _ _ _ hq
                simp at z0 z1 z2 z3
                have HW3 : Hid (Below w.heap.size w w3 ∧ Fl w3 R vi m g.mem ∧ Fl w3 R vi v g.inv ∧ w3.heap[G]? = some (.cells #[.int .u32 (gi : Int), .int .u32 (gl : Int), .slice m.a m.n m.c, .slice v.a v.n v.c] 124 (0, 0))) := ⟨hb.trans (hb3.mono hb.size), f1.after hb3, f2.after hb3, hq⟩
                have HGW : Hid (w.heap.size ≤ G) := by have := hb.size; simp only [Hid]; omega
                have H3 := Lib.hid hw3
                have HGG := Lib.hid hG
                clear hw3 hG hq hb3 hb f1 f2
                go_upto_region 6 with (fail)
                rw [← H3.out, ← HGG.out]
                have HH := Lib.hid (has_any m.a m.n m.c g.mem p w3 HW3.out.2.1.1 HW3.out.2.1.rn (by have := HK.out.four; have := HW3.out.2.1.1; omega))
                have HH2 := Lib.hid (has_any v.a v.n v.c g.inv p w3 HW3.out.2.2.1.1 HW3.out.2.2.1.rn (by have := HK.out.four; have := HW3.out.2.2.1.1; omega))
                rw [HPM.out.1] at HH
                rw [HPM.out.2] at HH2
                have hs4 : (4 : Int) ≤ (m.n : Int) + (v.n : Int) := by have h1 := HW3.out.2.1.1; have h2 := HW3.out.2.2.1.1; have h3 := H4.out; omega
                have hmn : m.n ≤ 4 ∧ v.n ≤ 4 := by have h1 := HW3.out.2.1.1; have h2 := HW3.out.2.2.1.1; have h3 := HK.out.four; omega
                have HFIN : Hid (DP4 R vi (L, 0, 21) w (.returned (.tuple #[.slice A n c, .int .u32 0, .int .i64 21])) w3) := ⟨_, _, _, rfl, HD.out.after HW3.out.1, HW3.out.1⟩
                go_wp2_with fail
                refine HH.out.mono ?_
                rintro r wq ⟨rfl, hw⟩
                have hw := hw.symm
                subst hw
                go_wp2_with fail
                refine HH2.out.mono ?_
                rintro r wq ⟨rfl, hw⟩
                have hw := hw.symm
                subst hw
                go_wp2
                exact bodyPost_ret (v := .tuple #[.slice A n c, .int .u32 0, .int .i64 21]) (by simp [results, Try.results53, go_sem]) rfl HFIN.out
              · rw [if_neg h4]
                have H4 := Lib.hid h4
                have HEQ : Hid (putS L ⟨gi, gl, g.mem, g.inv ++ [p]⟩ = insL L { g with inv := g.inv ++ [p] }) := by simp only [Hid]; rw [hgi, hgl]; exact (inv_eq (hI.each g hm)).1
                have HTF : Hid (overB ⟨gi, gl, g.mem, g.inv ++ [p]⟩ = false) := by simp only [Hid]; rw [hgi, hgl]; exact (inv_eq (L := L) (hI.each g hm)).2
                rw [show (insL L { g with inv := g.inv ++ [p] }, g.id, (0 : Int)) = (insL L { g with inv := g.inv ++ [p] }, gi, 0) from by rw [hgi]]
                clear h hI hl ha hp hap hx hg hm hix hgi hgl hld hpm h4
                go_enter Try.func53, Try.ntmps53
                go_wp2_with fail
                refine HRA.out.mono ?_
                rintro r wq ⟨rfl, hw⟩
                have hw := hw.symm
                subst hw
                go_wp2_with fail
                refine HRB.out.mono ?_
                rintro r wq ⟨rfl, hw⟩
                have hw := hw.symm
                subst hw
                go_wp2_with fail
                refine HOF.out.mono ?_
                rintro r wq ⟨rfl, hw⟩
                have hw := hw.symm
                subst hw
                go_wp2_with fail
                refine HG.out.mono ?_
                rintro r w1 ⟨m, v, rfl, f1, f2, hb⟩
                rw [← HGI.out.1, ← HGI.out.2]
                obtain ⟨G, hG⟩ : ∃ G, G = w1.heap.size := ⟨_, rfl⟩
                obtain ⟨w3, hw3⟩ : ∃ W, W = w1.alloc (.cells #[.int .u32 (gi : Int), .int .u32 (gl : Int), .slice m.a m.n m.c, .slice v.a v.n v.c] 124) := ⟨_, rfl⟩
                have hq : w3.heap[G]? = some (.cells #[.int .u32 (gi : Int), .int .u32 (gl : Int), .slice m.a m.n m.c, .slice v.a v.n v.c] 124 (0, 0)) := by rw [hw3, hG]; exact heap_alloc_new w1 _
                have hb3 : Below w1.heap.size w1 w3 := by rw [hw3]; exact (Below.refl _ _).alloc (Nat.le_refl _) _
                have z0 := cell_of_row _ G 0 _ _ _ hq
                have z1 := cell_of_row _ G 1 _ _ _ hq
                have z2 := cell_of_row _ G 2 _ _ _ hq
                have z3 := cell_of_row _ G 3 _ _ _ hq
                simp at z0 z1 z2 z3
                have HW3 : Hid (Below w.heap.size w w3 ∧ Fl w3 R vi m g.mem ∧ Fl w3 R vi v g.inv ∧ w3.heap[G]? = some (.cells #[.int .u32 (gi : Int), .int .u32 (gl : Int), .slice m.a m.n m.c, .slice v.a v.n v.c] 124 (0, 0))) := ⟨hb.trans (hb3.mono hb.size), f1.after hb3, f2.after hb3, hq⟩
                have HGW : Hid (w.heap.size ≤ G) := by have := hb.size; simp only [Hid]; omega
                have H3 := Lib.hid hw3
                have HGG := Lib.hid hG
                clear hw3 hG hq hb3 hb f1 f2
                go_upto_region 6 with (fail)
                rw [← H3.out, ← HGG.out]
                have HH := Lib.hid (has_any m.a m.n m.c g.mem p w3 HW3.out.2.1.1 HW3.out.2.1.rn (by have := HK.out.four; have := HW3.out.2.1.1; omega))
                have HH2 := Lib.hid (has_any v.a v.n v.c g.inv p w3 HW3.out.2.2.1.1 HW3.out.2.2.1.rn (by have := HK.out.four; have := HW3.out.2.2.1.1; omega))
                rw [HPM.out.1] at HH
                rw [HPM.out.2] at HH2
                have hs4 : ¬ ((4 : Int) ≤ (m.n : Int) + (v.n : Int)) := by have h1 := HW3.out.2.1.1; have h2 := HW3.out.2.2.1.1; have h3 := H4.out; omega
                have hmn : m.n ≤ 4 ∧ v.n ≤ 4 := by have h1 := HW3.out.2.1.1; have h2 := HW3.out.2.2.1.1; have h3 := HK.out.four; omega
                go_wp2_with fail
                refine HH.out.mono ?_
                rintro r wq ⟨rfl, hw⟩
                have hw := hw.symm
                subst hw
                go_wp2_with fail
                refine HH2.out.mono ?_
                rintro r wq ⟨rfl, hw⟩
                have hw := hw.symm
                subst hw
                go_upto_region 19 with (fail)
                clear hs4 hmn
                obtain ⟨we, hwe⟩ : ∃ we, we = w3.alloc (.cells #[] 26) := ⟨_, rfl⟩
                have hbe : Below w3.heap.size w3 we := by rw [hwe]; exact (Below.refl _ _).alloc (Nat.le_refl _) _
                have hoe : we.ownsRow w3.heap.size 26 1 (.slice (some ⟨w3.heap.size, 0, none⟩) 0 0) 0 [] := ⟨rfl, .inr ⟨w3.heap.size, 0, #[], rfl, Nat.le_refl _, by rw [hwe]; exact heap_alloc_new w3 _, Nat.le_refl _, Nat.zero_le _, rfl, rfl⟩⟩
                obtain ⟨v1, w1e, hr1, ho1, hg1⟩ := app_rn we w3.heap.size 34 0 _ [] hoe v.a v.n v.c g.inv (HW3.out.2.2.1).1 (((HW3.out.2.2.1).after hbe).rn) (by have h1 := HK.out.four; have h2 := (HW3.out.2.2.1).1; omega) hbe.size
                rw [Nat.zero_add, List.nil_append] at ho1
                obtain ⟨A1e, c1e, rfl⟩ := own_form1 ho1
                have HO1 := Lib.hid ho1
                have HB1e : Hid (Below w3.heap.size w3 w1e) := hbe.grown hg1 hbe.size (fun k hk => by have e : w3.heap.size = k := Option.some.inj hk; omega)
                have HSN : Hid (v.n ≤ 4) := by have h1 := HK.out.four; have h2 := (HW3.out.2.2.1).1; simp only [Hid]; omega
                have HQS := Lib.hid HW3.out.2.2.2
                have HCS := Lib.hid (HD.out.ctx.size HW3.out.1.size)
                have ze := cell_of_row _ G 3 _ _ _ ((hbe.block _ (lt_of_block HQS.out)).trans HQS.out)
                simp at ze
                rw [hwe] at ze hr1
                clear ho1 hg1 hbe hoe hwe
                go_upto_region 20 with (first
                  | (at_builtin; refine Lib.wpList_append_run _ rfl _ _ _ _ rfl _ _ rfl rfl _ _ hr1 ?_; clear hr1 ze)
                  | (at_builtin; refine wpList_append_u32 rfl _ _ rfl w3.heap.size w1e.heap.size (.slice A1e v.n c1e) v.n _ p rfl rfl (HO1.out.alloc _) (heap_alloc_new _ _) (by have := HSN.out; omega) (by have := HB1e.out.size; simp; omega) ?_; intro v7 w7 hown7 hg7; obtain ⟨A8, c8, rfl⟩ := own_form1 hown7; have HO7 := Lib.hid hown7; have HB7 : Hid (Below w3.heap.size w3 w7) := (HB1e.out.alloc HB1e.out.size _).grown hg7 (by have := HB1e.out.size; simp; omega) (fun g h => (ownlt HO1.out g h).1); clear hown7 hg7; have y2 := cell_of_row _ G 3 _ _ _ ((HB7.out.block _ (lt_of_block HQS.out)).trans HQS.out); simp at y2; have yf : ∀ i, w7.frozen? ⟨G, i, none⟩ = false := fun i => frozen_of_row _ _ i _ _ ((HB7.out.block _ (lt_of_block HQS.out)).trans HQS.out)))
                obtain ⟨w8, hw8⟩ : ∃ w8, w8 = w7.setCell ⟨G, 3, none⟩ (.slice A8 (v.n + 1) c8) := ⟨_, rfl⟩
                have hq7 := (HB7.out.block _ (lt_of_block HQS.out)).trans HQS.out
                have hq8 : w8.heap[G]? = some (.cells #[.int .u32 (gi : Int), .int .u32 (gl : Int), .slice m.a m.n m.c, .slice A8 (v.n + 1) c8] 124 (0, 0)) := by rw [hw8]; exact heap_setCell_same _ G 3 _ 124 _ hq7
                have ho8 : ∀ k, k ≠ G → w8.heap[k]? = w7.heap[k]? := fun k hk => by rw [hw8]; exact Below.heap_setCell _ _ _ _ hk
                have f8 : Fl w8 R vi ⟨A8, v.n + 1, c8⟩ (g.inv ++ [p]) := fl_oth (Fl.fresh HCS.out (Nat.le_refl _) (by rw [un_snoc]; exact HO7.out)) ho8 (drow hq7)
                have hB8 : Below w.heap.size w w8 := by rw [hw8]; exact (HW3.out.1.trans (HB7.out.mono HW3.out.1.size)).setCell HGW.out _
                have g8 := fl_oth (HW3.out.2.1.after HB7.out) ho8 (drow hq7)
                have x0 := cell_of_row _ G 0 _ _ _ hq8
                have x1 := cell_of_row _ G 1 _ _ _ hq8
                have x2 := cell_of_row _ G 2 _ _ _ hq8
                have x3 := cell_of_row _ G 3 _ _ _ hq8
                simp at x0 x1 x2 x3
                obtain ⟨n8, hn8⟩ : ∃ k, k = v.n + 1 := ⟨_, rfl⟩
                rw [← hn8] at f8 hw8 x3 hq8
                clear z0 z1 z2 z3
                have HPT : Hid (Calls Try.prog 119 #[.slice A n c, .agg #[.int .u32 (gi : Int), .int .u32 (gl : Int), .slice m.a m.n m.c, .slice A8 n8 c8]] w8 fun r w' => DPutP R vi (insL L { g with inv := g.inv ++ [p] }) false w8 r w') := by
                  have hh := dput_any R vi A n c L ⟨gi, gl, g.mem, g.inv ++ [p]⟩ (m) (⟨A8, n8, c8⟩) w8 (HD.out.ctx.size (hB8).size) HD.out.n (HD.out.dr.after hB8) HL.out HI.out.ris g8 f8 (by show (g.mem).length ≤ 100 ∧ (g.inv ++ [p]).length ≤ 100; have h1 := HK.out.four; have h2 := wo_len g.mem p; have h3 := wo_len g.inv p; (try simp only [List.length_append, List.length_cons, List.length_nil]); omega)
                  dsimp only at hh
                  rw [HEQ.out, HTF.out] at hh
                  exact hh
                have HBW := Lib.hid (hB8)
                have HW8 := Lib.hid hw8
                have HQ8 := Lib.hid hq8
                rw [← hn8]
                clear hw8 hq7 hq8 ho8 hB8 f8 g8 hn8
                rw [← HW8.out]
                clear y2 yf
                go_wp2_with fail
                refine HPT.out.mono ?_
                rintro r w9 ⟨A9, n9, c9, rfl, hn9, hd9, hb9⟩
                have HC9 : Hid (∀ W, Below w9.heap.size w9 W → W.cell? ⟨G, 0, none⟩ = some (.int .u32 (gi : Int))) := fun W hW => cell_of_row W G 0 _ _ _ ((hW.block _ (Nat.lt_of_lt_of_le (lt_of_block HQ8.out) hb9.size)).trans ((hb9.block _ (lt_of_block HQ8.out)).trans HQ8.out))
                have HFIN2 : Hid (∀ W, Below w9.heap.size w9 W → DP4 R vi (insL L { g with inv := g.inv ++ [p] }, gi, 0) w (.returned (.tuple #[.slice A9 n9 c9, .int .u32 (gi : Int), .int .i64 0])) W) := fun W hW => ⟨_, _, _, rfl, ⟨hn9, hd9.after hW, ((HD.out.ctx.size HBW.out.size).size hb9.size).size hW.size⟩, (HBW.out.trans (hb9.mono HBW.out.size)).trans (hW.mono (Nat.le_trans HBW.out.size hb9.size))⟩
                have HBB9 : Hid (Below w9.heap.size w9 w9) := Below.refl _ _
                clear x0 x1 x2 x3
                clear hn9 hd9 hb9
                go_upto_region 21 with (fail)
                have HDk : Hid (Below w9.heap.size w9 w9.drew) := HBB9.out.drew
                refine wp_region_held_drew (S := fun W : World => W.cell? ⟨G, 0, none⟩ = some (.int .u32 (gi : Int))) (by kernel_rfl) (HC9.out _ (HDk.out)) (fun hHeld => ?_)
                obtain ⟨Wk0, hW0⟩ : ∃ W0, W0 = w9.drew := ⟨_, rfl⟩
                rw [← hW0] at hHeld HDk ⊢
                clear hW0
                refine wpAnyH_take (i := 0) (oi := ?oi0k) (v := ?v0k) ?hi0k ?hs0k ?hf0k ?hr0k ?hQ0k ?hy0k ?hS0k ?h0k
                case hi0k => exact (by simp only [List.getElem?_toArray, List.getElem?_cons_zero]; rfl)
                case hs0k => kernel_rfl
                case hf0k => kernel_rfl
                case hr0k => kernel_rfl
                case hQ0k => exact fun _ _ _ h => h
                case hy0k =>
                  refine Or.inl ⟨rfl, ?_⟩
                  intro W hSw
                  go_simp
                  try with_reducible rfl
                case hS0k => assumption
                try simp only [Act.put, List.setIfInBounds_toArray, List.set_cons_zero, List.set_cons_succ]
                refine wpAnyH_take (i := 1) (oi := ?oi1k) (v := ?v1k) ?hi1k ?hs1k ?hf1k ?hr1k ?hQ1k ?hy1k ?hS1k ?h1k
                case hi1k => exact (by simp only [List.getElem?_toArray, List.getElem?_cons_succ, List.getElem?_cons_zero]; rfl)
                case hs1k => kernel_rfl
                case hf1k => kernel_rfl
                case hr1k => kernel_rfl
                case hQ1k => exact fun _ _ _ h => h
                case hy1k =>
                  refine Or.inl ⟨rfl, ?_⟩
                  intro W hSw
                  go_simp
                  try with_reducible rfl
                case hS1k => assumption
                try simp only [Act.put, List.setIfInBounds_toArray, List.set_cons_zero, List.set_cons_succ]
                refine wpAnyH_take (i := 2) (oi := ?oi2k) (v := ?v2k) ?hi2k ?hs2k ?hf2k ?hr2k ?hQ2k ?hy2k ?hS2k ?h2k
                case hi2k => exact (by simp only [List.getElem?_toArray, List.getElem?_cons_succ, List.getElem?_cons_zero]; rfl)
                case hs2k => kernel_rfl
                case hf2k => kernel_rfl
                case hr2k => kernel_rfl
                case hQ2k => exact fun _ _ _ h => h
                case hy2k =>
                  refine Or.inl ⟨rfl, ?_⟩
                  intro W hSw
                  go_simp
                  try with_reducible rfl
                case hS2k => assumption
                try simp only [Act.put, List.setIfInBounds_toArray, List.set_cons_zero, List.set_cons_succ]
                refine wpAnyH_take (i := 3) (oi := ?oi3k) (v := ?v3k) ?hi3k ?hs3k ?hf3k ?hr3k ?hQ3k ?hy3k ?hS3k ?h3k
                case hi3k => exact (by simp only [List.getElem?_toArray, List.getElem?_cons_succ, List.getElem?_cons_zero]; rfl)
                case hs3k => kernel_rfl
                case hf3k => kernel_rfl
                case hr3k => kernel_rfl
                case hQ3k => exact fun _ _ _ h => h
                case hy3k =>
                  refine Or.inl ⟨rfl, ?_⟩
                  intro W hSw
                  go_simp
                  try with_reducible rfl
                case hS3k => assumption
                try simp only [Act.put, List.setIfInBounds_toArray, List.set_cons_zero, List.set_cons_succ]
                refine wpAnyH_take (i := 4) (oi := ?oi4k) (v := ?v4k) ?hi4k ?hs4k ?hf4k ?hr4k ?hQ4k ?hy4k ?hS4k ?h4k
                case hi4k => exact (by simp only [List.getElem?_toArray, List.getElem?_cons_succ, List.getElem?_cons_zero]; rfl)
                case hs4k => kernel_rfl
                case hf4k => kernel_rfl
                case hr4k => kernel_rfl
                case hQ4k => exact fun _ _ _ h => h
                case hy4k =>
                  refine Or.inl ⟨rfl, ?_⟩
                  intro W hSw
                  go_simp
                  try with_reducible rfl
                case hS4k => assumption
                try simp only [Act.put, List.setIfInBounds_toArray, List.set_cons_zero, List.set_cons_succ]
                refine wpAnyH_take (i := 5) (oi := ?oi5k) (v := ?v5k) ?hi5k ?hs5k ?hf5k ?hr5k ?hQ5k ?hy5k ?hS5k ?h5k
                case hi5k => exact (by simp only [List.getElem?_toArray, List.getElem?_cons_succ, List.getElem?_cons_zero]; rfl)
                case hs5k => kernel_rfl
                case hf5k => kernel_rfl
                case hr5k => kernel_rfl
                case hQ5k => exact fun _ _ _ h => h
                case hy5k =>
                  refine Or.inl ⟨rfl, ?_⟩
                  intro W hSw
                  go_simp
                  try with_reducible rfl
                case hS5k => assumption
                try simp only [Act.put, List.setIfInBounds_toArray, List.set_cons_zero, List.set_cons_succ]
                refine wpAnyH_done (by kernel_rfl) ?_ _
                go_wp2
                exact bodyPost_ret (v := .tuple #[.slice A9 n9 c9, .int .u32 (gi : Int), .int .i64 0]) (by simp [results, Try.results53, go_sem]) rfl (HFIN2.out _ HDk.out)
          · rw [if_pos (by simpa using hld)]
            have hne' : ¬ ((gl : Int) = (a : Int)) := by rw [hgl]; omega
            clear h hI hl ha hp hap hx hg hm hix hgi hgl hld
            go_enter Try.func53, Try.ntmps53
            go_wp2_with fail
            refine HRA.out.mono ?_
            rintro r wq ⟨rfl, hw⟩
            have hw := hw.symm
            subst hw
            go_wp2_with fail
            refine HRB.out.mono ?_
            rintro r wq ⟨rfl, hw⟩
            have hw := hw.symm
            subst hw
            go_wp2_with fail
            refine HOF.out.mono ?_
            rintro r wq ⟨rfl, hw⟩
            have hw := hw.symm
            subst hw
            go_wp2_with fail
            refine HG.out.mono ?_
            rintro r w1 ⟨m, v, rfl, f1, f2, hb⟩
            rw [← HGI.out.1, ← HGI.out.2]
            obtain ⟨G, hG⟩ : ∃ G, G = w1.heap.size := ⟨_, rfl⟩
            obtain ⟨w3, hw3⟩ : ∃ W, W = w1.alloc (.cells #[.int .u32 (gi : Int), .int .u32 (gl : Int), .slice m.a m.n m.c, .slice v.a v.n v.c] 124) := ⟨_, rfl⟩
            have hq : w3.heap[G]? = some (.cells #[.int .u32 (gi : Int), .int .u32 (gl : Int), .slice m.a m.n m.c, .slice v.a v.n v.c] 124 (0, 0)) := by rw [hw3, hG]; exact heap_alloc_new w1 _
            have hb3 : Below w1.heap.size w1 w3 := by rw [hw3]; exact (Below.refl _ _).alloc (Nat.le_refl _) _
            have z0 := cell_of_row _ G 0 _ _ _ hq
            have z1 := cell_of_row _ G 1 _ _ _ hq
            have z2 := cell_of_row _ G 2 _ _ _ hq
            have z3 := cell_of_row _ G 3 _ _ _ hq
            simp at z0 z1 z2 z3
            have HW3 : Hid (Below w.heap.size w w3 ∧ Fl w3 R vi m g.mem ∧ Fl w3 R vi v g.inv ∧ w3.heap[G]? = some (.cells #[.int .u32 (gi : Int), .int .u32 (gl : Int), .slice m.a m.n m.c, .slice v.a v.n v.c] 124 (0, 0))) := ⟨hb.trans (hb3.mono hb.size), f1.after hb3, f2.after hb3, hq⟩
            have HGW : Hid (w.heap.size ≤ G) := by have := hb.size; simp only [Hid]; omega
            have H3 := Lib.hid hw3
            have HGG := Lib.hid hG
            clear hw3 hG hq hb3 hb f1 f2
            go_upto_region 6 with (fail)
            rw [← H3.out, ← HGG.out]
            have HFIN : Hid (DP4 R vi (L, 0, 18) w (.returned (.tuple #[.slice A n c, .int .u32 0, .int .i64 18])) w3) := ⟨_, _, _, rfl, HD.out.after HW3.out.1, HW3.out.1⟩
            go_wp2
            exact bodyPost_ret (v := .tuple #[.slice A n c, .int .u32 0, .int .i64 18]) (by simp [results, Try.results53, go_sem]) rfl HFIN.out
    · have HRB := Lib.hid (dright_f p w hp)
      have e : inviteS most L a p = (L, 0, 14) := by unfold inviteS; rw [if_pos (by simp [hp])]
      rw [e]
      have HFIN : Hid (DP4 R vi (L, 0, 14) w (.returned (.tuple #[.slice A n c, .int .u32 0, .int .i64 14])) w) := ⟨_, _, _, rfl, HD.out.after (Below.refl _ _), (Below.refl _ _)⟩
      clear h hI hl e ha hp
      go_enter Try.func53, Try.ntmps53
      go_wp2_with fail
      refine HRA.out.mono ?_
      rintro r wq ⟨rfl, hw⟩
      have hw := hw.symm
      subst hw
      go_wp2_with fail
      refine HRB.out.mono ?_
      rintro r wq ⟨rfl, hw⟩
      have hw := hw.symm
      subst hw
      go_wp2
      exact bodyPost_ret (v := .tuple #[.slice A n c, .int .u32 0, .int .i64 14]) (by simp [results, Try.results53, go_sem]) rfl HFIN.out
  · have HRA := Lib.hid (dright_f a w ha)
    have e : inviteS most L a p = (L, 0, 14) := by unfold inviteS; rw [if_pos (by simp [ha])]
    rw [e]
    have HFIN : Hid (DP4 R vi (L, 0, 14) w (.returned (.tuple #[.slice A n c, .int .u32 0, .int .i64 14])) w) := ⟨_, _, _, rfl, HD.out.after (Below.refl _ _), (Below.refl _ _)⟩
    clear h hI hl e ha
    go_enter Try.func53, Try.ntmps53
    go_wp2_with fail
    refine HRA.out.mono ?_
    rintro r wq ⟨rfl, hw⟩
    have hw := hw.symm
    subst hw
    go_wp2
    exact bodyPost_ret (v := .tuple #[.slice A n c, .int .u32 0, .int .i64 14]) (by simp [results, Try.results53, go_sem]) rfl HFIN.out
end Go.Proofs.Ytjlpmdokmfmdiaa.P
