/- Party: invite. -/
import Derived.Test.YtjlpmdokmfmdiaaQC
namespace Go.Proofs.Ytjlpmdokmfmdiaa.P
open Go.RowKit
set_option maxRecDepth 20000
set_option linter.unusedVariables false
set_option linter.unusedSimpArgs false

def okI (x : Nat) : Prop := 1 ≤ x ∧ x ≤ 2147483647
instance (x : Nat) : Decidable (okI x) := inferInstanceAs (Decidable (1 ≤ x ∧ x ≤ 2147483647))
def inviteS (most : Int) (L : List Pt) (a p : Nat) : List Pt × Nat × Int :=
  if ¬ (okI a ∧ okI p) then (L, 0, 14) else if a = p then (L, 0, 16) else match getP L (ofP L a) with
  | none => if most ≤ (L.length : Int) then (L, 0, 10) else (insL L ⟨lst L, a, [a], [p]⟩, lst L, 0)
  | some g => if g.ld ≠ a then (L, 0, 18) else if p ∈ g.mem ∨ p ∈ g.inv then (L, 0, 11) else if 4 ≤ g.mem.length + g.inv.length then (L, 0, 21) else (insL L { g with inv := g.inv ++ [p] }, g.id, 0)
def InvtP (B R : Nat) (most : Int) (vi : Value) (S : List Pt × Nat × Int) (w : World) (r : Ending) (w' : World) : Prop := r = .returned (.tuple #[.int .u32 (S.2.1 : Int), .int .i64 S.2.2]) ∧ PutP B R most vi S.1 w w'
theorem right_t (x : Nat) (w : World) (h : okI x) : Calls Try.prog 69 #[.int .u32 (x : Int)] w fun r w' => r = .returned (.bool true) ∧ w' = w := by
  have := right_any x w
  rw [show decide (1 ≤ x ∧ x ≤ 2147483647) = true from by rw [decide_eq_true_iff]; exact h] at this
  exact this
theorem right_f (x : Nat) (w : World) (h : ¬ okI x) : Calls Try.prog 69 #[.int .u32 (x : Int)] w fun r w' => r = .returned (.bool false) ∧ w' = w := by
  have := right_any x w
  rw [show decide (1 ≤ x ∧ x ≤ 2147483647) = false from by rw [decide_eq_false_iff_not]; exact h] at this
  exact this
set_option maxHeartbeats 16000000 in
theorem invite_any (B R : Nat) (most : Int) (vi : Value) (L : List Pt) (a p : Nat) (w : World) (h : Bk w B R most vi L) (hI : Inv L) (hl : L.length ≤ 100) (hmo : most ≤ 2147483647) :
    Calls Try.prog 21 #[bp B, .int .u32 (a : Int), .int .u32 (p : Int)] w fun r w' => InvtP B R most vi (inviteS most L a p) w r w' := by
  have HBK := Lib.hid h
  have HF0 : Hid (∀ e : Int, InvtP B R most vi (L, 0, e) w (.returned (.tuple #[.int .u32 0, .int .i64 e])) w) := fun e => ⟨rfl, PutP.of_below HBK.out (Below.refl _ _)⟩
  have HI := Lib.hid hI
  have HL := Lib.hid hl
  have HMO := Lib.hid hmo
  by_cases ha : okI a
  · have HRA := Lib.hid (right_t a w ha)
    by_cases hp : okI p
    · have HRB := Lib.hid (right_t p w hp)
      by_cases hap : a = p
      · have e : inviteS most L a p = (L, 0, 16) := by unfold inviteS; rw [if_neg (by simp [ha, hp]), if_pos hap]
        rw [e]
        subst hap
        have HE := Lib.hid (HF0.out 16)
        clear h hI hl e ha hp hmo
        go_enter Try.func21, Try.ntmps21
        go_wp2_with fail
        refine HRA.out.mono ?_
        rintro r wq ⟨rfl, hw⟩
        have hw := hw.symm
        subst hw
        go_wp2_with fail
        refine HRB.out.mono ?_
        rintro r wq ⟨rfl, hw⟩
        have hw := hw.symm
        subst hw
        go_wp2
        go_ret2
        exact HE.out
      · have hap' : ¬ ((a : Int) = (p : Int)) := by omega
        have HOF := Lib.hid (of_any B R most vi L a w h hl (fun e he => by have := (hI.each e he).four; omega))
        obtain ⟨x, hx⟩ : ∃ x, x = ofP L a := ⟨_, rfl⟩
        rw [← hx] at HOF
        have e0 : inviteS most L a p = match getP L x with
          | none => if most ≤ (L.length : Int) then (L, 0, 10) else (insL L ⟨lst L, a, [a], [p]⟩, lst L, 0)
          | some g => if g.ld ≠ a then (L, 0, 18) else if p ∈ g.mem ∨ p ∈ g.inv then (L, 0, 11) else if 4 ≤ g.mem.length + g.inv.length then (L, 0, 21) else (insL L { g with inv := g.inv ++ [p] }, g.id, 0) := by
          unfold inviteS
          rw [if_neg (by simp [ha, hp]), if_neg hap, hx]
        rw [e0]
        clear e0
        rcases of_cases hI.ris (fun e he => (hI.each e he).id.1) a with ⟨q1, q2, q3⟩ | ⟨g, hgm, hag, q1, q2, q3⟩
        · rw [← hx] at q1
          subst q1
          rw [q3]
          simp only
          clear h hI hl ha hp hap hx q2 q3
          by_cases hm2 : most ≤ (L.length : Int)
          · rw [if_pos hm2]
            have HM2 := Lib.hid hm2
            clear hm2
            go_enter Try.func21, Try.ntmps21
            go_wp2_with fail
            refine HRA.out.mono ?_
            rintro r wq ⟨rfl, hw⟩
            have hw := hw.symm
            subst hw
            go_wp2_with fail
            refine HRB.out.mono ?_
            rintro r wq ⟨rfl, hw⟩
            have hw := hw.symm
            subst hw
            go_wp2_with fail
            refine HOF.out.mono ?_
            rintro r w1 ⟨rfl, hb⟩
            have HFO := Lib.hid (found_any B R most vi L a p w1 (HBK.out.after hb) HL.out)
            have HB1 := Lib.hid hb
            clear hb
            go_wp2_with fail
            refine HFO.out.mono ?_
            rintro r w2 hf
            rcases hf with ⟨hm, rfl, hp⟩ | ⟨hm, _, rfl, hp⟩
            · have HFF : Hid (InvtP B R most vi (L, 0, 10) w (.returned (.tuple #[.int .u32 0, .int .i64 10])) w2) := ⟨rfl, hp.from (Nat.le_of_lt HBK.out.ctx.1) HB1.out⟩
              clear hm hp
              go_wp2
              go_ret2
              exact HFF.out
            · exact absurd hm (by have := HM2.out; omega)
          · rw [if_neg hm2]
            have HM2 := Lib.hid hm2
            obtain ⟨z, hz⟩ : ∃ z, z = lst L := ⟨_, rfl⟩
            have HZ := Lib.hid hz
            rw [← hz]
            clear hm2 hz
            go_enter Try.func21, Try.ntmps21
            go_wp2_with fail
            refine HRA.out.mono ?_
            rintro r wq ⟨rfl, hw⟩
            have hw := hw.symm
            subst hw
            go_wp2_with fail
            refine HRB.out.mono ?_
            rintro r wq ⟨rfl, hw⟩
            have hw := hw.symm
            subst hw
            go_wp2_with fail
            refine HOF.out.mono ?_
            rintro r w1 ⟨rfl, hb⟩
            have HFO := Lib.hid (found_any B R most vi L a p w1 (HBK.out.after hb) HL.out)
            have HB1 := Lib.hid hb
            clear hb
            go_wp2_with fail
            refine HFO.out.mono ?_
            rintro r w2 hf
            rcases hf with ⟨hm, rfl, hp⟩ | ⟨hm, _, rfl, hp⟩
            · exact absurd hm (by have := HM2.out; have := HMO.out; omega)
            · rw [← HZ.out] at hp ⊢
              have HFF : Hid (InvtP B R most vi (insL L ⟨z, a, [a], [p]⟩, z, 0) w (.returned (.tuple #[.int .u32 (z : Int), .int .i64 0])) w2) := ⟨rfl, hp.from (Nat.le_of_lt HBK.out.ctx.1) HB1.out⟩
              clear hm hp
              go_wp2
              go_ret2
              exact HFF.out
        · have hgx : getP L x = some g := by rw [hx, q1]; exact q2
          rw [hgx]
          simp only
          have HX : Hid (x = g.id) := by rw [hx, q1]; exact Lib.hid rfl
          have HM := Lib.hid hgm
          have HGX := Lib.hid hgx
          have hx0 : ¬ ((x : Int) = 0) := by rw [hx, q1]; omega
          have hx0' : ¬ (x = 0) := by rw [hx, q1]; omega
          have HK4 := Lib.hid (hI.each g hgm)
          clear h hI hl ha hp hap hx q1 q2 q3 hag hgm hgx
          by_cases hld : g.ld = a
          · rw [if_neg (by simpa using hld)]
            by_cases hpm : p ∈ g.mem ∨ p ∈ g.inv
            · rw [if_pos hpm]
              have HPM : Hid (decide (p ∈ g.mem ++ g.inv) = true) := by simp only [Hid]; rw [decide_eq_true_iff, List.mem_append]; exact hpm
              have HLD := Lib.hid hld
              clear hpm hld
              go_enter Try.func21, Try.ntmps21
              go_wp2_with fail
              refine HRA.out.mono ?_
              rintro r wq ⟨rfl, hw⟩
              have hw := hw.symm
              subst hw
              go_wp2_with fail
              refine HRB.out.mono ?_
              rintro r wq ⟨rfl, hw⟩
              have hw := hw.symm
              subst hw
              go_wp2_with fail
              refine HOF.out.mono ?_
              rintro r w1 ⟨rfl, hb1⟩
              have c1 := cell_of_row w1 B 0 _ _ _ (HBK.out.after hb1).blk
              simp at c1
              have HG := Lib.hid (rget_some B R most vi L x g w1 (HBK.out.after hb1) HL.out HGX.out)
              have HB1 := Lib.hid hb1
              clear hb1
              go_wp2_with fail
              refine HG.out.mono ?_
              rintro r w2 ⟨y1, y2, y3, rfl, e1, f2, f3, hb⟩
              obtain ⟨G, hG⟩ : ∃ G, G = w2.heap.size := ⟨_, rfl⟩
              obtain ⟨w3, hw3⟩ : ∃ W, W = w2.alloc (.cells #[.int .u32 (y1 : Int), .slice y2.a y2.n y2.c, .slice y3.a y3.n y3.c] 112) := ⟨_, rfl⟩
              have hq : w3.heap[G]? = some (.cells #[.int .u32 (y1 : Int), .slice y2.a y2.n y2.c, .slice y3.a y3.n y3.c] 112 (0, 0)) := by rw [hw3, hG]; exact heap_alloc_new w2 _
              have hb3 : Below w2.heap.size w2 w3 := by rw [hw3]; exact (Below.refl _ _).alloc (Nat.le_refl _) _
              have hB3 : Below w.heap.size w w3 := (HB1.out.trans (hb.mono HB1.out.size)).trans (hb3.mono (HB1.out.trans (hb.mono HB1.out.size)).size)
              have z0 := cell_of_row _ G 0 _ _ _ hq
              have z1 := cell_of_row _ G 1 _ _ _ hq
              have z2 := cell_of_row _ G 2 _ _ _ hq
              simp at z0 z1 z2
              have HW3 : Hid (Below w.heap.size w w3 ∧ Fl w3 R vi y2 g.mem ∧ Fl w3 R vi y3 g.inv ∧ y1 = g.ld) := ⟨hB3, f2.after hb3, f3.after hb3, e1⟩
              have HGR : Hid (w3.heap[G]? = some (.cells #[.int .u32 (y1 : Int), .slice y2.a y2.n y2.c, .slice y3.a y3.n y3.c] 112 (0, 0))) := hq
              have HGW : Hid (w.heap.size ≤ G) := by have h1 := HB1.out.size; have h2 := hb.size; simp only [Hid]; omega
              have HE1 := Lib.hid e1
              have H3 := Lib.hid hw3
              have HGG := Lib.hid hG
              clear hw3 hG hq hb3 hB3 hb f2 f3 e1
              obtain rfl : y1 = a := by rw [HE1.out]; exact HLD.out
              go_upto_region 11 with (fail)
              rw [← H3.out, ← HGG.out]
              have HAL := Lib.hid (all_any y1 y2 y3 g.mem g.inv w3 (And.intro HW3.out.2.1 HW3.out.2.2.1).1.1 (And.intro HW3.out.2.1 HW3.out.2.2.1).1.rn (And.intro HW3.out.2.1 HW3.out.2.2.1).2.1 (And.intro HW3.out.2.1 HW3.out.2.2.1).2.rn (List.length_pos_of_mem HK4.out.ld) (by have := HK4.out.four; omega))
              go_wp2_with fail
              refine HAL.out.mono ?_
              rintro r w4 ⟨A4, n4, c4, rfl, ho, hb4⟩
              obtain ⟨hn4, hr4⟩ := Rn.of_own ho
              have HCT := Lib.hid (contains_any A4 n4 c4 (g.mem ++ g.inv) p w4 hn4 hr4 (by have := HK4.out.four; rw [List.length_append] at hn4; omega))
              rw [HPM.out] at HCT
              have HB4 := Lib.hid hb4
              clear ho hb4 hn4 hr4 z0 z1 z2
              go_wp2_with fail
              refine HCT.out.mono ?_
              rintro r w5 ⟨rfl, hb5⟩
              have hb35 : Below w3.heap.size w3 w5 := HB4.out.trans (hb5.mono HB4.out.size)
              have hB5 : Below w.heap.size w w5 := HW3.out.1.trans (hb35.mono HW3.out.1.size)
              have HFF : Hid (InvtP B R most vi (L, 0, 11) w (.returned (.tuple #[.int .u32 0, .int .i64 11])) w5) := ⟨rfl, PutP.of_below HBK.out hB5⟩
              clear hb35 hB5 hb5
              go_wp2
              go_ret2
              exact HFF.out
            · rw [if_neg hpm]
              have HPM : Hid (decide (p ∈ g.mem ++ g.inv) = false) := by simp only [Hid]; rw [decide_eq_false_iff_not, List.mem_append]; exact hpm
              have HLD := Lib.hid hld
              clear hpm hld
              obtain ⟨tot, htot⟩ : ∃ n, n = g.mem.length + g.inv.length := ⟨_, rfl⟩
              rw [← htot]
              have HTOT := Lib.hid htot
              clear htot
              by_cases h4 : 4 ≤ tot
              · rw [if_pos h4]
                go_enter Try.func21, Try.ntmps21
                go_wp2_with fail
                refine HRA.out.mono ?_
                rintro r wq ⟨rfl, hw⟩
                have hw := hw.symm
                subst hw
                go_wp2_with fail
                refine HRB.out.mono ?_
                rintro r wq ⟨rfl, hw⟩
                have hw := hw.symm
                subst hw
                go_wp2_with fail
                refine HOF.out.mono ?_
                rintro r w1 ⟨rfl, hb1⟩
                have c1 := cell_of_row w1 B 0 _ _ _ (HBK.out.after hb1).blk
                simp at c1
                have HG := Lib.hid (rget_some B R most vi L x g w1 (HBK.out.after hb1) HL.out HGX.out)
                have HB1 := Lib.hid hb1
                clear hb1
                go_wp2_with fail
                refine HG.out.mono ?_
                rintro r w2 ⟨y1, y2, y3, rfl, e1, f2, f3, hb⟩
                obtain ⟨G, hG⟩ : ∃ G, G = w2.heap.size := ⟨_, rfl⟩
                obtain ⟨w3, hw3⟩ : ∃ W, W = w2.alloc (.cells #[.int .u32 (y1 : Int), .slice y2.a y2.n y2.c, .slice y3.a y3.n y3.c] 112) := ⟨_, rfl⟩
                have hq : w3.heap[G]? = some (.cells #[.int .u32 (y1 : Int), .slice y2.a y2.n y2.c, .slice y3.a y3.n y3.c] 112 (0, 0)) := by rw [hw3, hG]; exact heap_alloc_new w2 _
                have hb3 : Below w2.heap.size w2 w3 := by rw [hw3]; exact (Below.refl _ _).alloc (Nat.le_refl _) _
                have hB3 : Below w.heap.size w w3 := (HB1.out.trans (hb.mono HB1.out.size)).trans (hb3.mono (HB1.out.trans (hb.mono HB1.out.size)).size)
                have z0 := cell_of_row _ G 0 _ _ _ hq
                have z1 := cell_of_row _ G 1 _ _ _ hq
                have z2 := cell_of_row _ G 2 _ _ _ hq
                simp at z0 z1 z2
                have HW3 : Hid (Below w.heap.size w w3 ∧ Fl w3 R vi y2 g.mem ∧ Fl w3 R vi y3 g.inv ∧ y1 = g.ld) := ⟨hB3, f2.after hb3, f3.after hb3, e1⟩
                have HGR : Hid (w3.heap[G]? = some (.cells #[.int .u32 (y1 : Int), .slice y2.a y2.n y2.c, .slice y3.a y3.n y3.c] 112 (0, 0))) := hq
                have HGW : Hid (w.heap.size ≤ G) := by have h1 := HB1.out.size; have h2 := hb.size; simp only [Hid]; omega
                have HE1 := Lib.hid e1
                have H3 := Lib.hid hw3
                have HGG := Lib.hid hG
                clear hw3 hG hq hb3 hB3 hb f2 f3 e1
                obtain rfl : y1 = a := by rw [HE1.out]; exact HLD.out
                go_upto_region 11 with (fail)
                rw [← H3.out, ← HGG.out]
                have HAL := Lib.hid (all_any y1 y2 y3 g.mem g.inv w3 (And.intro HW3.out.2.1 HW3.out.2.2.1).1.1 (And.intro HW3.out.2.1 HW3.out.2.2.1).1.rn (And.intro HW3.out.2.1 HW3.out.2.2.1).2.1 (And.intro HW3.out.2.1 HW3.out.2.2.1).2.rn (List.length_pos_of_mem HK4.out.ld) (by have := HK4.out.four; omega))
                go_wp2_with fail
                refine HAL.out.mono ?_
                rintro r w4 ⟨A4, n4, c4, rfl, ho, hb4⟩
                obtain ⟨hn4, hr4⟩ := Rn.of_own ho
                have HCT := Lib.hid (contains_any A4 n4 c4 (g.mem ++ g.inv) p w4 hn4 hr4 (by have := HK4.out.four; rw [List.length_append] at hn4; omega))
                rw [HPM.out] at HCT
                have HB4 := Lib.hid hb4
                clear ho hb4 hn4 hr4 z0 z1 z2
                go_wp2_with fail
                refine HCT.out.mono ?_
                rintro r w5 ⟨rfl, hb5⟩
                have hb35 : Below w3.heap.size w3 w5 := HB4.out.trans (hb5.mono HB4.out.size)
                have hB5 : Below w.heap.size w w5 := HW3.out.1.trans (hb35.mono HW3.out.1.size)
                have hq5 := (hb35.block _ (lt_of_block HGR.out)).trans HGR.out
                have z0 := cell_of_row _ G 0 _ _ _ hq5
                have z1 := cell_of_row _ G 1 _ _ _ hq5
                have z2 := cell_of_row _ G 2 _ _ _ hq5
                simp at z0 z1 z2
                clear HAL
                have HAL := Lib.hid (all_any y1 y2 y3 g.mem g.inv w5 HW3.out.2.1.1 (HW3.out.2.1.after hb35).rn HW3.out.2.2.1.1 (HW3.out.2.2.1.after hb35).rn (List.length_pos_of_mem HK4.out.ld) (by have := HK4.out.four; omega))
                have HB5 := Lib.hid hB5
                clear hb5 hb35 hB5 hq5
                go_wp2_with fail
                refine HAL.out.mono ?_
                rintro r w6 ⟨A6, n6, c6, rfl, ho, hb6⟩
                have hn6 : 4 ≤ n6 := by have := (Rn.of_own ho).1; rw [List.length_append] at this; have := HTOT.out; omega
                have HFF : Hid (InvtP B R most vi (L, 0, 21) w (.returned (.tuple #[.int .u32 0, .int .i64 21])) w6) := ⟨rfl, PutP.of_below HBK.out (HB5.out.trans (hb6.mono HB5.out.size))⟩
                have hn6' : (4 : Int) ≤ (n6 : Int) := by omega
                clear ho hb6 hn6
                go_wp2
                go_ret2
                exact HFF.out
              · rw [if_neg h4]
                go_enter Try.func21, Try.ntmps21
                go_wp2_with fail
                refine HRA.out.mono ?_
                rintro r wq ⟨rfl, hw⟩
                have hw := hw.symm
                subst hw
                go_wp2_with fail
                refine HRB.out.mono ?_
                rintro r wq ⟨rfl, hw⟩
                have hw := hw.symm
                subst hw
                go_wp2_with fail
                refine HOF.out.mono ?_
                rintro r w1 ⟨rfl, hb1⟩
                have c1 := cell_of_row w1 B 0 _ _ _ (HBK.out.after hb1).blk
                simp at c1
                have HG := Lib.hid (rget_some B R most vi L x g w1 (HBK.out.after hb1) HL.out HGX.out)
                have HB1 := Lib.hid hb1
                clear hb1
                go_wp2_with fail
                refine HG.out.mono ?_
                rintro r w2 ⟨y1, y2, y3, rfl, e1, f2, f3, hb⟩
                obtain ⟨G, hG⟩ : ∃ G, G = w2.heap.size := ⟨_, rfl⟩
                obtain ⟨w3, hw3⟩ : ∃ W, W = w2.alloc (.cells #[.int .u32 (y1 : Int), .slice y2.a y2.n y2.c, .slice y3.a y3.n y3.c] 112) := ⟨_, rfl⟩
                have hq : w3.heap[G]? = some (.cells #[.int .u32 (y1 : Int), .slice y2.a y2.n y2.c, .slice y3.a y3.n y3.c] 112 (0, 0)) := by rw [hw3, hG]; exact heap_alloc_new w2 _
                have hb3 : Below w2.heap.size w2 w3 := by rw [hw3]; exact (Below.refl _ _).alloc (Nat.le_refl _) _
                have hB3 : Below w.heap.size w w3 := (HB1.out.trans (hb.mono HB1.out.size)).trans (hb3.mono (HB1.out.trans (hb.mono HB1.out.size)).size)
                have z0 := cell_of_row _ G 0 _ _ _ hq
                have z1 := cell_of_row _ G 1 _ _ _ hq
                have z2 := cell_of_row _ G 2 _ _ _ hq
                simp at z0 z1 z2
                have HW3 : Hid (Below w.heap.size w w3 ∧ Fl w3 R vi y2 g.mem ∧ Fl w3 R vi y3 g.inv ∧ y1 = g.ld) := ⟨hB3, f2.after hb3, f3.after hb3, e1⟩
                have HGR : Hid (w3.heap[G]? = some (.cells #[.int .u32 (y1 : Int), .slice y2.a y2.n y2.c, .slice y3.a y3.n y3.c] 112 (0, 0))) := hq
                have HGW : Hid (w.heap.size ≤ G) := by have h1 := HB1.out.size; have h2 := hb.size; simp only [Hid]; omega
                have HE1 := Lib.hid e1
                have H3 := Lib.hid hw3
                have HGG := Lib.hid hG
                clear hw3 hG hq hb3 hB3 hb f2 f3 e1
                obtain rfl : y1 = a := by rw [HE1.out]; exact HLD.out
                go_upto_region 11 with (fail)
                rw [← H3.out, ← HGG.out]
                have HAL := Lib.hid (all_any y1 y2 y3 g.mem g.inv w3 (And.intro HW3.out.2.1 HW3.out.2.2.1).1.1 (And.intro HW3.out.2.1 HW3.out.2.2.1).1.rn (And.intro HW3.out.2.1 HW3.out.2.2.1).2.1 (And.intro HW3.out.2.1 HW3.out.2.2.1).2.rn (List.length_pos_of_mem HK4.out.ld) (by have := HK4.out.four; omega))
                go_wp2_with fail
                refine HAL.out.mono ?_
                rintro r w4 ⟨A4, n4, c4, rfl, ho, hb4⟩
                obtain ⟨hn4, hr4⟩ := Rn.of_own ho
                have HCT := Lib.hid (contains_any A4 n4 c4 (g.mem ++ g.inv) p w4 hn4 hr4 (by have := HK4.out.four; rw [List.length_append] at hn4; omega))
                rw [HPM.out] at HCT
                have HB4 := Lib.hid hb4
                clear ho hb4 hn4 hr4 z0 z1 z2
                go_wp2_with fail
                refine HCT.out.mono ?_
                rintro r w5 ⟨rfl, hb5⟩
                have hb35 : Below w3.heap.size w3 w5 := HB4.out.trans (hb5.mono HB4.out.size)
                have hB5 : Below w.heap.size w w5 := HW3.out.1.trans (hb35.mono HW3.out.1.size)
                have hq5 := (hb35.block _ (lt_of_block HGR.out)).trans HGR.out
                have z0 := cell_of_row _ G 0 _ _ _ hq5
                have z1 := cell_of_row _ G 1 _ _ _ hq5
                have z2 := cell_of_row _ G 2 _ _ _ hq5
                simp at z0 z1 z2
                clear HAL
                have HAL := Lib.hid (all_any y1 y2 y3 g.mem g.inv w5 HW3.out.2.1.1 (HW3.out.2.1.after hb35).rn HW3.out.2.2.1.1 (HW3.out.2.2.1.after hb35).rn (List.length_pos_of_mem HK4.out.ld) (by have := HK4.out.four; omega))
                have HB5 := Lib.hid hB5
                have HB35 := Lib.hid hb35
                clear hb5 hb35 hB5 hq5
                go_wp2_with fail
                refine HAL.out.mono ?_
                rintro r w6 ⟨A6, n6, c6, rfl, ho, hb6⟩
                have hn6 : n6 < 4 := by have := (Rn.of_own ho).1; rw [List.length_append] at this; have := HTOT.out; omega
                have hn6' : ¬ ((4 : Int) ≤ (n6 : Int)) := by omega
                have hb36 : Below w3.heap.size w3 w6 := HB35.out.trans (hb6.mono HB35.out.size)
                have hB6 : Below w.heap.size w w6 := HW3.out.1.trans (hb36.mono HW3.out.1.size)
                have hq6 := (hb36.block _ (lt_of_block HGR.out)).trans HGR.out
                clear z0 z1 z2
                have z2 := cell_of_row _ G 2 _ _ _ hq6
                simp at z2
                obtain ⟨m8, hm8⟩ : ∃ m, m = (g.inv ++ [p]).length := ⟨_, rfl⟩
                have HWI := Lib.hid (with_fl R vi y3 g.inv p m8 w6 (HBK.out.after hB6).ctx (HW3.out.2.2.1.after hb36) hm8 (by have := HK4.out.four; omega))
                have HW6 : Hid (Below w.heap.size w w6 ∧ Fl w6 R vi y2 g.mem ∧ w6.heap[G]? = some (.cells #[.int .u32 (y1 : Int), .slice y2.a y2.n y2.c, .slice y3.a y3.n y3.c] 112 (0, 0))) := ⟨hB6, HW3.out.2.1.after hb36, hq6⟩
                clear ho hb6 hn6 hb36 hB6 hq6 hm8
                go_wp2_with fail
                refine HWI.out.mono ?_
                rintro r w7 ⟨A8, c8, rfl, f8, hb7⟩
                have hB7 : Below w.heap.size w w7 := HW6.out.1.trans (hb7.mono HW6.out.1.size)
                have hq7 := (hb7.block _ (lt_of_block HW6.out.2.2)).trans HW6.out.2.2
                clear z2
                have z2 := cell_of_row _ G 2 _ _ _ hq7
                simp at z2
                have zf : ∀ i, w7.frozen? ⟨G, i, none⟩ = false := fun i => frozen_of_row _ _ i _ _ hq7
                obtain ⟨w8, hw8⟩ : ∃ w8, w8 = w7.setCell ⟨G, 2, none⟩ (.slice A8 m8 c8) := ⟨_, rfl⟩
                have hq8 : w8.heap[G]? = some (.cells #[.int .u32 (y1 : Int), .slice y2.a y2.n y2.c, .slice A8 m8 c8] 112 (0, 0)) := by rw [hw8]; exact heap_setCell_same _ G 2 _ 112 _ hq7
                have ho8 : ∀ k, k ≠ G → w8.heap[k]? = w7.heap[k]? := fun k hk => by rw [hw8]; exact Below.heap_setCell _ _ _ _ hk
                have hn7 := not26 hq7
                have k2 := fl_other (HW6.out.2.1.after hb7) ho8 hn7
                have k3 := fl_other f8 ho8 hn7
                have HB7 : Hid (Below w.heap.size w w8) := by rw [hw8]; exact hB7.setCell HGW.out _
                have HQG : Hid (∀ W, Below w8.heap.size w8 W → W.heap[G]? = some (.cells #[.int .u32 (y1 : Int), .slice y2.a y2.n y2.c, .slice A8 m8 c8] 112 (0, 0))) := fun W hW => (hW.block _ (lt_of_block hq8)).trans hq8
                have HSS : Hid (∀ W, Below w8.heap.size w8 W → (fun W : World => W.cell? ⟨B, 0, none⟩ = some (bp R) ∧ W.cell? ⟨G, 0, none⟩ = some (.int .u32 (y1 : Int)) ∧ W.cell? ⟨G, 1, none⟩ = some (.slice y2.a y2.n y2.c) ∧ W.cell? ⟨G, 2, none⟩ = some (.slice A8 m8 c8)) W) := fun W hW => by
                  have hq := (hW.block _ (lt_of_block hq8)).trans hq8
                  have hb : Below w.heap.size w W := HB7.out.trans (hW.mono HB7.out.size)
                  exact ⟨cell_of_row W B 0 _ _ _ (HBK.out.after hb).blk, cell_of_row W G 0 _ _ _ hq, cell_of_row W G 1 _ _ _ hq, cell_of_row W G 2 _ _ _ hq⟩
                have HPUT : Hid (∀ W, Below w8.heap.size w8 W → Calls Try.prog 73 #[bp R, .int .u32 (x : Int), mV y1 y2 ⟨A8, m8, c8⟩] W fun r w' => r = .returned (.int .i64 0) ∧ PutP B R most vi (insL L { g with inv := g.inv ++ [p] }) W w' ∧ ∀ k, w.heap.size ≤ k → k < W.heap.size → w'.heap[k]? = W.heap[k]?) := fun W hW => by
                  have hb : Below w.heap.size w W := HB7.out.trans (hW.mono HB7.out.size)
                  have := bput_there B R most vi L y1 y2 ⟨A8, m8, c8⟩ { g with inv := g.inv ++ [p] } w W HBK.out hb HL.out ⟨g, HM.out, rfl⟩ ⟨HE1.out, (k2).after hW, (k3).after hW⟩
                  rw [HX.out]
                  exact this
                have HEND : Hid (∀ W, PutP B R most vi (insL L { g with inv := g.inv ++ [p] }) w8 W → InvtP B R most vi (insL L { g with inv := g.inv ++ [p] }, g.id, 0) w (.returned (.tuple #[.int .u32 (x : Int), .int .i64 0])) W) := fun W hp => ⟨by rw [HX.out], hp.from (Nat.le_of_lt HBK.out.ctx.1) HB7.out⟩
                have HW8 := Lib.hid hw8
                clear hb7 hB7 hq7 hw8 hq8 ho8 hn7 k2 k3 f8
                go_upto_region 18 with (fail)
                rw [← HW8.out]
                clear z2 zf
                have HDkp : Hid (Below w8.heap.size w8 w8.drew) := (Below.refl _ _).drew
                refine wp_region_held_drew (S := fun W : World => W.cell? ⟨B, 0, none⟩ = some (bp R) ∧ W.cell? ⟨G, 0, none⟩ = some (.int .u32 (y1 : Int)) ∧ W.cell? ⟨G, 1, none⟩ = some (.slice y2.a y2.n y2.c) ∧ W.cell? ⟨G, 2, none⟩ = some (.slice A8 m8 c8)) (by kernel_rfl) (HSS.out _ HDkp.out) (fun hHeld => ?_)
                obtain ⟨Wpp, hW0⟩ : ∃ W0, W0 = w8.drew := ⟨_, rfl⟩
                rw [← hW0] at hHeld HDkp ⊢
                clear hW0
                refine wpAnyH_take (i := 0) (oi := ?oi0p) (v := ?v0p) ?hi0p ?hs0p ?hf0p ?hr0p ?hQ0p ?hy0p ?hS0p ?h0p
                case hi0p => exact (by simp only [List.getElem?_toArray, List.getElem?_cons_zero]; rfl)
                case hs0p => kernel_rfl
                case hf0p => kernel_rfl
                case hr0p => kernel_rfl
                case hQ0p => exact fun _ _ _ h => h
                case hy0p =>
                  refine Or.inl ⟨rfl, ?_⟩
                  intro W hSw
                  obtain ⟨q9, q0, q1, q2⟩ := hSw
                  go_simp
                  try with_reducible rfl
                case hS0p => assumption
                try simp only [Act.put, List.setIfInBounds_toArray, List.set_cons_zero, List.set_cons_succ]
                refine wpAnyH_take (i := 1) (oi := ?oi1p) (v := ?v1p) ?hi1p ?hs1p ?hf1p ?hr1p ?hQ1p ?hy1p ?hS1p ?h1p
                case hi1p => exact (by simp only [List.getElem?_toArray, List.getElem?_cons_succ, List.getElem?_cons_zero]; rfl)
                case hs1p => kernel_rfl
                case hf1p => kernel_rfl
                case hr1p => kernel_rfl
                case hQ1p => exact fun _ _ _ h => h
                case hy1p =>
                  refine Or.inl ⟨rfl, ?_⟩
                  intro W hSw
                  obtain ⟨q9, q0, q1, q2⟩ := hSw
                  go_simp
                  try with_reducible rfl
                case hS1p => assumption
                try simp only [Act.put, List.setIfInBounds_toArray, List.set_cons_zero, List.set_cons_succ]
                refine wpAnyH_take (i := 2) (oi := ?oi2p) (v := ?v2p) ?hi2p ?hs2p ?hf2p ?hr2p ?hQ2p ?hy2p ?hS2p ?h2p
                case hi2p => exact (by simp only [List.getElem?_toArray, List.getElem?_cons_succ, List.getElem?_cons_zero]; rfl)
                case hs2p => kernel_rfl
                case hf2p => kernel_rfl
                case hr2p => kernel_rfl
                case hQ2p => exact fun _ _ _ h => h
                case hy2p =>
                  refine Or.inl ⟨rfl, ?_⟩
                  intro W hSw
                  obtain ⟨q9, q0, q1, q2⟩ := hSw
                  go_simp
                  try with_reducible rfl
                case hS2p => assumption
                try simp only [Act.put, List.setIfInBounds_toArray, List.set_cons_zero, List.set_cons_succ]
                refine wpAnyH_take (i := 3) (oi := ?oi3p) (v := ?v3p) ?hi3p ?hs3p ?hf3p ?hr3p ?hQ3p ?hy3p ?hS3p ?h3p
                case hi3p => exact (by simp only [List.getElem?_toArray, List.getElem?_cons_succ, List.getElem?_cons_zero]; rfl)
                case hs3p => kernel_rfl
                case hf3p => kernel_rfl
                case hr3p => kernel_rfl
                case hQ3p => exact fun _ _ _ h => h
                case hy3p =>
                  refine Or.inl ⟨rfl, ?_⟩
                  intro W hSw
                  obtain ⟨q9, q0, q1, q2⟩ := hSw
                  go_simp
                  try with_reducible rfl
                case hS3p => assumption
                try simp only [Act.put, List.setIfInBounds_toArray, List.set_cons_zero, List.set_cons_succ]
                refine wpAnyH_take (i := 4) (oi := ?oi4p) (v := ?v4p) ?hi4p ?hs4p ?hf4p ?hr4p ?hQ4p ?hy4p ?hS4p ?h4p
                case hi4p => exact (by simp only [List.getElem?_toArray, List.getElem?_cons_succ, List.getElem?_cons_zero]; rfl)
                case hs4p => kernel_rfl
                case hf4p => kernel_rfl
                case hr4p => kernel_rfl
                case hQ4p => exact fun _ _ _ h => h
                case hy4p =>
                  refine Or.inl ⟨rfl, ?_⟩
                  intro W hSw
                  obtain ⟨q9, q0, q1, q2⟩ := hSw
                  go_simp
                  try with_reducible rfl
                case hS4p => assumption
                try simp only [Act.put, List.setIfInBounds_toArray, List.set_cons_zero, List.set_cons_succ]
                refine wpAnyH_take (i := 5) (oi := ?oi5p) (v := ?v5p) ?hi5p ?hs5p ?hf5p ?hr5p ?hQ5p ?hy5p ?hS5p ?h5p
                case hi5p => exact (by simp only [List.getElem?_toArray, List.getElem?_cons_succ, List.getElem?_cons_zero]; rfl)
                case hs5p => kernel_rfl
                case hf5p => kernel_rfl
                case hr5p => kernel_rfl
                case hQ5p => exact fun _ _ _ h => h
                case hy5p =>
                  refine Or.inl ⟨rfl, ?_⟩
                  intro W hSw
                  obtain ⟨q9, q0, q1, q2⟩ := hSw
                  go_simp
                  try with_reducible rfl
                case hS5p => assumption
                try simp only [Act.put, List.setIfInBounds_toArray, List.set_cons_zero, List.set_cons_succ]
                refine wpAnyH_take (i := 6) (oi := ?oi6p) (v := ?v6p) ?hi6p ?hs6p ?hf6p ?hr6p ?hQ6p ?hy6p ?hS6p ?h6p
                case hi6p => exact (by simp only [List.getElem?_toArray, List.getElem?_cons_succ, List.getElem?_cons_zero]; rfl)
                case hs6p => kernel_rfl
                case hf6p => kernel_rfl
                case hr6p => kernel_rfl
                case hQ6p => exact fun _ _ _ h => h
                case hy6p =>
                  refine Or.inl ⟨rfl, ?_⟩
                  intro W hSw
                  obtain ⟨q9, q0, q1, q2⟩ := hSw
                  go_simp
                  try with_reducible rfl
                case hS6p => assumption
                try simp only [Act.put, List.setIfInBounds_toArray, List.set_cons_zero, List.set_cons_succ]
                refine wpAnyH_ready (rs := [7]) (by kernel_rfl) (by simp) ?_
                refine AllReadyH.cons (o := _) rfl (fun K hK => ?_) AllReadyH.nil
                go_simp
                refine (HPUT.out Wpp HDkp.out).mono ?_
                rintro r Wq ⟨rfl, hp, hkp⟩
                have HFIN := Lib.hid (HEND.out Wq (hp.from (by have := HBK.out.ctx.1; have := HB7.out.size; have := HDkp.out.size; omega) HDkp.out))
                have HSQ : (fun W : World => W.cell? ⟨B, 0, none⟩ = some (bp R) ∧ W.cell? ⟨G, 0, none⟩ = some (.int .u32 (y1 : Int)) ∧ W.cell? ⟨G, 1, none⟩ = some (.slice y2.a y2.n y2.c) ∧ W.cell? ⟨G, 2, none⟩ = some (.slice A8 m8 c8)) Wq := by
                  obtain ⟨vq, hbq, _⟩ := hp
                  have hgw := lt_of_block (HQG.out Wpp HDkp.out)
                  have hq := (hkp G (by have := HGW.out; omega) hgw).trans (HQG.out Wpp HDkp.out)
                  exact ⟨cell_of_row Wq B 0 _ _ _ hbq.blk, cell_of_row Wq G 0 _ _ _ hq, cell_of_row Wq G 1 _ _ _ hq, cell_of_row Wq G 2 _ _ _ hq⟩
                clear hp hkp
                refine hK.out _ _ HSQ (fun hHeld => ?_)
                clear hK K HSQ
                try simp only [Act.put, List.setIfInBounds_toArray, List.set_cons_zero, List.set_cons_succ]
                refine wpAnyH_take (i := 8) (oi := ?oi8p) (v := ?v8p) ?hi8p ?hs8p ?hf8p ?hr8p ?hQ8p ?hy8p ?hS8p ?h8p
                case hi8p => exact (by simp only [List.getElem?_toArray, List.getElem?_cons_succ, List.getElem?_cons_zero]; rfl)
                case hs8p => kernel_rfl
                case hf8p => kernel_rfl
                case hr8p => kernel_rfl
                case hQ8p => exact fun _ _ _ h => h
                case hy8p =>
                  refine Or.inl ⟨rfl, ?_⟩
                  intro W hSw
                  obtain ⟨q9, q0, q1, q2⟩ := hSw
                  go_simp
                  try with_reducible rfl
                case hS8p => assumption
                try simp only [Act.put, List.setIfInBounds_toArray, List.set_cons_zero, List.set_cons_succ]
                refine wpAnyH_take (i := 9) (oi := ?oi9p) (v := ?v9p) ?hi9p ?hs9p ?hf9p ?hr9p ?hQ9p ?hy9p ?hS9p ?h9p
                case hi9p => exact (by simp only [List.getElem?_toArray, List.getElem?_cons_succ, List.getElem?_cons_zero]; rfl)
                case hs9p => kernel_rfl
                case hf9p => kernel_rfl
                case hr9p => kernel_rfl
                case hQ9p => exact fun _ _ _ h => h
                case hy9p =>
                  refine Or.inl ⟨rfl, ?_⟩
                  intro W hSw
                  obtain ⟨q9, q0, q1, q2⟩ := hSw
                  go_simp
                  try with_reducible rfl
                case hS9p => assumption
                try simp only [Act.put, List.setIfInBounds_toArray, List.set_cons_zero, List.set_cons_succ]
                refine wpAnyH_done (by kernel_rfl) ?_ _
                go_wp2
                go_ret2
                exact HFIN.out
          · rw [if_pos (by simpa using hld)]
            have HLD := Lib.hid hld
            clear hld
            go_enter Try.func21, Try.ntmps21
            go_wp2_with fail
            refine HRA.out.mono ?_
            rintro r wq ⟨rfl, hw⟩
            have hw := hw.symm
            subst hw
            go_wp2_with fail
            refine HRB.out.mono ?_
            rintro r wq ⟨rfl, hw⟩
            have hw := hw.symm
            subst hw
            go_wp2_with fail
            refine HOF.out.mono ?_
            rintro r w1 ⟨rfl, hb1⟩
            have c1 := cell_of_row w1 B 0 _ _ _ (HBK.out.after hb1).blk
            simp at c1
            have HG := Lib.hid (rget_some B R most vi L x g w1 (HBK.out.after hb1) HL.out HGX.out)
            have HB1 := Lib.hid hb1
            clear hb1
            go_wp2_with fail
            refine HG.out.mono ?_
            rintro r w2 ⟨y1, y2, y3, rfl, e1, f2, f3, hb⟩
            obtain ⟨G, hG⟩ : ∃ G, G = w2.heap.size := ⟨_, rfl⟩
            obtain ⟨w3, hw3⟩ : ∃ W, W = w2.alloc (.cells #[.int .u32 (y1 : Int), .slice y2.a y2.n y2.c, .slice y3.a y3.n y3.c] 112) := ⟨_, rfl⟩
            have hq : w3.heap[G]? = some (.cells #[.int .u32 (y1 : Int), .slice y2.a y2.n y2.c, .slice y3.a y3.n y3.c] 112 (0, 0)) := by rw [hw3, hG]; exact heap_alloc_new w2 _
            have hb3 : Below w2.heap.size w2 w3 := by rw [hw3]; exact (Below.refl _ _).alloc (Nat.le_refl _) _
            have hB3 : Below w.heap.size w w3 := (HB1.out.trans (hb.mono HB1.out.size)).trans (hb3.mono (HB1.out.trans (hb.mono HB1.out.size)).size)
            have z0 := cell_of_row _ G 0 _ _ _ hq
            have z1 := cell_of_row _ G 1 _ _ _ hq
            have z2 := cell_of_row _ G 2 _ _ _ hq
            simp at z0 z1 z2
            have HW3 : Hid (Below w.heap.size w w3 ∧ Fl w3 R vi y2 g.mem ∧ Fl w3 R vi y3 g.inv ∧ y1 = g.ld) := ⟨hB3, f2.after hb3, f3.after hb3, e1⟩
            have HGR : Hid (w3.heap[G]? = some (.cells #[.int .u32 (y1 : Int), .slice y2.a y2.n y2.c, .slice y3.a y3.n y3.c] 112 (0, 0))) := hq
            have HGW : Hid (w.heap.size ≤ G) := by have h1 := HB1.out.size; have h2 := hb.size; simp only [Hid]; omega
            have HE1 := Lib.hid e1
            have H3 := Lib.hid hw3
            have HGG := Lib.hid hG
            clear hw3 hG hq hb3 hB3 hb f2 f3 e1
            have hne' : ¬ ((y1 : Int) = (a : Int)) := by rw [HE1.out]; have := HLD.out; omega
            have hne'' : ¬ (y1 = a) := by rw [HE1.out]; exact HLD.out
            have HFF : Hid (InvtP B R most vi (L, 0, 18) w (.returned (.tuple #[.int .u32 0, .int .i64 18])) w3) := ⟨rfl, PutP.of_below HBK.out HW3.out.1⟩
            go_upto_region 11 with (fail)
            rw [← H3.out, ← HGG.out]
            go_wp2
            go_ret2
            exact HFF.out
    · have HRB := Lib.hid (right_f p w hp)
      have e : inviteS most L a p = (L, 0, 14) := by unfold inviteS; rw [if_pos (by simp [hp])]
      rw [e]
      have HE := Lib.hid (HF0.out 14)
      clear h hI hl e ha hp hmo
      go_enter Try.func21, Try.ntmps21
      go_wp2_with fail
      refine HRA.out.mono ?_
      rintro r wq ⟨rfl, hw⟩
      have hw := hw.symm
      subst hw
      go_wp2_with fail
      refine HRB.out.mono ?_
      rintro r wq ⟨rfl, hw⟩
      have hw := hw.symm
      subst hw
      go_wp2
      go_ret2
      exact HE.out
  · have HRA := Lib.hid (right_f a w ha)
    have e : inviteS most L a p = (L, 0, 14) := by unfold inviteS; rw [if_pos (by simp [ha])]
    rw [e]
    have HE := Lib.hid (HF0.out 14)
    clear h hI hl e ha hmo
    go_enter Try.func21, Try.ntmps21
    go_wp2_with fail
    refine HRA.out.mono ?_
    rintro r wq ⟨rfl, hw⟩
    have hw := hw.symm
    subst hw
    go_wp2
    go_ret2
    exact HE.out
end Go.Proofs.Ytjlpmdokmfmdiaa.P
