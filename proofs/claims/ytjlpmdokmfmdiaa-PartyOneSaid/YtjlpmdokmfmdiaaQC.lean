/- Party: lead, join. -/
import Derived.Test.YtjlpmdokmfmdiaaQB
namespace Go.Proofs.Ytjlpmdokmfmdiaa.P
open Go.RowKit
set_option maxRecDepth 20000
set_option linter.unusedVariables false
set_option linter.unusedSimpArgs false

set_option maxHeartbeats 4000000 in
theorem lead_any (B R : Nat) (most : Int) (vi : Value) (L : List Pt) (a p : Nat) (w : World) (h : Bk w B R most vi L) (hI : Inv L) (hl : L.length ≤ 100) :
    Calls Try.prog 26 #[bp B, .int .u32 (a : Int), .int .u32 (p : Int)] w fun r w' => LdP B R most vi (leadS L a p) w r w' := by
  have HBK := Lib.hid h
  by_cases hz : ledC L a p ≠ 0
  · obtain ⟨c, hc⟩ : ∃ c, c = ledC L a p := ⟨_, rfl⟩
    have e : leadS L a p = (L, (c : Int)) := by unfold leadS; rw [if_pos hz, hc]
    rw [e]
    have HLD : Hid (Calls Try.prog 76 #[bp B, .int .u32 (a : Int), .int .u32 (p : Int)] w fun r w' => r = .returned (.tuple #[.int .u32 0, .agg mZ, .int .i64 (c : Int)]) ∧ Below w.heap.size w w') := by
      rw [hc]
      exact led_err B R most vi L a p w h hI hl hz
    have hcz : ¬ ((c : Int) = 0) := by rw [hc]; omega
    have hcz' : ¬ (c = 0) := by rw [hc]; exact hz
    clear h hI hl hz hc e
    go_enter Try.func26, Try.ntmps26
    go_wp2_with fail
    refine HLD.out.mono ?_
    rintro r w1 ⟨rfl, hb⟩
    have HF : Hid (∀ w', Below w1.heap.size w1 w' → LdP B R most vi (L, (c : Int)) w (.returned (.int .i64 (c : Int))) w') := fun w' hb' => ⟨rfl, PutP.of_below HBK.out (hb.trans (hb'.mono hb.size))⟩
    clear hb
    go_wp2
    go_ret
    exact HF.out _ ((Below.refl _ _).alloc (Nat.le_refl _) _)
  · obtain ⟨g, hg, hld, hap⟩ := ledC_some hz
    obtain ⟨hm, hgi⟩ := get_some hg
    have HLD := Lib.hid (led_0 B R most vi L a p g w h hI hl hg hgi.symm hld hap)
    have HM := Lib.hid hm
    have HI := Lib.hid hI
    have HL := Lib.hid hl
    obtain ⟨x, hx⟩ : ∃ x, x = g.id := ⟨_, rfl⟩
    have HX := Lib.hid hx
    by_cases hp : p ∈ g.mem
    · have e : leadS L a p = (insL L { g with ld := p }, 0) := by unfold leadS; rw [if_neg hz, hg]; simp only; rw [if_pos hp]
      rw [e]
      have HPM : Hid (decide (p ∈ g.mem) = true) := by simp only [Hid]; rw [decide_eq_true_iff]; exact hp
      clear h hg e hm hgi hI hl hp hld hap hx hz
      go_enter Try.func26, Try.ntmps26
      go_wp2_with fail
      refine HLD.out.mono ?_
      rintro r w1 ⟨y1, y2, y3, rfl, e1, f2, f3, hb⟩
      rw [← HX.out]
      obtain ⟨G, hG⟩ : ∃ G, G = w1.heap.size := ⟨_, rfl⟩
      obtain ⟨w3, hw3⟩ : ∃ W, W = w1.alloc (.cells #[.int .u32 (y1 : Int), .slice y2.a y2.n y2.c, .slice y3.a y3.n y3.c] 112) := ⟨_, rfl⟩
      have hq : w3.heap[G]? = some (.cells #[.int .u32 (y1 : Int), .slice y2.a y2.n y2.c, .slice y3.a y3.n y3.c] 112 (0, 0)) := by rw [hw3, hG]; exact heap_alloc_new w1 _
      have hb3 : Below w1.heap.size w1 w3 := by rw [hw3]; exact (Below.refl _ _).alloc (Nat.le_refl _) _
      have hB3 : Below w.heap.size w w3 := (hb).trans (hb3.mono (hb).size)
      have z0 := cell_of_row _ G 0 _ _ _ hq
      have z1 := cell_of_row _ G 1 _ _ _ hq
      have z2 := cell_of_row _ G 2 _ _ _ hq
      simp at z0 z1 z2
      have HCT := Lib.hid (contains_any y2.a y2.n y2.c g.mem p w3 f2.1 (f2.after hb3).rn (by have := (HI.out.each g HM.out).four; have := f2.1; omega))
      rw [HPM.out] at HCT
      have HW3 : Hid (Below w.heap.size w w3 ∧ Fl w3 R vi y2 g.mem ∧ Fl w3 R vi y3 g.inv) := ⟨hB3, f2.after hb3, f3.after hb3⟩
      have HGR : Hid (w3.heap[G]? = some (.cells #[.int .u32 (y1 : Int), .slice y2.a y2.n y2.c, .slice y3.a y3.n y3.c] 112 (0, 0))) := hq
      have HGW : Hid (w.heap.size ≤ G) := by have := hb.size; simp only [Hid]; omega
      have H3 := Lib.hid hw3
      have HGG := Lib.hid hG
      clear hw3 hG hq hb3 hB3 hb e1 f2 f3 z0 z2
      go_upto_region 2 with (fail)
      rw [← H3.out, ← HGG.out]
      go_wp2_with fail
      refine HCT.out.mono ?_
      rintro r w5 ⟨rfl, hb5⟩
      have hB5 : Below w.heap.size w w5 := HW3.out.1.trans (hb5.mono HW3.out.1.size)
      have hq5 := (hb5.block _ (lt_of_block HGR.out)).trans HGR.out
      clear z1
      have z0 := cell_of_row _ G 0 _ _ _ hq5
      simp at z0
      have zf : ∀ i, w5.frozen? ⟨G, i, none⟩ = false := fun i => frozen_of_row _ _ i _ _ hq5
      obtain ⟨w7, hw7⟩ : ∃ w7, w7 = w5.setCell ⟨G, 0, none⟩ (.int .u32 (p : Int)) := ⟨_, rfl⟩
      have hq7 : w7.heap[G]? = some (.cells #[.int .u32 (p : Int), .slice y2.a y2.n y2.c, .slice y3.a y3.n y3.c] 112 (0, 0)) := by rw [hw7]; exact heap_setCell_same _ G 0 _ 112 _ hq5
      have ho7 : ∀ k, k ≠ G → w7.heap[k]? = w5.heap[k]? := fun k hk => by rw [hw7]; exact Below.heap_setCell _ _ _ _ hk
      have hb7 : Below w.heap.size w w7 := by rw [hw7]; exact hB5.setCell HGW.out _
      have hn5 := not26 hq5
      have k2 := fl_other (HW3.out.2.1.after hb5) ho7 hn5
      have k3 := fl_other (HW3.out.2.2.after hb5) ho7 hn5
      have HB7 := Lib.hid hb7
      have HQG : Hid (∀ W, Below w7.heap.size w7 W → W.heap[G]? = some (.cells #[.int .u32 (p : Int), .slice y2.a y2.n y2.c, .slice y3.a y3.n y3.c] 112 (0, 0))) := fun W hW => (hW.block _ (lt_of_block hq7)).trans hq7
      have HSS : Hid (∀ W, Below w7.heap.size w7 W → (fun W : World => W.cell? ⟨B, 0, none⟩ = some (bp R) ∧ W.cell? ⟨G, 0, none⟩ = some (.int .u32 (p : Int)) ∧ W.cell? ⟨G, 1, none⟩ = some (.slice y2.a y2.n y2.c) ∧ W.cell? ⟨G, 2, none⟩ = some (.slice y3.a y3.n y3.c)) W) := fun W hW => by
        have hq := (hW.block _ (lt_of_block hq7)).trans hq7
        have hb : Below w.heap.size w W := HB7.out.trans (hW.mono HB7.out.size)
        exact ⟨cell_of_row W B 0 _ _ _ (HBK.out.after hb).blk, cell_of_row W G 0 _ _ _ hq, cell_of_row W G 1 _ _ _ hq, cell_of_row W G 2 _ _ _ hq⟩
      have HPUT : Hid (∀ W, Below w7.heap.size w7 W → Calls Try.prog 73 #[bp R, .int .u32 (x : Int), mV p y2 y3] W fun r w' => r = .returned (.int .i64 0) ∧ PutP B R most vi (insL L { g with ld := p }) W w' ∧ ∀ k, w.heap.size ≤ k → k < W.heap.size → w'.heap[k]? = W.heap[k]?) := fun W hW => by
        have hb : Below w.heap.size w W := HB7.out.trans (hW.mono HB7.out.size)
        have := bput_there B R most vi L p y2 y3 { g with ld := p } w W HBK.out hb HL.out ⟨g, HM.out, rfl⟩ ⟨rfl, (k2).after hW, (k3).after hW⟩
        rw [HX.out]
        exact this
      have HEND : Hid (∀ W, PutP B R most vi (insL L { g with ld := p }) w7 W → LdP B R most vi (insL L { g with ld := p }, 0) w (.returned (.int .i64 0)) W) := fun W hp => ⟨rfl, hp.from (Nat.le_of_lt HBK.out.ctx.1) HB7.out⟩
      have HW7 := Lib.hid hw7
      clear hb5 hB5 hq5 hw7 hq7 ho7 hb7 hn5 k2 k3
      go_upto_region 7 with (fail)
      rw [← HW7.out]
      clear z0 zf
      have HDkp : Hid (Below w7.heap.size w7 w7.drew) := (Below.refl _ _).drew
      refine wp_region_held_drew (S := fun W : World => W.cell? ⟨B, 0, none⟩ = some (bp R) ∧ W.cell? ⟨G, 0, none⟩ = some (.int .u32 (p : Int)) ∧ W.cell? ⟨G, 1, none⟩ = some (.slice y2.a y2.n y2.c) ∧ W.cell? ⟨G, 2, none⟩ = some (.slice y3.a y3.n y3.c)) (by kernel_rfl) (HSS.out _ HDkp.out) (fun hHeld => ?_)
      obtain ⟨Wpp, hW0⟩ : ∃ W0, W0 = w7.drew := ⟨_, rfl⟩
      rw [← hW0] at hHeld HDkp ⊢
      clear hW0
      refine wpAnyH_take (i := 0) (oi := ?oi0p) (v := ?v0p) ?hi0p ?hs0p ?hf0p ?hr0p ?hQ0p ?hy0p ?hS0p ?h0p
      case hi0p => exact (by simp only [List.getElem?_toArray, List.getElem?_cons_zero]; rfl)
      case hs0p => kernel_rfl
      case hf0p => kernel_rfl
      case hr0p => kernel_rfl
      case hQ0p => exact fun _ _ _ h => h
      case hy0p =>
        refine Or.inl ⟨rfl, ?_⟩
        intro W hSw
        obtain ⟨q9, q0, q1, q2⟩ := hSw
        go_simp
        try with_reducible rfl
      case hS0p => assumption
      try simp only [Act.put, List.setIfInBounds_toArray, List.set_cons_zero, List.set_cons_succ]
      refine wpAnyH_take (i := 1) (oi := ?oi1p) (v := ?v1p) ?hi1p ?hs1p ?hf1p ?hr1p ?hQ1p ?hy1p ?hS1p ?h1p
      case hi1p => exact (by simp only [List.getElem?_toArray, List.getElem?_cons_succ, List.getElem?_cons_zero]; rfl)
      case hs1p => kernel_rfl
      case hf1p => kernel_rfl
      case hr1p => kernel_rfl
      case hQ1p => exact fun _ _ _ h => h
      case hy1p =>
        refine Or.inl ⟨rfl, ?_⟩
        intro W hSw
        obtain ⟨q9, q0, q1, q2⟩ := hSw
        go_simp
        try with_reducible rfl
      case hS1p => assumption
      try simp only [Act.put, List.setIfInBounds_toArray, List.set_cons_zero, List.set_cons_succ]
      refine wpAnyH_take (i := 2) (oi := ?oi2p) (v := ?v2p) ?hi2p ?hs2p ?hf2p ?hr2p ?hQ2p ?hy2p ?hS2p ?h2p
      case hi2p => exact (by simp only [List.getElem?_toArray, List.getElem?_cons_succ, List.getElem?_cons_zero]; rfl)
      case hs2p => kernel_rfl
      case hf2p => kernel_rfl
      case hr2p => kernel_rfl
      case hQ2p => exact fun _ _ _ h => h
      case hy2p =>
        refine Or.inl ⟨rfl, ?_⟩
        intro W hSw
        obtain ⟨q9, q0, q1, q2⟩ := hSw
        go_simp
        try with_reducible rfl
      case hS2p => assumption
      try simp only [Act.put, List.setIfInBounds_toArray, List.set_cons_zero, List.set_cons_succ]
      refine wpAnyH_take (i := 3) (oi := ?oi3p) (v := ?v3p) ?hi3p ?hs3p ?hf3p ?hr3p ?hQ3p ?hy3p ?hS3p ?h3p
      case hi3p => exact (by simp only [List.getElem?_toArray, List.getElem?_cons_succ, List.getElem?_cons_zero]; rfl)
      case hs3p => kernel_rfl
      case hf3p => kernel_rfl
      case hr3p => kernel_rfl
      case hQ3p => exact fun _ _ _ h => h
      case hy3p =>
        refine Or.inl ⟨rfl, ?_⟩
        intro W hSw
        obtain ⟨q9, q0, q1, q2⟩ := hSw
        go_simp
        try with_reducible rfl
      case hS3p => assumption
      try simp only [Act.put, List.setIfInBounds_toArray, List.set_cons_zero, List.set_cons_succ]
      refine wpAnyH_take (i := 4) (oi := ?oi4p) (v := ?v4p) ?hi4p ?hs4p ?hf4p ?hr4p ?hQ4p ?hy4p ?hS4p ?h4p
      case hi4p => exact (by simp only [List.getElem?_toArray, List.getElem?_cons_succ, List.getElem?_cons_zero]; rfl)
      case hs4p => kernel_rfl
      case hf4p => kernel_rfl
      case hr4p => kernel_rfl
      case hQ4p => exact fun _ _ _ h => h
      case hy4p =>
        refine Or.inl ⟨rfl, ?_⟩
        intro W hSw
        obtain ⟨q9, q0, q1, q2⟩ := hSw
        go_simp
        try with_reducible rfl
      case hS4p => assumption
      try simp only [Act.put, List.setIfInBounds_toArray, List.set_cons_zero, List.set_cons_succ]
      refine wpAnyH_take (i := 5) (oi := ?oi5p) (v := ?v5p) ?hi5p ?hs5p ?hf5p ?hr5p ?hQ5p ?hy5p ?hS5p ?h5p
      case hi5p => exact (by simp only [List.getElem?_toArray, List.getElem?_cons_succ, List.getElem?_cons_zero]; rfl)
      case hs5p => kernel_rfl
      case hf5p => kernel_rfl
      case hr5p => kernel_rfl
      case hQ5p => exact fun _ _ _ h => h
      case hy5p =>
        refine Or.inl ⟨rfl, ?_⟩
        intro W hSw
        obtain ⟨q9, q0, q1, q2⟩ := hSw
        go_simp
        try with_reducible rfl
      case hS5p => assumption
      try simp only [Act.put, List.setIfInBounds_toArray, List.set_cons_zero, List.set_cons_succ]
      refine wpAnyH_ready (rs := [6]) (by kernel_rfl) (by simp) ?_
      refine AllReadyH.cons (o := _) rfl (fun K hK => ?_) AllReadyH.nil
      go_simp
      refine (HPUT.out Wpp HDkp.out).mono ?_
      rintro r Wq ⟨rfl, hp, hkp⟩
      have HFIN := Lib.hid (HEND.out Wq (hp.from (by have := HBK.out.ctx.1; have := HB7.out.size; have := HDkp.out.size; omega) HDkp.out))
      have HSQ : (fun W : World => W.cell? ⟨B, 0, none⟩ = some (bp R) ∧ W.cell? ⟨G, 0, none⟩ = some (.int .u32 (p : Int)) ∧ W.cell? ⟨G, 1, none⟩ = some (.slice y2.a y2.n y2.c) ∧ W.cell? ⟨G, 2, none⟩ = some (.slice y3.a y3.n y3.c)) Wq := by
        obtain ⟨vq, hbq, _⟩ := hp
        have hgw := lt_of_block (HQG.out Wpp HDkp.out)
        have hq := (hkp G (by have := HGW.out; omega) hgw).trans (HQG.out Wpp HDkp.out)
        exact ⟨cell_of_row Wq B 0 _ _ _ hbq.blk, cell_of_row Wq G 0 _ _ _ hq, cell_of_row Wq G 1 _ _ _ hq, cell_of_row Wq G 2 _ _ _ hq⟩
      clear hp hkp
      refine hK.out _ _ HSQ (fun hHeld => ?_)
      clear hK K HSQ
      try simp only [Act.put, List.setIfInBounds_toArray, List.set_cons_zero, List.set_cons_succ]
      refine wpAnyH_take (i := 7) (oi := ?oi7p) (v := ?v7p) ?hi7p ?hs7p ?hf7p ?hr7p ?hQ7p ?hy7p ?hS7p ?h7p
      case hi7p => exact (by simp only [List.getElem?_toArray, List.getElem?_cons_succ, List.getElem?_cons_zero]; rfl)
      case hs7p => kernel_rfl
      case hf7p => kernel_rfl
      case hr7p => kernel_rfl
      case hQ7p => exact fun _ _ _ h => h
      case hy7p =>
        refine Or.inl ⟨rfl, ?_⟩
        intro W hSw
        obtain ⟨q9, q0, q1, q2⟩ := hSw
        go_simp
        try with_reducible rfl
      case hS7p => assumption
      try simp only [Act.put, List.setIfInBounds_toArray, List.set_cons_zero, List.set_cons_succ]
      refine wpAnyH_done (by kernel_rfl) ?_ _
      go_wp2
      go_ret
      exact HFIN.out
    · have e : leadS L a p = (L, 13) := by unfold leadS; rw [if_neg hz, hg]; simp only; rw [if_neg hp]
      rw [e]
      have HPM : Hid (decide (p ∈ g.mem) = false) := by simp only [Hid]; rw [decide_eq_false_iff_not]; exact hp
      clear h hg e hm hgi hI hl hp hld hap hx hz
      go_enter Try.func26, Try.ntmps26
      go_wp2_with fail
      refine HLD.out.mono ?_
      rintro r w1 ⟨y1, y2, y3, rfl, e1, f2, f3, hb⟩
      rw [← HX.out]
      obtain ⟨G, hG⟩ : ∃ G, G = w1.heap.size := ⟨_, rfl⟩
      obtain ⟨w3, hw3⟩ : ∃ W, W = w1.alloc (.cells #[.int .u32 (y1 : Int), .slice y2.a y2.n y2.c, .slice y3.a y3.n y3.c] 112) := ⟨_, rfl⟩
      have hq : w3.heap[G]? = some (.cells #[.int .u32 (y1 : Int), .slice y2.a y2.n y2.c, .slice y3.a y3.n y3.c] 112 (0, 0)) := by rw [hw3, hG]; exact heap_alloc_new w1 _
      have hb3 : Below w1.heap.size w1 w3 := by rw [hw3]; exact (Below.refl _ _).alloc (Nat.le_refl _) _
      have hB3 : Below w.heap.size w w3 := (hb).trans (hb3.mono (hb).size)
      have z0 := cell_of_row _ G 0 _ _ _ hq
      have z1 := cell_of_row _ G 1 _ _ _ hq
      have z2 := cell_of_row _ G 2 _ _ _ hq
      simp at z0 z1 z2
      have HCT := Lib.hid (contains_any y2.a y2.n y2.c g.mem p w3 f2.1 (f2.after hb3).rn (by have := (HI.out.each g HM.out).four; have := f2.1; omega))
      rw [HPM.out] at HCT
      have HW3 : Hid (Below w.heap.size w w3) := hB3
      have H3 := Lib.hid hw3
      have HGG := Lib.hid hG
      clear hw3 hG hq hb3 hB3 hb e1 f2 f3 z0 z2
      go_upto_region 2 with (fail)
      rw [← H3.out, ← HGG.out]
      go_wp2_with fail
      refine HCT.out.mono ?_
      rintro r w5 ⟨rfl, hb5⟩
      have HFF : Hid (LdP B R most vi (L, 13) w (.returned (.int .i64 13)) w5) := ⟨rfl, PutP.of_below HBK.out (HW3.out.trans (hb5.mono HW3.out.size))⟩
      clear hb5
      go_wp2
      go_ret
      exact HFF.out
def joinS (L : List Pt) (x p : Nat) : List Pt × Int := match getP L x with
  | none => (L, 12)
  | some g => if p ∈ g.inv then (if ofP L p ≠ 0 then (L, 19) else (insL L { g with mem := g.mem ++ [p], inv := wo g.inv p }, 0)) else (L, 12)
set_option maxHeartbeats 16000000 in
theorem join_any (B R : Nat) (most : Int) (vi : Value) (L : List Pt) (x p : Nat) (w : World) (h : Bk w B R most vi L) (hI : Inv L) (hl : L.length ≤ 100) :
    Calls Try.prog 25 #[bp B, .int .u32 (x : Int), .int .u32 (p : Int)] w fun r w' => LdP B R most vi (joinS L x p) w r w' := by
  have HBK := Lib.hid h
  cases hg : getP L x with
  | none =>
    have e : joinS L x p = (L, 12) := by unfold joinS; rw [hg]
    rw [e]
    have HV := Lib.hid (inviting_none B R most vi L x p w h hl hg)
    clear h hg e
    go_enter Try.func25, Try.ntmps25
    go_wp2_with fail
    refine HV.out.mono ?_
    rintro r w1 ⟨rfl, hb⟩
    have HF : Hid (∀ w', Below w1.heap.size w1 w' → LdP B R most vi (L, 12) w (.returned (.int .i64 12)) w') := fun w' hb' => ⟨rfl, PutP.of_below HBK.out (hb.trans (hb'.mono hb.size))⟩
    clear hb
    go_wp2
    go_ret
    exact HF.out _ ((Below.refl _ _).alloc (Nat.le_refl _) _)
  | some g =>
    obtain ⟨hm, hgi⟩ := get_some hg
    by_cases hp : p ∈ g.inv
    · have HV := Lib.hid (inviting_some B R most vi L x p g true w h hl hg (by have := (hI.each g hm).four; omega) (by simpa using hp))
      have HX : Hid (x = g.id) := hgi.symm
      have HM := Lib.hid hm
      have HI := Lib.hid hI
      have HL := Lib.hid hl
      have HK4 : Hid (g.mem.length + g.inv.length ≤ 4) := (hI.each g hm).four
      by_cases ho : ofP L p ≠ 0
      · have e : joinS L x p = (L, 19) := by unfold joinS; rw [hg]; simp only; rw [if_pos hp, if_pos ho]
        rw [e]
        obtain ⟨z, hz⟩ : ∃ z, z = ofP L p := ⟨_, rfl⟩
        rw [← hz] at ho
        have HZ := Lib.hid hz
        have hoz : ¬ ((z : Int) = 0) := by omega
        clear h hg e hm hgi hI hl hp hz
        go_enter Try.func25, Try.ntmps25
        go_wp2_with fail
        refine HV.out.mono ?_
        rintro r w1 ⟨y1, y2, y3, rfl, e1, f2, f3, hb⟩
        obtain ⟨w2, hw2⟩ : ∃ w2, w2 = w1.alloc (.cells #[.int .u32 (y1 : Int), .slice y2.a y2.n y2.c, .slice y3.a y3.n y3.c] 112) := ⟨_, rfl⟩
        have hb2 : Below w1.heap.size w1 w2 := by rw [hw2]; exact (Below.refl _ _).alloc (Nat.le_refl _) _
        have hB2 := hb.trans (hb2.mono hb.size)
        have HOF := Lib.hid (of_any B R most vi L p w2 (HBK.out.after hB2) HL.out (fun e he => by have := (HI.out.each e he).four; omega))
        rw [← HZ.out] at HOF
        have H2 := Lib.hid hw2
        have HB2 := Lib.hid hB2
        clear hw2 hb2 hB2 hb e1 f2 f3
        go_upto_region 2 with (fail)
        rw [← H2.out]
        go_wp2_with fail
        refine HOF.out.mono ?_
        rintro r w3 ⟨rfl, hb3⟩
        have HFF : Hid (LdP B R most vi (L, 19) w (.returned (.int .i64 19)) w3) := ⟨rfl, PutP.of_below HBK.out (HB2.out.trans (hb3.mono HB2.out.size))⟩
        clear hb3
        go_wp2
        go_ret
        exact HFF.out
      · have e : joinS L x p = (insL L { g with mem := g.mem ++ [p], inv := wo g.inv p }, 0) := by unfold joinS; rw [hg]; simp only; rw [if_pos hp, if_neg ho]
        rw [e]
        have HZ : Hid (ofP L p = 0) := by simp only [Hid]; omega
        obtain ⟨m2, hm2⟩ : ∃ m, m = (g.mem ++ [p]).length := ⟨_, rfl⟩
        obtain ⟨m3, hm3⟩ : ∃ m, m = (wo g.inv p).length := ⟨_, rfl⟩
        have HM2 := Lib.hid hm2
        have HM3 := Lib.hid hm3
        clear h hg e hm hgi hI hl hp ho hm2 hm3
        go_enter Try.func25, Try.ntmps25
        go_wp2_with fail
        refine HV.out.mono ?_
        rintro r w1 ⟨y1, y2, y3, rfl, e1, f2, f3, hb⟩
        obtain ⟨G, hG⟩ : ∃ G, G = w1.heap.size := ⟨_, rfl⟩
        obtain ⟨w2, hw2⟩ : ∃ W, W = w1.alloc (.cells #[.int .u32 (y1 : Int), .slice y2.a y2.n y2.c, .slice y3.a y3.n y3.c] 112) := ⟨_, rfl⟩
        have hq : w2.heap[G]? = some (.cells #[.int .u32 (y1 : Int), .slice y2.a y2.n y2.c, .slice y3.a y3.n y3.c] 112 (0, 0)) := by rw [hw2, hG]; exact heap_alloc_new w1 _
        have hb2 : Below w1.heap.size w1 w2 := by rw [hw2]; exact (Below.refl _ _).alloc (Nat.le_refl _) _
        have hB2 : Below w.heap.size w w2 := (hb).trans (hb2.mono (hb).size)
        have z0 := cell_of_row _ G 0 _ _ _ hq
        have z1 := cell_of_row _ G 1 _ _ _ hq
        have z2 := cell_of_row _ G 2 _ _ _ hq
        simp at z0 z1 z2
        clear z0 z1 z2
        have HOF := Lib.hid (of_any B R most vi L p w2 (HBK.out.after hB2) HL.out (fun e he => by have := (HI.out.each e he).four; omega))
        rw [HZ.out] at HOF
        have HGR2 : Hid (w2.heap[G]? = some (.cells #[.int .u32 (y1 : Int), .slice y2.a y2.n y2.c, .slice y3.a y3.n y3.c] 112 (0, 0))) := hq
        have HW2 : Hid (Below w.heap.size w w2 ∧ y1 = g.ld ∧ Fl w2 R vi y2 g.mem ∧ Fl w2 R vi y3 g.inv) := ⟨hB2, e1, f2.after hb2, f3.after hb2⟩
        have HGW : Hid (w.heap.size ≤ G) := by have := hb.size; simp only [Hid]; omega
        have H2 := Lib.hid hw2
        have HGG := Lib.hid hG
        clear hw2 hG hq hb2 hB2 hb e1 f2 f3
        go_upto_region 2 with (fail)
        rw [← H2.out, ← HGG.out]
        go_wp2_with fail
        refine HOF.out.mono ?_
        rintro r w0 ⟨rfl, hb0⟩
        have HB0 : Hid (Below w.heap.size w w0) := HW2.out.1.trans (hb0.mono HW2.out.1.size)
        have hq0 := (hb0.block _ (lt_of_block HGR2.out)).trans HGR2.out
        have HGR : Hid (∀ W, Below w0.heap.size w0 W → W.heap[G]? = some (.cells #[.int .u32 (y1 : Int), .slice y2.a y2.n y2.c, .slice y3.a y3.n y3.c] 112 (0, 0))) := fun W hW => (hW.block _ (lt_of_block hq0)).trans hq0
        have HF0 : Hid (Fl w0 R vi y2 g.mem ∧ Fl w0 R vi y3 g.inv) := ⟨HW2.out.2.2.1.after hb0, HW2.out.2.2.2.after hb0⟩
        have HC3 : Hid (∀ W, Below w0.heap.size w0 W → Calls Try.prog 72 #[.slice y2.a y2.n y2.c, .int .u32 (p : Int)] W fun r w' => CallL R vi (g.mem ++ [p]) m2 W r w') := fun W hW => with_fl R vi y2 g.mem p m2 W ((HBK.out.after HB0.out).after hW).ctx (HF0.out.1.after hW) HM2.out (by have := HK4.out; omega)
        have HC7 : Hid (∀ W, Below w0.heap.size w0 W → Calls Try.prog 77 #[.slice y3.a y3.n y3.c, .int .u32 (p : Int)] W fun r w' => CallL R vi (wo g.inv p) m3 W r w') := fun W hW => without_fl R vi y3 g.inv p m3 W ((HBK.out.after HB0.out).after hW).ctx (HF0.out.2.after hW) HM3.out (by have := HK4.out; omega)
        clear hb0 hq0
        go_upto_region 6 with (fail)
        go_cut [] (fun wx => ∃ (A2 A3 : Option Addr) (c2 c3 : Nat), Hid (wx.heap[G]? = some (.cells #[.int .u32 (y1 : Int), .slice A2 m2 c2, .slice A3 m3 c3] 112 (0, 0)) ∧ Fl wx R vi ⟨A2, m2, c2⟩ (g.mem ++ [p]) ∧ Fl wx R vi ⟨A3, m3, c3⟩ (wo g.inv p) ∧ Below w.heap.size w wx))
        case first =>
          have HDk : Hid (Below w0.heap.size w0 w0.drew) := (Below.refl _ _).drew
          refine wp_region_held_drew (S := fun _ => True) (by kernel_rfl) trivial (fun hHeld => ?_)
          obtain ⟨Wk0, hW0⟩ : ∃ W0, W0 = w0.drew := ⟨_, rfl⟩
          rw [← hW0] at HDk ⊢
          clear hW0
          refine wpAnyH_take (i := 0) (oi := ?oi0k) (v := ?v0k) ?hi0k ?hs0k ?hf0k ?hr0k ?hQ0k ?hy0k ?hS0k ?h0k
          case hi0k => exact (by simp only [List.getElem?_toArray, List.getElem?_cons_zero]; rfl)
          case hs0k => kernel_rfl
          case hf0k => kernel_rfl
          case hr0k => kernel_rfl
          case hQ0k => exact fun _ _ _ h => h
          case hy0k =>
            refine Or.inl ⟨rfl, ?_⟩
            intro W hSw
            go_simp
            try with_reducible rfl
          case hS0k => assumption
          try simp only [Act.put, List.setIfInBounds_toArray, List.set_cons_zero, List.set_cons_succ]
          refine wpAnyH_take (i := 2) (oi := ?oi2k) (v := ?v2k) ?hi2k ?hs2k ?hf2k ?hr2k ?hQ2k ?hy2k ?hS2k ?h2k
          case hi2k => exact (by simp only [List.getElem?_toArray, List.getElem?_cons_succ, List.getElem?_cons_zero]; rfl)
          case hs2k => kernel_rfl
          case hf2k => kernel_rfl
          case hr2k => kernel_rfl
          case hQ2k => exact fun _ _ _ h => h
          case hy2k =>
            refine Or.inl ⟨rfl, ?_⟩
            intro W hSw
            go_simp
            try with_reducible rfl
          case hS2k => assumption
          try simp only [Act.put, List.setIfInBounds_toArray, List.set_cons_zero, List.set_cons_succ]
          refine wpAnyH_take (i := 4) (oi := ?oi4k) (v := ?v4k) ?hi4k ?hs4k ?hf4k ?hr4k ?hQ4k ?hy4k ?hS4k ?h4k
          case hi4k => exact (by simp only [List.getElem?_toArray, List.getElem?_cons_succ, List.getElem?_cons_zero]; rfl)
          case hs4k => kernel_rfl
          case hf4k => kernel_rfl
          case hr4k => kernel_rfl
          case hQ4k => exact fun _ _ _ h => h
          case hy4k =>
            refine Or.inl ⟨rfl, ?_⟩
            intro W hSw
            go_simp
            try with_reducible rfl
          case hS4k => assumption
          try simp only [Act.put, List.setIfInBounds_toArray, List.set_cons_zero, List.set_cons_succ]
          refine wpAnyH_take (i := 6) (oi := ?oi6k) (v := ?v6k) ?hi6k ?hs6k ?hf6k ?hr6k ?hQ6k ?hy6k ?hS6k ?h6k
          case hi6k => exact (by simp only [List.getElem?_toArray, List.getElem?_cons_succ, List.getElem?_cons_zero]; rfl)
          case hs6k => kernel_rfl
          case hf6k => kernel_rfl
          case hr6k => kernel_rfl
          case hQ6k => exact fun _ _ _ h => h
          case hy6k =>
            refine Or.inl ⟨rfl, ?_⟩
            intro W hSw
            go_simp
            try with_reducible rfl
          case hS6k => assumption
          try simp only [Act.put, List.setIfInBounds_toArray, List.set_cons_zero, List.set_cons_succ]
          refine wpAnyH_ready (rs := [1, 5]) (by kernel_rfl) (by simp) ?_
          refine AllReadyH.cons (o := _) rfl (fun K hK => ?_) (AllReadyH.cons (o := _) rfl (fun K hK => ?_) AllReadyH.nil)
          · have hqr := HGR.out Wk0 HDk.out
            have x1 := cell_of_row _ G 1 _ _ _ hqr
            simp at x1
            go_simp
            clear x1 hqr
            refine hK.out _ _ trivial (fun hHeld => ?_)
            clear hK K
            try simp only [Act.put, List.setIfInBounds_toArray, List.set_cons_zero, List.set_cons_succ]
            refine wpAnyH_ready (rs := [3, 5]) (by kernel_rfl) (by simp) ?_
            refine AllReadyH.cons (o := _) rfl (fun K hK => ?_) (AllReadyH.cons (o := _) rfl (fun K hK => ?_) AllReadyH.nil)
            · go_simp
              refine (HC3.out Wk0 HDk.out).mono ?_
              rintro r Wa1 ⟨A2, c2, rfl, f2, hbq⟩
              have HBWa1 := Lib.hid (HDk.out.trans (hbq.mono HDk.out.size))
              have F2 := Lib.hid f2
              clear f2 hbq
              refine hK.out _ _ trivial (fun hHeld => ?_)
              clear hK K
              try simp only [Act.put, List.setIfInBounds_toArray, List.set_cons_zero, List.set_cons_succ]
              refine wpAnyH_ready (rs := [5]) (by kernel_rfl) (by simp) ?_
              refine AllReadyH.cons (o := _) rfl (fun K hK => ?_) AllReadyH.nil
              have hqr := HGR.out Wa1 HBWa1.out
              have x1 := cell_of_row _ G 2 _ _ _ hqr
              simp at x1
              go_simp
              clear x1 hqr
              refine hK.out _ _ trivial (fun hHeld => ?_)
              clear hK K
              try simp only [Act.put, List.setIfInBounds_toArray, List.set_cons_zero, List.set_cons_succ]
              refine wpAnyH_take (i := 8) (oi := ?oi8ka) (v := ?v8ka) ?hi8ka ?hs8ka ?hf8ka ?hr8ka ?hQ8ka ?hy8ka ?hS8ka ?h8ka
              case hi8ka => exact (by simp only [List.getElem?_toArray, List.getElem?_cons_succ, List.getElem?_cons_zero]; rfl)
              case hs8ka => kernel_rfl
              case hf8ka => kernel_rfl
              case hr8ka => kernel_rfl
              case hQ8ka => exact fun _ _ _ h => h
              case hy8ka =>
                refine Or.inl ⟨rfl, ?_⟩
                intro W hSw
                go_simp
                try with_reducible rfl
              case hS8ka => assumption
              try simp only [Act.put, List.setIfInBounds_toArray, List.set_cons_zero, List.set_cons_succ]
              refine wpAnyH_ready (rs := [7]) (by kernel_rfl) (by simp) ?_
              refine AllReadyH.cons (o := _) rfl (fun K hK => ?_) AllReadyH.nil
              go_simp
              refine (HC7.out Wa1 HBWa1.out).mono ?_
              rintro r Wa2 ⟨A3, c3, rfl, f3, hbq⟩
              have HBWa2 := Lib.hid (HBWa1.out.trans (hbq.mono HBWa1.out.size))
              have F3 := Lib.hid f3
              have F2b := Lib.hid (F2.out.after hbq)
              clear f3 hbq
              refine hK.out _ _ trivial (fun hHeld => ?_)
              clear hK K
              try simp only [Act.put, List.setIfInBounds_toArray, List.set_cons_zero, List.set_cons_succ]
              refine wpAnyH_ready (rs := [9]) (by kernel_rfl) (by simp) ?_
              refine AllReadyH.cons (o := _) rfl (fun K hK => ?_) AllReadyH.nil
              have hqr := HGR.out Wa2 HBWa2.out
              have x1 := cell_of_row _ G 1 _ _ _ hqr
              simp at x1
              have xf : ∀ i, Wa2.frozen? ⟨G, i, none⟩ = false := fun i => frozen_of_row _ _ i _ _ hqr
              go_simp
              clear x1 xf
              obtain ⟨W8, hW8⟩ : ∃ W8, W8 = Wa2.setCell ⟨G, 1, none⟩ (.slice A2 m2 c2) := ⟨_, rfl⟩
              have HQ8 : Hid (W8.heap[G]? = some (.cells #[.int .u32 (y1 : Int), .slice A2 m2 c2, .slice y3.a y3.n y3.c] 112 (0, 0))) := by rw [hW8]; exact heap_setCell_same _ G 1 _ 112 _ hqr
              have HO8 : Hid (∀ g, g ≠ G → W8.heap[g]? = Wa2.heap[g]?) := fun g hg => by rw [hW8]; exact Below.heap_setCell _ _ _ _ hg
              have HB8 : Hid (Below w.heap.size w W8) := by rw [hW8]; exact (HB0.out.trans (HBWa2.out.mono HB0.out.size)).setCell HGW.out _
              rw [← hW8]
              clear hW8
              refine hK.out _ _ trivial (fun hHeld => ?_)
              clear hK K
              try simp only [Act.put, List.setIfInBounds_toArray, List.set_cons_zero, List.set_cons_succ]
              refine wpAnyH_take (i := 10) (oi := ?oi10ka) (v := ?v10ka) ?hi10ka ?hs10ka ?hf10ka ?hr10ka ?hQ10ka ?hy10ka ?hS10ka ?h10ka
              case hi10ka => exact (by simp only [List.getElem?_toArray, List.getElem?_cons_succ, List.getElem?_cons_zero]; rfl)
              case hs10ka => kernel_rfl
              case hf10ka => kernel_rfl
              case hr10ka => kernel_rfl
              case hQ10ka => exact fun _ _ _ h => h
              case hy10ka =>
                refine Or.inl ⟨rfl, ?_⟩
                intro W hSw
                go_simp
                try with_reducible rfl
              case hS10ka => assumption
              try simp only [Act.put, List.setIfInBounds_toArray, List.set_cons_zero, List.set_cons_succ]
              refine wpAnyH_ready (rs := [11]) (by kernel_rfl) (by simp) ?_
              refine AllReadyH.cons (o := _) rfl (fun K hK => ?_) AllReadyH.nil
              have hq8 := HQ8.out
              have x1 := cell_of_row _ G 2 _ _ _ hq8
              simp at x1
              have xf : ∀ i, W8.frozen? ⟨G, i, none⟩ = false := fun i => frozen_of_row _ _ i _ _ hq8
              go_simp
              clear x1 xf
              obtain ⟨W9, hW9⟩ : ∃ W9, W9 = W8.setCell ⟨G, 2, none⟩ (.slice A3 m3 c3) := ⟨_, rfl⟩
              have HQ9 : Hid (W9.heap[G]? = some (.cells #[.int .u32 (y1 : Int), .slice A2 m2 c2, .slice A3 m3 c3] 112 (0, 0))) := by rw [hW9]; exact heap_setCell_same _ G 2 _ 112 _ hq8
              have HO9 : Hid (∀ g, g ≠ G → W9.heap[g]? = Wa2.heap[g]?) := fun g hg => by rw [hW9]; exact (Below.heap_setCell _ _ _ _ hg).trans (HO8.out g hg)
              have HB9 : Hid (Below w.heap.size w W9) := by rw [hW9]; exact HB8.out.setCell HGW.out _
              have hnn := not26 hqr
              have HREL : Hid (W9.heap[G]? = some (.cells #[.int .u32 (y1 : Int), .slice A2 m2 c2, .slice A3 m3 c3] 112 (0, 0)) ∧ Fl W9 R vi ⟨A2, m2, c2⟩ (g.mem ++ [p]) ∧ Fl W9 R vi ⟨A3, m3, c3⟩ (wo g.inv p) ∧ Below w.heap.size w W9) := ⟨HQ9.out, fl_other F2b.out HO9.out hnn, fl_other F3.out HO9.out hnn, HB9.out⟩
              rw [← hW9]
              clear hW9 hqr hq8 hnn
              refine hK.out _ _ trivial (fun hHeld => ?_)
              clear hK K
              try simp only [Act.put, List.setIfInBounds_toArray, List.set_cons_zero, List.set_cons_succ]
              refine wpAnyH_done (by kernel_rfl) ?_ _
              go_wp2_with fail
              go_meet
              case rel => exact ⟨_, _, _, _, HREL⟩
            · have hqr := HGR.out Wk0 HDk.out
              have x1 := cell_of_row _ G 2 _ _ _ hqr
              simp at x1
              go_simp
              clear x1 hqr
              refine hK.out _ _ trivial (fun hHeld => ?_)
              clear hK K
              try simp only [Act.put, List.setIfInBounds_toArray, List.set_cons_zero, List.set_cons_succ]
              refine wpAnyH_ready (rs := [3]) (by kernel_rfl) (by simp) ?_
              refine AllReadyH.cons (o := _) rfl (fun K hK => ?_) AllReadyH.nil
              go_simp
              refine (HC3.out Wk0 HDk.out).mono ?_
              rintro r Wb1 ⟨A2, c2, rfl, f2, hbq⟩
              have HBWb1 := Lib.hid (HDk.out.trans (hbq.mono HDk.out.size))
              have F2 := Lib.hid f2
              clear f2 hbq
              refine hK.out _ _ trivial (fun hHeld => ?_)
              clear hK K
              try simp only [Act.put, List.setIfInBounds_toArray, List.set_cons_zero, List.set_cons_succ]
              refine wpAnyH_take (i := 8) (oi := ?oi8kb) (v := ?v8kb) ?hi8kb ?hs8kb ?hf8kb ?hr8kb ?hQ8kb ?hy8kb ?hS8kb ?h8kb
              case hi8kb => exact (by simp only [List.getElem?_toArray, List.getElem?_cons_succ, List.getElem?_cons_zero]; rfl)
              case hs8kb => kernel_rfl
              case hf8kb => kernel_rfl
              case hr8kb => kernel_rfl
              case hQ8kb => exact fun _ _ _ h => h
              case hy8kb =>
                refine Or.inl ⟨rfl, ?_⟩
                intro W hSw
                go_simp
                try with_reducible rfl
              case hS8kb => assumption
              try simp only [Act.put, List.setIfInBounds_toArray, List.set_cons_zero, List.set_cons_succ]
              refine wpAnyH_ready (rs := [7]) (by kernel_rfl) (by simp) ?_
              refine AllReadyH.cons (o := _) rfl (fun K hK => ?_) AllReadyH.nil
              go_simp
              refine (HC7.out Wb1 HBWb1.out).mono ?_
              rintro r Wb2 ⟨A3, c3, rfl, f3, hbq⟩
              have HBWb2 := Lib.hid (HBWb1.out.trans (hbq.mono HBWb1.out.size))
              have F3 := Lib.hid f3
              have F2b := Lib.hid (F2.out.after hbq)
              clear f3 hbq
              refine hK.out _ _ trivial (fun hHeld => ?_)
              clear hK K
              try simp only [Act.put, List.setIfInBounds_toArray, List.set_cons_zero, List.set_cons_succ]
              refine wpAnyH_ready (rs := [9]) (by kernel_rfl) (by simp) ?_
              refine AllReadyH.cons (o := _) rfl (fun K hK => ?_) AllReadyH.nil
              have hqr := HGR.out Wb2 HBWb2.out
              have x1 := cell_of_row _ G 1 _ _ _ hqr
              simp at x1
              have xf : ∀ i, Wb2.frozen? ⟨G, i, none⟩ = false := fun i => frozen_of_row _ _ i _ _ hqr
              go_simp
              clear x1 xf
              obtain ⟨W8, hW8⟩ : ∃ W8, W8 = Wb2.setCell ⟨G, 1, none⟩ (.slice A2 m2 c2) := ⟨_, rfl⟩
              have HQ8 : Hid (W8.heap[G]? = some (.cells #[.int .u32 (y1 : Int), .slice A2 m2 c2, .slice y3.a y3.n y3.c] 112 (0, 0))) := by rw [hW8]; exact heap_setCell_same _ G 1 _ 112 _ hqr
              have HO8 : Hid (∀ g, g ≠ G → W8.heap[g]? = Wb2.heap[g]?) := fun g hg => by rw [hW8]; exact Below.heap_setCell _ _ _ _ hg
              have HB8 : Hid (Below w.heap.size w W8) := by rw [hW8]; exact (HB0.out.trans (HBWb2.out.mono HB0.out.size)).setCell HGW.out _
              rw [← hW8]
              clear hW8
              refine hK.out _ _ trivial (fun hHeld => ?_)
              clear hK K
              try simp only [Act.put, List.setIfInBounds_toArray, List.set_cons_zero, List.set_cons_succ]
              refine wpAnyH_take (i := 10) (oi := ?oi10kb) (v := ?v10kb) ?hi10kb ?hs10kb ?hf10kb ?hr10kb ?hQ10kb ?hy10kb ?hS10kb ?h10kb
              case hi10kb => exact (by simp only [List.getElem?_toArray, List.getElem?_cons_succ, List.getElem?_cons_zero]; rfl)
              case hs10kb => kernel_rfl
              case hf10kb => kernel_rfl
              case hr10kb => kernel_rfl
              case hQ10kb => exact fun _ _ _ h => h
              case hy10kb =>
                refine Or.inl ⟨rfl, ?_⟩
                intro W hSw
                go_simp
                try with_reducible rfl
              case hS10kb => assumption
              try simp only [Act.put, List.setIfInBounds_toArray, List.set_cons_zero, List.set_cons_succ]
              refine wpAnyH_ready (rs := [11]) (by kernel_rfl) (by simp) ?_
              refine AllReadyH.cons (o := _) rfl (fun K hK => ?_) AllReadyH.nil
              have hq8 := HQ8.out
              have x1 := cell_of_row _ G 2 _ _ _ hq8
              simp at x1
              have xf : ∀ i, W8.frozen? ⟨G, i, none⟩ = false := fun i => frozen_of_row _ _ i _ _ hq8
              go_simp
              clear x1 xf
              obtain ⟨W9, hW9⟩ : ∃ W9, W9 = W8.setCell ⟨G, 2, none⟩ (.slice A3 m3 c3) := ⟨_, rfl⟩
              have HQ9 : Hid (W9.heap[G]? = some (.cells #[.int .u32 (y1 : Int), .slice A2 m2 c2, .slice A3 m3 c3] 112 (0, 0))) := by rw [hW9]; exact heap_setCell_same _ G 2 _ 112 _ hq8
              have HO9 : Hid (∀ g, g ≠ G → W9.heap[g]? = Wb2.heap[g]?) := fun g hg => by rw [hW9]; exact (Below.heap_setCell _ _ _ _ hg).trans (HO8.out g hg)
              have HB9 : Hid (Below w.heap.size w W9) := by rw [hW9]; exact HB8.out.setCell HGW.out _
              have hnn := not26 hqr
              have HREL : Hid (W9.heap[G]? = some (.cells #[.int .u32 (y1 : Int), .slice A2 m2 c2, .slice A3 m3 c3] 112 (0, 0)) ∧ Fl W9 R vi ⟨A2, m2, c2⟩ (g.mem ++ [p]) ∧ Fl W9 R vi ⟨A3, m3, c3⟩ (wo g.inv p) ∧ Below w.heap.size w W9) := ⟨HQ9.out, fl_other F2b.out HO9.out hnn, fl_other F3.out HO9.out hnn, HB9.out⟩
              rw [← hW9]
              clear hW9 hqr hq8 hnn
              refine hK.out _ _ trivial (fun hHeld => ?_)
              clear hK K
              try simp only [Act.put, List.setIfInBounds_toArray, List.set_cons_zero, List.set_cons_succ]
              refine wpAnyH_done (by kernel_rfl) ?_ _
              go_wp2_with fail
              go_meet
              case rel => exact ⟨_, _, _, _, HREL⟩
          · have hqr := HGR.out Wk0 HDk.out
            have x1 := cell_of_row _ G 2 _ _ _ hqr
            simp at x1
            go_simp
            clear x1 hqr
            refine hK.out _ _ trivial (fun hHeld => ?_)
            clear hK K
            try simp only [Act.put, List.setIfInBounds_toArray, List.set_cons_zero, List.set_cons_succ]
            refine wpAnyH_ready (rs := [1]) (by kernel_rfl) (by simp) ?_
            refine AllReadyH.cons (o := _) rfl (fun K hK => ?_) AllReadyH.nil
            have hqr := HGR.out Wk0 HDk.out
            have x1 := cell_of_row _ G 1 _ _ _ hqr
            simp at x1
            go_simp
            clear x1 hqr
            refine hK.out _ _ trivial (fun hHeld => ?_)
            clear hK K
            try simp only [Act.put, List.setIfInBounds_toArray, List.set_cons_zero, List.set_cons_succ]
            refine wpAnyH_ready (rs := [3]) (by kernel_rfl) (by simp) ?_
            refine AllReadyH.cons (o := _) rfl (fun K hK => ?_) AllReadyH.nil
            go_simp
            refine (HC3.out Wk0 HDk.out).mono ?_
            rintro r Wc1 ⟨A2, c2, rfl, f2, hbq⟩
            have HBWc1 := Lib.hid (HDk.out.trans (hbq.mono HDk.out.size))
            have F2 := Lib.hid f2
            clear f2 hbq
            refine hK.out _ _ trivial (fun hHeld => ?_)
            clear hK K
            try simp only [Act.put, List.setIfInBounds_toArray, List.set_cons_zero, List.set_cons_succ]
            refine wpAnyH_take (i := 8) (oi := ?oi8kc) (v := ?v8kc) ?hi8kc ?hs8kc ?hf8kc ?hr8kc ?hQ8kc ?hy8kc ?hS8kc ?h8kc
            case hi8kc => exact (by simp only [List.getElem?_toArray, List.getElem?_cons_succ, List.getElem?_cons_zero]; rfl)
            case hs8kc => kernel_rfl
            case hf8kc => kernel_rfl
            case hr8kc => kernel_rfl
            case hQ8kc => exact fun _ _ _ h => h
            case hy8kc =>
              refine Or.inl ⟨rfl, ?_⟩
              intro W hSw
              go_simp
              try with_reducible rfl
            case hS8kc => assumption
            try simp only [Act.put, List.setIfInBounds_toArray, List.set_cons_zero, List.set_cons_succ]
            refine wpAnyH_ready (rs := [7]) (by kernel_rfl) (by simp) ?_
            refine AllReadyH.cons (o := _) rfl (fun K hK => ?_) AllReadyH.nil
            go_simp
            refine (HC7.out Wc1 HBWc1.out).mono ?_
            rintro r Wc2 ⟨A3, c3, rfl, f3, hbq⟩
            have HBWc2 := Lib.hid (HBWc1.out.trans (hbq.mono HBWc1.out.size))
            have F3 := Lib.hid f3
            have F2b := Lib.hid (F2.out.after hbq)
            clear f3 hbq
            refine hK.out _ _ trivial (fun hHeld => ?_)
            clear hK K
            try simp only [Act.put, List.setIfInBounds_toArray, List.set_cons_zero, List.set_cons_succ]
            refine wpAnyH_ready (rs := [9]) (by kernel_rfl) (by simp) ?_
            refine AllReadyH.cons (o := _) rfl (fun K hK => ?_) AllReadyH.nil
            have hqr := HGR.out Wc2 HBWc2.out
            have x1 := cell_of_row _ G 1 _ _ _ hqr
            simp at x1
            have xf : ∀ i, Wc2.frozen? ⟨G, i, none⟩ = false := fun i => frozen_of_row _ _ i _ _ hqr
            go_simp
            clear x1 xf
            obtain ⟨W8, hW8⟩ : ∃ W8, W8 = Wc2.setCell ⟨G, 1, none⟩ (.slice A2 m2 c2) := ⟨_, rfl⟩
            have HQ8 : Hid (W8.heap[G]? = some (.cells #[.int .u32 (y1 : Int), .slice A2 m2 c2, .slice y3.a y3.n y3.c] 112 (0, 0))) := by rw [hW8]; exact heap_setCell_same _ G 1 _ 112 _ hqr
            have HO8 : Hid (∀ g, g ≠ G → W8.heap[g]? = Wc2.heap[g]?) := fun g hg => by rw [hW8]; exact Below.heap_setCell _ _ _ _ hg
            have HB8 : Hid (Below w.heap.size w W8) := by rw [hW8]; exact (HB0.out.trans (HBWc2.out.mono HB0.out.size)).setCell HGW.out _
            rw [← hW8]
            clear hW8
            refine hK.out _ _ trivial (fun hHeld => ?_)
            clear hK K
            try simp only [Act.put, List.setIfInBounds_toArray, List.set_cons_zero, List.set_cons_succ]
            refine wpAnyH_take (i := 10) (oi := ?oi10kc) (v := ?v10kc) ?hi10kc ?hs10kc ?hf10kc ?hr10kc ?hQ10kc ?hy10kc ?hS10kc ?h10kc
            case hi10kc => exact (by simp only [List.getElem?_toArray, List.getElem?_cons_succ, List.getElem?_cons_zero]; rfl)
            case hs10kc => kernel_rfl
            case hf10kc => kernel_rfl
            case hr10kc => kernel_rfl
            case hQ10kc => exact fun _ _ _ h => h
            case hy10kc =>
              refine Or.inl ⟨rfl, ?_⟩
              intro W hSw
              go_simp
              try with_reducible rfl
            case hS10kc => assumption
            try simp only [Act.put, List.setIfInBounds_toArray, List.set_cons_zero, List.set_cons_succ]
            refine wpAnyH_ready (rs := [11]) (by kernel_rfl) (by simp) ?_
            refine AllReadyH.cons (o := _) rfl (fun K hK => ?_) AllReadyH.nil
            have hq8 := HQ8.out
            have x1 := cell_of_row _ G 2 _ _ _ hq8
            simp at x1
            have xf : ∀ i, W8.frozen? ⟨G, i, none⟩ = false := fun i => frozen_of_row _ _ i _ _ hq8
            go_simp
            clear x1 xf
            obtain ⟨W9, hW9⟩ : ∃ W9, W9 = W8.setCell ⟨G, 2, none⟩ (.slice A3 m3 c3) := ⟨_, rfl⟩
            have HQ9 : Hid (W9.heap[G]? = some (.cells #[.int .u32 (y1 : Int), .slice A2 m2 c2, .slice A3 m3 c3] 112 (0, 0))) := by rw [hW9]; exact heap_setCell_same _ G 2 _ 112 _ hq8
            have HO9 : Hid (∀ g, g ≠ G → W9.heap[g]? = Wc2.heap[g]?) := fun g hg => by rw [hW9]; exact (Below.heap_setCell _ _ _ _ hg).trans (HO8.out g hg)
            have HB9 : Hid (Below w.heap.size w W9) := by rw [hW9]; exact HB8.out.setCell HGW.out _
            have hnn := not26 hqr
            have HREL : Hid (W9.heap[G]? = some (.cells #[.int .u32 (y1 : Int), .slice A2 m2 c2, .slice A3 m3 c3] 112 (0, 0)) ∧ Fl W9 R vi ⟨A2, m2, c2⟩ (g.mem ++ [p]) ∧ Fl W9 R vi ⟨A3, m3, c3⟩ (wo g.inv p) ∧ Below w.heap.size w W9) := ⟨HQ9.out, fl_other F2b.out HO9.out hnn, fl_other F3.out HO9.out hnn, HB9.out⟩
            rw [← hW9]
            clear hW9 hqr hq8 hnn
            refine hK.out _ _ trivial (fun hHeld => ?_)
            clear hK K
            try simp only [Act.put, List.setIfInBounds_toArray, List.set_cons_zero, List.set_cons_succ]
            refine wpAnyH_done (by kernel_rfl) ?_ _
            go_wp2_with fail
            go_meet
            case rel => exact ⟨_, _, _, _, HREL⟩
        case rest =>
          obtain ⟨A2, A3, c2, c3, HR⟩ := hcut
          rename World => w7
          have hq7 := HR.out.1
          have HB7 : Hid (Below w.heap.size w w7) := HR.out.2.2.2
          have HQG : Hid (∀ W, Below w7.heap.size w7 W → W.heap[G]? = some (.cells #[.int .u32 (y1 : Int), .slice A2 m2 c2, .slice A3 m3 c3] 112 (0, 0))) := fun W hW => (hW.block _ (lt_of_block hq7)).trans hq7
          have HSS : Hid (∀ W, Below w7.heap.size w7 W → (fun W : World => W.cell? ⟨B, 0, none⟩ = some (bp R) ∧ W.cell? ⟨G, 0, none⟩ = some (.int .u32 (y1 : Int)) ∧ W.cell? ⟨G, 1, none⟩ = some (.slice A2 m2 c2) ∧ W.cell? ⟨G, 2, none⟩ = some (.slice A3 m3 c3)) W) := fun W hW => by
            have hq := (hW.block _ (lt_of_block hq7)).trans hq7
            have hb : Below w.heap.size w W := HB7.out.trans (hW.mono HB7.out.size)
            exact ⟨cell_of_row W B 0 _ _ _ (HBK.out.after hb).blk, cell_of_row W G 0 _ _ _ hq, cell_of_row W G 1 _ _ _ hq, cell_of_row W G 2 _ _ _ hq⟩
          have HPUT : Hid (∀ W, Below w7.heap.size w7 W → Calls Try.prog 73 #[bp R, .int .u32 (x : Int), mV y1 ⟨A2, m2, c2⟩ ⟨A3, m3, c3⟩] W fun r w' => r = .returned (.int .i64 0) ∧ PutP B R most vi (insL L { g with mem := g.mem ++ [p], inv := wo g.inv p }) W w' ∧ ∀ k, w.heap.size ≤ k → k < W.heap.size → w'.heap[k]? = W.heap[k]?) := fun W hW => by
            have hb : Below w.heap.size w W := HB7.out.trans (hW.mono HB7.out.size)
            have := bput_there B R most vi L y1 ⟨A2, m2, c2⟩ ⟨A3, m3, c3⟩ { g with mem := g.mem ++ [p], inv := wo g.inv p } w W HBK.out hb HL.out ⟨g, HM.out, rfl⟩ ⟨HW2.out.2.1, (HR.out.2.1).after hW, (HR.out.2.2.1).after hW⟩
            rw [HX.out]
            exact this
          have HEND : Hid (∀ W, PutP B R most vi (insL L { g with mem := g.mem ++ [p], inv := wo g.inv p }) w7 W → LdP B R most vi (insL L { g with mem := g.mem ++ [p], inv := wo g.inv p }, 0) w (.returned (.int .i64 0)) W) := fun W hp => ⟨rfl, hp.from (Nat.le_of_lt HBK.out.ctx.1) HB7.out⟩
          clear hq7
          go_upto_region 7 with (fail)
          have HDkp : Hid (Below w7.heap.size w7 w7.drew) := (Below.refl _ _).drew
          refine wp_region_held_drew (S := fun W : World => W.cell? ⟨B, 0, none⟩ = some (bp R) ∧ W.cell? ⟨G, 0, none⟩ = some (.int .u32 (y1 : Int)) ∧ W.cell? ⟨G, 1, none⟩ = some (.slice A2 m2 c2) ∧ W.cell? ⟨G, 2, none⟩ = some (.slice A3 m3 c3)) (by kernel_rfl) (HSS.out _ HDkp.out) (fun hHeld => ?_)
          obtain ⟨Wpp, hW0⟩ : ∃ W0, W0 = w7.drew := ⟨_, rfl⟩
          rw [← hW0] at hHeld HDkp ⊢
          clear hW0
          refine wpAnyH_take (i := 0) (oi := ?oi0p) (v := ?v0p) ?hi0p ?hs0p ?hf0p ?hr0p ?hQ0p ?hy0p ?hS0p ?h0p
          case hi0p => exact (by simp only [List.getElem?_toArray, List.getElem?_cons_zero]; rfl)
          case hs0p => kernel_rfl
          case hf0p => kernel_rfl
          case hr0p => kernel_rfl
          case hQ0p => exact fun _ _ _ h => h
          case hy0p =>
            refine Or.inl ⟨rfl, ?_⟩
            intro W hSw
            obtain ⟨q9, q0, q1, q2⟩ := hSw
            go_simp
            try with_reducible rfl
          case hS0p => assumption
          try simp only [Act.put, List.setIfInBounds_toArray, List.set_cons_zero, List.set_cons_succ]
          refine wpAnyH_take (i := 1) (oi := ?oi1p) (v := ?v1p) ?hi1p ?hs1p ?hf1p ?hr1p ?hQ1p ?hy1p ?hS1p ?h1p
          case hi1p => exact (by simp only [List.getElem?_toArray, List.getElem?_cons_succ, List.getElem?_cons_zero]; rfl)
          case hs1p => kernel_rfl
          case hf1p => kernel_rfl
          case hr1p => kernel_rfl
          case hQ1p => exact fun _ _ _ h => h
          case hy1p =>
            refine Or.inl ⟨rfl, ?_⟩
            intro W hSw
            obtain ⟨q9, q0, q1, q2⟩ := hSw
            go_simp
            try with_reducible rfl
          case hS1p => assumption
          try simp only [Act.put, List.setIfInBounds_toArray, List.set_cons_zero, List.set_cons_succ]
          refine wpAnyH_take (i := 2) (oi := ?oi2p) (v := ?v2p) ?hi2p ?hs2p ?hf2p ?hr2p ?hQ2p ?hy2p ?hS2p ?h2p
          case hi2p => exact (by simp only [List.getElem?_toArray, List.getElem?_cons_succ, List.getElem?_cons_zero]; rfl)
          case hs2p => kernel_rfl
          case hf2p => kernel_rfl
          case hr2p => kernel_rfl
          case hQ2p => exact fun _ _ _ h => h
          case hy2p =>
            refine Or.inl ⟨rfl, ?_⟩
            intro W hSw
            obtain ⟨q9, q0, q1, q2⟩ := hSw
            go_simp
            try with_reducible rfl
          case hS2p => assumption
          try simp only [Act.put, List.setIfInBounds_toArray, List.set_cons_zero, List.set_cons_succ]
          refine wpAnyH_take (i := 3) (oi := ?oi3p) (v := ?v3p) ?hi3p ?hs3p ?hf3p ?hr3p ?hQ3p ?hy3p ?hS3p ?h3p
          case hi3p => exact (by simp only [List.getElem?_toArray, List.getElem?_cons_succ, List.getElem?_cons_zero]; rfl)
          case hs3p => kernel_rfl
          case hf3p => kernel_rfl
          case hr3p => kernel_rfl
          case hQ3p => exact fun _ _ _ h => h
          case hy3p =>
            refine Or.inl ⟨rfl, ?_⟩
            intro W hSw
            obtain ⟨q9, q0, q1, q2⟩ := hSw
            go_simp
            try with_reducible rfl
          case hS3p => assumption
          try simp only [Act.put, List.setIfInBounds_toArray, List.set_cons_zero, List.set_cons_succ]
          refine wpAnyH_take (i := 4) (oi := ?oi4p) (v := ?v4p) ?hi4p ?hs4p ?hf4p ?hr4p ?hQ4p ?hy4p ?hS4p ?h4p
          case hi4p => exact (by simp only [List.getElem?_toArray, List.getElem?_cons_succ, List.getElem?_cons_zero]; rfl)
          case hs4p => kernel_rfl
          case hf4p => kernel_rfl
          case hr4p => kernel_rfl
          case hQ4p => exact fun _ _ _ h => h
          case hy4p =>
            refine Or.inl ⟨rfl, ?_⟩
            intro W hSw
            obtain ⟨q9, q0, q1, q2⟩ := hSw
            go_simp
            try with_reducible rfl
          case hS4p => assumption
          try simp only [Act.put, List.setIfInBounds_toArray, List.set_cons_zero, List.set_cons_succ]
          refine wpAnyH_take (i := 5) (oi := ?oi5p) (v := ?v5p) ?hi5p ?hs5p ?hf5p ?hr5p ?hQ5p ?hy5p ?hS5p ?h5p
          case hi5p => exact (by simp only [List.getElem?_toArray, List.getElem?_cons_succ, List.getElem?_cons_zero]; rfl)
          case hs5p => kernel_rfl
          case hf5p => kernel_rfl
          case hr5p => kernel_rfl
          case hQ5p => exact fun _ _ _ h => h
          case hy5p =>
            refine Or.inl ⟨rfl, ?_⟩
            intro W hSw
            obtain ⟨q9, q0, q1, q2⟩ := hSw
            go_simp
            try with_reducible rfl
          case hS5p => assumption
          try simp only [Act.put, List.setIfInBounds_toArray, List.set_cons_zero, List.set_cons_succ]
          refine wpAnyH_ready (rs := [6]) (by kernel_rfl) (by simp) ?_
          refine AllReadyH.cons (o := _) rfl (fun K hK => ?_) AllReadyH.nil
          go_simp
          refine (HPUT.out Wpp HDkp.out).mono ?_
          rintro r Wq ⟨rfl, hp, hkp⟩
          have HFIN := Lib.hid (HEND.out Wq (hp.from (by have := HBK.out.ctx.1; have := HB7.out.size; have := HDkp.out.size; omega) HDkp.out))
          have HSQ : (fun W : World => W.cell? ⟨B, 0, none⟩ = some (bp R) ∧ W.cell? ⟨G, 0, none⟩ = some (.int .u32 (y1 : Int)) ∧ W.cell? ⟨G, 1, none⟩ = some (.slice A2 m2 c2) ∧ W.cell? ⟨G, 2, none⟩ = some (.slice A3 m3 c3)) Wq := by
            obtain ⟨vq, hbq, _⟩ := hp
            have hgw := lt_of_block (HQG.out Wpp HDkp.out)
            have hq := (hkp G (by have := HGW.out; omega) hgw).trans (HQG.out Wpp HDkp.out)
            exact ⟨cell_of_row Wq B 0 _ _ _ hbq.blk, cell_of_row Wq G 0 _ _ _ hq, cell_of_row Wq G 1 _ _ _ hq, cell_of_row Wq G 2 _ _ _ hq⟩
          clear hp hkp
          refine hK.out _ _ HSQ (fun hHeld => ?_)
          clear hK K HSQ
          try simp only [Act.put, List.setIfInBounds_toArray, List.set_cons_zero, List.set_cons_succ]
          refine wpAnyH_take (i := 7) (oi := ?oi7p) (v := ?v7p) ?hi7p ?hs7p ?hf7p ?hr7p ?hQ7p ?hy7p ?hS7p ?h7p
          case hi7p => exact (by simp only [List.getElem?_toArray, List.getElem?_cons_succ, List.getElem?_cons_zero]; rfl)
          case hs7p => kernel_rfl
          case hf7p => kernel_rfl
          case hr7p => kernel_rfl
          case hQ7p => exact fun _ _ _ h => h
          case hy7p =>
            refine Or.inl ⟨rfl, ?_⟩
            intro W hSw
            obtain ⟨q9, q0, q1, q2⟩ := hSw
            go_simp
            try with_reducible rfl
          case hS7p => assumption
          try simp only [Act.put, List.setIfInBounds_toArray, List.set_cons_zero, List.set_cons_succ]
          refine wpAnyH_done (by kernel_rfl) ?_ _
          go_wp2
          go_ret
          exact HFIN.out
    · have e : joinS L x p = (L, 12) := by unfold joinS; rw [hg]; simp only; rw [if_neg hp]
      rw [e]
      have HV := Lib.hid (inviting_some B R most vi L x p g false w h hl hg (by have := (hI.each g hm).four; omega) (by simpa using hp))
      clear h hg e hm hgi hI hp
      go_enter Try.func25, Try.ntmps25
      go_wp2_with fail
      refine HV.out.mono ?_
      rintro r w1 ⟨y1, y2, y3, rfl, e1, f2, f3, hb⟩
      have HF : Hid (∀ w', Below w1.heap.size w1 w' → LdP B R most vi (L, 12) w (.returned (.int .i64 12)) w') := fun w' hb' => ⟨rfl, PutP.of_below HBK.out (hb.trans (hb'.mono hb.size))⟩
      clear hb e1 f2 f3
      go_wp2
      go_ret
      exact HF.out _ ((Below.refl _ _).alloc (Nat.le_refl _) _)
end Go.Proofs.Ytjlpmdokmfmdiaa.P
