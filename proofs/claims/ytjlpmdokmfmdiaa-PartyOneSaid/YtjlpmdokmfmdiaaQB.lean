/- Party: refuse, leave, kick, lead. -/
import Derived.Test.YtjlpmdokmfmdiaaQA
namespace Go.Proofs.Ytjlpmdokmfmdiaa.P
open Go.RowKit
set_option maxRecDepth 20000
set_option linter.unusedVariables false
set_option linter.unusedSimpArgs false

def refuseS (L : List Pt) (x p : Nat) : List Pt × Bool × Int := match getP L x with
  | none => (L, false, 12)
  | some g => if p ∈ g.inv then (putS L (cut g p), overB (cut g p), 0) else (L, false, 12)
def leaveS (L : List Pt) (p : Nat) : List Pt × Nat × Bool × Int := match getP L (ofP L p) with
  | none => (L, 0, false, 12)
  | some g => (putS L (cut g p), g.id, overB (cut g p), 0)
def kickS (L : List Pt) (a p : Nat) : List Pt × Bool × Int := if ledC L a p ≠ 0 then (L, false, (ledC L a p : Int)) else match getP L (ofP L a) with
  | none => (L, false, 12)
  | some g => if p ∈ g.mem ∨ p ∈ g.inv then (putS L (cut g p), overB (cut g p), 0) else (L, false, 13)
def leadS (L : List Pt) (a p : Nat) : List Pt × Int := if ledC L a p ≠ 0 then (L, (ledC L a p : Int)) else match getP L (ofP L a) with
  | none => (L, 12)
  | some g => if p ∈ g.mem then (insL L { g with ld := p }, 0) else (L, 13)
def RefP (B R : Nat) (most : Int) (vi : Value) (S : List Pt × Bool × Int) (w : World) (r : Ending) (w' : World) : Prop := r = .returned (.tuple #[.bool S.2.1, .int .i64 S.2.2]) ∧ PutP B R most vi S.1 w w'
def LeaP (B R : Nat) (most : Int) (vi : Value) (S : List Pt × Nat × Bool × Int) (w : World) (r : Ending) (w' : World) : Prop := r = .returned (.tuple #[.int .u32 (S.2.1 : Int), .bool S.2.2.1, .int .i64 S.2.2.2]) ∧ PutP B R most vi S.1 w w'
def LdP (B R : Nat) (most : Int) (vi : Value) (S : List Pt × Int) (w : World) (r : Ending) (w' : World) : Prop := r = .returned (.int .i64 S.2) ∧ PutP B R most vi S.1 w w'
set_option maxHeartbeats 4000000 in
theorem refuse_any (B R : Nat) (most : Int) (vi : Value) (L : List Pt) (x p : Nat) (w : World) (h : Bk w B R most vi L) (hI : Inv L) (hl : L.length ≤ 100) :
    Calls Try.prog 22 #[bp B, .int .u32 (x : Int), .int .u32 (p : Int)] w fun r w' => RefP B R most vi (refuseS L x p) w r w' := by
  have HBK := Lib.hid h
  cases hg : getP L x with
  | none =>
    have e : refuseS L x p = (L, false, 12) := by unfold refuseS; rw [hg]
    rw [e]
    have HV := Lib.hid (inviting_none B R most vi L x p w h hl hg)
    clear h hg e
    go_enter Try.func22, Try.ntmps22
    go_wp2_with fail
    refine HV.out.mono ?_
    rintro r w1 ⟨rfl, hb⟩
    have HF : Hid (∀ w', Below w1.heap.size w1 w' → RefP B R most vi (L, false, 12) w (.returned (.tuple #[.bool false, .int .i64 12])) w') := fun w' hb' => ⟨rfl, PutP.of_below HBK.out (hb.trans (hb'.mono hb.size))⟩
    clear hb
    go_wp2
    go_ret2
    exact HF.out _ ((Below.refl _ _).alloc (Nat.le_refl _) _)
  | some g =>
    obtain ⟨hm, hgi⟩ := get_some hg
    by_cases hp : p ∈ g.inv
    · have e : refuseS L x p = (putS L (cut g p), overB (cut g p), 0) := by unfold refuseS; rw [hg]; simp only; rw [if_pos hp]
      rw [e]
      obtain ⟨t, ht⟩ : ∃ t, t = overB (cut g p) := ⟨_, rfl⟩
      have HV := Lib.hid (inviting_some B R most vi L x p g true w h hl hg (by have := (hI.each g hm).four; omega) (by simpa using hp))
      have HGI := Lib.hid hgi
      have HM := Lib.hid hm
      have HI := Lib.hid hI
      have HL := Lib.hid hl
      have HT := Lib.hid ht
      rw [← ht]
      clear h hg e hm hgi hI hl hp ht
      go_enter Try.func22, Try.ntmps22
      go_wp2_with fail
      refine HV.out.mono ?_
      rintro r w1 ⟨y1, y2, y3, rfl, e1, f2, f3, hb⟩
      obtain ⟨G, hG⟩ : ∃ G, G = w1.heap.size := ⟨_, rfl⟩
      obtain ⟨w3, hw3⟩ : ∃ W, W = w1.alloc (.cells #[.int .u32 (y1 : Int), .slice y2.a y2.n y2.c, .slice y3.a y3.n y3.c] 112) := ⟨_, rfl⟩
      have hq : w3.heap[G]? = some (.cells #[.int .u32 (y1 : Int), .slice y2.a y2.n y2.c, .slice y3.a y3.n y3.c] 112 (0, 0)) := by rw [hw3, hG]; exact heap_alloc_new w1 _
      have hb3 : Below w1.heap.size w1 w3 := by rw [hw3]; exact (Below.refl _ _).alloc (Nat.le_refl _) _
      have hB3 : Below w.heap.size w w3 := (hb).trans (hb3.mono (hb).size)
      have z0 := cell_of_row _ G 0 _ _ _ hq
      have z1 := cell_of_row _ G 1 _ _ _ hq
      have z2 := cell_of_row _ G 2 _ _ _ hq
      simp at z0 z1 z2
      have HLS := Lib.hid (lose_any B R most vi L p g y1 y2 y3 w3 (HBK.out.after hB3) HI.out HL.out HM.out e1 (f2.after hb3) (f3.after hb3))
      rw [HGI.out] at HLS
      have HF : Hid (∀ w', PutP B R most vi (putS L (cut g p)) w3 w' → RefP B R most vi (putS L (cut g p), t, 0) w (.returned (.tuple #[.bool t, .int .i64 0])) w') := fun w' hp => ⟨rfl, hp.from (Nat.le_of_lt HBK.out.ctx.1) hB3⟩
      have H3 := Lib.hid hw3
      have HGG := Lib.hid hG
      clear hw3 hG hq hb3 hB3 hb e1 f2 f3
      go_upto_region 2 with (fail)
      rw [← H3.out, ← HGG.out]
      go_wp2_with fail
      refine HLS.out.mono ?_
      rintro r w4 ⟨rfl, hp⟩
      rw [← HT.out]
      have HFF := Lib.hid (HF.out w4 hp)
      clear hp
      go_wp2
      go_ret2
      exact HFF.out
    · have e : refuseS L x p = (L, false, 12) := by unfold refuseS; rw [hg]; simp only; rw [if_neg hp]
      rw [e]
      have HV := Lib.hid (inviting_some B R most vi L x p g false w h hl hg (by have := (hI.each g hm).four; omega) (by simpa using hp))
      clear h hg e hm hgi hI hp
      go_enter Try.func22, Try.ntmps22
      go_wp2_with fail
      refine HV.out.mono ?_
      rintro r w1 ⟨y1, y2, y3, rfl, e1, f2, f3, hb⟩
      have HF : Hid (∀ w', Below w1.heap.size w1 w' → RefP B R most vi (L, false, 12) w (.returned (.tuple #[.bool false, .int .i64 12])) w') := fun w' hb' => ⟨rfl, PutP.of_below HBK.out (hb.trans (hb'.mono hb.size))⟩
      clear hb e1 f2 f3
      go_wp2
      go_ret2
      exact HF.out _ ((Below.refl _ _).alloc (Nat.le_refl _) _)
set_option maxHeartbeats 4000000 in
theorem leave_any (B R : Nat) (most : Int) (vi : Value) (L : List Pt) (p : Nat) (w : World) (h : Bk w B R most vi L) (hI : Inv L) (hl : L.length ≤ 100) :
    Calls Try.prog 23 #[bp B, .int .u32 (p : Int)] w fun r w' => LeaP B R most vi (leaveS L p) w r w' := by
  have HBK := Lib.hid h
  have HOF := Lib.hid (of_any B R most vi L p w h hl (fun e he => by have := (hI.each e he).four; omega))
  obtain ⟨x, hx⟩ : ∃ x, x = ofP L p := ⟨_, rfl⟩
  rw [← hx] at HOF
  have HX := Lib.hid hx
  have HI := Lib.hid hI
  have HL := Lib.hid hl
  cases hg : getP L x with
  | none =>
    have e : leaveS L p = (L, 0, false, 12) := by unfold leaveS; rw [← hx, hg]
    rw [e]
    have HG := Lib.hid hg
    clear h hg e hx hI hl
    go_enter Try.func23, Try.ntmps23
    go_wp2_with fail
    refine HOF.out.mono ?_
    rintro r w1 ⟨rfl, hb⟩
    have HA := Lib.hid (at_none B R most vi L x w1 (HBK.out.after hb) HL.out HG.out)
    have HB1 := Lib.hid hb
    clear hb
    go_wp2_with fail
    refine HA.out.mono ?_
    rintro r w2 ⟨rfl, hb⟩
    have HF : Hid (∀ w', Below w2.heap.size w2 w' → LeaP B R most vi (L, 0, false, 12) w (.returned (.tuple #[.int .u32 0, .bool false, .int .i64 12])) w') := fun w' hb' => ⟨rfl, PutP.of_below HBK.out ((HB1.out.trans (hb.mono HB1.out.size)).trans (hb'.mono (Nat.le_trans HB1.out.size hb.size)))⟩
    clear hb
    go_wp2
    exact bodyPost_ret (v := .tuple #[.int .u32 0, .bool false, .int .i64 12]) (by simp [results, Try.results23, go_sem]) rfl (HF.out _ ((Below.refl _ _).alloc (Nat.le_refl _) _))
  | some g =>
    obtain ⟨hm, hgi⟩ := get_some hg
    have e : leaveS L p = (putS L (cut g p), x, overB (cut g p), 0) := by unfold leaveS; rw [← hx, hg]; simp only; rw [hgi]
    rw [e]
    obtain ⟨t, ht⟩ : ∃ t, t = overB (cut g p) := ⟨_, rfl⟩
    have HGI := Lib.hid hgi
    have HM := Lib.hid hm
    have HT := Lib.hid ht
    have HG := Lib.hid hg
    rw [← ht]
    clear h hg e hx hI hl hm hgi ht
    go_enter Try.func23, Try.ntmps23
    go_wp2_with fail
    refine HOF.out.mono ?_
    rintro r w1 ⟨rfl, hb1⟩
    have HA := Lib.hid (at_some B R most vi L x g w1 (HBK.out.after hb1) HL.out HG.out)
    have HB1 := Lib.hid hb1
    clear hb1
    go_wp2_with fail
    refine HA.out.mono ?_
    rintro r w2 ⟨y1, y2, y3, rfl, e1, f2, f3, hb⟩
    obtain ⟨G, hG⟩ : ∃ G, G = w2.heap.size := ⟨_, rfl⟩
    obtain ⟨w3, hw3⟩ : ∃ W, W = w2.alloc (.cells #[.int .u32 (y1 : Int), .slice y2.a y2.n y2.c, .slice y3.a y3.n y3.c] 112) := ⟨_, rfl⟩
    have hq : w3.heap[G]? = some (.cells #[.int .u32 (y1 : Int), .slice y2.a y2.n y2.c, .slice y3.a y3.n y3.c] 112 (0, 0)) := by rw [hw3, hG]; exact heap_alloc_new w2 _
    have hb3 : Below w2.heap.size w2 w3 := by rw [hw3]; exact (Below.refl _ _).alloc (Nat.le_refl _) _
    have hB3 : Below w.heap.size w w3 := (HB1.out.trans (hb.mono HB1.out.size)).trans (hb3.mono (HB1.out.trans (hb.mono HB1.out.size)).size)
    have z0 := cell_of_row _ G 0 _ _ _ hq
    have z1 := cell_of_row _ G 1 _ _ _ hq
    have z2 := cell_of_row _ G 2 _ _ _ hq
    simp at z0 z1 z2
    have HLS := Lib.hid (lose_any B R most vi L p g y1 y2 y3 w3 (HBK.out.after hB3) HI.out HL.out HM.out e1 (f2.after hb3) (f3.after hb3))
    rw [HGI.out] at HLS
    have HF : Hid (∀ w', PutP B R most vi (putS L (cut g p)) w3 w' → LeaP B R most vi (putS L (cut g p), x, t, 0) w (.returned (.tuple #[.int .u32 (x : Int), .bool t, .int .i64 0])) w') := fun w' hp => ⟨rfl, hp.from (Nat.le_of_lt HBK.out.ctx.1) hB3⟩
    have H3 := Lib.hid hw3
    have HGG := Lib.hid hG
    clear hw3 hG hq hb3 hB3 hb e1 f2 f3
    go_upto_region 3 with (fail)
    rw [← H3.out, ← HGG.out]
    go_wp2_with fail
    refine HLS.out.mono ?_
    rintro r w4 ⟨rfl, hp⟩
    rw [← HT.out]
    have HFF := Lib.hid (HF.out w4 hp)
    clear hp
    go_wp2
    exact bodyPost_ret (v := .tuple #[.int .u32 (x : Int), .bool t, .int .i64 0]) (by simp [results, Try.results23, go_sem]) rfl HFF.out
theorem ledC_some {L : List Pt} {a p : Nat} (h : ¬ ledC L a p ≠ 0) : ∃ g, getP L (ofP L a) = some g ∧ g.ld = a ∧ a ≠ p := by
  unfold ledC at h
  cases hg : getP L (ofP L a) with
  | none => rw [hg] at h; simp at h
  | some g =>
    rw [hg] at h
    simp only at h
    split at h
    · simp at h
    · rename_i h1
      split at h
      · simp at h
      · rename_i h2
        exact ⟨g, rfl, Classical.byContradiction h1, h2⟩
theorem led_err (B R : Nat) (most : Int) (vi : Value) (L : List Pt) (a p : Nat) (w : World) (h : Bk w B R most vi L) (hI : Inv L) (hl : L.length ≤ 100) (hz : ledC L a p ≠ 0) :
    Calls Try.prog 76 #[bp B, .int .u32 (a : Int), .int .u32 (p : Int)] w fun r w' => r = .returned (.tuple #[.int .u32 0, .agg mZ, .int .i64 (ledC L a p : Int)]) ∧ Below w.heap.size w w' := by
  unfold ledC at hz ⊢
  cases hg : getP L (ofP L a) with
  | none => exact led_12 B R most vi L a p w h hI hl hg
  | some g =>
    rw [hg] at hz
    simp only at hz ⊢
    by_cases h1 : g.ld = a
    · rw [if_neg (by simpa using h1)] at hz ⊢
      by_cases h2 : a = p
      · rw [if_pos h2]
        exact led_16 B R most vi L a p g w h hI hl hg h1 h2
      · rw [if_neg h2] at hz
        exact absurd rfl hz
    · rw [if_pos h1]
      exact led_18 B R most vi L a p g w h hI hl hg h1
set_option maxHeartbeats 4000000 in
theorem kick_any (B R : Nat) (most : Int) (vi : Value) (L : List Pt) (a p : Nat) (w : World) (h : Bk w B R most vi L) (hI : Inv L) (hl : L.length ≤ 100) :
    Calls Try.prog 24 #[bp B, .int .u32 (a : Int), .int .u32 (p : Int)] w fun r w' => RefP B R most vi (kickS L a p) w r w' := by
  have HBK := Lib.hid h
  by_cases hz : ledC L a p ≠ 0
  · obtain ⟨c, hc⟩ : ∃ c, c = ledC L a p := ⟨_, rfl⟩
    have e : kickS L a p = (L, false, (c : Int)) := by unfold kickS; rw [if_pos hz, hc]
    rw [e]
    have HLD : Hid (Calls Try.prog 76 #[bp B, .int .u32 (a : Int), .int .u32 (p : Int)] w fun r w' => r = .returned (.tuple #[.int .u32 0, .agg mZ, .int .i64 (c : Int)]) ∧ Below w.heap.size w w') := by
      rw [hc]
      exact led_err B R most vi L a p w h hI hl hz
    have hcz : ¬ ((c : Int) = 0) := by rw [hc]; omega
    have hcz' : ¬ (c = 0) := by rw [hc]; exact hz
    clear h hI hl hz hc e
    go_enter Try.func24, Try.ntmps24
    go_wp2_with fail
    refine HLD.out.mono ?_
    rintro r w1 ⟨rfl, hb⟩
    have HF : Hid (∀ w', Below w1.heap.size w1 w' → RefP B R most vi (L, false, (c : Int)) w (.returned (.tuple #[.bool false, .int .i64 (c : Int)])) w') := fun w' hb' => ⟨rfl, PutP.of_below HBK.out (hb.trans (hb'.mono hb.size))⟩
    clear hb
    go_wp2
    go_ret2
    exact HF.out _ ((Below.refl _ _).alloc (Nat.le_refl _) _)
  · obtain ⟨g, hg, hld, hap⟩ := ledC_some hz
    obtain ⟨hm, hgi⟩ := get_some hg
    have HLD := Lib.hid (led_0 B R most vi L a p g w h hI hl hg hgi.symm hld hap)
    have HM := Lib.hid hm
    have HI := Lib.hid hI
    have HL := Lib.hid hl
    obtain ⟨x, hx⟩ : ∃ x, x = g.id := ⟨_, rfl⟩
    have HX := Lib.hid hx
    by_cases hp : p ∈ g.mem ∨ p ∈ g.inv
    · have e : kickS L a p = (putS L (cut g p), overB (cut g p), 0) := by unfold kickS; rw [if_neg hz, hg]; simp only; rw [if_pos hp]
      rw [e]
      obtain ⟨t, ht⟩ : ∃ t, t = overB (cut g p) := ⟨_, rfl⟩
      have HT := Lib.hid ht
      rw [← ht]
      have HPM : Hid (decide (p ∈ g.mem ++ g.inv) = true) := by simp only [Hid]; rw [decide_eq_true_iff, List.mem_append]; exact hp
      clear h hg e hm hgi hI hl hp ht hld hap hx hz
      go_enter Try.func24, Try.ntmps24
      go_wp2_with fail
      refine HLD.out.mono ?_
      rintro r w1 ⟨y1, y2, y3, rfl, e1, f2, f3, hb⟩
      rw [← HX.out]
      obtain ⟨G, hG⟩ : ∃ G, G = w1.heap.size := ⟨_, rfl⟩
      obtain ⟨w3, hw3⟩ : ∃ W, W = w1.alloc (.cells #[.int .u32 (y1 : Int), .slice y2.a y2.n y2.c, .slice y3.a y3.n y3.c] 112) := ⟨_, rfl⟩
      have hq : w3.heap[G]? = some (.cells #[.int .u32 (y1 : Int), .slice y2.a y2.n y2.c, .slice y3.a y3.n y3.c] 112 (0, 0)) := by rw [hw3, hG]; exact heap_alloc_new w1 _
      have hb3 : Below w1.heap.size w1 w3 := by rw [hw3]; exact (Below.refl _ _).alloc (Nat.le_refl _) _
      have hB3 : Below w.heap.size w w3 := (hb).trans (hb3.mono (hb).size)
      have z0 := cell_of_row _ G 0 _ _ _ hq
      have z1 := cell_of_row _ G 1 _ _ _ hq
      have z2 := cell_of_row _ G 2 _ _ _ hq
      simp at z0 z1 z2
      have HAL := Lib.hid (all_any y1 y2 y3 g.mem g.inv w3 f2.1 (f2.after hb3).rn f3.1 (f3.after hb3).rn (List.length_pos_of_mem (HI.out.each g HM.out).ld) (by have := (HI.out.each g HM.out).four; omega))
      have HW3 : Hid (Below w.heap.size w w3 ∧ y1 = g.ld ∧ Fl w3 R vi y2 g.mem ∧ Fl w3 R vi y3 g.inv) := ⟨hB3, e1, f2.after hb3, f3.after hb3⟩
      have HGR : Hid (w3.heap[G]? = some (.cells #[.int .u32 (y1 : Int), .slice y2.a y2.n y2.c, .slice y3.a y3.n y3.c] 112 (0, 0))) := hq
      have H3 := Lib.hid hw3
      have HGG := Lib.hid hG
      clear hw3 hG hq hb3 hB3 hb e1 f2 f3
      go_upto_region 2 with (fail)
      rw [← H3.out, ← HGG.out]
      go_wp2_with fail
      refine HAL.out.mono ?_
      rintro r w4 ⟨A4, n4, c4, rfl, ho, hb4⟩
      obtain ⟨hn4, hr4⟩ := Rn.of_own ho
      have HCT := Lib.hid (contains_any A4 n4 c4 (g.mem ++ g.inv) p w4 hn4 hr4 (by have := (HI.out.each g HM.out).four; rw [List.length_append] at hn4; omega))
      rw [HPM.out] at HCT
      have HB4 := Lib.hid hb4
      clear ho hb4 hn4 hr4
      clear z0 z1 z2
      go_wp2_with fail
      refine HCT.out.mono ?_
      rintro r w5 ⟨rfl, hb5⟩
      have hb35 : Below w3.heap.size w3 w5 := HB4.out.trans (hb5.mono HB4.out.size)
      have hB5 : Below w.heap.size w w5 := HW3.out.1.trans (hb35.mono HW3.out.1.size)
      have hq5 := (hb35.block _ (lt_of_block HGR.out)).trans HGR.out
      have z0 := cell_of_row _ G 0 _ _ _ hq5
      have z1 := cell_of_row _ G 1 _ _ _ hq5
      have z2 := cell_of_row _ G 2 _ _ _ hq5
      simp at z0 z1 z2
      have HLS := Lib.hid (lose_any B R most vi L p g y1 y2 y3 w5 (HBK.out.after hB5) HI.out HL.out HM.out HW3.out.2.1 (HW3.out.2.2.1.after hb35) (HW3.out.2.2.2.after hb35))
      rw [← HX.out] at HLS
      have HF : Hid (∀ w', PutP B R most vi (putS L (cut g p)) w5 w' → RefP B R most vi (putS L (cut g p), t, 0) w (.returned (.tuple #[.bool t, .int .i64 0])) w') := fun w' hp => ⟨rfl, hp.from (Nat.le_of_lt HBK.out.ctx.1) hB5⟩
      clear hb5 hb35 hB5 hq5
      go_wp2_with fail
      refine HLS.out.mono ?_
      rintro r w6 ⟨rfl, hp⟩
      rw [← HT.out]
      have HFF := Lib.hid (HF.out w6 hp)
      clear hp
      go_wp2
      go_ret2
      exact HFF.out
    · have e : kickS L a p = (L, false, 13) := by unfold kickS; rw [if_neg hz, hg]; simp only; rw [if_neg hp]
      rw [e]
      have HPM : Hid (decide (p ∈ g.mem ++ g.inv) = false) := by simp only [Hid]; rw [decide_eq_false_iff_not, List.mem_append]; exact hp
      clear h hg e hm hgi hI hl hp hld hap hx hz
      go_enter Try.func24, Try.ntmps24
      go_wp2_with fail
      refine HLD.out.mono ?_
      rintro r w1 ⟨y1, y2, y3, rfl, e1, f2, f3, hb⟩
      rw [← HX.out]
      obtain ⟨G, hG⟩ : ∃ G, G = w1.heap.size := ⟨_, rfl⟩
      obtain ⟨w3, hw3⟩ : ∃ W, W = w1.alloc (.cells #[.int .u32 (y1 : Int), .slice y2.a y2.n y2.c, .slice y3.a y3.n y3.c] 112) := ⟨_, rfl⟩
      have hq : w3.heap[G]? = some (.cells #[.int .u32 (y1 : Int), .slice y2.a y2.n y2.c, .slice y3.a y3.n y3.c] 112 (0, 0)) := by rw [hw3, hG]; exact heap_alloc_new w1 _
      have hb3 : Below w1.heap.size w1 w3 := by rw [hw3]; exact (Below.refl _ _).alloc (Nat.le_refl _) _
      have hB3 : Below w.heap.size w w3 := (hb).trans (hb3.mono (hb).size)
      have z0 := cell_of_row _ G 0 _ _ _ hq
      have z1 := cell_of_row _ G 1 _ _ _ hq
      have z2 := cell_of_row _ G 2 _ _ _ hq
      simp at z0 z1 z2
      have HAL := Lib.hid (all_any y1 y2 y3 g.mem g.inv w3 f2.1 (f2.after hb3).rn f3.1 (f3.after hb3).rn (List.length_pos_of_mem (HI.out.each g HM.out).ld) (by have := (HI.out.each g HM.out).four; omega))
      have HW3 : Hid (Below w.heap.size w w3) := hB3
      have H3 := Lib.hid hw3
      have HGG := Lib.hid hG
      clear hw3 hG hq hb3 hB3 hb e1 f2 f3
      go_upto_region 2 with (fail)
      rw [← H3.out, ← HGG.out]
      go_wp2_with fail
      refine HAL.out.mono ?_
      rintro r w4 ⟨A4, n4, c4, rfl, ho, hb4⟩
      obtain ⟨hn4, hr4⟩ := Rn.of_own ho
      have HCT := Lib.hid (contains_any A4 n4 c4 (g.mem ++ g.inv) p w4 hn4 hr4 (by have := (HI.out.each g HM.out).four; rw [List.length_append] at hn4; omega))
      rw [HPM.out] at HCT
      have HB4 := Lib.hid hb4
      clear ho hb4 hn4 hr4 z0 z1 z2
      go_wp2_with fail
      refine HCT.out.mono ?_
      rintro r w5 ⟨rfl, hb5⟩
      have HFF : Hid (RefP B R most vi (L, false, 13) w (.returned (.tuple #[.bool false, .int .i64 13])) w5) := ⟨rfl, PutP.of_below HBK.out (HW3.out.trans ((HB4.out.trans (hb5.mono HB4.out.size)).mono HW3.out.size))⟩
      clear hb5
      go_wp2
      go_ret2
      exact HFF.out
end Go.Proofs.Ytjlpmdokmfmdiaa.P
