/- Plan: the document's Usual; a config as the document's; a mode by its number; Same. -/
import Derived.Test.YtpomddmeachbbaaPB
namespace Go.Proofs.Ytpomddmeachbbaa
open Go.RowKit
set_option maxRecDepth 20000

theorem inB_f' {a n b : Int} (h : ¬(a ≤ n ∧ n ≤ b)) : inB a n b = false := by
  unfold inB
  rw [Bool.and_eq_false_iff, decide_eq_false_iff_not, decide_eq_false_iff_not]
  omega
theorem guard35 : Try.prog.eqGuardType Try.prog.depth 35 = false := by kernel_rfl
theorem guard26 : Try.prog.eqGuardType Try.prog.depth 26 = false := by kernel_rfl
theorem neq35 (k b s c e : Int) (w : World) : (binOp .neq 35 (mV k b s c e) (mV k b s c e)).run Try.prog w = .ok (.bool false) w := by
  have hS : Try.prog.underlying 35 = some (.struct (Try.prog.fieldsOf 35)) := by kernel_rfl
  have hp : Try.prog.stoodInHeld 35 = false := by kernel_rfl
  rw [run_neq_struct, show (10000 : Nat) = 9999 + 1 from rfl, run_equalIn_agg w 9999 35 _ _ hS hp]
  simp only [Program.fieldsOf, Try.underlying35]
  go_simp
theorem neq26 (k b s c e : Int) (w : World) : (binOp .neq 26 (mV k b s c e) (mV k b s c e)).run Try.prog w = .ok (.bool false) w := by
  have hS : Try.prog.underlying 26 = some (.struct (Try.prog.fieldsOf 26)) := by kernel_rfl
  have hp : Try.prog.stoodInHeld 26 = false := by kernel_rfl
  rw [run_neq_struct, show (10000 : Nat) = 9999 + 1 from rfl, run_equalIn_agg w 9999 26 _ _ hS hp]
  simp only [Program.fieldsOf, Try.underlying26]
  go_simp

set_option maxHeartbeats 4000000 in
theorem rusual_any (A : Option Addr) (n c : Nat) (l : List Md) (w : World) (hn : n = l.length) (hM : Ms w w.heap.size A l) (hl : n ≤ 1000) :
    Calls Try.prog 21 #[.slice A n c] w fun r w' => ∃ B c', r = .returned (.agg (usualC.cells (.slice B n c'))) ∧ Ms w' w'.heap.size B l ∧ Below w.heap.size w w' := by
  obtain ⟨w0, hw0⟩ : ∃ w0, w0 = w.alloc (.cells #[sV [], .int .i64 0, .int .i64 0, .int .i64 0, .int .i64 0, .int .i64 0, .int .i64 0, .int .i64 0, .int .i64 0, .int .i64 0, .int .i64 0, .int .i64 0, .int .i64 0, .slice none 0 0] 24) := ⟨_, rfl⟩
  have hb0 : Below w.heap.size w w0 := by rw [hw0]; exact (Below.refl _ _).alloc (Nat.le_refl _) _
  have hq0 : w0.heap[w.heap.size]? = some (.cells #[sV [], .int .i64 0, .int .i64 0, .int .i64 0, .int .i64 0, .int .i64 0, .int .i64 0, .int .i64 0, .int .i64 0, .int .i64 0, .int .i64 0, .int .i64 0, .int .i64 0, .slice none 0 0] 24 (0, 0)) := by rw [hw0]; exact heap_alloc_new w _
  have hM0 : Ms w0 w0.heap.size A l := (hM.below hb0).mono hb0.size
  have hb1 : Below w0.heap.size w0 (w0.alloc (.cells #[] 26)) := (Below.refl _ _).alloc (Nat.le_refl _) _
  have HM1 : Hid (Ms (w0.alloc (.cells #[] 26)) (w0.alloc (.cells #[] 26)).heap.size A l) := (hM0.below hb1).mono hb1.size
  have HOW : Hid ((w0.alloc (.cells #[] 26)).ownsRow w0.heap.size 26 5 (.slice (some ⟨w0.heap.size, 0, none⟩) 0 0) ([] : List Md).length (mr [])) :=
    ⟨rfl, .inr ⟨w0.heap.size, 0, #[], rfl, Nat.le_refl _, heap_alloc_new w0 _, Nat.le_refl _, Nat.zero_le _, rfl, rfl⟩⟩
  have HN := Lib.hid hn
  have HL0 : Hid (([] : List Md).length + l.length ≤ 100000) := by simp only [Hid, List.length_nil]; omega
  have HS0 : Hid (w0.heap.size ≤ (w0.alloc (.cells #[] 26)).heap.size) := hb1.size
  have HB1 := Lib.hid hb1
  have HB0 := Lib.hid hb0
  have HQ0 := Lib.hid hq0
  have H0 := Lib.hid hw0
  clear hw0 hb0 hq0 hM hM0 hb1 hn hl
  go_enter Try.func21, Try.ntmps21
  go_upto_region 1 with (fail)
  rw [← H0.out]
  go_wp2_with (at_builtin; refine wpList_append_md rfl 22 26 (.inr ⟨rfl, rfl⟩) (.tmp 3) (.tmp 4) rfl w0.heap.size c n (.slice (some ⟨w0.heap.size, 0, none⟩) 0 0) [] l A rfl rfl HN.out HOW.out HM1.out HL0.out HS0.out ?_; intro v2 w2 hown2 hg2; rw [List.nil_append, ← HN.out] at hown2; obtain ⟨B2, c2, rfl⟩ := own_form5 hown2; have hb2 : Below w0.heap.size w0 w2 := HB1.out.grown hg2 HS0.out (fun g hg => by have h : w0.heap.size = g := Option.some.inj hg; omega); have hq2 := (hb2.block _ (lt_of_block HQ0.out)).trans HQ0.out; have f0 : (∀ i, w2.frozen? ⟨w.heap.size, i, none⟩ = false) := fun i => frozen_of_row w2 _ i _ _ hq2; have d0 := cell_of_row w2 w.heap.size 0 _ _ _ hq2; have d1 := cell_of_row w2 w.heap.size 1 _ _ _ hq2; have d2 := cell_of_row w2 w.heap.size 2 _ _ _ hq2; have d3 := cell_of_row w2 w.heap.size 3 _ _ _ hq2; have d4 := cell_of_row w2 w.heap.size 4 _ _ _ hq2; have d5 := cell_of_row w2 w.heap.size 5 _ _ _ hq2; have d6 := cell_of_row w2 w.heap.size 6 _ _ _ hq2; have d7 := cell_of_row w2 w.heap.size 7 _ _ _ hq2; have d8 := cell_of_row w2 w.heap.size 8 _ _ _ hq2; have d9 := cell_of_row w2 w.heap.size 9 _ _ _ hq2; have d10 := cell_of_row w2 w.heap.size 10 _ _ _ hq2; have d11 := cell_of_row w2 w.heap.size 11 _ _ _ hq2; have d12 := cell_of_row w2 w.heap.size 12 _ _ _ hq2; have d13 := cell_of_row w2 w.heap.size 13 _ _ _ hq2; simp at d0 d1 d2 d3 d4 d5 d6 d7 d8 d9 d10 d11 d12 d13; have HM2 := Lib.hid (Ms.of_own hown2); have HLo : Hid (∀ ad, B2 = some ad → w0.heap.size ≤ ad.block) := fun ad h => (hown2.lt ad.block (by rw [h]; rfl)).1; have HB2 := Lib.hid (HB0.out.trans (hb2.mono HB0.out.size)); clear hown2 hg2 hb2 hq2)
  refine bodyPost_ret (v := .agg (usualC.cells (.slice B2 n c2))) (by simp [results, Try.results21, go_sem, usualC, d0, d1, d2, d3, d4, d5, d6, d7, d8, d9, d10, d11, d12, d13]) rfl ?_
  have hms : ∀ W, w2.heap.size ≤ W.heap.size → (∀ ad, B2 = some ad → W.heap[ad.block]? = w2.heap[ad.block]?) → Ms W W.heap.size B2 l := fun W h1 h2 => Ms.kept HM2.out h1 h2
  first
    | refine ⟨B2, c2, rfl, hms _ (by simp) (fun ad had => ?_), ?_⟩
    | refine ⟨B2, ⟨c2, rfl⟩, hms _ (by simp) (fun ad had => ?_), ?_⟩
  · have hne : ad.block ≠ w.heap.size := by have := HLo.out ad had; have := lt_of_block HQ0.out; omega
    iterate 14 refine (Below.heap_setCell _ _ _ _ hne).trans ?_
    rfl
  · exact ((((((((((((((HB2.out.setCell (by simp) _).setCell (by simp) _).setCell (by simp) _).setCell (by simp) _).setCell (by simp) _).setCell (by simp) _).setCell (by simp) _).setCell (by simp) _).setCell (by simp) _).setCell (by simp) _).setCell (by simp) _).setCell (by simp) _).setCell (by simp) _).setCell (by simp) _)

set_option linter.unusedSimpArgs false in
set_option maxHeartbeats 20000000 in
theorem back_any (C : Cfg) (A : Option Addr) (n c : Nat) (l : List Md) (w : World) (hn : n = l.length) (hM : Ms w w.heap.size A l) (hl : n ≤ 1000) :
    Calls Try.prog 25 #[.agg (C.cells (.slice A n c))] w fun r w' => ∃ B c', r = .returned (.agg (C.cells (.slice B n c'))) ∧ Ms w' w'.heap.size B l ∧ Below w.heap.size w w' := by
  obtain ⟨w0, hw0⟩ : ∃ w0, w0 = (w.alloc (.cells (C.cells (.slice A n c)) 31)).alloc (.cells #[sV [], .int .i64 0, .int .i64 0, .int .i64 0, .int .i64 0, .int .i64 0, .int .i64 0, .int .i64 0, .int .i64 0, .int .i64 0, .int .i64 0, .int .i64 0, .int .i64 0, .slice none 0 0] 24) := ⟨_, rfl⟩
  have hb0 : Below w.heap.size w w0 := by rw [hw0]; exact ((Below.refl _ _).alloc (Nat.le_refl _) _).alloc (by simp) _
  have hp0 : w0.heap[w.heap.size]? = some (.cells (C.cells (.slice A n c)) 31 (0, 0)) := by rw [hw0]; exact (Below.heap_alloc _ _ _ (by simp)).trans (heap_alloc_new w _)
  obtain ⟨Q, hQ⟩ : ∃ Q, Q = w.heap.size + 1 := ⟨_, rfl⟩
  have hq0 : w0.heap[Q]? = some (.cells #[sV [], .int .i64 0, .int .i64 0, .int .i64 0, .int .i64 0, .int .i64 0, .int .i64 0, .int .i64 0, .int .i64 0, .int .i64 0, .int .i64 0, .int .i64 0, .int .i64 0, .slice none 0 0] 24 (0, 0)) := by
    have := heap_alloc_new (w.alloc (.cells (C.cells (.slice A n c)) 31)) (.cells #[sV [], .int .i64 0, .int .i64 0, .int .i64 0, .int .i64 0, .int .i64 0, .int .i64 0, .int .i64 0, .int .i64 0, .int .i64 0, .int .i64 0, .int .i64 0, .int .i64 0, .slice none 0 0] 24)
    rw [World.size_alloc] at this
    rw [hw0, hQ]; exact this
  have HCE : Hid (∀ W, Below w0.heap.size w0 W → W.cell? ⟨w.heap.size, 0, none⟩ = some (sV C.key) ∧ W.cell? ⟨w.heap.size, 1, none⟩ = some (.int .i64 C.n1) ∧ W.cell? ⟨w.heap.size, 2, none⟩ = some (.int .i64 C.n2) ∧ W.cell? ⟨w.heap.size, 3, none⟩ = some (.int .i64 C.n3) ∧ W.cell? ⟨w.heap.size, 4, none⟩ = some (.int .i64 C.n4) ∧ W.cell? ⟨w.heap.size, 5, none⟩ = some (.int .i64 C.t1) ∧ W.cell? ⟨w.heap.size, 6, none⟩ = some (.int .i64 C.t2) ∧ W.cell? ⟨w.heap.size, 7, none⟩ = some (.int .i64 C.t3) ∧ W.cell? ⟨w.heap.size, 8, none⟩ = some (.int .i64 C.t4) ∧ W.cell? ⟨w.heap.size, 9, none⟩ = some (.int .i64 C.t5) ∧ W.cell? ⟨w.heap.size, 10, none⟩ = some (.int .i64 C.t6) ∧ W.cell? ⟨w.heap.size, 11, none⟩ = some (.int .i64 C.rate) ∧ W.cell? ⟨w.heap.size, 12, none⟩ = some (.int .i64 C.out) ∧ W.cell? ⟨w.heap.size, 13, none⟩ = some (.slice A n c)) := fun W hW => by
    have e2 := (hW.block _ (lt_of_block hp0)).trans hp0
    exact ⟨cell_of_row W _ 0 _ _ _ e2, cell_of_row W _ 1 _ _ _ e2, cell_of_row W _ 2 _ _ _ e2, cell_of_row W _ 3 _ _ _ e2, cell_of_row W _ 4 _ _ _ e2, cell_of_row W _ 5 _ _ _ e2, cell_of_row W _ 6 _ _ _ e2, cell_of_row W _ 7 _ _ _ e2, cell_of_row W _ 8 _ _ _ e2, cell_of_row W _ 9 _ _ _ e2, cell_of_row W _ 10 _ _ _ e2, cell_of_row W _ 11 _ _ _ e2, cell_of_row W _ 12 _ _ _ e2, cell_of_row W _ 13 _ _ _ e2⟩
  have HM : Hid (Ms w0 w0.heap.size A l) := (hM.below hb0).mono hb0.size
  have H0 := Lib.hid hw0
  have HB0 := Lib.hid hb0
  have HQ := Lib.hid hQ
  have HQ0 := Lib.hid hq0
  have HN := Lib.hid hn
  have HBr : Hid (Below w0.heap.size w0 w0) := Below.refl _ _
  clear hw0 hb0 hp0 hq0 hn hM hQ
  go_enter Try.func25, Try.ntmps25
  go_upto_region 1 with (fail)
  rw [← H0.out, ← HQ.out]
  generalize Value.agg (Cfg.cells C (Value.slice A n c)) = cv
  go_wp2_with fail
  go_loopw [4, 3] (fun v y wr => ∃ (k : Nat) (B : Option Addr) (c' : Nat), k ≤ n ∧ v = .int .i64 (k : Int) ∧ y = .slice B k c' ∧ Hid (wr.ownsRow w0.heap.size 26 5 (.slice B k c') k (mr (l.take k)) ∧ Below w0.heap.size w0 wr)) (fun v _ _ => n - (intOf v).toNat)
  case atStart => exact ⟨0, none, 0, by omega, rfl, rfl, World.ownsRow_nil w0 _ 26 5, HBr.out⟩
  case round =>
    obtain ⟨k, B, c', hk, rfl, rfl, HV⟩ := hrel
    obtain ⟨c0, c1, c2, c3, c4, c5, c6, c7, c8, c9, c10, c11, c12, c13⟩ := HCE.out wr HV.out.2
    by_cases hlt : k < n
    · obtain ⟨⟨mk, mb, ms, mq, me⟩, hm⟩ : ∃ m, l[k]? = some m := ⟨l[k]'(by rw [← HN.out]; exact hlt), List.getElem?_eq_getElem _⟩
      obtain ⟨b1, o1, rfl, hb1, hat⟩ := HM.out (by have := HN.out; omega)
      obtain ⟨d0, d1, d2, d3, d4⟩ := (hat k _ hm).below HV.out.2 hb1
      have hnx : l.take (k + 1) = l.take k ++ [⟨mk, mb, ms, mq, me⟩] := by
        rw [List.take_add_one, hm]
        rfl
      have HNX := Lib.hid hnx
      have hln : (l.take k).length = k := by rw [List.length_take]; have := HN.out; omega
      have HLN := Lib.hid hln
      have HLK : Hid ((l.take (k + 1)).length = k + 1) := by simp only [Hid]; rw [List.length_take]; have := HN.out; omega
      clear hm hat hnx hb1 hln
      obtain ⟨w1, hw1⟩ : ∃ w1, w1 = wr.alloc (.cells (mCells mk mb ms mq me) 35) := ⟨_, rfl⟩
      have hb : Below wr.heap.size wr w1 := by rw [hw1]; exact (Below.refl _ _).alloc (Nat.le_refl _) _
      have hq1 : w1.heap[wr.heap.size]? = some (.cells (mCells mk mb ms mq me) 35 (0, 0)) := by rw [hw1]; exact heap_alloc_new wr _
      have q0 := cell_of_row w1 wr.heap.size 0 _ _ _ hq1
      have q1 := cell_of_row w1 wr.heap.size 1 _ _ _ hq1
      have q2 := cell_of_row w1 wr.heap.size 2 _ _ _ hq1
      have q3 := cell_of_row w1 wr.heap.size 3 _ _ _ hq1
      have q4 := cell_of_row w1 wr.heap.size 4 _ _ _ hq1
      simp at q0 q1 q2 q3 q4
      obtain ⟨w2, hw2⟩ : ∃ w2, w2 = w1.alloc (.cells (mCells mk mb ms mq me) 26) := ⟨_, rfl⟩
      have hb2 : Below wr.heap.size wr w2 := by rw [hw2]; exact hb.alloc hb.size _
      have hG : w2.heap[w1.heap.size]? = some (.cells (mCells mk mb ms mq me) 26 (0, 0)) := by rw [hw2]; exact heap_alloc_new w1 _
      have hMs : Ms w2 w2.heap.size (some ⟨w1.heap.size, 0, none⟩) [⟨mk, mb, ms, mq, me⟩] := fun _ => ⟨w1.heap.size, 0, rfl, lt_of_block hG, fun i m hi => by
        obtain ⟨rfl, rfl⟩ : i = 0 ∧ (⟨mk, mb, ms, mq, me⟩ : Md) = m := by
          rcases i with _ | i
          · simp at hi; exact ⟨rfl, hi⟩
          · simp at hi
        exact ⟨cell_of_row w2 _ 0 _ _ _ hG, cell_of_row w2 _ 1 _ _ _ hG, cell_of_row w2 _ 2 _ _ _ hG, cell_of_row w2 _ 3 _ _ _ hG, cell_of_row w2 _ 4 _ _ _ hG⟩⟩
      have hown : w2.ownsRow w0.heap.size 26 5 (.slice B k c') (l.take k).length (mr (l.take k)) := by
        rw [HLN.out]
        exact own_after HV.out.1 hb2
      have HOW := Lib.hid hown
      have HMs := Lib.hid hMs
      have HB2 : Hid (Below w0.heap.size w0 w2) := HV.out.2.trans (hb2.mono HV.out.2.size)
      have hlen : (l.take k).length + 1 ≤ 100000 := by rw [HLN.out]; omega
      have HLE := Lib.hid hlen
      have HBS : Hid (w0.heap.size ≤ w2.heap.size) := HB2.out.size
      rw [hw2] at HOW HMs HBS
      have H1 := Lib.hid hw1
      have H2 := Lib.hid hw2
      clear hown hMs hb hb2 hG hw2 hlen hw1 hq1
      go_upto_region 6 with (fail)
      rw [← H1.out]
      clear d0 d1 d2 d3 d4 c0 c1 c2 c3 c4 c5 c6 c7 c8 c9 c10 c11 c12 c13
      go_wp2_with (at_builtin; refine wpList_append_md rfl 22 26 (.inr ⟨rfl, rfl⟩) (.tmp 18) (.tmp 30) rfl w0.heap.size 1 1 (.slice B k c') (l.take k) [⟨mk, mb, ms, mq, me⟩] (some ⟨w1.heap.size, 0, none⟩) rfl rfl rfl HOW.out HMs.out HLE.out HBS.out ?_; intro v3 w3 hown3 hg3; rw [← HNX.out, HLK.out] at hown3; obtain ⟨B3, c3, rfl⟩ := own_form5 hown3)
      go_roundw
      case rel =>
        refine ⟨k + 1, B3, c3, by omega, by go_num, rfl, hown3, ?_⟩
        have hg4 : w2.grownBy w3 (Value.slice B k c').ownBlock := by rw [H2.out]; exact hg3
        exact HB2.out.grown hg4 HB2.out.size (fun g hg => (HV.out.1.lt g hg).1)
      case measure => simp [intOf] <;> omega
    · have hkn : k = n := by omega
      subst hkn
      obtain ⟨Ckey, Cn1, Cn2, Cn3, Cn4, Ct1, Ct2, Ct3, Ct4, Ct5, Ct6, Crate, Cout⟩ := C
      have ht : l.take k = l := by rw [HN.out, List.take_length]
      have hown := HV.out.1
      rw [ht] at hown
      have hq2 := (HV.out.2.block Q (lt_of_block HQ0.out)).trans HQ0.out
      have f0 : ∀ i, wr.frozen? ⟨Q, i, none⟩ = false := fun i => frozen_of_row wr _ i _ _ hq2
      have d0 := cell_of_row wr Q 0 _ _ _ hq2
      have d1 := cell_of_row wr Q 1 _ _ _ hq2
      have d2 := cell_of_row wr Q 2 _ _ _ hq2
      have d3 := cell_of_row wr Q 3 _ _ _ hq2
      have d4 := cell_of_row wr Q 4 _ _ _ hq2
      have d5 := cell_of_row wr Q 5 _ _ _ hq2
      have d6 := cell_of_row wr Q 6 _ _ _ hq2
      have d7 := cell_of_row wr Q 7 _ _ _ hq2
      have d8 := cell_of_row wr Q 8 _ _ _ hq2
      have d9 := cell_of_row wr Q 9 _ _ _ hq2
      have d10 := cell_of_row wr Q 10 _ _ _ hq2
      have d11 := cell_of_row wr Q 11 _ _ _ hq2
      have d12 := cell_of_row wr Q 12 _ _ _ hq2
      have d13 := cell_of_row wr Q 13 _ _ _ hq2
      simp at d0 d1 d2 d3 d4 d5 d6 d7 d8 d9 d10 d11 d12 d13
      have HMs : Hid (Ms wr wr.heap.size B l) := Ms.of_own hown
      have HLo : Hid (∀ ad, B = some ad → w0.heap.size ≤ ad.block) := fun ad h => (hown.lt ad.block (by rw [h]; rfl)).1
      have HQW : Hid (Q < w0.heap.size) := lt_of_block HQ0.out
      have HBF : Hid (Below w.heap.size w wr) := HB0.out.trans (HV.out.2.mono HB0.out.size)
      have HQL : Hid (w.heap.size ≤ Q) := by have := HQ.out; simp only [Hid]; omega
      clear hown hq2 ht
      go_wp2
      refine bodyPost_ret (v := .agg (Cfg.cells ⟨Ckey, Cn1, Cn2, Cn3, Cn4, Ct1, Ct2, Ct3, Ct4, Ct5, Ct6, Crate, Cout⟩ (.slice B k c'))) (by simp [results, Try.results25, go_sem, d0, d1, d2, d3, d4, d5, d6, d7, d8, d9, d10, d11, d12, d13]) rfl ?_
      have hms : ∀ W, wr.heap.size ≤ W.heap.size → (∀ ad, B = some ad → W.heap[ad.block]? = wr.heap[ad.block]?) → Ms W W.heap.size B l := fun W h1 h2 => Ms.kept HMs.out h1 h2
      first
        | refine ⟨B, c', rfl, hms _ (by simp) (fun ad had => ?_), ?_⟩
        | refine ⟨B, ⟨c', rfl⟩, hms _ (by simp) (fun ad had => ?_), ?_⟩
      · have hne : ad.block ≠ Q := by have := HLo.out ad had; have := HQW.out; omega
        iterate 14 refine (Below.heap_setCell _ _ _ _ hne).trans ?_
        rfl
      · exact ((((((((((((((HBF.out.setCell HQL.out _).setCell HQL.out _).setCell HQL.out _).setCell HQL.out _).setCell HQL.out _).setCell HQL.out _).setCell HQL.out _).setCell HQL.out _).setCell HQL.out _).setCell HQL.out _).setCell HQL.out _).setCell HQL.out _).setCell HQL.out _).setCell HQL.out _)

set_option maxHeartbeats 4000000 in
theorem modeAt_any (C : Cfg) (A : Option Addr) (n c : Nat) (l : List Md) (x : Int) (k b s q e : Int) (w : World) (hn : n = l.length) (hM : Ms w w.heap.size A l) (hl : n ≤ 1000) (hx : 0 ≤ x ∧ x < n) (hg : l[x.toNat]? = some ⟨k, b, s, q, e⟩) :
    Calls Try.prog 23 #[.agg (C.cells (.slice A n c)), .int .i64 x] w fun r w' => r = .returned (.tuple #[mV k b s q e, .bool true]) ∧ Below w.heap.size w w' := by
  obtain ⟨i, rfl⟩ : ∃ i : Nat, x = (i : Int) := ⟨x.toNat, by omega⟩
  have hi : i < n := by omega
  rw [Int.toNat_natCast] at hg
  obtain ⟨b1, o1, rfl, hb1, hat⟩ := hM (by omega)
  obtain ⟨w0, hw0⟩ : ∃ w0, w0 = (w.alloc (.cells (C.cells (.slice (some ⟨b1, o1, none⟩) n c)) 31)).alloc (.cells (mCells 0 0 0 0 0) 35) := ⟨_, rfl⟩
  have hb0 : Below w.heap.size w w0 := by rw [hw0]; exact ((Below.refl _ _).alloc (Nat.le_refl _) _).alloc (by simp) _
  have hp0 : w0.heap[w.heap.size]? = some (.cells (C.cells (.slice (some ⟨b1, o1, none⟩) n c)) 31 (0, 0)) := by rw [hw0]; exact (Below.heap_alloc _ _ _ (by simp)).trans (heap_alloc_new w _)
  have hq0 : w0.heap[w.heap.size + 1]? = some (.cells (mCells 0 0 0 0 0) 35 (0, 0)) := by
    have := heap_alloc_new (w.alloc (.cells (C.cells (.slice (some ⟨b1, o1, none⟩) n c)) 31)) (.cells (mCells 0 0 0 0 0) 35)
    rw [World.size_alloc] at this
    rw [hw0]; exact this
  have f0 : ∀ i, w0.frozen? ⟨w.heap.size + 1, i, none⟩ = false := fun i => frozen_of_row w0 _ i _ _ hq0
  have c13 := cell_of_row w0 w.heap.size 13 _ _ _ hp0
  have d0 := cell_of_row w0 (w.heap.size + 1) 0 _ _ _ hq0
  have d1 := cell_of_row w0 (w.heap.size + 1) 1 _ _ _ hq0
  have d2 := cell_of_row w0 (w.heap.size + 1) 2 _ _ _ hq0
  have d3 := cell_of_row w0 (w.heap.size + 1) 3 _ _ _ hq0
  have d4 := cell_of_row w0 (w.heap.size + 1) 4 _ _ _ hq0
  simp at c13 d0 d1 d2 d3 d4
  obtain ⟨g0, g1, g2, g3, g4⟩ := (hat i _ hg).below hb0 hb1
  have H0 := Lib.hid hw0
  have hc1 : wrap64 ((n : Int) - 1) = (n : Int) - 1 := wr64 (by omega) (by omega)
  have hin : inB 0 (i : Int) ((n : Int) - 1) = true := by simp [inB]; omega
  have HCW : Hid (∀ W, Calls Try.prog 43 #[.int .i64 (i : Int), .int .i64 0, .int .i64 ((n : Int) - 1)] W fun r w' => r = .returned (.bool true) ∧ w' = W) := fun W => by rw [← hin]; exact within_int _ _ _ W
  clear hw0 hp0 hq0 hat hg hin hn hM
  go_enter Try.func23, Try.ntmps23
  go_upto_region 1 with (fail)
  rw [← H0.out]
  go_wp2_with fail
  refine (HCW.out w0).mono ?_
  rintro r w1 ⟨rfl, rfl⟩
  go_wp2
  exact bodyPost_ret (v := .tuple #[mV k b s q e, .bool true]) (by simp [results, Try.results23, go_sem, d0, d1, d2, d3, d4]) rfl ⟨rfl, ((((hb0.setCell (by simp) _).setCell (by simp) _).setCell (by simp) _).setCell (by simp) _).setCell (by simp) _⟩

set_option maxHeartbeats 4000000 in
theorem modeOut_any (C : Cfg) (A : Option Addr) (n c : Nat) (x : Int) (w : World) (hl : n ≤ 1000) (hx : ¬(0 ≤ x ∧ x < n)) :
    Calls Try.prog 23 #[.agg (C.cells (.slice A n c)), .int .i64 x] w fun r w' => r = .returned (.tuple #[mV 0 0 0 0 0, .bool false]) ∧ Below w.heap.size w w' := by
  obtain ⟨w0, hw0⟩ : ∃ w0, w0 = (w.alloc (.cells (C.cells (.slice A n c)) 31)).alloc (.cells (mCells 0 0 0 0 0) 35) := ⟨_, rfl⟩
  have hb0 : Below w.heap.size w w0 := by rw [hw0]; exact ((Below.refl _ _).alloc (Nat.le_refl _) _).alloc (by simp) _
  have hp0 : w0.heap[w.heap.size]? = some (.cells (C.cells (.slice A n c)) 31 (0, 0)) := by rw [hw0]; exact (Below.heap_alloc _ _ _ (by simp)).trans (heap_alloc_new w _)
  have hq0 : w0.heap[w.heap.size + 1]? = some (.cells (mCells 0 0 0 0 0) 35 (0, 0)) := by
    have := heap_alloc_new (w.alloc (.cells (C.cells (.slice A n c)) 31)) (.cells (mCells 0 0 0 0 0) 35)
    rw [World.size_alloc] at this
    rw [hw0]; exact this
  have f0 : ∀ i, w0.frozen? ⟨w.heap.size + 1, i, none⟩ = false := fun i => frozen_of_row w0 _ i _ _ hq0
  have c13 := cell_of_row w0 w.heap.size 13 _ _ _ hp0
  have d0 := cell_of_row w0 (w.heap.size + 1) 0 _ _ _ hq0
  have d1 := cell_of_row w0 (w.heap.size + 1) 1 _ _ _ hq0
  have d2 := cell_of_row w0 (w.heap.size + 1) 2 _ _ _ hq0
  have d3 := cell_of_row w0 (w.heap.size + 1) 3 _ _ _ hq0
  have d4 := cell_of_row w0 (w.heap.size + 1) 4 _ _ _ hq0
  simp at c13 d0 d1 d2 d3 d4
  have H0 := Lib.hid hw0
  have hc1 : wrap64 ((n : Int) - 1) = (n : Int) - 1 := wr64 (by omega) (by omega)
  have hin : inB 0 x ((n : Int) - 1) = false := inB_f' (by omega)
  have HCW : Hid (∀ W, Calls Try.prog 43 #[.int .i64 x, .int .i64 0, .int .i64 ((n : Int) - 1)] W fun r w' => r = .returned (.bool false) ∧ w' = W) := fun W => by rw [← hin]; exact within_int _ _ _ W
  clear hw0 hp0 hq0 hin
  go_enter Try.func23, Try.ntmps23
  go_upto_region 1 with (fail)
  rw [← H0.out]
  go_wp2_with fail
  refine (HCW.out w0).mono ?_
  rintro r w1 ⟨rfl, rfl⟩
  go_wp2
  first
    | exact bodyPost_ret (v := .tuple #[mV 0 0 0 0 0, .bool false]) (by simp [results, Try.results23, go_sem, d0, d1, d2, d3, d4]) rfl ⟨rfl, ((((hb0.setCell (by simp) _).setCell (by simp) _).setCell (by simp) _).setCell (by simp) _).setCell (by simp) _⟩
    | exact bodyPost_ret (v := .tuple #[mV 0 0 0 0 0, .bool false]) (by simp [results, Try.results23, go_sem, d0, d1, d2, d3, d4]) rfl ⟨rfl, hb0⟩
end Go.Proofs.Ytpomddmeachbbaa
