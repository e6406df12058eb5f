/- Plan: a config of the document as the program's. -/
import Derived.Test.YtpomddmeachbbaaP4
import Derived.Test.YtpomddmeachbbaaP5
namespace Go.Proofs.Ytpomddmeachbbaa
open Go.RowKit
set_option maxRecDepth 20000

theorem own_after {w w' : World} {base T m : Nat} {v : Value} {xs : List Value} (h : w.ownsRow base T 5 v m xs) (hb : Below w.heap.size w w') : w'.ownsRow base T 5 v m xs := by
  refine ⟨h.1, ?_⟩
  rcases h.2 with hn | ⟨g, cap, cur, hv, hbg, hg, rest⟩
  · exact .inl hn
  · exact .inr ⟨g, cap, cur, hv, hbg, (hb.block g (lt_of_block hg)).trans hg, rest⟩

set_option linter.unusedSimpArgs false in
set_option maxHeartbeats 20000000 in
theorem config_new (C : Cfg) (A : Option Addr) (n c : Nat) (l : List Md) (w : World) (hn : n = l.length) (hM : Ms w w.heap.size A l) (hl : n ≤ 1000) :
    Calls Try.prog 12 #[.agg (C.cells (.slice A n c))] w fun r w' => ∃ B c', r = .returned (.agg (C.cells (.slice B n c'))) ∧ Ms w' w'.heap.size B l ∧ Below w.heap.size w w' ∧ ∀ ad, B = some ad → w.heap.size ≤ ad.block := by
  obtain ⟨w0, hw0⟩ : ∃ w0, w0 = (w.alloc (.cells (C.cells (.slice A n c)) 24)).alloc (.cells #[sV [], .int .i64 0, .int .i64 0, .int .i64 0, .int .i64 0, .int .i64 0, .int .i64 0, .int .i64 0, .int .i64 0, .int .i64 0, .int .i64 0, .int .i64 0, .int .i64 0, .slice none 0 0] 31) := ⟨_, rfl⟩
  have hb0 : Below w.heap.size w w0 := by rw [hw0]; exact ((Below.refl _ _).alloc (Nat.le_refl _) _).alloc (by simp) _
  have hp0 : w0.heap[w.heap.size]? = some (.cells (C.cells (.slice A n c)) 24 (0, 0)) := by rw [hw0]; exact (Below.heap_alloc _ _ _ (by simp)).trans (heap_alloc_new w _)
  obtain ⟨Q, hQ⟩ : ∃ Q, Q = w.heap.size + 1 := ⟨_, rfl⟩
  have hq0 : w0.heap[Q]? = some (.cells #[sV [], .int .i64 0, .int .i64 0, .int .i64 0, .int .i64 0, .int .i64 0, .int .i64 0, .int .i64 0, .int .i64 0, .int .i64 0, .int .i64 0, .int .i64 0, .int .i64 0, .slice none 0 0] 31 (0, 0)) := by
    have := heap_alloc_new (w.alloc (.cells (C.cells (.slice A n c)) 24)) (.cells #[sV [], .int .i64 0, .int .i64 0, .int .i64 0, .int .i64 0, .int .i64 0, .int .i64 0, .int .i64 0, .int .i64 0, .int .i64 0, .int .i64 0, .int .i64 0, .int .i64 0, .slice none 0 0] 31)
    rw [World.size_alloc] at this
    rw [hw0, hQ]; exact this
  have HCE : Hid (∀ W, Below w0.heap.size w0 W → W.cell? ⟨w.heap.size, 0, none⟩ = some (sV C.key) ∧ W.cell? ⟨w.heap.size, 1, none⟩ = some (.int .i64 C.n1) ∧ W.cell? ⟨w.heap.size, 2, none⟩ = some (.int .i64 C.n2) ∧ W.cell? ⟨w.heap.size, 3, none⟩ = some (.int .i64 C.n3) ∧ W.cell? ⟨w.heap.size, 4, none⟩ = some (.int .i64 C.n4) ∧ W.cell? ⟨w.heap.size, 5, none⟩ = some (.int .i64 C.t1) ∧ W.cell? ⟨w.heap.size, 6, none⟩ = some (.int .i64 C.t2) ∧ W.cell? ⟨w.heap.size, 7, none⟩ = some (.int .i64 C.t3) ∧ W.cell? ⟨w.heap.size, 8, none⟩ = some (.int .i64 C.t4) ∧ W.cell? ⟨w.heap.size, 9, none⟩ = some (.int .i64 C.t5) ∧ W.cell? ⟨w.heap.size, 10, none⟩ = some (.int .i64 C.t6) ∧ W.cell? ⟨w.heap.size, 11, none⟩ = some (.int .i64 C.rate) ∧ W.cell? ⟨w.heap.size, 12, none⟩ = some (.int .i64 C.out) ∧ W.cell? ⟨w.heap.size, 13, none⟩ = some (.slice A n c)) := fun W hW => by
    have e2 := (hW.block _ (lt_of_block hp0)).trans hp0
    exact ⟨cell_of_row W _ 0 _ _ _ e2, cell_of_row W _ 1 _ _ _ e2, cell_of_row W _ 2 _ _ _ e2, cell_of_row W _ 3 _ _ _ e2, cell_of_row W _ 4 _ _ _ e2, cell_of_row W _ 5 _ _ _ e2, cell_of_row W _ 6 _ _ _ e2, cell_of_row W _ 7 _ _ _ e2, cell_of_row W _ 8 _ _ _ e2, cell_of_row W _ 9 _ _ _ e2, cell_of_row W _ 10 _ _ _ e2, cell_of_row W _ 11 _ _ _ e2, cell_of_row W _ 12 _ _ _ e2, cell_of_row W _ 13 _ _ _ e2⟩
  have HM : Hid (Ms w0 w0.heap.size A l) := (hM.below hb0).mono hb0.size
  have H0 := Lib.hid hw0
  have HB0 := Lib.hid hb0
  have HQ := Lib.hid hQ
  have HQ0 := Lib.hid hq0
  have HN := Lib.hid hn
  have HBr : Hid (Below w0.heap.size w0 w0) := Below.refl _ _
  clear hw0 hb0 hp0 hq0 hn hM hQ
  go_enter Try.func12, Try.ntmps12
  go_upto_region 1 with (fail)
  rw [← H0.out, ← HQ.out]
  generalize Value.agg (Cfg.cells C (Value.slice A n c)) = cv
  go_wp2_with fail
  go_loopw [4, 3] (fun v y wr => ∃ (k : Nat) (B : Option Addr) (c' : Nat), k ≤ n ∧ v = .int .i64 (k : Int) ∧ y = .slice B k c' ∧ Hid (wr.ownsRow w0.heap.size 35 5 (.slice B k c') k (mr (l.take k)) ∧ Below w0.heap.size w0 wr)) (fun v _ _ => n - (intOf v).toNat)
  case atStart => exact ⟨0, none, 0, by omega, rfl, rfl, World.ownsRow_nil w0 _ 35 5, HBr.out⟩
  case round =>
    obtain ⟨k, B, c', hk, rfl, rfl, HV⟩ := hrel
    obtain ⟨c0, c1, c2, c3, c4, c5, c6, c7, c8, c9, c10, c11, c12, c13⟩ := HCE.out wr HV.out.2
    by_cases hlt : k < n
    · obtain ⟨⟨mk, mb, ms, mq, me⟩, hm⟩ : ∃ m, l[k]? = some m := ⟨l[k]'(by rw [← HN.out]; exact hlt), List.getElem?_eq_getElem _⟩
      obtain ⟨b1, o1, rfl, hb1, hat⟩ := HM.out (by have := HN.out; omega)
      obtain ⟨d0, d1, d2, d3, d4⟩ := (hat k _ hm).below HV.out.2 hb1
      have hnx : l.take (k + 1) = l.take k ++ [⟨mk, mb, ms, mq, me⟩] := by
        rw [List.take_add_one, hm]
        rfl
      have HNX := Lib.hid hnx
      have hln : (l.take k).length = k := by rw [List.length_take]; have := HN.out; omega
      have HLN := Lib.hid hln
      have HLK : Hid ((l.take (k + 1)).length = k + 1) := by simp only [Hid]; rw [List.length_take]; have := HN.out; omega
      clear hm hat hnx hb1 hln
      go_wp2_with fail
      refine (mode_any mk mb ms mq me wr).mono ?_
      rintro r w1 ⟨rfl, hb⟩
      obtain ⟨w2, hw2⟩ : ∃ w2, w2 = w1.alloc (.cells (mCells mk mb ms mq me) 35) := ⟨_, rfl⟩
      have hb2 : Below wr.heap.size wr w2 := by rw [hw2]; exact hb.alloc hb.size _
      have hG : w2.heap[w1.heap.size]? = some (.cells (mCells mk mb ms mq me) 35 (0, 0)) := by rw [hw2]; exact heap_alloc_new w1 _
      have hMs : Ms w2 w2.heap.size (some ⟨w1.heap.size, 0, none⟩) [⟨mk, mb, ms, mq, me⟩] := fun _ => ⟨w1.heap.size, 0, rfl, lt_of_block hG, fun i m hi => by
        obtain ⟨rfl, rfl⟩ : i = 0 ∧ (⟨mk, mb, ms, mq, me⟩ : Md) = m := by
          rcases i with _ | i
          · simp at hi; exact ⟨rfl, hi⟩
          · simp at hi
        exact ⟨cell_of_row w2 _ 0 _ _ _ hG, cell_of_row w2 _ 1 _ _ _ hG, cell_of_row w2 _ 2 _ _ _ hG, cell_of_row w2 _ 3 _ _ _ hG, cell_of_row w2 _ 4 _ _ _ hG⟩⟩
      have hown : w2.ownsRow w0.heap.size 35 5 (.slice B k c') (l.take k).length (mr (l.take k)) := by
        rw [HLN.out]
        exact own_after HV.out.1 hb2
      have HOW := Lib.hid hown
      have HMs := Lib.hid hMs
      have HB2 : Hid (Below w0.heap.size w0 w2) := HV.out.2.trans (hb2.mono HV.out.2.size)
      have hlen : (l.take k).length + 1 ≤ 100000 := by rw [HLN.out]; omega
      have HLE := Lib.hid hlen
      have HBS : Hid (w0.heap.size ≤ w2.heap.size) := HB2.out.size
      rw [hw2] at HOW HMs HBS
      have H2 := Lib.hid hw2
      clear hown hMs hb hb2 hG hw2 hlen d0 d1 d2 d3 d4 c0 c1 c2 c3 c4 c5 c6 c7 c8 c9 c10 c11 c12 c13
      go_wp2_with (at_builtin; refine wpList_append_md rfl 29 35 (.inl ⟨rfl, rfl⟩) (.tmp 13) (.tmp 20) rfl w0.heap.size 1 1 (.slice B k c') (l.take k) [⟨mk, mb, ms, mq, me⟩] (some ⟨w1.heap.size, 0, none⟩) rfl rfl rfl HOW.out HMs.out HLE.out HBS.out ?_; intro v3 w3 hown3 hg3; rw [← HNX.out, HLK.out] at hown3; obtain ⟨B3, c3, rfl⟩ := own_form5 hown3)
      go_roundw
      case rel =>
        refine ⟨k + 1, B3, c3, by omega, by go_num, rfl, hown3, ?_⟩
        have hg4 : w2.grownBy w3 (Value.slice B k c').ownBlock := by rw [H2.out]; exact hg3
        exact HB2.out.grown hg4 HB2.out.size (fun g hg => (HV.out.1.lt g hg).1)
      case measure => simp [intOf] <;> omega
    · have hkn : k = n := by omega
      subst hkn
      obtain ⟨Ckey, Cn1, Cn2, Cn3, Cn4, Ct1, Ct2, Ct3, Ct4, Ct5, Ct6, Crate, Cout⟩ := C
      have ht : l.take k = l := by rw [HN.out, List.take_length]
      have hown := HV.out.1
      rw [ht] at hown
      obtain ⟨w2, hw2⟩ : ∃ w2, w2 = wr.alloc (.cells #[.int .i64 Ct1, .int .i64 Ct2, .int .i64 Ct3, .int .i64 Ct4, .int .i64 Ct5, .int .i64 Ct6] 28) := ⟨_, rfl⟩
      have hb2 : Below w0.heap.size w0 w2 := by rw [hw2]; exact HV.out.2.alloc HV.out.2.size _
      have hG : w2.heap[wr.heap.size]? = some (.cells #[.int .i64 Ct1, .int .i64 Ct2, .int .i64 Ct3, .int .i64 Ct4, .int .i64 Ct5, .int .i64 Ct6] 28 (0, 0)) := by rw [hw2]; exact heap_alloc_new wr _
      have g0 := cell_of_row w2 wr.heap.size 0 _ _ _ hG
      have g1 := cell_of_row w2 wr.heap.size 1 _ _ _ hG
      have g2 := cell_of_row w2 wr.heap.size 2 _ _ _ hG
      have g3 := cell_of_row w2 wr.heap.size 3 _ _ _ hG
      have g4 := cell_of_row w2 wr.heap.size 4 _ _ _ hG
      have g5 := cell_of_row w2 wr.heap.size 5 _ _ _ hG
      simp at g0 g1 g2 g3 g4 g5
      have hq2 := (hb2.block Q (lt_of_block HQ0.out)).trans HQ0.out
      have f0 : ∀ i, w2.frozen? ⟨Q, i, none⟩ = false := fun i => frozen_of_row w2 _ i _ _ hq2
      have d0 := cell_of_row w2 Q 0 _ _ _ hq2
      have d1 := cell_of_row w2 Q 1 _ _ _ hq2
      have d2 := cell_of_row w2 Q 2 _ _ _ hq2
      have d3 := cell_of_row w2 Q 3 _ _ _ hq2
      have d4 := cell_of_row w2 Q 4 _ _ _ hq2
      have d5 := cell_of_row w2 Q 5 _ _ _ hq2
      have d6 := cell_of_row w2 Q 6 _ _ _ hq2
      have d7 := cell_of_row w2 Q 7 _ _ _ hq2
      have d8 := cell_of_row w2 Q 8 _ _ _ hq2
      have d9 := cell_of_row w2 Q 9 _ _ _ hq2
      have d10 := cell_of_row w2 Q 10 _ _ _ hq2
      have d11 := cell_of_row w2 Q 11 _ _ _ hq2
      have d12 := cell_of_row w2 Q 12 _ _ _ hq2
      have d13 := cell_of_row w2 Q 13 _ _ _ hq2
      simp at d0 d1 d2 d3 d4 d5 d6 d7 d8 d9 d10 d11 d12 d13
      have HMs : Hid (Ms w2 w2.heap.size B l) := by rw [hw2]; exact (Ms.of_own (own_after hown ((Below.refl _ _).alloc (Nat.le_refl _) _)))
      have HLo : Hid (∀ ad, B = some ad → w0.heap.size ≤ ad.block) := fun ad h => (hown.lt ad.block (by rw [h]; rfl)).1
      have HQW : Hid (Q < w0.heap.size) := lt_of_block HQ0.out
      have HBF : Hid (Below w.heap.size w w2) := HB0.out.trans (hb2.mono HB0.out.size)
      have HQL : Hid (w.heap.size ≤ Q) := by have := HQ.out; simp only [Hid]; omega
      have H2 := Lib.hid hw2
      clear hown hw2 hb2 hG hq2 ht
      go_upto_region 7 with (fail)
      rw [← H2.out]
      clear c0 c1 c2 c3 c4 c5 c6 c7 c8 c9 c10 c11 c12 c13
      obtain ⟨c0, c1, c2, c3, c4, c5, c6, c7, c8, c9, c10, c11, c12, c13⟩ := HCE.out w2 (by rw [H2.out]; exact HV.out.2.alloc HV.out.2.size _)
      go_wp2
      refine bodyPost_ret (v := .agg (Cfg.cells ⟨Ckey, Cn1, Cn2, Cn3, Cn4, Ct1, Ct2, Ct3, Ct4, Ct5, Ct6, Crate, Cout⟩ (.slice B k c'))) (by simp [results, Try.results12, go_sem, d0, d1, d2, d3, d4, d5, d6, d7, d8, d9, d10, d11, d12, d13]) rfl ?_
      have hms : ∀ W, w2.heap.size ≤ W.heap.size → (∀ ad, B = some ad → W.heap[ad.block]? = w2.heap[ad.block]?) → Ms W W.heap.size B l := fun W h1 h2 => Ms.kept HMs.out h1 h2
      first
        | refine ⟨B, c', rfl, hms _ (by simp) (fun ad had => ?_), ?_, fun ad had => Nat.le_trans HB0.out.size (HLo.out ad had)⟩
        | refine ⟨B, ⟨c', rfl⟩, hms _ (by simp) (fun ad had => ?_), ?_, fun ad had => Nat.le_trans HB0.out.size (HLo.out ad had)⟩
      · have hne : ad.block ≠ Q := by have := HLo.out ad had; have := HQW.out; omega
        iterate 14 refine (Below.heap_setCell _ _ _ _ hne).trans ?_
        rfl
      · exact ((((((((((((((HBF.out.setCell HQL.out _).setCell HQL.out _).setCell HQL.out _).setCell HQL.out _).setCell HQL.out _).setCell HQL.out _).setCell HQL.out _).setCell HQL.out _).setCell HQL.out _).setCell HQL.out _).setCell HQL.out _).setCell HQL.out _).setCell HQL.out _).setCell HQL.out _)
theorem config_any (C : Cfg) (A : Option Addr) (n c : Nat) (l : List Md) (w : World) (hn : n = l.length) (hM : Ms w w.heap.size A l) (hl : n ≤ 1000) :
    Calls Try.prog 12 #[.agg (C.cells (.slice A n c))] w fun r w' => ∃ B c', r = .returned (.agg (C.cells (.slice B n c'))) ∧ Ms w' w'.heap.size B l ∧ Below w.heap.size w w' :=
  (config_new C A n c l w hn hM hl).mono fun _ _ ⟨B, c', h1, h2, h3, _⟩ => ⟨B, c', h1, h2, h3⟩
end Go.Proofs.Ytpomddmeachbbaa
