/- Rack: the document's Drop. -/
import Derived.Test.YtbilkelbelimjaaKN
namespace Go.Proofs.Ytbilkelbelimjaa.D
open Go.RowKit
set_option maxRecDepth 20000

def dropR (x : Nat) (l : List (Nat × Int)) : List (Nat × Int) := l.filter (fun e => e.1 != x)
theorem own2_lt {w : World} {base T m : Nat} {v : Value} {xs : List Value} (h : w.ownsRow base T 2 v m xs) (g : Nat) (hg : v.ownBlock = some g) : base ≤ g ∧ g < w.heap.size := h.lt g hg
theorem own2_after {w w' : World} {base T m : Nat} {v : Value} {xs : List Value} (h : w.ownsRow base T 2 v m xs) (hb : ∀ g, v.ownBlock = some g → w'.heap[g]? = w.heap[g]?) : w'.ownsRow base T 2 v m xs := by
  refine ⟨h.1, ?_⟩
  rcases h.2 with hn | ⟨g, cap, cur, rfl, hbg, hg, rest⟩
  · exact .inl hn
  · exact .inr ⟨g, cap, cur, rfl, hbg, (hb g rfl).trans hg, rest⟩
theorem run_row {w : World} (base G ty : Nat) (v : Value) (m : Nat) (l : List (Nat × Int)) (e : Nat × Int) (hown : w.ownsRow base 96 2 v m (rr l)) (hG : w.heap[G]? = some (.cells #[.int .u32 (e.1 : Int), .int .i64 e.2] 96 (0, 0))) (hm : m ≤ 1000) (hbase : base ≤ w.heap.size) :
    ∃ v' w', (Builtin.append_ #[25, 25] ty #[v, .slice (some ⟨G, 0, none⟩) 1 1]).run Try.prog w = .ok v' w' ∧ w'.ownsRow base 96 2 v' (m + 1) (rr (l ++ [e])) ∧ w.grownBy w' v.ownBlock := by
  obtain ⟨i0, hi, hz0, hz1, hz2⟩ := info_parts info96
  obtain ⟨v', w', hr, h2, h3, _⟩ := run_append_own (P := Try.prog) w base 25 ty 96 i0 _ 2 _ Try.underlying25 hi hz0 hz1 hz2 rfl (by decide) v m (rr l) hown ⟨G, 0, none⟩ 1 1 (rc e) rfl (fun j u hu => by
    have := cell_of_row w G j _ _ _ hG
    rw [show (#[.int .u32 (e.1 : Int), .int .i64 e.2] : Array Value) = (rc e).toArray from rfl, List.getElem?_toArray, hu] at this
    rw [← this, Go.WideShapes.add_plain, Nat.zero_add]) (by
    intro u hu
    simp only [rc, List.mem_cons, List.not_mem_nil, or_false] at hu
    rcases hu with rfl | rfl <;> rfl) (by unfold maxLen; omega) (by omega) hbase
  exact ⟨v', w', hr, by rw [rr_snoc]; exact h2, h3⟩
theorem own2_base {w : World} {base base' T m : Nat} {v : Value} {xs : List Value} (h : w.ownsRow base' T 2 v m xs) (hb : base ≤ base') : w.ownsRow base T 2 v m xs := by
  refine ⟨h.1, ?_⟩
  rcases h.2 with hn | ⟨g, cap, cur, rfl, hbg, rest⟩
  · exact .inl hn
  · exact .inr ⟨g, cap, cur, rfl, Nat.le_trans hb hbg, rest⟩
theorem drop_le (x : Nat) (l : List (Nat × Int)) : (dropR x l).length ≤ l.length := List.length_filter_le _ _

set_option linter.unusedSimpArgs false in
set_option maxHeartbeats 4000000 in
theorem rdrop_any (A : Option Addr) (n c : Nat) (most : Int) (x : Nat) (l : List (Nat × Int)) (w : World) (hn : n = l.length) (hR : Rs w w.heap.size A l) (hl : n ≤ 900) :
    Calls Try.prog 20 #[rV A n c most, .int .u32 (x : Int)] w fun r w' => ∃ B m c', r = .returned (rV B m c' most) ∧ w'.ownsRow w.heap.size 96 2 (.slice B m c') m (rr (dropR x l)) ∧ Below w.heap.size w w' := by
  unfold rV
  obtain ⟨w0, hw0⟩ : ∃ w0, w0 = ((w.alloc (.cells #[.slice A n c, .int .i64 most] 27)).alloc (.cells #[.slice none 0 0, .int .i64 0] 27)).alloc (.cells #[.slice none 0 0, .int .i64 most] 27) := ⟨_, rfl⟩
  obtain ⟨Q, hQ⟩ : ∃ Q, Q = w.heap.size + 2 := ⟨_, rfl⟩
  have hs0 : w0.heap.size = w.heap.size + 3 := by rw [hw0]; simp
  have hb0 : Below w.heap.size w w0 := by rw [hw0]; exact (((Below.refl _ _).alloc (Nat.le_refl _) _).alloc (by simp) _).alloc (by simp; omega) _
  have hp0 : w0.heap[w.heap.size]? = some (.cells #[.slice A n c, .int .i64 most] 27 (0, 0)) := by
    rw [hw0]
    exact (Below.heap_alloc _ _ _ (by simp; omega)).trans ((Below.heap_alloc _ _ _ (by simp)).trans (heap_alloc_new w _))
  have hz0 : w0.heap[w.heap.size + 1]? = some (.cells #[.slice none 0 0, .int .i64 0] 27 (0, 0)) := by
    have h := heap_alloc_new (w.alloc (.cells #[.slice A n c, .int .i64 most] 27)) (.cells #[.slice none 0 0, .int .i64 0] 27)
    rw [World.size_alloc] at h
    rw [hw0]
    exact (Below.heap_alloc _ _ _ (by simp)).trans h
  have hq0 : w0.heap[Q]? = some (.cells #[.slice none 0 0, .int .i64 most] 27 (0, 0)) := by
    have h := heap_alloc_new ((w.alloc (.cells #[.slice A n c, .int .i64 most] 27)).alloc (.cells #[.slice none 0 0, .int .i64 0] 27)) (.cells #[.slice none 0 0, .int .i64 most] 27)
    rw [World.size_alloc, World.size_alloc] at h
    rw [hw0, hQ]
    exact h
  have HQ : Hid (Q = w.heap.size + 2 ∧ w0.heap.size = Q + 1) := ⟨hQ, by omega⟩
  have HR : Hid (Rs w0 w0.heap.size A l) := (hR.below hb0).mono hb0.size
  have H0 := Lib.hid hw0
  have HB0 := Lib.hid hb0
  have HP0 := Lib.hid (And.intro hp0 hz0)
  have HQ0 := Lib.hid hq0
  have HN := Lib.hid hn
  have HRW : Hid (Rs w w.heap.size A l) := hR
  clear hw0 hb0 hp0 hz0 hq0 hn hR hs0
  go_enter Try.func20, Try.ntmps20
  go_upto_region 2 with (fail)
  rw [← H0.out, ← hQ]
  clear hQ
  go_wp2_with fail
  go_loopw [6] (fun u wr => ∃ (k m : Nat) (B : Option Addr) (c2 : Nat), k ≤ n ∧ u = .int .i64 (k : Int) ∧ Hid (wr.ownsRow w0.heap.size 96 2 (.slice B m c2) m (rr (dropR x (l.take k))) ∧ Below w.heap.size w wr ∧ wr.heap[Q]? = some (.cells #[.slice B m c2, .int .i64 most] 27 (0, 0))) ∧ Hid (wr.heap[w.heap.size]? = some (.cells #[.slice A n c, .int .i64 most] 27 (0, 0)) ∧ wr.heap[w.heap.size + 1]? = some (.cells #[.slice none 0 0, .int .i64 0] 27 (0, 0)))) (fun u _ => n - (intOf u).toNat)
  case atStart => exact ⟨0, 0, none, 0, by omega, rfl, ⟨World.ownsRow_nil w0 _ 96 2, HB0.out, HQ0.out⟩, HP0.out⟩
  case round =>
    obtain ⟨k, m, B, c2, hk, rfl, HV, HVB⟩ := hrel
    have c0 := cell_of_row wr w.heap.size 0 _ _ _ HVB.out.1
    simp at c0
    by_cases hlt : k < n
    · obtain ⟨⟨y, v⟩, hy⟩ : ∃ e, l[k]? = some e := ⟨l[k]'(by rw [← HN.out]; exact hlt), List.getElem?_eq_getElem _⟩
      obtain ⟨b1, o1, rfl, hb1, ha1⟩ := HRW.out (by have := HN.out; omega)
      have d0 := (HV.out.2.1.cell (p := ⟨b1, _, none⟩) hb1).trans (ha1 k _ hy).1
      have d1 := (HV.out.2.1.cell (p := ⟨b1, _, none⟩) hb1).trans (ha1 k _ hy).2
      simp only at d0 d1
      have hlw : b1 < wr.heap.size := Nat.lt_of_lt_of_le hb1 HV.out.2.1.size
      have hnx : l.take (k + 1) = l.take k ++ [(y, v)] := by
        rw [List.take_add_one, hy]
        rfl
      have HDD := Lib.hid (And.intro d0 (And.intro d1 hlw))
      have HTK := Lib.hid hnx
      clear hy ha1 hb1 hnx hlw
      by_cases hxy : y = x
      · have HNX : Hid (dropR x (l.take (k + 1)) = dropR x (l.take k)) := by simp only [Hid]; rw [HTK.out]; simp [dropR, hxy]
        have hxz : (y : Int) = (x : Int) := by omega
        go_wp2
        go_roundw
        case rel => exact ⟨k + 1, m, B, c2, by omega, by go_num, ⟨by rw [HNX.out]; exact HV.out.1, HV.out.2.1, HV.out.2.2⟩, HVB.out⟩
        case measure => simp [intOf] <;> omega
      · have HNX : Hid (dropR x (l.take (k + 1)) = dropR x (l.take k) ++ [(y, v)]) := by simp only [Hid]; rw [HTK.out]; simp [dropR, hxy]
        have hxz : ¬ (y : Int) = (x : Int) := by omega
        have HMM : Hid (m ≤ 900) := by
          have h1 := HV.out.1.1
          rw [rr_len] at h1
          have h2 := drop_le x (l.take k)
          rw [List.length_take] at h2
          simp only [Hid]
          omega
        have HCS : Hid (∀ W, Below wr.heap.size wr W → (fun W : World => W.cell? ⟨w.heap.size, 0, none⟩ = some (.slice (some ⟨b1, o1, none⟩) n c) ∧ W.cell? ⟨b1, o1 + k * 2, none⟩ = some (.int .u32 (y : Int)) ∧ W.cell? ⟨b1, o1 + k * 2 + 1, none⟩ = some (.int .i64 v)) W) := fun W hW => by
          have e2 := (hW.block _ (lt_of_block HVB.out.1)).trans HVB.out.1
          exact ⟨cell_of_row W _ 0 _ _ _ e2, (hW.cell (p := ⟨b1, _, none⟩) HDD.out.2.2).trans HDD.out.1, (hW.cell (p := ⟨b1, _, none⟩) HDD.out.2.2).trans HDD.out.2.1⟩
        have HC2 : Hid (∀ W V, Below wr.heap.size wr W → W.grownBy V (Value.ownBlock (.slice B m c2)) → (fun W : World => W.cell? ⟨w.heap.size, 0, none⟩ = some (.slice (some ⟨b1, o1, none⟩) n c) ∧ W.cell? ⟨b1, o1 + k * 2, none⟩ = some (.int .u32 (y : Int)) ∧ W.cell? ⟨b1, o1 + k * 2 + 1, none⟩ = some (.int .i64 v)) V) := fun W V hW hV => by
          have hbq := HQ.out.2
          have hne : ∀ g, Value.ownBlock (.slice B m c2) = some g → w0.heap.size ≤ g := fun g hg => (own2_lt HV.out.1 g hg).1
          have ws := hW.size
          have e2 := (hV.block w.heap.size (Nat.lt_of_lt_of_le (lt_of_block HVB.out.1) ws) (fun e => by have := hne _ e.symm; have := HQ.out.1; omega)).trans ((hW.block _ (lt_of_block HVB.out.1)).trans HVB.out.1)
          have hbb : b1 < w.heap.size := by
            obtain ⟨b, o, e, h, _⟩ := HRW.out (by have := HN.out; omega)
            injection e with e
            injection e with e _
            rw [e]
            exact h
          have eb : V.heap[b1]? = wr.heap[b1]? := (hV.block b1 (Nat.lt_of_lt_of_le HDD.out.2.2 ws) (fun e => by have := hne _ e.symm; have := HQ.out.1; omega)).trans (hW.block _ HDD.out.2.2)
          exact ⟨cell_of_row V _ 0 _ _ _ e2, (World.cell?_of_block eb).trans HDD.out.1, (World.cell?_of_block eb).trans HDD.out.2.1⟩
        have HC3 : Hid (∀ V, (∀ g, g < Q → V.heap[g]? = wr.heap[g]?) → (fun W : World => W.cell? ⟨w.heap.size, 0, none⟩ = some (.slice (some ⟨b1, o1, none⟩) n c) ∧ W.cell? ⟨b1, o1 + k * 2, none⟩ = some (.int .u32 (y : Int)) ∧ W.cell? ⟨b1, o1 + k * 2 + 1, none⟩ = some (.int .i64 v)) V) := fun V hV => by
          have hq1 := HQ.out.1
          have hbb : b1 < w.heap.size := by
            obtain ⟨b, o, e, h, _⟩ := HRW.out (by have := HN.out; omega)
            injection e with e
            injection e with e _
            rw [e]
            exact h
          have e2 := (hV w.heap.size (by omega)).trans HVB.out.1
          have eb := hV b1 (by omega)
          exact ⟨cell_of_row V _ 0 _ _ _ e2, (World.cell?_of_block eb).trans HDD.out.1, (World.cell?_of_block eb).trans HDD.out.2.1⟩
        go_upto_region 6 with (fail)
        clear d0 d1 c0
        have HD : Hid (Below wr.heap.size wr wr.drew) := (Below.refl _ _).drew
        refine wp_region_held_drew (S := fun W : World => W.cell? ⟨w.heap.size, 0, none⟩ = some (.slice (some ⟨b1, o1, none⟩) n c) ∧ W.cell? ⟨b1, o1 + k * 2, none⟩ = some (.int .u32 (y : Int)) ∧ W.cell? ⟨b1, o1 + k * 2 + 1, none⟩ = some (.int .i64 v)) (by kernel_rfl) (HCS.out _ (HD.out)) (fun hHeld => ?_)
        obtain ⟨W0, hW0⟩ : ∃ W0, W0 = wr.drew := ⟨_, rfl⟩
        rw [← hW0] at hHeld HD ⊢
        have HO0 : Hid (W0.ownsRow w0.heap.size 96 2 (.slice B m c2) m (rr (dropR x (l.take k)))) := by rw [hW0]; exact HV.out.1
        clear hW0
        refine wpAnyH_take (i := 0) (oi := ?oi0) (v := ?v0) ?hi0 ?hs0 ?hf0 ?hr0 ?hQ0 ?hy0 ?hS0 ?h0
        case hi0 => exact (by simp only [List.getElem?_toArray, List.getElem?_cons_zero]; rfl)
        case hs0 => kernel_rfl
        case hf0 => kernel_rfl
        case hr0 => kernel_rfl
        case hQ0 => exact fun _ _ _ h => h
        case hy0 =>
          refine Or.inl ⟨rfl, ?_⟩
          intro W hSw
          obtain ⟨y1, y2, y3⟩ := hSw
          go_simp
          try with_reducible rfl
        case hS0 => assumption
        try simp only [Act.put, List.setIfInBounds_toArray, List.set_cons_zero, List.set_cons_succ]
        refine wpAnyH_take (i := 2) (oi := ?oi2) (v := ?v2) ?hi2 ?hs2 ?hf2 ?hr2 ?hQ2 ?hy2 ?hS2 ?h2
        case hi2 => exact (by simp only [List.getElem?_toArray, List.getElem?_cons_succ, List.getElem?_cons_zero]; rfl)
        case hs2 => kernel_rfl
        case hf2 => kernel_rfl
        case hr2 => kernel_rfl
        case hQ2 => exact fun _ _ _ h => h
        case hy2 =>
          refine Or.inl ⟨rfl, ?_⟩
          intro W hSw
          obtain ⟨y1, y2, y3⟩ := hSw
          go_simp
          try with_reducible rfl
        case hS2 => assumption
        try simp only [Act.put, List.setIfInBounds_toArray, List.set_cons_zero, List.set_cons_succ]
        refine wpAnyH_take (i := 3) (oi := ?oi3) (v := ?v3) ?hi3 ?hs3 ?hf3 ?hr3 ?hQ3 ?hy3 ?hS3 ?h3
        case hi3 => exact (by simp only [List.getElem?_toArray, List.getElem?_cons_succ, List.getElem?_cons_zero]; rfl)
        case hs3 => kernel_rfl
        case hf3 => kernel_rfl
        case hr3 => kernel_rfl
        case hQ3 => exact fun _ _ _ h => h
        case hy3 =>
          refine Or.inl ⟨rfl, ?_⟩
          intro W hSw
          obtain ⟨y1, y2, y3⟩ := hSw
          go_simp
          try with_reducible rfl
        case hS3 => assumption
        try simp only [Act.put, List.setIfInBounds_toArray, List.set_cons_zero, List.set_cons_succ]
        refine wpAnyH_take (i := 4) (oi := ?oi4) (v := ?v4) ?hi4 ?hs4 ?hf4 ?hr4 ?hQ4 ?hy4 ?hS4 ?h4
        case hi4 => exact (by simp only [List.getElem?_toArray, List.getElem?_cons_succ, List.getElem?_cons_zero]; rfl)
        case hs4 => kernel_rfl
        case hf4 => kernel_rfl
        case hr4 => kernel_rfl
        case hQ4 => exact fun _ _ _ h => h
        case hy4 =>
          refine Or.inl ⟨rfl, ?_⟩
          intro W hSw
          obtain ⟨y1, y2, y3⟩ := hSw
          go_simp
          try with_reducible rfl
        case hS4 => assumption
        try simp only [Act.put, List.setIfInBounds_toArray, List.set_cons_zero, List.set_cons_succ]
        refine wpAnyH_take (i := 5) (oi := ?oi5) (v := ?v5) ?hi5 ?hs5 ?hf5 ?hr5 ?hQ5 ?hy5 ?hS5 ?h5
        case hi5 => exact (by simp only [List.getElem?_toArray, List.getElem?_cons_succ, List.getElem?_cons_zero]; rfl)
        case hs5 => kernel_rfl
        case hf5 => kernel_rfl
        case hr5 => kernel_rfl
        case hQ5 => exact fun _ _ _ h => h
        case hy5 =>
          refine Or.inl ⟨rfl, ?_⟩
          intro W hSw
          obtain ⟨y1, y2, y3⟩ := hSw
          go_simp
          try with_reducible rfl
        case hS5 => assumption
        try simp only [Act.put, List.setIfInBounds_toArray, List.set_cons_zero, List.set_cons_succ]
        refine wpAnyH_take (i := 6) (oi := ?oi6) (v := ?v6) ?hi6 ?hs6 ?hf6 ?hr6 ?hQ6 ?hy6 ?hS6 ?h6
        case hi6 => exact (by simp only [List.getElem?_toArray, List.getElem?_cons_succ, List.getElem?_cons_zero]; rfl)
        case hs6 => kernel_rfl
        case hf6 => kernel_rfl
        case hr6 => kernel_rfl
        case hQ6 => exact fun _ _ _ h => h
        case hy6 =>
          refine Or.inl ⟨rfl, ?_⟩
          intro W hSw
          obtain ⟨y1, y2, y3⟩ := hSw
          go_simp
          try with_reducible rfl
        case hS6 => assumption
        try simp only [Act.put, List.setIfInBounds_toArray, List.set_cons_zero, List.set_cons_succ]
        refine wpAnyH_ready (rs := [1, 7]) (by kernel_rfl) (by simp) ?_
        refine AllReadyH.cons (o := _) rfl (fun K hK => ?_) (AllReadyH.cons (o := _) rfl (fun K hK => ?_) AllReadyH.nil)
        · have q0 := cell_of_row W0 Q 0 _ _ _ ((HD.out.block Q (lt_of_block HV.out.2.2)).trans HV.out.2.2)
          simp at q0
          go_simp
          clear q0
          refine hK.out _ _ hHeld (fun hHeld => ?_)
          clear hK K
          try simp only [Act.put, List.setIfInBounds_toArray, List.set_cons_zero, List.set_cons_succ]
          refine wpAnyH_ready (rs := [7]) (by kernel_rfl) (by simp) ?_
          refine AllReadyH.cons (o := _) rfl (fun K hK => ?_) AllReadyH.nil
          go_simp
          refine hK.out _ _ (HCS.out _ (HD.out.alloc HD.out.size _)) (fun hHeld => ?_)
          clear hK K
          try simp only [Act.put, List.setIfInBounds_toArray, List.set_cons_zero, List.set_cons_succ]
          obtain ⟨W1, hW1⟩ : ∃ W1, W1 = W0.alloc (.cells #[.int .u32 (y : Int), .int .i64 v] 96) := ⟨_, rfl⟩
          have HB1 : Hid (Below wr.heap.size wr W1) := by rw [hW1]; exact HD.out.alloc HD.out.size _
          have hG1 : W1.heap[W0.heap.size]? = some (.cells #[.int .u32 (y : Int), .int .i64 v] 96 (0, 0)) := by rw [hW1]; exact heap_alloc_new W0 _
          have HO1 : Hid (W1.ownsRow w0.heap.size 96 2 (.slice B m c2) m (rr (dropR x (l.take k)))) := by rw [hW1]; exact own2_after HO0.out fun g hg => Below.heap_alloc _ _ _ (own2_lt HO0.out g hg).2
          rw [← hW1] at hHeld ⊢
          clear hW1
          have HG1 := Lib.hid hG1
          clear hG1
          obtain ⟨v', W2, hap, hO2, hg2⟩ := run_row (w := W1) w0.heap.size W0.heap.size 25 (.slice B m c2) m _ (y, v) HO1.out HG1.out (by have := HMM.out; omega) (by have := HB1.out.size; have := HQ.out.2; have := lt_of_block HV.out.2.2; omega)
          have hown2 := own_form2 hO2
          obtain ⟨B', c3, rfl⟩ := hown2
          have HO2 := Lib.hid hO2
          have HG2 := Lib.hid hg2
          clear hO2 hg2
          refine wpAnyH_ready (rs := [8]) (by kernel_rfl) (by simp) ?_
          refine AllReadyH.cons (o := _) rfl (fun K hK => ?_) AllReadyH.nil
          refine step_append_run rfl _ _ 25 25 rfl _ _ rfl rfl hap ?_
          refine hK.out _ _ (HC2.out _ _ HB1.out HG2.out) (fun hHeld => ?_)
          clear hK K hap
          try simp only [Act.put, List.setIfInBounds_toArray, List.set_cons_zero, List.set_cons_succ]
          refine wpAnyH_take (i := 9) (oi := ?oi9a) (v := ?v9a) ?hi9a ?hs9a ?hf9a ?hr9a ?hQ9a ?hy9a ?hS9a ?h9a
          case hi9a => exact (by simp only [List.getElem?_toArray, List.getElem?_cons_succ, List.getElem?_cons_zero]; rfl)
          case hs9a => kernel_rfl
          case hf9a => kernel_rfl
          case hr9a => kernel_rfl
          case hQ9a => exact fun _ _ _ h => h
          case hy9a =>
            refine Or.inl ⟨rfl, ?_⟩
            intro W hSw
            obtain ⟨y1, y2, y3⟩ := hSw
            go_simp
            try with_reducible rfl
          case hS9a => assumption
          try simp only [Act.put, List.setIfInBounds_toArray, List.set_cons_zero, List.set_cons_succ]
          refine wpAnyH_ready (rs := [10]) (by kernel_rfl) (by simp) ?_
          refine AllReadyH.cons (o := _) rfl (fun K hK => ?_) AllReadyH.nil
          have hrowQ := (HG2.out.block Q (by have := HB1.out.size; have := lt_of_block HV.out.2.2; omega) (fun e => by have := (own2_lt HO1.out Q e.symm).1; have := HQ.out.2; omega)).trans ((HB1.out.block Q (lt_of_block HV.out.2.2)).trans HV.out.2.2)
          have q0 := cell_of_row W2 Q 0 _ _ _ hrowQ
          have fq : ∀ i, W2.frozen? ⟨Q, i, none⟩ = false := fun i => frozen_of_row W2 _ i _ _ hrowQ
          simp at q0
          go_simp
          have hQ3 : (W2.setCell ⟨Q, 0, none⟩ (.slice B' (m + 1) c3)).heap[Q]? = some (.cells #[.slice B' (m + 1) c3, .int .i64 most] 27 (0, 0)) := heap_setCell_same W2 Q 0 _ 27 _ hrowQ
          have keep : ∀ g, g < Q → (W2.setCell ⟨Q, 0, none⟩ (.slice B' (m + 1) c3)).heap[g]? = wr.heap[g]? := fun g hg => by
            have hq2 := HQ.out.2
            have hlq := lt_of_block HV.out.2.2
            rw [Below.heap_setCell _ _ _ _ (by show g ≠ Q; omega), HG2.out.block g (by have := HB1.out.size; omega) (fun e => by have := (own2_lt HO1.out g e.symm).1; omega), HB1.out.block g (by omega)]
          have HN3 : Hid ((W2.setCell ⟨Q, 0, none⟩ (.slice B' (m + 1) c3)).ownsRow w0.heap.size 96 2 (.slice B' (m + 1) c3) (m + 1) (rr (dropR x (l.take (k + 1)))) ∧ Below w.heap.size w (W2.setCell ⟨Q, 0, none⟩ (.slice B' (m + 1) c3)) ∧ (W2.setCell ⟨Q, 0, none⟩ (.slice B' (m + 1) c3)).heap[Q]? = some (.cells #[.slice B' (m + 1) c3, .int .i64 most] 27 (0, 0)) ∧ (W2.setCell ⟨Q, 0, none⟩ (.slice B' (m + 1) c3)).heap[w.heap.size]? = some (.cells #[.slice (some ⟨b1, o1, none⟩) n c, .int .i64 most] 27 (0, 0)) ∧ (W2.setCell ⟨Q, 0, none⟩ (.slice B' (m + 1) c3)).heap[w.heap.size + 1]? = some (.cells #[.slice none 0 0, .int .i64 0] 27 (0, 0))) := by
            have hq1 := HQ.out.1
            have hq2 := HQ.out.2
            have hlq := lt_of_block HV.out.2.2
            refine ⟨?_, ?_, hQ3, (keep _ (by omega)).trans HVB.out.1, (keep _ (by omega)).trans HVB.out.2⟩
            · rw [HNX.out]
              exact own2_after HO2.out fun g hg => Below.heap_setCell _ _ _ _ (by have := (own2_lt HO2.out g hg).1; show g ≠ Q; omega)
            · exact ((HV.out.2.1.trans (HB1.out.mono HV.out.2.1.size)).grown HG2.out (Nat.le_trans HV.out.2.1.size HB1.out.size) (fun g hg => by have := (own2_lt HO1.out g hg).1; omega)).setCell (by show w.heap.size ≤ Q; omega) _
          refine hK.out _ _ (HC3.out _ (fun g hg => keep g hg)) (fun hHeld => ?_)
          clear hK K q0 fq hQ3 keep hrowQ
          try simp only [Act.put, List.setIfInBounds_toArray, List.set_cons_zero, List.set_cons_succ]
          refine wpAnyH_done (by kernel_rfl) ?_ _
          try go_wp2
          go_roundw
          case rel => exact ⟨k + 1, m + 1, B', c3, by omega, by go_num, ⟨HN3.out.1, HN3.out.2.1, HN3.out.2.2.1⟩, HN3.out.2.2.2⟩
          case measure => simp [intOf] <;> omega
        · go_simp
          refine hK.out _ _ (HCS.out _ (HD.out.alloc HD.out.size _)) (fun hHeld => ?_)
          clear hK K
          try simp only [Act.put, List.setIfInBounds_toArray, List.set_cons_zero, List.set_cons_succ]
          obtain ⟨W1, hW1⟩ : ∃ W1, W1 = W0.alloc (.cells #[.int .u32 (y : Int), .int .i64 v] 96) := ⟨_, rfl⟩
          have HB1 : Hid (Below wr.heap.size wr W1) := by rw [hW1]; exact HD.out.alloc HD.out.size _
          have hG1 : W1.heap[W0.heap.size]? = some (.cells #[.int .u32 (y : Int), .int .i64 v] 96 (0, 0)) := by rw [hW1]; exact heap_alloc_new W0 _
          have HO1 : Hid (W1.ownsRow w0.heap.size 96 2 (.slice B m c2) m (rr (dropR x (l.take k)))) := by rw [hW1]; exact own2_after HO0.out fun g hg => Below.heap_alloc _ _ _ (own2_lt HO0.out g hg).2
          rw [← hW1] at hHeld ⊢
          clear hW1
          have HG1 := Lib.hid hG1
          clear hG1
          refine wpAnyH_ready (rs := [1]) (by kernel_rfl) (by simp) ?_
          refine AllReadyH.cons (o := _) rfl (fun K hK => ?_) AllReadyH.nil
          have q0 := cell_of_row W1 Q 0 _ _ _ ((HB1.out.block Q (lt_of_block HV.out.2.2)).trans HV.out.2.2)
          simp at q0
          go_simp
          clear q0
          refine hK.out _ _ hHeld (fun hHeld => ?_)
          clear hK K
          try simp only [Act.put, List.setIfInBounds_toArray, List.set_cons_zero, List.set_cons_succ]
          obtain ⟨v', W2, hap, hO2, hg2⟩ := run_row (w := W1) w0.heap.size W0.heap.size 25 (.slice B m c2) m _ (y, v) HO1.out HG1.out (by have := HMM.out; omega) (by have := HB1.out.size; have := HQ.out.2; have := lt_of_block HV.out.2.2; omega)
          have hown2 := own_form2 hO2
          obtain ⟨B', c3, rfl⟩ := hown2
          have HO2 := Lib.hid hO2
          have HG2 := Lib.hid hg2
          clear hO2 hg2
          refine wpAnyH_ready (rs := [8]) (by kernel_rfl) (by simp) ?_
          refine AllReadyH.cons (o := _) rfl (fun K hK => ?_) AllReadyH.nil
          refine step_append_run rfl _ _ 25 25 rfl _ _ rfl rfl hap ?_
          refine hK.out _ _ (HC2.out _ _ HB1.out HG2.out) (fun hHeld => ?_)
          clear hK K hap
          try simp only [Act.put, List.setIfInBounds_toArray, List.set_cons_zero, List.set_cons_succ]
          refine wpAnyH_take (i := 9) (oi := ?oi9b) (v := ?v9b) ?hi9b ?hs9b ?hf9b ?hr9b ?hQ9b ?hy9b ?hS9b ?h9b
          case hi9b => exact (by simp only [List.getElem?_toArray, List.getElem?_cons_succ, List.getElem?_cons_zero]; rfl)
          case hs9b => kernel_rfl
          case hf9b => kernel_rfl
          case hr9b => kernel_rfl
          case hQ9b => exact fun _ _ _ h => h
          case hy9b =>
            refine Or.inl ⟨rfl, ?_⟩
            intro W hSw
            obtain ⟨y1, y2, y3⟩ := hSw
            go_simp
            try with_reducible rfl
          case hS9b => assumption
          try simp only [Act.put, List.setIfInBounds_toArray, List.set_cons_zero, List.set_cons_succ]
          refine wpAnyH_ready (rs := [10]) (by kernel_rfl) (by simp) ?_
          refine AllReadyH.cons (o := _) rfl (fun K hK => ?_) AllReadyH.nil
          have hrowQ := (HG2.out.block Q (by have := HB1.out.size; have := lt_of_block HV.out.2.2; omega) (fun e => by have := (own2_lt HO1.out Q e.symm).1; have := HQ.out.2; omega)).trans ((HB1.out.block Q (lt_of_block HV.out.2.2)).trans HV.out.2.2)
          have q0 := cell_of_row W2 Q 0 _ _ _ hrowQ
          have fq : ∀ i, W2.frozen? ⟨Q, i, none⟩ = false := fun i => frozen_of_row W2 _ i _ _ hrowQ
          simp at q0
          go_simp
          have hQ3 : (W2.setCell ⟨Q, 0, none⟩ (.slice B' (m + 1) c3)).heap[Q]? = some (.cells #[.slice B' (m + 1) c3, .int .i64 most] 27 (0, 0)) := heap_setCell_same W2 Q 0 _ 27 _ hrowQ
          have keep : ∀ g, g < Q → (W2.setCell ⟨Q, 0, none⟩ (.slice B' (m + 1) c3)).heap[g]? = wr.heap[g]? := fun g hg => by
            have hq2 := HQ.out.2
            have hlq := lt_of_block HV.out.2.2
            rw [Below.heap_setCell _ _ _ _ (by show g ≠ Q; omega), HG2.out.block g (by have := HB1.out.size; omega) (fun e => by have := (own2_lt HO1.out g e.symm).1; omega), HB1.out.block g (by omega)]
          have HN3 : Hid ((W2.setCell ⟨Q, 0, none⟩ (.slice B' (m + 1) c3)).ownsRow w0.heap.size 96 2 (.slice B' (m + 1) c3) (m + 1) (rr (dropR x (l.take (k + 1)))) ∧ Below w.heap.size w (W2.setCell ⟨Q, 0, none⟩ (.slice B' (m + 1) c3)) ∧ (W2.setCell ⟨Q, 0, none⟩ (.slice B' (m + 1) c3)).heap[Q]? = some (.cells #[.slice B' (m + 1) c3, .int .i64 most] 27 (0, 0)) ∧ (W2.setCell ⟨Q, 0, none⟩ (.slice B' (m + 1) c3)).heap[w.heap.size]? = some (.cells #[.slice (some ⟨b1, o1, none⟩) n c, .int .i64 most] 27 (0, 0)) ∧ (W2.setCell ⟨Q, 0, none⟩ (.slice B' (m + 1) c3)).heap[w.heap.size + 1]? = some (.cells #[.slice none 0 0, .int .i64 0] 27 (0, 0))) := by
            have hq1 := HQ.out.1
            have hq2 := HQ.out.2
            have hlq := lt_of_block HV.out.2.2
            refine ⟨?_, ?_, hQ3, (keep _ (by omega)).trans HVB.out.1, (keep _ (by omega)).trans HVB.out.2⟩
            · rw [HNX.out]
              exact own2_after HO2.out fun g hg => Below.heap_setCell _ _ _ _ (by have := (own2_lt HO2.out g hg).1; show g ≠ Q; omega)
            · exact ((HV.out.2.1.trans (HB1.out.mono HV.out.2.1.size)).grown HG2.out (Nat.le_trans HV.out.2.1.size HB1.out.size) (fun g hg => by have := (own2_lt HO1.out g hg).1; omega)).setCell (by show w.heap.size ≤ Q; omega) _
          refine hK.out _ _ (HC3.out _ (fun g hg => keep g hg)) (fun hHeld => ?_)
          clear hK K q0 fq hQ3 keep hrowQ
          try simp only [Act.put, List.setIfInBounds_toArray, List.set_cons_zero, List.set_cons_succ]
          refine wpAnyH_done (by kernel_rfl) ?_ _
          try go_wp2
          go_roundw
          case rel => exact ⟨k + 1, m + 1, B', c3, by omega, by go_num, ⟨HN3.out.1, HN3.out.2.1, HN3.out.2.2.1⟩, HN3.out.2.2.2⟩
          case measure => simp [intOf] <;> omega
    · have hkn : k = n := by omega
      subst hkn
      have HG : Hid (wr.ownsRow w.heap.size 96 2 (.slice B m c2) m (rr (dropR x l))) := by
        have := HV.out.1
        rw [HN.out, List.take_length] at this
        exact own2_base this (by have := HQ.out; omega)
      have q0 := cell_of_row wr Q 0 _ _ _ HV.out.2.2
      have q1 := cell_of_row wr Q 1 _ _ _ HV.out.2.2
      have z0 := cell_of_row wr (w.heap.size + 1) 0 _ _ _ HVB.out.2
      have z1 := cell_of_row wr (w.heap.size + 1) 1 _ _ _ HVB.out.2
      have fz : ∀ i, wr.frozen? ⟨w.heap.size + 1, i, none⟩ = false := fun i => frozen_of_row wr _ i _ _ HVB.out.2
      simp at q0 q1 z0 z1
      have HRES : Hid (Below w.heap.size w ((wr.setCell ⟨w.heap.size + 1, 0, none⟩ (.slice B m c2)).setCell ⟨w.heap.size + 1, 1, none⟩ (.int .i64 most)) ∧ ((wr.setCell ⟨w.heap.size + 1, 0, none⟩ (.slice B m c2)).setCell ⟨w.heap.size + 1, 1, none⟩ (.int .i64 most)).ownsRow w.heap.size 96 2 (.slice B m c2) m (rr (dropR x l))) := by
        refine ⟨(HV.out.2.1.setCell (by show w.heap.size ≤ w.heap.size + 1; omega) _).setCell (by show w.heap.size ≤ w.heap.size + 1; omega) _, own2_after HG.out fun g hg => ?_⟩
        have hg3 : g ≠ w.heap.size + 1 := by have := (own2_lt HV.out.1 g hg).1; have := HQ.out; omega
        exact (Below.heap_setCell _ _ _ _ hg3).trans (Below.heap_setCell _ _ _ _ hg3)
      have hr1 := heap_setCell_same wr (w.heap.size + 1) 0 _ 27 (.slice B m c2) HVB.out.2
      have hr2 := heap_setCell_same (wr.setCell ⟨w.heap.size + 1, 0, none⟩ (.slice B m c2)) (w.heap.size + 1) 1 _ 27 (.int .i64 most) hr1
      have e0 := cell_of_row _ (w.heap.size + 1) 0 _ _ _ hr2
      have e1 := cell_of_row _ (w.heap.size + 1) 1 _ _ _ hr2
      simp at e0 e1
      go_wp2
      exact bodyPost_ret (v := rV B m c2 most) (by simp [results, Try.results20, go_sem, rV, e0, e1]) rfl ⟨_, _, _, rfl, HRES.out.2, HRES.out.1⟩
end Go.Proofs.Ytbilkelbelimjaa.D
