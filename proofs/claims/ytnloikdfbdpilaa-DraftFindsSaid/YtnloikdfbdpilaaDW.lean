/- Draft: the document's of, weigh. -/
import Derived.Test.YtnloikdfbdpilaaDV
import Derived.Test.YtnloikdfbdpilaaDJ2
import Derived.Test.YtnloikdfbdpilaaDP
namespace Go.Proofs.Ytnloikdfbdpilaa
open Go.RowKit
set_option maxRecDepth 20000
set_option linter.unusedVariables false

def ints (n : Nat) : List Int := (List.range n).map fun i : Nat => (i : Int)
theorem ints_get {n i : Nat} (h : i < n) : (ints n)[i]? = some (i : Int) := by unfold ints; rw [List.getElem?_map, List.getElem?_range h]; rfl
theorem ints_len (n : Nat) : (ints n).length = n := by simp [ints]
def fM (mask : Nat) (s : Bool) (i : Nat) : Bool := bitM mask i == s

set_option linter.unusedSimpArgs false in
set_option maxHeartbeats 8000000 in
theorem of_any (mask n : Nat) (s : Bool) (w : World) (hn : n ≤ 60) (hm : mask < 4294967296) :
    Calls Try.prog 33 #[.int .i64 (mask : Int), .int .i64 (n : Int), .bool s] w fun r w' => (∃ A' c', r = .returned (.slice A' (sel (fM mask s) (ints n)).length c') ∧ Zs w' w'.heap.size A' (sel (fM mask s) (ints n))) ∧ Below w.heap.size w w' := by
  have HBr : Hid (Below w.heap.size w w) := Below.refl _ _
  go_enter Try.func33, Try.ntmps33
  go_wp2_with fail
  go_loopw [7, 8] (fun o u wr => ∃ i : Nat, i ≤ n ∧ u = .int .i64 (i : Int) ∧ Hid (wr.ownsRow w.heap.size 3 1 o (sel (fM mask s) ((ints n).take i)).length (zv (sel (fM mask s) ((ints n).take i))) ∧ Below w.heap.size w wr)) (fun _ u _ => n - (intOf u).toNat)
  case atStart => exact ⟨0, by omega, rfl, World.ownsRow_nil w _ 3 1, HBr.out⟩
  case round =>
    obtain ⟨i, hi, rfl, HV⟩ := hrel
    obtain ⟨B, c2, rfl⟩ := own_form HV.out.1
    by_cases hlt : i < n
    · have HSL := Lib.hid (sel_snoc (fM mask s) (ints n) i (i : Int) (ints_get hlt))
      obtain ⟨fl, hfl⟩ : ∃ fl, fl = (sel (fM mask s) ((ints n).take i)).length := ⟨_, rfl⟩
      have hfb : fl ≤ 100 := by
        have h1 := (sel_sub (fM mask s) ((ints n).take i)).length_le
        rw [List.length_take] at h1
        omega
      rw [← hfl] at HV ⊢
      have HFL := Lib.hid hfl
      clear hfl
      have HBV : Hid (((mask : Int) / 2 ^ i).tmod 2 = ((mask / 2 ^ i % 2 : Nat) : Int)) := by
        have h2 : ((mask : Int) / 2 ^ i) = ((mask / 2 ^ i : Nat) : Int) := by push_cast; rfl
        simp only [Hid]
        rw [h2, Int.tmod_eq_emod_of_nonneg (Int.natCast_nonneg _)]
        push_cast
        rfl
      obtain ⟨bt, hbt⟩ : ∃ bt, bt = bitM mask i := ⟨_, rfl⟩
      have HBZ : Hid ((((mask : Int) / 2 ^ i).tmod 2 == 1) = bt) := by
        simp only [Hid]
        rw [HBV.out, hbt]
        unfold bitM
        by_cases h : mask / 2 ^ i % 2 = 1
        · rw [h]; rfl
        · rw [show mask / 2 ^ i % 2 = 0 by omega]; rfl
      have HFM : Hid (fM mask s i = (bt == s)) := by simp only [Hid]; unfold fM; rw [hbt]
      clear hbt
      by_cases hbs : bt = s
      · have hfin : ((((mask : Int) / 2 ^ i).tmod 2 == 1) == s) = true := by rw [HBZ.out]; simp [hbs]
        have HFE : Hid (sel (fM mask s) ((ints n).take (i + 1)) = sel (fM mask s) ((ints n).take i) ++ [(i : Int)]) := by simp only [Hid]; rw [HSL.out, HFM.out, hbs]; simp
        obtain ⟨w4, hw4⟩ : ∃ w4, w4 = wr.alloc (.cells #[.int .i64 (i : Int)] 3) := ⟨_, rfl⟩
        have hg4 : w4.heap[wr.heap.size]? = some (.cells #[.int .i64 (i : Int)] 3 (0, 0)) := by rw [hw4]; exact heap_alloc_new wr _
        have hb4 : Below wr.heap.size wr w4 := by rw [hw4]; exact (Below.refl _ _).alloc (Nat.le_refl _) _
        have HO4 : Hid (w4.ownsRow w.heap.size 3 1 (.slice B fl c2) fl (zv (sel (fM mask s) ((ints n).take i)))) := own_after HV.out.1 fun g hg => hb4.block g (own_lt HV.out.1 g hg).2
        have HB4 : Hid (Below w.heap.size w w4) := HV.out.2.trans (hb4.mono HV.out.2.size)
        have HG4 := Lib.hid hg4
        have H4 := Lib.hid hw4
        have ht4 : Hid (∀ W : World, W = w4 → W.ownsRow w.heap.size 3 1 (.slice B fl c2) fl (zv (sel (fM mask s) ((ints n).take i))) ∧ W.heap[wr.heap.size]? = some (.cells #[.int .i64 (i : Int)] 3 (0, 0)) ∧ w.heap.size ≤ W.heap.size) := fun W e => by rw [e]; exact ⟨HO4.out, HG4.out, HB4.out.size⟩
        clear hw4 hg4 hb4
        go_wp2_with (at_builtin; refine wpList_append_z rfl (.tmp 21) (.tmp 23) rfl w.heap.size wr.heap.size (.slice B fl c2) fl (zv (sel (fM mask s) ((ints n).take i))) (i : Int) rfl rfl (ht4.out _ H4.out.symm).1 (ht4.out _ H4.out.symm).2.1 (by omega) (ht4.out _ H4.out.symm).2.2 ?_; intro v5 w5 ho5 hg5; rw [← H4.out] at hg5; obtain ⟨B5, c5, rfl⟩ := own_form ho5; have HR5 : Hid (w5.ownsRow w.heap.size 3 1 (.slice B5 (fl + 1) c5) (fl + 1) (zv (sel (fM mask s) ((ints n).take i)) ++ [.int .i64 (i : Int)]) ∧ Below w.heap.size w w5) := ⟨ho5, HB4.out.grown hg5 HB4.out.size (fun g h => (own_lt HO4.out g h).1)⟩; clear ho5 hg5)
        go_roundw
        case rel => exact ⟨i + 1, by omega, by go_num, by
          simp only [Hid]
          rw [HFE.out, List.length_append, ← HFL.out]
          have h6 : ∀ l : List Int, zv (l ++ [(i : Int)]) = zv l ++ [.int .i64 (i : Int)] := fun l => by simp [zv]
          rw [h6]
          exact HR5.out⟩
        case measure => simp [intOf] <;> omega
      · have hbe : (bt == s) = false := by simp [hbs]
        have hfin : ((((mask : Int) / 2 ^ i).tmod 2 == 1) == s) = false := by rw [HBZ.out]; exact hbe
        have HFE : Hid (sel (fM mask s) ((ints n).take (i + 1)) = sel (fM mask s) ((ints n).take i)) := by simp only [Hid]; rw [HSL.out, HFM.out, hbe]; simp
        clear hbe
        go_wp2
        go_roundw
        case rel => exact ⟨i + 1, by omega, by go_num, by
          simp only [Hid]
          rw [HFE.out, ← HFL.out]
          exact HV.out⟩
        case measure => simp [intOf] <;> omega
    · have hkn : i = n := by omega
      subst hkn
      have HZ : Hid (Zs wr wr.heap.size B (sel (fM mask s) (ints i))) := by
        have h := Zs.of_own HV.out.1
        rw [List.take_of_length_le (by rw [ints_len]; exact Nat.le_refl _)] at h
        exact h
      have HTK : Hid ((ints i).take i = ints i) := List.take_of_length_le (by rw [ints_len]; exact Nat.le_refl _)
      rw [HTK.out]
      go_wp2
      go_ret
      exact ⟨⟨_, _, rfl, HZ.out⟩, HV.out.2⟩

set_option linter.unusedSimpArgs false in
set_option maxHeartbeats 8000000 in
theorem weigh_any (A9 : Option Addr) (n c9 : Nat) (l : List Tk) (A : Option Addr) (np c : Nat) (es : List En) (w : World) (hn : n = l.length) (hT : Ts w w.heap.size A9 l) (hnp : np = es.length) (hZ : Zs w w.heap.size A (es.map (·.p)))
    (hes : ∀ e ∈ es, ∃ (i : Nat) (t : Tk), l[i]? = some t ∧ e.p = (i : Int) ∧ e.n = (t.n : Int) ∧ e.r = rt t.r) (hO : ∀ e ∈ es, Ok e) (hl : n ≤ 1000) (hl2 : np ≤ 20) :
    Calls Try.prog 34 #[.slice A9 n c9, .slice A np c] w fun r w' => r = .returned (.tuple #[.int .i64 (sumN es), .int .i64 (sumW es)]) ∧ Below w.heap.size w w' := by
  have HT := Lib.hid hT
  have HZ := Lib.hid hZ
  have HN := Lib.hid hn
  have HNP := Lib.hid hnp
  have HES := Lib.hid hes
  have HO := Lib.hid hO
  have HBr : Hid (Below w.heap.size w w) := Below.refl _ _
  clear hn hT hnp hZ hes hO
  go_enter Try.func34, Try.ntmps34
  go_wp2_with fail
  go_loopw [6, 7, 8] (fun o o2 u wr => ∃ k : Nat, k ≤ np ∧ u = .int .i64 (k : Int) ∧ o = .int .i64 (sumN (es.take k)) ∧ o2 = .int .i64 (sumW (es.take k)) ∧ Hid (Below w.heap.size w wr)) (fun _ _ u _ => np - (intOf u).toNat)
  case atStart => exact ⟨0, by omega, rfl, rfl, rfl, HBr.out⟩
  case round =>
    obtain ⟨k, hk, rfl, rfl, rfl, HV⟩ := hrel
    by_cases hlt : k < np
    · obtain ⟨e, hy⟩ : ∃ e, es[k]? = some e := ⟨es[k]'(by rw [← HNP.out]; exact hlt), List.getElem?_eq_getElem _⟩
      have HSN := Lib.hid (sum_snoc es k e hy)
      have hbd := sum_bd (es.take k) fun e he => HO.out e (List.mem_of_mem_take he)
      have hlk : (es.take k).length ≤ k := List.length_take_le _ _
      have hoe := HO.out e (List.mem_of_getElem? hy)
      have hom := ok_mul hoe
      obtain ⟨ix, t, hit, hep, hen, her⟩ := HES.out e (List.mem_of_getElem? hy)
      obtain ⟨ho1, ho2, -⟩ := hoe
      obtain ⟨b, o, rfl, hbb, hcell⟩ := (HZ.out.below HV.out) (by rw [List.length_map]; have := HNP.out; omega)
      have d0 := hcell k e.p (by rw [List.getElem?_map, hy]; rfl)
      have hixn : ix < n := by rw [HN.out]; exact (List.getElem?_eq_some_iff.1 hit).1
      obtain ⟨b1, o1, rfl, hb1, ha1⟩ := (HT.out.below HV.out) (by have := HN.out; omega)
      obtain ⟨x, y, P, cp, e0, e1, e2, e3, e4⟩ := ha1 ix t hit
      obtain ⟨tn, tr, ts⟩ := t
      simp only at e2 e3 e4 hen her
      rw [hep] at d0
      rw [hen] at ho1 ho2 hom HSN
      rw [her] at hom HSN
      obtain ⟨q, hq⟩ : ∃ q, q = rt tr := ⟨_, rfl⟩
      have HRT : Hid (∀ W, Calls Try.prog 36 #[.int .i64 tr] W fun r w' => r = .returned (.int .i64 q) ∧ Below W.heap.size W w') := fun W => (rating_any tr W).mono fun r w' h => ⟨by rw [hq]; exact h.1, by rw [h.2]; exact Below.refl _ _⟩
      rw [← hq] at hom HSN
      obtain ⟨M, hM⟩ : ∃ M, M = q * (tn : Int) := ⟨_, rfl⟩
      have HMU : Hid (IntKind.i64.wrap (q * (tn : Int)) = M) := by rw [hM]; exact IntWalk.i64_in _ (by rw [← hM] at hom ⊢; omega)
      rw [← hM] at hom HSN
      obtain ⟨X, hX⟩ : ∃ X, X = sumN (es.take k) := ⟨_, rfl⟩
      obtain ⟨Y, hY⟩ : ∃ Y, Y = sumW (es.take k) := ⟨_, rfl⟩
      rw [← hX, ← hY] at hbd HSN ⊢
      have HAD : Hid (IntKind.i64.wrap (Y + M) = Y + M) := IntWalk.i64_in _ (by omega)
      obtain ⟨w2, hw2⟩ : ∃ w2, w2 = wr.alloc (.cells #[.int .u32 x, .int .i64 y, .slice P tn cp, .int .i64 tr, .int .i64 ts] 30) := ⟨_, rfl⟩
      obtain ⟨G, hG⟩ : ∃ G, G = wr.heap.size := ⟨_, rfl⟩
      have hg2 : w2.heap[G]? = some (.cells #[.int .u32 x, .int .i64 y, .slice P tn cp, .int .i64 tr, .int .i64 ts] 30 (0, 0)) := by rw [hw2, hG]; exact heap_alloc_new wr _
      have HB2 : Hid (Below w.heap.size w w2) := by rw [hw2]; exact HV.out.alloc HV.out.size _
      have HCF : Hid (∀ W, Below w2.heap.size w2 W → W.cell? ⟨G, 2, none⟩ = some (.slice P tn cp) ∧ W.cell? ⟨G, 3, none⟩ = some (.int .i64 tr)) := fun W hW => by
        have e5 := (hW.block _ (lt_of_block hg2)).trans hg2
        exact ⟨cell_of_row W _ 2 _ _ _ e5, cell_of_row W _ 3 _ _ _ e5⟩
      have HBS : Hid (Below w2.heap.size w2 w2) := Below.refl _ _
      have H2 := Lib.hid hw2
      have HGE := Lib.hid hG
      have q1 : (0 : Int) ≤ (ix : Int) := by omega
      have hX2 : IntKind.i64.wrap (X + (tn : Int)) = X + tn := IntWalk.i64_in _ (by omega)
      clear hy hcell ha1 hit hep hen her hbb hb1 hq hM hX hY hw2 hG hg2
      go_upto_region 6 with (fail)
      rw [← H2.out]
      rw [← HGE.out]
      obtain ⟨y0, y1⟩ := HCF.out w2 HBS.out
      go_upto_region 7 with (fail)
      clear y0 y1 H2 HGE
      have HD : Hid (Below w2.heap.size w2 w2.drew) := HBS.out.drew
      refine wp_region_held_drew (S := fun W : World => W.cell? ⟨G, 2, none⟩ = some (.slice P tn cp) ∧ W.cell? ⟨G, 3, none⟩ = some (.int .i64 tr)) (by kernel_rfl) (HCF.out _ (HD.out)) (fun hHeld => ?_)
      obtain ⟨W0, hW0⟩ : ∃ W0, W0 = w2.drew := ⟨_, rfl⟩
      rw [← hW0] at hHeld HD ⊢
      clear hW0
      refine wpAnyH_take (i := 0) (oi := ?oi0) (v := ?v0) ?hi0 ?hs0 ?hf0 ?hr0 ?hQ0 ?hy0 ?hS0 ?h0
      case hi0 => exact (by simp only [List.getElem?_toArray, List.getElem?_cons_zero]; rfl)
      case hs0 => kernel_rfl
      case hf0 => kernel_rfl
      case hr0 => kernel_rfl
      case hQ0 => exact fun _ _ _ h => h
      case hy0 =>
        refine Or.inl ⟨rfl, ?_⟩
        intro W hSw
        obtain ⟨y0, y1⟩ := hSw
        go_simp
        try with_reducible rfl
      case hS0 => assumption
      try simp only [Act.put, List.setIfInBounds_toArray, List.set_cons_zero, List.set_cons_succ]
      refine wpAnyH_take (i := 1) (oi := ?oi1) (v := ?v1) ?hi1 ?hs1 ?hf1 ?hr1 ?hQ1 ?hy1 ?hS1 ?h1
      case hi1 => exact (by simp only [List.getElem?_toArray, List.getElem?_cons_succ, List.getElem?_cons_zero]; rfl)
      case hs1 => kernel_rfl
      case hf1 => kernel_rfl
      case hr1 => kernel_rfl
      case hQ1 => exact fun _ _ _ h => h
      case hy1 =>
        refine Or.inl ⟨rfl, ?_⟩
        intro W hSw
        obtain ⟨y0, y1⟩ := hSw
        go_simp
        try with_reducible rfl
      case hS1 => assumption
      try simp only [Act.put, List.setIfInBounds_toArray, List.set_cons_zero, List.set_cons_succ]
      refine wpAnyH_take (i := 2) (oi := ?oi2) (v := ?v2) ?hi2 ?hs2 ?hf2 ?hr2 ?hQ2 ?hy2 ?hS2 ?h2
      case hi2 => exact (by simp only [List.getElem?_toArray, List.getElem?_cons_succ, List.getElem?_cons_zero]; rfl)
      case hs2 => kernel_rfl
      case hf2 => kernel_rfl
      case hr2 => kernel_rfl
      case hQ2 => exact fun _ _ _ h => h
      case hy2 =>
        refine Or.inl ⟨rfl, ?_⟩
        intro W hSw
        obtain ⟨y0, y1⟩ := hSw
        go_simp
        try with_reducible rfl
      case hS2 => assumption
      try simp only [Act.put, List.setIfInBounds_toArray, List.set_cons_zero, List.set_cons_succ]
      refine wpAnyH_take (i := 4) (oi := ?oi4) (v := ?v4) ?hi4 ?hs4 ?hf4 ?hr4 ?hQ4 ?hy4 ?hS4 ?h4
      case hi4 => exact (by simp only [List.getElem?_toArray, List.getElem?_cons_succ, List.getElem?_cons_zero]; rfl)
      case hs4 => kernel_rfl
      case hf4 => kernel_rfl
      case hr4 => kernel_rfl
      case hQ4 => exact fun _ _ _ h => h
      case hy4 =>
        refine Or.inl ⟨rfl, ?_⟩
        intro W hSw
        obtain ⟨y0, y1⟩ := hSw
        go_simp
        try with_reducible rfl
      case hS4 => assumption
      try simp only [Act.put, List.setIfInBounds_toArray, List.set_cons_zero, List.set_cons_succ]
      refine wpAnyH_take (i := 5) (oi := ?oi5) (v := ?v5) ?hi5 ?hs5 ?hf5 ?hr5 ?hQ5 ?hy5 ?hS5 ?h5
      case hi5 => exact (by simp only [List.getElem?_toArray, List.getElem?_cons_succ, List.getElem?_cons_zero]; rfl)
      case hs5 => kernel_rfl
      case hf5 => kernel_rfl
      case hr5 => kernel_rfl
      case hQ5 => exact fun _ _ _ h => h
      case hy5 =>
        refine Or.inl ⟨rfl, ?_⟩
        intro W hSw
        obtain ⟨y0, y1⟩ := hSw
        go_simp
        try with_reducible rfl
      case hS5 => assumption
      try simp only [Act.put, List.setIfInBounds_toArray, List.set_cons_zero, List.set_cons_succ]
      refine wpAnyH_take (i := 6) (oi := ?oi6) (v := ?v6) ?hi6 ?hs6 ?hf6 ?hr6 ?hQ6 ?hy6 ?hS6 ?h6
      case hi6 => exact (by simp only [List.getElem?_toArray, List.getElem?_cons_succ, List.getElem?_cons_zero]; rfl)
      case hs6 => kernel_rfl
      case hf6 => kernel_rfl
      case hr6 => kernel_rfl
      case hQ6 => exact fun _ _ _ h => h
      case hy6 =>
        refine Or.inl ⟨rfl, ?_⟩
        intro W hSw
        obtain ⟨y0, y1⟩ := hSw
        go_simp
        try with_reducible rfl
      case hS6 => assumption
      try simp only [Act.put, List.setIfInBounds_toArray, List.set_cons_zero, List.set_cons_succ]
      refine wpAnyH_ready (rs := [3]) (by kernel_rfl) (by simp) ?_
      refine AllReadyH.cons (o := _) rfl (fun K hK => ?_) AllReadyH.nil
      go_simp
      refine (HRT.out W0).mono ?_
      rintro r W1 ⟨rfl, hbq⟩
      have HB1 := Lib.hid (HD.out.trans (hbq.mono HD.out.size))
      clear hbq
      refine hK.out _ _ (HCF.out _ (HB1.out)) (fun hHeld => ?_)
      clear hK K
      try simp only [Act.put, List.setIfInBounds_toArray, List.set_cons_zero, List.set_cons_succ]
      refine wpAnyH_take (i := 7) (oi := ?oi7) (v := (.int .i64 M)) ?hi7 ?hs7 ?hf7 ?hr7 ?hQ7 ?hy7 ?hS7 ?h7
      case hi7 => exact (by simp only [List.getElem?_toArray, List.getElem?_cons_succ, List.getElem?_cons_zero]; rfl)
      case hs7 => kernel_rfl
      case hf7 => kernel_rfl
      case hr7 => kernel_rfl
      case hQ7 => exact fun _ _ _ h => h
      case hy7 =>
        refine Or.inl ⟨rfl, ?_⟩
        intro W hSw
        obtain ⟨y0, y1⟩ := hSw
        have z1 := HMU.out
        go_simp
        try with_reducible rfl
      case hS7 => assumption
      try simp only [Act.put, List.setIfInBounds_toArray, List.set_cons_zero, List.set_cons_succ]
      refine wpAnyH_take (i := 8) (oi := ?oi8) (v := (.int .i64 (Y + M))) ?hi8 ?hs8 ?hf8 ?hr8 ?hQ8 ?hy8 ?hS8 ?h8
      case hi8 => exact (by simp only [List.getElem?_toArray, List.getElem?_cons_succ, List.getElem?_cons_zero]; rfl)
      case hs8 => kernel_rfl
      case hf8 => kernel_rfl
      case hr8 => kernel_rfl
      case hQ8 => exact fun _ _ _ h => h
      case hy8 =>
        refine Or.inl ⟨rfl, ?_⟩
        intro W hSw
        obtain ⟨y0, y1⟩ := hSw
        have z1 := HAD.out
        go_simp
        try with_reducible rfl
      case hS8 => assumption
      try simp only [Act.put, List.setIfInBounds_toArray, List.set_cons_zero, List.set_cons_succ]
      refine wpAnyH_take (i := 9) (oi := ?oi9) (v := ?v9) ?hi9 ?hs9 ?hf9 ?hr9 ?hQ9 ?hy9 ?hS9 ?h9
      case hi9 => exact (by simp only [List.getElem?_toArray, List.getElem?_cons_succ, List.getElem?_cons_zero]; rfl)
      case hs9 => kernel_rfl
      case hf9 => kernel_rfl
      case hr9 => kernel_rfl
      case hQ9 => exact fun _ _ _ h => h
      case hy9 =>
        refine Or.inl ⟨rfl, ?_⟩
        intro W hSw
        obtain ⟨y0, y1⟩ := hSw
        go_simp
        try with_reducible rfl
      case hS9 => assumption
      try simp only [Act.put, List.setIfInBounds_toArray, List.set_cons_zero, List.set_cons_succ]
      refine wpAnyH_done (by kernel_rfl) ?_ _
      go_wp2
      go_roundw
      case rel => exact ⟨k + 1, by omega, by go_num, by rw [HSN.out.1], by rw [HSN.out.2], HB2.out.trans (HB1.out.mono HB2.out.size)⟩
      case measure => simp [intOf] <;> omega
    · have hkn : k = np := by omega
      subst hkn
      rw [List.take_of_length_le (by rw [← HNP.out]; exact Nat.le_refl _)]
      go_wp2
      exact bodyPost_ret (v := .tuple #[.int .i64 (sumN es), .int .i64 (sumW es)]) (by simp [results, Try.results34, go_sem]) rfl ⟨rfl, HV.out⟩
end Go.Proofs.Ytnloikdfbdpilaa
