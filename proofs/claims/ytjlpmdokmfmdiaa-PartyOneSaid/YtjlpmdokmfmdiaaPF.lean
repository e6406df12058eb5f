/- Party: the least id that is free. -/
import Derived.Test.YtjlpmdokmfmdiaaPB
namespace Go.Proofs.Ytjlpmdokmfmdiaa.P
open Go.RowKit
set_option maxRecDepth 20000
set_option linter.unusedVariables false
set_option linter.unusedSimpArgs false

theorem cell_of_one {w : World} {B T : Nat} {v : Value} (h : w.heap[B]? = some (.cells #[v] T (0, 0))) : w.cell? ⟨B, 0, none⟩ = some v := by
  have := cell_of_row w B 0 _ _ _ h
  simpa using this
def Gap (ids : List Nat) (i : Nat) : Bool := match ids[i]? with
  | some y => decide (i + 1 < y)
  | none => false
set_option maxHeartbeats 2000000 in
theorem closure_any (B R : Nat) (most : Int) (vi vt : Value) (ids : List Nat) (ths : List Mk) (i : Nat) (w : World) (h : IsR w R most vi vt ids ths) (hl : ids.length ≤ 1000) (hB : w.heap[B]? = some (.cells #[.pointer (some ⟨R, 0, none⟩)] 109 (0, 0))) (hi : i < ids.length) :
    Calls Try.prog 156 #[.int .i64 (i : Int), .pointer (some ⟨B, 0, none⟩)] w fun r w' => r = .returned (.bool (Gap ids i)) ∧ w' = w := by
  have c0 := cell_of_one hB
  have c1 := cell_of_row w R 1 _ _ _ h.row
  simp at c1
  rcases h.rio.2 with ⟨_, h0⟩ | ⟨g, cap, cur, rfl, hr⟩
  · omega
  obtain ⟨n, hn⟩ : ∃ n, n = ids.length := ⟨_, rfl⟩
  obtain ⟨y, hy⟩ : ∃ y, ids[i]? = some y := ⟨ids[i]'hi, List.getElem?_eq_getElem _⟩
  have hc : w.cell? ⟨g, i, none⟩ = some (.int .u32 (y : Int)) := by
    have := At32.of_own h.rio i y hy
    rwa [Nat.zero_add] at this
  have hG : Gap ids i = decide (i + 1 < y) := by unfold Gap; rw [hy]
  rw [hG]
  rw [← hn] at hi hl c1
  have hu : IntKind.u32.wrap ((i : Int) + 1) = (i : Int) + 1 := by rw [IntKind.wrap_u32]; omega
  clear h hr hy hn hB hG
  by_cases hlt : i + 1 < y
  · have e : decide (i + 1 < y) = true := by simpa using hlt
    rw [e]
    go_enter Try.func156, Try.ntmps156
    go_wp2
    go_ret
    refine ⟨?_, rfl⟩
    simp
    omega
  · have e : decide (i + 1 < y) = false := by simpa using hlt
    rw [e]
    go_enter Try.func156, Try.ntmps156
    go_wp2
    go_ret
    refine ⟨?_, rfl⟩
    simp
    omega

set_option linter.unusedSimpArgs false in
set_option maxHeartbeats 4000000 in
theorem searched_any (B n : Nat) (P : Nat → Bool) (w : World) (hl : n ≤ 1000) (hm : ∀ i j, i ≤ j → j < n → P i = true → P j = true) (hcl : ∀ i : Nat, i < n → Calls Try.prog 156 #[.int .i64 (i : Int), .pointer (some ⟨B, 0, none⟩)] w fun r w' => r = .returned (.bool (P i)) ∧ w' = w) :
    Calls Try.prog 155 #[.int .i64 (n : Int), .func (.func 156) #[] #[.pointer (some ⟨B, 0, none⟩)]] w fun r w' => ∃ g : Nat, g ≤ n ∧ (∀ k, k < g → P k = false) ∧ (∀ k, g ≤ k → k < n → P k = true) ∧ r = .returned (.int .i64 (g : Int)) ∧ w' = w := by
  have HC := Lib.hid hcl
  have HM := Lib.hid hm
  clear hcl hm
  go_enter Try.func155, Try.ntmps155
  go_wp2_with fail
  go_loopw [5, 6] (fun u v wr => ∃ i j : Nat, i ≤ j ∧ j ≤ n ∧ u = .int .i64 (i : Int) ∧ v = .int .i64 (j : Int) ∧ Hid ((∀ k, k < i → P k = false) ∧ (∀ k, j ≤ k → k < n → P k = true)) ∧ wr = w) (fun u v _ => (intOf v).toNat - (intOf u).toNat)
  case atStart => exact ⟨0, n, by omega, by omega, rfl, rfl, ⟨fun k h => absurd h (Nat.not_lt_zero k), fun k h h' => absurd h' (by omega)⟩, by first | rfl | trivial⟩
  case round =>
    obtain ⟨i, j, hij, hj, rfl, rfl, HI, rfl⟩ := hrel
    by_cases hlt : i < j
    · have hm1 : i ≤ (i + j) / 2 ∧ (i + j) / 2 < j := by omega
      obtain ⟨b, hb⟩ : ∃ b, b = P ((i + j) / 2) := ⟨_, rfl⟩
      have HK := Lib.hid (HC.out ((i + j) / 2) (by omega))
      rw [← hb] at HK
      have HBq := Lib.hid hb
      clear hb
      go_wp2_with fail
      refine HK.out.mono ?_
      rintro r w1 ⟨rfl, rfl⟩
      cases b
      · go_wp2
        go_roundw
        case rel =>
          refine ⟨(i + j) / 2 + 1, j, by omega, hj, by go_num, rfl, ⟨fun k hk => ?_, HI.out.2⟩, by first | rfl | trivial⟩
          cases hP : P k with
          | false => rfl
          | true => exact absurd (HM.out k ((i + j) / 2) (by omega) (by omega) hP) (by rw [← HBq.out]; decide)
        case measure => simp [intOf]; omega
      · go_wp2
        go_roundw
        case rel => exact ⟨i, (i + j) / 2, by omega, by omega, rfl, by go_num, ⟨HI.out.1, fun k hk hkn => HM.out _ k hk hkn HBq.out.symm⟩, by first | rfl | trivial⟩
        case measure => simp [intOf]; omega
    · have hij' : i = j := by omega
      subst hij'
      go_wp2
      go_ret
      exact ⟨i, by omega, HI.out.1, HI.out.2, rfl, rfl⟩

theorem up_ge {ids : List Nat} (hu : Up ids) (hok : ∀ x ∈ ids, 1 ≤ x ∧ x ≤ 2147483647) : ∀ (i y : Nat), ids[i]? = some y → i + 1 ≤ y
  | 0, y, h => (hok y (List.mem_of_getElem? h)).1
  | i + 1, y, h => by
    obtain ⟨z, hz⟩ : ∃ z, ids[i]? = some z := ⟨ids[i]'(by have := (List.getElem?_eq_some_iff.1 h).1; omega), List.getElem?_eq_getElem _⟩
    have := up_ge hu hok i z hz
    have := hu i (i + 1) z y (by omega) hz h
    omega
theorem up_step {ids : List Nat} (hu : Up ids) : ∀ (d i y z : Nat), ids[i]? = some y → ids[i + d]? = some z → y + d ≤ z
  | 0, i, y, z, h, h' => by rw [Nat.add_zero, h] at h'; injection h' with h'; omega
  | d + 1, i, y, z, h, h' => by
    obtain ⟨u, hu'⟩ : ∃ u, ids[i + d]? = some u := ⟨ids[i + d]'(by have := (List.getElem?_eq_some_iff.1 h').1; omega), List.getElem?_eq_getElem _⟩
    have := up_step hu d i y u h hu'
    have := hu (i + d) (i + (d + 1)) u z (by omega) hu' h'
    omega
theorem gap_mono {ids : List Nat} (hu : Up ids) : ∀ i j, i ≤ j → j < ids.length → Gap ids i = true → Gap ids j = true := fun i j hij hj hg => by
  obtain ⟨y, hy⟩ : ∃ y, ids[i]? = some y := ⟨ids[i]'(by omega), List.getElem?_eq_getElem _⟩
  obtain ⟨z, hz⟩ : ∃ z, ids[j]? = some z := ⟨ids[j]'hj, List.getElem?_eq_getElem _⟩
  unfold Gap at hg ⊢
  rw [hy] at hg
  rw [hz]
  simp only [decide_eq_true_eq] at hg ⊢
  have := up_step hu (j - i) i y z hy (by rw [show i + (j - i) = j by omega]; exact hz)
  omega
/-- What is free: all below it stand there, itself does not. -/
def Fr (ids : List Nat) (f : Nat) : Prop := 1 ≤ f ∧ f ≤ ids.length + 1 ∧ f ∉ ids ∧ ∀ x, 1 ≤ x → x < f → x ∈ ids
theorem fr_gap {ids : List Nat} {g : Nat} (hu : Up ids) (hok : ∀ x ∈ ids, 1 ≤ x ∧ x ≤ 2147483647) (hg : g ≤ ids.length) (h1 : ∀ k, k < g → Gap ids k = false) (h2 : ∀ k, g ≤ k → k < ids.length → Gap ids k = true) : Fr ids (g + 1) := by
  have eq : ∀ k, k < g → ids[k]? = some (k + 1) := fun k hk => by
    obtain ⟨y, hy⟩ : ∃ y, ids[k]? = some y := ⟨ids[k]'(by omega), List.getElem?_eq_getElem _⟩
    have h3 := h1 k hk
    unfold Gap at h3
    rw [hy] at h3
    simp only [decide_eq_false_iff_not] at h3
    have := up_ge hu hok k y hy
    rw [hy, show y = k + 1 by omega]
  refine ⟨by omega, by omega, fun hm => ?_, fun x hx1 hx2 => ?_⟩
  · obtain ⟨j, hj⟩ := List.getElem?_of_mem hm
    by_cases hjg : j < g
    · rw [eq j hjg] at hj
      injection hj with hj
      omega
    · have hjl := (List.getElem?_eq_some_iff.1 hj).1
      have h3 := h2 j (by omega) hjl
      unfold Gap at h3
      rw [hj] at h3
      simp only [decide_eq_true_eq] at h3
      omega
  · exact List.mem_of_getElem? (i := x - 1) (by rw [eq (x - 1) (by omega), show x - 1 + 1 = x by omega])

set_option maxHeartbeats 4000000 in
theorem free_least (R : Nat) (most : Int) (vi vt : Value) (ids : List Nat) (ths : List Mk) (w : World) (h : IsR w R most vi vt ids ths) (hl : ids.length ≤ 1000) (hf : ¬ min most 2147483647 ≤ (ids.length : Int)) :
    Calls Try.prog 124 #[.pointer (some ⟨R, 0, none⟩)] w fun r w' => (∃ f : Nat, Fr ids f ∧ r = .returned (.int .u32 (f : Int))) ∧ Below w.heap.size w w' := by
  obtain ⟨w0, hw0⟩ : ∃ w0, w0 = w.alloc (.cells #[.pointer (some ⟨R, 0, none⟩)] 109) := ⟨_, rfl⟩
  have hb0 : Below w.heap.size w w0 := by rw [hw0]; exact (Below.refl _ _).alloc (Nat.le_refl _) _
  have hp0 : w0.heap[w.heap.size]? = some (.cells #[.pointer (some ⟨R, 0, none⟩)] 109 (0, 0)) := by rw [hw0]; exact heap_alloc_new w _
  have c0 := cell_of_one hp0
  have h0 := h.after hb0
  have HF := Lib.hid (full_any R most vi vt ids ths w0 h0)
  have hfd : decide (min most 2147483647 ≤ (ids.length : Int)) = false := by rw [decide_eq_false_iff_not]; exact hf
  rw [hfd] at HF
  have H0 := Lib.hid hw0
  have HP0 := Lib.hid hp0
  have HR0 := Lib.hid h0
  have HL := Lib.hid hl
  have HH := Lib.hid h
  obtain ⟨A, c, rfl⟩ := own_form1 h.rio
  obtain ⟨n, hn⟩ : ∃ n, n = ids.length := ⟨_, rfl⟩
  rw [← hn] at hl HR0
  have HN := Lib.hid hn
  have hmf : ∀ (fn : Fn) (first cap : Array Value) (w : World), (Instr.makeFunc fn first cap).run Try.prog w = .ok (.func fn first cap) w := fun _ _ _ _ => rfl
  have hB0 : Hid (Below w.heap.size w w0) := hb0
  clear h hf hfd hw0 hp0 h0 hn hb0
  go_enter Try.func124, Try.ntmps124
  go_upto_region 1 with (fail)
  rw [← H0.out]
  go_wp2_with fail
  refine HF.out.mono ?_
  rintro r w1 ⟨rfl, hb1⟩
  have h1 := HR0.out.after hb1
  have hp1 := (hb1.block _ (lt_of_block HP0.out)).trans HP0.out
  have HSE := Lib.hid (searched_any w.heap.size n (Gap ids) w1 hl (fun i j hij hj => gap_mono HH.out.up i j hij (by have := HN.out; omega)) (fun i hi => closure_any w.heap.size R most (.slice A n c) vt ids ths i w1 h1 HL.out hp1 (by have := HN.out; omega)))
  have HB1 : Hid (Below w.heap.size w w1) := hB0.out.trans (hb1.mono hB0.out.size)
  clear c0
  have c0 := cell_of_one hp1
  have c1 := cell_of_row w1 R 1 _ _ _ h1.row
  simp at c1
  clear h1 hp1 hb1
  go_wp2_with fail
  refine HSE.out.mono ?_
  rintro r w2 ⟨g, hg, hg1, hg2, rfl, rfl⟩
  have HFR : Hid (Fr ids (g + 1)) := fr_gap HH.out.up HH.out.ok (by have := HN.out; omega) hg1 (fun k a b => hg2 k a (by have := HN.out; omega))
  have hgb : g ≤ 1000 := by omega
  have hu : IntKind.u32.wrap ((g : Int) + 1) = (g : Int) + 1 := by rw [IntKind.wrap_u32]; omega
  clear hg1 hg2
  go_wp2
  go_ret
  exact ⟨⟨g + 1, HFR.out, by push_cast; rfl⟩, HB1.out⟩
end Go.Proofs.Ytjlpmdokmfmdiaa.P
