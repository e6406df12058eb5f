/- Rack: what is free (at int): a number is told, unless the rack is full. -/
import Derived.Test.YtbilkelbelimjaaK7
namespace Go.Proofs.Ytbilkelbelimjaa
open Go.RowKit
set_option maxRecDepth 20000

set_option maxHeartbeats 2000000 in
theorem closure_any (B R : Nat) (most : Int) (vi vt : Value) (ids : List Nat) (ths : List Int) (i : Nat) (w : World) (h : IsR w R most vi vt ids ths) (hl : ids.length ≤ 1000) (hB : w.heap[B]? = some (.cells #[.pointer (some ⟨R, 0, none⟩)] 23 (0, 0))) (hi : i < ids.length) :
    Calls Try.prog 72 #[.int .i64 (i : Int), .pointer (some ⟨B, 0, none⟩)] w fun r w' => (∃ b, r = .returned (.bool b)) ∧ w' = w := by
  have c0 := cell_of_one hB
  have c1 := cell_of_row w R 1 _ _ _ h.row
  simp at c1
  rcases h.rio.2 with ⟨_, h0⟩ | ⟨g, cap, cur, rfl, hr⟩
  · omega
  obtain ⟨n, hn⟩ : ∃ n, n = ids.length := ⟨_, rfl⟩
  obtain ⟨y, hy⟩ : ∃ y, ids[i]? = some y := ⟨ids[i]'hi, List.getElem?_eq_getElem _⟩
  have hc : w.cell? ⟨g, i, none⟩ = some (.int .u32 (y : Int)) := by
    have := At32.of_own h.rio i y hy
    rwa [Nat.zero_add] at this
  rw [← hn] at hi hl c1
  have hu : IntKind.u32.wrap ((i : Int) + 1) = (i : Int) + 1 := by rw [IntKind.wrap_u32]; omega
  clear h hr hy hn hB
  go_enter Try.func72, Try.ntmps72
  go_wp2
  go_ret
  exact ⟨⟨_, rfl⟩, rfl⟩

set_option linter.unusedSimpArgs false in
set_option maxHeartbeats 4000000 in
theorem searched_any (B n : Nat) (w : World) (hl : n ≤ 1000) (hcl : ∀ i : Nat, i < n → Calls Try.prog 72 #[.int .i64 (i : Int), .pointer (some ⟨B, 0, none⟩)] w fun r w' => (∃ b, r = .returned (.bool b)) ∧ w' = w) :
    Calls Try.prog 71 #[.int .i64 (n : Int), .func (.func 72) #[] #[.pointer (some ⟨B, 0, none⟩)]] w fun r w' => ∃ g : Nat, g ≤ n ∧ r = .returned (.int .i64 (g : Int)) ∧ w' = w := by
  have HC := Lib.hid hcl
  clear hcl
  go_enter Try.func71, Try.ntmps71
  go_wp2_with fail
  go_loopw [5, 6] (fun u v wr => ∃ i j : Nat, i ≤ j ∧ j ≤ n ∧ u = .int .i64 (i : Int) ∧ v = .int .i64 (j : Int) ∧ wr = w) (fun u v _ => (intOf v).toNat - (intOf u).toNat)
  case atStart => exact ⟨0, n, by omega, by omega, rfl, rfl, by first | rfl | trivial⟩
  case round =>
    obtain ⟨i, j, hij, hj, rfl, rfl, rfl⟩ := hrel
    by_cases hlt : i < j
    · have hm1 : i ≤ (i + j) / 2 ∧ (i + j) / 2 < j := by omega
      have HK := Lib.hid (HC.out ((i + j) / 2) (by omega))
      go_wp2_with fail
      refine HK.out.mono ?_
      rintro r w1 ⟨⟨b, rfl⟩, rfl⟩
      cases b
      · go_wp2
        go_roundw
        case rel => exact ⟨(i + j) / 2 + 1, j, by omega, hj, by go_num, rfl, by first | rfl | trivial⟩
        case measure => simp [intOf]; omega
      · go_wp2
        go_roundw
        case rel => exact ⟨i, (i + j) / 2, by omega, by omega, rfl, by go_num, by first | rfl | trivial⟩
        case measure => simp [intOf]; omega
    · go_wp2
      go_ret
      exact ⟨i, by omega, rfl, rfl⟩

set_option maxHeartbeats 4000000 in
theorem free_some (R : Nat) (most : Int) (vi vt : Value) (ids : List Nat) (ths : List Int) (w : World) (h : IsR w R most vi vt ids ths) (hl : ids.length ≤ 1000) (hf : ¬ min most 2147483647 ≤ (ids.length : Int)) :
    Calls Try.prog 34 #[.pointer (some ⟨R, 0, none⟩)] w fun r w' => (∃ g : Nat, 1 ≤ g ∧ r = .returned (.int .u32 (g : Int))) ∧ Below w.heap.size w w' := by
  obtain ⟨w0, hw0⟩ : ∃ w0, w0 = w.alloc (.cells #[.pointer (some ⟨R, 0, none⟩)] 23) := ⟨_, rfl⟩
  have hb0 : Below w.heap.size w w0 := by rw [hw0]; exact (Below.refl _ _).alloc (Nat.le_refl _) _
  have hp0 : w0.heap[w.heap.size]? = some (.cells #[.pointer (some ⟨R, 0, none⟩)] 23 (0, 0)) := by rw [hw0]; exact heap_alloc_new w _
  have c0 := cell_of_one hp0
  have h0 := h.after hb0
  have HF := Lib.hid (full_any R most vi vt ids ths w0 h0)
  have hfd : decide (min most 2147483647 ≤ (ids.length : Int)) = false := by rw [decide_eq_false_iff_not]; exact hf
  rw [hfd] at HF
  have H0 := Lib.hid hw0
  have HP0 := Lib.hid hp0
  have HR0 := Lib.hid h0
  have HL := Lib.hid hl
  obtain ⟨A, c, rfl⟩ := own_form1 h.rio
  obtain ⟨n, hn⟩ : ∃ n, n = ids.length := ⟨_, rfl⟩
  rw [← hn] at hl HR0
  have HN := Lib.hid hn
  have hmf : ∀ (fn : Fn) (first cap : Array Value) (w : World), (Instr.makeFunc fn first cap).run Try.prog w = .ok (.func fn first cap) w := fun _ _ _ _ => rfl
  have hB0 : Hid (Below w.heap.size w w0) := hb0
  clear h hf hfd hw0 hp0 h0 hn hb0
  go_enter Try.func34, Try.ntmps34
  go_upto_region 1 with (fail)
  rw [← H0.out]
  go_wp2_with fail
  refine HF.out.mono ?_
  rintro r w1 ⟨rfl, hb1⟩
  have h1 := HR0.out.after hb1
  have hp1 := (hb1.block _ (lt_of_block HP0.out)).trans HP0.out
  have HSE := Lib.hid (searched_any w.heap.size n w1 hl (fun i hi => closure_any w.heap.size R most (.slice A n c) vt ids ths i w1 h1 HL.out hp1 (by have := HN.out; omega)))
  have HB1 : Hid (Below w.heap.size w w1) := hB0.out.trans (hb1.mono hB0.out.size)
  clear c0
  have c0 := cell_of_one hp1
  have c1 := cell_of_row w1 R 1 _ _ _ h1.row
  simp at c1
  clear h1 hp1 hb1
  go_wp2_with fail
  refine HSE.out.mono ?_
  rintro r w2 ⟨g, hg, rfl, rfl⟩
  have hg1 : g ≤ 1000 := by omega
  have hu : IntKind.u32.wrap ((g : Int) + 1) = (g : Int) + 1 := by rw [IntKind.wrap_u32]; omega
  go_wp2
  go_ret
  exact ⟨⟨g + 1, by omega, by push_cast; rfl⟩, HB1.out⟩
end Go.Proofs.Ytbilkelbelimjaa
