/- session: Open that is refused. -/
import Derived.Test.YtfgabmjnpjmmgaaOH
namespace Go.Proofs.Ytfgabmjnpjmmgaa
open Go.RowKit
set_option maxRecDepth 20000
set_option linter.unusedVariables false

set_option maxHeartbeats 2000000 in
theorem add_there (R : Nat) (most : Int) (vi vt : Value) (ids : List Nat) (ths : List Mk) (x : Nat) (z1 z2 : Int) (w : World) (h : IsR w R most vi vt ids ths) (hl : ids.length ≤ 1000) (hx : x ∈ ids) :
    Calls Try.prog 26 #[.pointer (some ⟨R, 0, none⟩), .int .u32 (x : Int), mV z1 z2] w fun r w' => r = .returned (.int .i64 11) ∧ Below w.heap.size w w' := by
  obtain ⟨w0, hw0⟩ : ∃ w0, w0 = w.alloc (.cells (mC z1 z2) 55) := ⟨_, rfl⟩
  have hb0 : Below w.heap.size w w0 := by rw [hw0]; exact (Below.refl _ _).alloc (Nat.le_refl _) _
  have hq0 : w0.heap[w.heap.size]? = some (.cells (mC z1 z2) 55 (0, 0)) := by rw [hw0]; exact heap_alloc_new w _
  have c0 := cell_of_row w0 w.heap.size 0 _ _ _ hq0
  have c1 := cell_of_row w0 w.heap.size 1 _ _ _ hq0
  simp at c0 c1
  have HP := Lib.hid (place_any R most vi vt ids ths x w0 (h.after hb0) hl)
  have HU := Lib.hid h.up
  have HX := Lib.hid hx
  have HB := Lib.hid hb0
  have H0 := Lib.hid hw0
  clear h hl hx hb0 hw0 hq0
  go_enter Try.func26, Try.ntmps26
  go_upto_region 1 with (fail)
  rw [← H0.out]
  go_wp2_with fail
  refine HP.out.mono ?_
  rintro r w' ⟨rfl, p, hp, rfl⟩
  have heq : ids[p]? = some x := (pl_mem HU.out hp).1 HX.out
  have hd : decide (ids[p]? = some x) = true := by rw [decide_eq_true_eq]; exact heq
  clear heq hp
  rw [hd]
  go_wp2
  go_ret
  exact ⟨rfl, HB.out⟩

theorem add_id (R : Nat) (most : Int) (vi vt : Value) (ids : List Nat) (ths : List Mk) (x : Nat) (z1 z2 : Int) (w : World) (h : IsR w R most vi vt ids ths) (hl : ids.length ≤ 1000) (hok : ¬(1 ≤ x ∧ x ≤ 2147483647)) :
    Calls Try.prog 26 #[.pointer (some ⟨R, 0, none⟩), .int .u32 (x : Int), mV z1 z2] w fun r w' => r = .returned (.int .i64 14) ∧ Below w.heap.size w w' :=
  add_core R most vi vt ids ths x z1 z2 w h hl (fun hx => hok (h.ok x hx)) _ fun p W hB _ _ => (lay_id R p x z1 z2 W hok).mono fun _ _ ⟨h1, h2⟩ => ⟨14, h1, h1, hB.trans (h2.mono hB.size)⟩
theorem add_full (R : Nat) (most : Int) (vi vt : Value) (ids : List Nat) (ths : List Mk) (x : Nat) (z1 z2 : Int) (w : World) (h : IsR w R most vi vt ids ths) (hl : ids.length ≤ 1000) (hx : x ∉ ids) (hok : 1 ≤ x ∧ x ≤ 2147483647) (hf : min most 2147483647 ≤ (ids.length : Int)) :
    Calls Try.prog 26 #[.pointer (some ⟨R, 0, none⟩), .int .u32 (x : Int), mV z1 z2] w fun r w' => r = .returned (.int .i64 10) ∧ Below w.heap.size w w' :=
  add_core R most vi vt ids ths x z1 z2 w h hl hx _ fun p W hB _ _ => (lay_full R most vi vt ids ths p x z1 z2 W (h.after hB) hok hf).mono fun _ _ ⟨h1, h2⟩ => ⟨10, h1, h1, hB.trans (h2.mono hB.size)⟩

set_option maxHeartbeats 2000000 in
theorem open_there (B T : Nat) (idle most : Int) (ids : List Nat) (ths : List Mk) (x : Nat) (now : Int) (w : World) (h : Tb w B T idle most ids ths) (hl : ids.length ≤ 1000) (hx : x ∈ ids) :
    Calls Try.prog 8 #[.pointer (some ⟨T, 0, none⟩), .int .u32 (x : Int), .int .i64 now] w fun r w' => r = .returned (.int .i64 11) ∧ Below w.heap.size w w' := by
  obtain ⟨h1, R, vi, vt, h2, h3, h4⟩ := h
  have c0 := cell_of_row w T 0 _ _ _ h3
  simp at c0
  have HA := Lib.hid (add_there R most vi vt ids ths x now 0 w h4 hl hx)
  clear h1 h2 h3 h4 hl hx
  go_enter Try.func8, Try.ntmps8
  go_wp2_with fail
  refine HA.out.mono ?_
  rintro r w1 ⟨rfl, h1⟩
  have H1 := Lib.hid h1
  clear h1
  go_wp2
  go_ret
  exact ⟨rfl, H1.out⟩

set_option maxHeartbeats 2000000 in
theorem open_id (B T : Nat) (idle most : Int) (ids : List Nat) (ths : List Mk) (x : Nat) (now : Int) (w : World) (h : Tb w B T idle most ids ths) (hl : ids.length ≤ 1000) (hok : ¬(1 ≤ x ∧ x ≤ 2147483647)) :
    Calls Try.prog 8 #[.pointer (some ⟨T, 0, none⟩), .int .u32 (x : Int), .int .i64 now] w fun r w' => r = .returned (.int .i64 14) ∧ Below w.heap.size w w' := by
  obtain ⟨h1, R, vi, vt, h2, h3, h4⟩ := h
  have c0 := cell_of_row w T 0 _ _ _ h3
  simp at c0
  have HA := Lib.hid (add_id R most vi vt ids ths x now 0 w h4 hl hok)
  clear h1 h2 h3 h4 hl hok
  go_enter Try.func8, Try.ntmps8
  go_wp2_with fail
  refine HA.out.mono ?_
  rintro r w1 ⟨rfl, h1⟩
  have H1 := Lib.hid h1
  clear h1
  go_wp2
  go_ret
  exact ⟨rfl, H1.out⟩

set_option maxHeartbeats 2000000 in
theorem open_full (B T : Nat) (idle most : Int) (ids : List Nat) (ths : List Mk) (x : Nat) (now : Int) (w : World) (h : Tb w B T idle most ids ths) (hl : ids.length ≤ 1000) (hx : x ∉ ids) (hok : 1 ≤ x ∧ x ≤ 2147483647) (hf : min most 2147483647 ≤ (ids.length : Int)) :
    Calls Try.prog 8 #[.pointer (some ⟨T, 0, none⟩), .int .u32 (x : Int), .int .i64 now] w fun r w' => r = .returned (.int .i64 10) ∧ Below w.heap.size w w' := by
  obtain ⟨h1, R, vi, vt, h2, h3, h4⟩ := h
  have c0 := cell_of_row w T 0 _ _ _ h3
  simp at c0
  have HA := Lib.hid (add_full R most vi vt ids ths x now 0 w h4 hl hx hok hf)
  clear h1 h2 h3 h4 hl hx hok hf
  go_enter Try.func8, Try.ntmps8
  go_wp2_with fail
  refine HA.out.mono ?_
  rintro r w1 ⟨rfl, h1⟩
  have H1 := Lib.hid h1
  clear h1
  go_wp2
  go_ret
  exact ⟨rfl, H1.out⟩

end Go.Proofs.Ytfgabmjnpjmmgaa
