/- Frames: what a reader's bytes are asked: contracts of the small calls. -/
import Derived.Test.YtggoclmboemmlaaF2
namespace Go.Proofs.Ytggoclmboemmlaa
open Go.RowKit

theorem right_any (n : Int) (w : World) : Calls Try.prog 22 #[.int .i64 n] w fun e w' => e = .returned (.bool (decide (1 ≤ n ∧ n ≤ 1024))) ∧ w = w' := by
  obtain ⟨r, hr⟩ : ∃ r, r = decide (1 ≤ n ∧ n ≤ 1024) := ⟨_, rfl⟩
  rw [← hr]
  have HR := Lib.hid hr
  clear hr
  go_enter Try.func22, Try.ntmps22
  by_cases h1 : 1 ≤ n
  · by_cases h2 : n ≤ 1024
    · go_wp2_with fail
      go_ret
      exact ⟨by rw [HR.out, decide_eq_true ⟨h1, h2⟩]; rfl, rfl⟩
    · go_wp2_with fail
      go_ret
      exact ⟨by rw [HR.out, decide_eq_false (by omega)]; rfl, rfl⟩
  · go_wp2_with fail
    go_ret
    exact ⟨by rw [HR.out, decide_eq_false (by omega)]; rfl, rfl⟩

theorem many_any (H : Nat) (v : Value) (h : List UInt8) (d : Bool) (w : World) (hr : w.heap[H]? = some (.cells #[v, .bool d] 50 (0, 0))) (hp : Pb w v h) :
    Calls Try.prog 28 #[.pointer (some ⟨H, 0, none⟩)] w fun e w' => e = .returned (.int .i64 (h.length : Int)) ∧ w = w' := by
  obtain ⟨A, c, rfl, _, _⟩ := hp
  have c0 := cell_of_row w H 0 _ _ _ hr
  simp only [List.getElem?_toArray, List.getElem?_cons_zero] at c0
  clear hr
  go_enter Try.func28, Try.ntmps28
  go_wp2_with fail
  go_ret
  exact ⟨rfl, rfl⟩

theorem has_any (H n : Nat) (v : Value) (h : List UInt8) (d : Bool) (w : World) (hr : w.heap[H]? = some (.cells #[v, .bool d] 50 (0, 0))) (hp : Pb w v h) (hn : n ≤ 70000) :
    Calls Try.prog 25 #[.pointer (some ⟨H, 0, none⟩), .int .i64 (n : Int)] w fun e w' => e = .returned (.bool (decide (2 + n ≤ h.length))) ∧ w = w' := by
  obtain ⟨A, c, rfl, _, _⟩ := hp
  obtain ⟨r, hrr⟩ : ∃ r, r = decide (2 + n ≤ h.length) := ⟨_, rfl⟩
  rw [← hrr]
  obtain ⟨l, hl⟩ : ∃ l, l = h.length := ⟨_, rfl⟩
  rw [← hl] at hr hrr
  have c0 := cell_of_row w H 0 _ _ _ hr
  simp only [List.getElem?_toArray, List.getElem?_cons_zero] at c0
  have t : decide ((l : Int) ≥ 2 + (n : Int)) = r := by rw [hrr, decide_eq_decide]; omega
  clear hr hrr hl
  go_enter Try.func25, Try.ntmps25
  go_wp2_with fail
  go_ret
  exact ⟨rfl, rfl⟩

theorem dead_nil (w : World) : Calls Try.prog 15 #[.pointer Option.none] w fun e w' => e = .returned (.bool true) ∧ w = w' := by
  go_enter Try.func15, Try.ntmps15
  go_wp2_with fail
  go_ret
  exact ⟨rfl, rfl⟩
theorem dead_any (H : Nat) (v : Value) (d : Bool) (w : World) (hr : w.heap[H]? = some (.cells #[v, .bool d] 50 (0, 0))) : Calls Try.prog 15 #[.pointer (some ⟨H, 0, none⟩)] w fun e w' => e = .returned (.bool d) ∧ w = w' := by
  have c1 := cell_of_row w H 1 _ _ _ hr
  simp only [List.getElem?_toArray, List.getElem?_cons_zero, List.getElem?_cons_succ] at c1
  clear hr
  go_enter Try.func15, Try.ntmps15
  go_wp2_with fail
  go_ret
  exact ⟨rfl, rfl⟩
theorem held_nil (w : World) : Calls Try.prog 17 #[.pointer Option.none] w fun e w' => e = .returned (.int .i64 0) ∧ w = w' := by
  go_enter Try.func17, Try.ntmps17
  go_wp2_with fail
  go_ret
  exact ⟨rfl, rfl⟩
theorem held_any (H : Nat) (v : Value) (h : List UInt8) (d : Bool) (w : World) (hr : w.heap[H]? = some (.cells #[v, .bool d] 50 (0, 0))) (hp : Pb w v h) : Calls Try.prog 17 #[.pointer (some ⟨H, 0, none⟩)] w fun e w' => e = .returned (.int .i64 (h.length : Int)) ∧ w = w' := by
  have hm := many_any H v h d w hr hp
  obtain ⟨n, hn⟩ : ∃ n, n = h.length := ⟨_, rfl⟩
  rw [← hn] at hm ⊢
  clear hr hp hn
  go_enter Try.func17, Try.ntmps17
  go_wp2_with fail
  refine hm.mono ?_
  rintro e w' ⟨rfl, rfl⟩
  go_wp2_with fail
  go_ret
  exact ⟨rfl, rfl⟩
theorem new_any (w : World) : Calls Try.prog 14 #[] w fun e w' => e = .returned (.pointer (some ⟨w.heap.size, 0, none⟩)) ∧ w' = w.alloc (.cells #[.slice none 0 0, .bool false] 50) := by
  go_enter Try.func14, Try.ntmps14
  go_wp2_with fail
  go_ret
  exact ⟨rfl, rfl⟩

set_option maxHeartbeats 400000 in
theorem fresh_any (v : Value) (l : List UInt8) (w : World) (hp : Pb w v l) (hl : l.length ≤ 1000000) :
    Calls Try.prog 29 #[v] w fun e w' => ∃ A n c, e = .returned (.slice A n c) ∧ w'.ownsRow w.heap.size 5 1 (.slice A n c) l.length (bv l) ∧ Below w.heap.size w w' := by
  obtain ⟨A, c, rfl, _, _⟩ := id hp
  have HP := Lib.hid hp
  obtain ⟨B, hB⟩ : ∃ B, B = w.heap.size := ⟨_, rfl⟩
  have HB := Lib.hid hB
  have HO : Hid (w.ownsRow B 5 1 (.slice none 0 0) ([] : List UInt8).length (bv [])) := Lib.hid (World.ownsRow_nil w B 5 1)
  clear hp
  rw [← hB]
  clear hB
  go_enter Try.func29, Try.ntmps29
  go_wp2_with (at_builtin; refine wpList_append_bytes rfl (.const (.slice none 0 0)) (.tmp 3) rfl B (.slice none 0 0) (.slice A l.length c) [] l rfl rfl HO.out HP.out (by simp; omega) (by rw [HB.out]; exact Nat.le_refl _) ?_; intro v1 w1 hown1 hg1 _; have hown1 : w1.ownsRow B 5 1 v1 l.length (bv l) := hown1; obtain ⟨A1, n1, c1, rfl⟩ := own_form hown1)
  go_ret
  exact ⟨A1, n1, c1, rfl, hown1, by rw [HB.out]; exact (Below.refl _ _).grown hg1 (Nat.le_refl _) (fun k hk => by cases hk)⟩
end Go.Proofs.Ytggoclmboemmlaa
