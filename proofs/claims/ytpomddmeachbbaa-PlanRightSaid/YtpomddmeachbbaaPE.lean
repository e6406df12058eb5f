/- Plan: a right config; PlanRight's walk. -/
import Derived.Test.YtpomddmeachbbaaP6
import Derived.Test.YtpomddmeachbbaaP8
import Derived.Test.YtpomddmeachbbaaPC
namespace Go.Proofs.Ytpomddmeachbbaa
open Go.RowKit
set_option maxRecDepth 20000

theorem keeps_nil : ∀ (l : List (List UInt8 × Bool)), (∀ p ∈ l, p.2 = false → p.1 ≠ []) → (keeps [] l = [] ↔ ∀ p ∈ l, p.2 = true)
  | [], _ => by simp [keeps]
  | x :: l, h => by
    have ih := keeps_nil l (fun p hp => h p (List.mem_cons_of_mem _ hp))
    rcases x with ⟨a, b⟩
    cases b
    · have e : keeps [] ((a, false) :: l) = keeps a l := by
        unfold keeps
        rw [List.foldl_cons]
        simp [kp]
      have ha : a ≠ [] := h (a, false) (by simp) rfl
      rw [e, keeps_keep ha]
      simp [ha]
    · have e : keeps [] ((a, true) :: l) = keeps [] l := by
        unfold keeps
        rw [List.foldl_cons]
        simp [kp]
      rw [e, ih]
      simp
/-- What makes a config right, but for its modes. -/
def Right (C : Cfg) (n : Nat) : Prop := inB 1 ((C.key.length : Nat) : Int) 255 = true ∧ inB 1 C.n1 64 = true ∧ inB 1 C.n2 64 = true ∧ inB 1 C.n3 32 = true ∧ inB 0 C.n4 16 = true ∧ inB 1 C.t1 1099511627776 = true ∧ inB 1 C.t2 1099511627776 = true ∧ inB 1 C.t3 1099511627776 = true ∧ inB 1 C.t4 1099511627776 = true ∧ inB 1 C.t5 1099511627776 = true ∧ inB 1 C.t6 1099511627776 = true ∧ inB 1 C.rate 65536 = true ∧ inB 1026 C.out 65536 = true ∧ inB 1 ((n : Nat) : Int) 4 = true
theorem wrongC_nil (C : Cfg) (l : List Md) : wrongC C l = [] ↔ Right C l.length ∧ ∀ m ∈ l, m.wrong = [] := by
  have h1 := keeps_nil (looks C l.length) (by simp [looks])
  have h2 := keeps_nil (l.map fun m => (m.wrong, m.wrong.isEmpty)) (by
    intro p hp
    obtain ⟨m, _, rfl⟩ := List.mem_map.1 hp
    intro h e
    simp only at h e
    rw [e] at h
    cases h)
  have e1 : (∀ p ∈ looks C l.length, p.2 = true) ↔ Right C l.length := by simp [looks, Right]
  have e2 : (∀ p ∈ (l.map fun m => (m.wrong, m.wrong.isEmpty)), p.2 = true) ↔ ∀ m ∈ l, m.wrong = [] := by simp
  unfold wrongC
  by_cases hk : keeps [] (looks C l.length) = []
  · rw [hk, h2, e2]
    exact ⟨fun h => ⟨e1.1 (h1.1 hk), h⟩, fun h => h.2⟩
  · rw [keeps_keep hk]
    exact ⟨fun h => absurd h hk, fun h => absurd (h1.2 (e1.2 h.1)) hk⟩
theorem wrong_grace (C : Cfg) (l : List Md) (h : Right C l.length) : wrongC { C with t5 := 0, out := 0 } l = [71, 114, 97, 99, 101] := by
  obtain ⟨h0, h1, h2, h3, h4, h5, h6, h7, h8, -⟩ := h
  have e : keeps [] (looks { C with t5 := 0, out := 0 } l.length) = [71, 114, 97, 99, 101] :=
    keeps_first _ 9 ([71, 114, 97, 99, 101], inB 1 0 1099511627776) rfl rfl (by decide) (fun j q hj hq => by
      match j, hj with
      | 0, _ => cases hq; exact h0
      | 1, _ => cases hq; exact h1
      | 2, _ => cases hq; exact h2
      | 3, _ => cases hq; exact h3
      | 4, _ => cases hq; exact h4
      | 5, _ => cases hq; exact h5
      | 6, _ => cases hq; exact h6
      | 7, _ => cases hq; exact h7
      | 8, _ => cases hq; exact h8)
  unfold wrongC
  rw [e, keeps_keep (by decide)]
theorem wrong_inst (C : Cfg) (n : Nat) (h : Right C n) : wrongC { C with n4 := 17 } [] = [73, 110, 115, 116, 97, 110, 99, 101, 115] := by
  obtain ⟨h0, h1, h2, h3, -⟩ := h
  have e : keeps [] (looks { C with n4 := 17 } 0) = [73, 110, 115, 116, 97, 110, 99, 101, 115] :=
    keeps_first _ 4 ([73, 110, 115, 116, 97, 110, 99, 101, 115], inB 0 17 16) rfl rfl (by decide) (fun j q hj hq => by
      match j, hj with
      | 0, _ => cases hq; exact h0
      | 1, _ => cases hq; exact h1
      | 2, _ => cases hq; exact h2
      | 3, _ => cases hq; exact h3)
  unfold wrongC
  rw [show ([] : List Md).length = 0 from rfl, e, keeps_keep (by decide)]
end Go.Proofs.Ytpomddmeachbbaa
