/- Friend: an act on both: all. -/
import Derived.Test.YtohcibmlkngaeaaE3
import Derived.Test.YtohcibmlkngaeaaE4
import Derived.Test.YtohcibmlkngaeaaE5
namespace Go.Proofs.Ytohcibmlkngaeaa
open Go.RowKit Go.Maps
set_option maxRecDepth 20000
set_option linter.unusedVariables false
set_option linter.unusedSimpArgs false

set_option maxHeartbeats 4000000 in
theorem do_6 (L M N n c a b : Nat) (A : Option Addr) (l l2 : List Rw) (w : World) (h : Gr w L M N l) (hI : Inv l) (hI2 : Inv l2) (hN : N ≤ 900) (ha : u32ok a) (hb : u32ok b) (hn : n = l2.length) (hR : Rr w A l2) (hl : n ≤ 200) (d : Int) (hd : 6 ≤ d) :
    Calls Try.prog 8 #[gp L, .slice A n c, .agg #[.int .u8 d, u a, u b]] w (DoP L M N l l2 l l2 w) := by
  obtain ⟨w0, hw0⟩ : ∃ w0, w0 = w.alloc (.cells #[.int .u8 d, u a, u b] 28) := ⟨_, rfl⟩
  have hb0 : Below w.heap.size w w0 := by rw [hw0]; exact (Below.refl _ _).alloc (Nat.le_refl _) _
  have hq0 : w0.heap[w.heap.size]? = some (.cells #[.int .u8 d, u a, u b] 28 (0, 0)) := by rw [hw0]; exact heap_alloc_new w _
  have g0 := cell_of_row w0 w.heap.size 0 _ _ _ hq0
  simp at g0
  have n0 : ¬ d = 0 := by omega
  have n1 : ¬ d = 1 := by omega
  have n2 : ¬ d = 2 := by omega
  have n3 : ¬ d = 3 := by omega
  have n4 : ¬ d = 4 := by omega
  have n5 : ¬ d = 5 := by omega
  have HRES : Hid (n = l2.length ∧ Rr w0 A l2 ∧ Gr w0 L M (N + 1) l ∧ ChM M w w0) := ⟨hn, hR.below hb0, (h.below hb0).up (by omega), ChM.of_below hb0⟩
  have H0 := Lib.hid hw0
  clear hq0 hb0 hw0 h hI hI2 hR hn
  go_enter Try.func8, Try.ntmps8
  go_upto_region 1 with (fail)
  rw [← H0.out]
  go_wp2
  exact bodyPost_ret (v := .tuple #[.slice A n c, .bool true]) (by simp [results, Try.results8, go_sem]) rfl ⟨_, _, _, _, rfl, fun _ => rfl, HRES.out⟩
theorem do_any (L M N n c a b : Nat) (A : Option Addr) (l l2 : List Rw) (w : World) (h : Gr w L M N l) (hI : Inv l) (hI2 : Inv l2) (hN : N ≤ 900) (ha : u32ok a) (hb : u32ok b) (hn : n = l2.length) (hR : Rr w A l2) (hl : n ≤ 200) (d : Int) (hd : 0 ≤ d) :
    Calls Try.prog 8 #[gp L, .slice A n c, .agg #[.int .u8 d, u a, u b]] w (DoP L M N l l2 (actP d l a b) (actP d l2 a b) w) := by
  have hcs : d = 0 ∨ d = 1 ∨ d = 2 ∨ d = 3 ∨ d = 4 ∨ d = 5 ∨ 6 ≤ d := by omega
  rcases hcs with rfl | rfl | rfl | rfl | rfl | rfl | h6
  · exact do_0 L M N n c a b A l l2 w h hI hI2 hN ha hb hn hR hl
  · exact do_1 L M N n c a b A l l2 w h hI hI2 hN ha hb hn hR hl
  · exact do_2 L M N n c a b A l l2 w h hI hI2 hN ha hb hn hR hl
  · exact do_3 L M N n c a b A l l2 w h hI hI2 hN ha hb hn hR hl
  · exact do_4 L M N n c a b A l l2 w h hI hI2 hN ha hb hn hR hl
  · exact do_5 L M N n c a b A l l2 w h hI hI2 hN ha hb hn hR hl
  · have e1 : ∀ l, actP d l a b = l := fun l => by unfold actP; rw [if_neg (by omega), if_neg (by omega), if_neg (by omega), if_neg (by omega), if_neg (by omega), if_neg (by omega)]
    rw [e1, e1]
    exact do_6 L M N n c a b A l l2 w h hI hI2 hN ha hb hn hR hl d h6
end Go.Proofs.Ytohcibmlkngaeaa
