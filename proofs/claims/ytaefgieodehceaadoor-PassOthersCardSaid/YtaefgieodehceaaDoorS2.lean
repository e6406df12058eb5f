/- SHA-256: contracts for turn and round. -/
import Derived.Test.YtaefgieodehceaaDoorS1
import Derived.Test.YtaefgieodehceaaDoorRows
import Derived.WalkKit
import Derived.Below
import Derived.WalkSmall
import Derived.Outline
import Derived.BigQuiet
import Derived.Deep.QuietTactic
import Derived.Lib.Hide
namespace Go.Proofs.YtaefgieodehceaaDoor.Sha
set_option maxRecDepth 4000
open Go.RowKit

theorem neg_and (n k : Nat) (h1 : 1 ≤ n) (h : n + k = 32) : bits .and .u64 (IntKind.u64.wrap (-(n : Int))) 31 = (k : Int) := by
  have e : IntKind.u64.wrap (-(n : Int)) = ((18446744073709551616 - n : Nat) : Int) := by
    rw [IntKind.wrap_u64]
    omega
  have e2 : ((31 : Nat) : Int) = 31 := rfl
  rw [e, ← e2, u64_and_nat _ _ (by omega) (by omega)]
  have e3 : (31 : Nat) = 2 ^ 5 - 1 := rfl
  rw [e3, Nat.and_two_pow_sub_one_eq_mod]
  omega

theorem iv_addm (x y : W32) : (iv x + iv y) % 4294967296 = iv (wadd x y) := by
  rw [← iv_add, IntKind.wrap_u32']
theorem iv_shlm (x : W32) (n : Nat) : iv x * 2 ^ n % 4294967296 = iv (wshl x n) := by
  rw [← iv_shl, IntKind.wrap_u32']

theorem iv_not2 (x : W32) : bits .xor .u32 (if IntKind.u32.signed = true then -1 else IntKind.u32.max) (iv x) = iv (wnot x) := by
  rw [← iv_not]
  rfl

theorem ret_int {k : IntKind} {a b : Int} (h : a = b) : Ending.returned (.int k a) = .returned (.int k b) := by rw [h]

set_option maxHeartbeats 400000 in
theorem turn_any (x : W32) (n : Nat) (w : World) (h1 : 1 ≤ n) (h2 : n ≤ 31) :
    Calls Tryd.prog 68 #[.int .u32 (iv x), .int .i64 (n : Int)] w fun e w' => e = .returned (.int .u32 (iv (rotr x n))) ∧ w = w' := by
  obtain ⟨k, hk⟩ : ∃ k, n + k = 32 := ⟨32 - n, by omega⟩
  have hs := neg_and n k h1 hk
  have hk1 : 1 ≤ k := by omega
  have hk2 : k ≤ 31 := by omega
  have hsub : IntKind.u64.wrap (32 - (k : Int)) = (n : Int) := by
    rw [IntKind.wrap_u64]
    omega
  have HK := Lib.hid hk
  clear hk
  go_enter Tryd.func68, Tryd.ntmps68
  go_wp2
  go_ret
  refine ⟨ret_int ?_, rfl⟩
  have e1 := iv_shl x k
  rw [IntKind.wrap_u32'] at e1
  rw [e1, iv_shr', iv_or]
  have := HK.out
  rw [show k = 32 - n by omega]
  rfl

/-- Words as the model's values. -/
def wv (l : List W32) : List Value := l.map fun y => .int .u32 (iv y)
def WordsPost (w : World) (l : List W32) (e : Ending) (w' : World) : Prop := e = .returned (.agg (wv l).toArray) ∧ Below w.heap.size w w'
theorem Tryd.cells92 : Tryd.prog.cellsOf 92 = 8 := by kernel_rfl

set_option maxHeartbeats 1000000 in
set_option maxRecDepth 4000 in
theorem round_any (a b c d e f g z x : W32) (w : World) :
    Calls Tryd.prog 63 #[.agg #[.int .u32 (iv a), .int .u32 (iv b), .int .u32 (iv c), .int .u32 (iv d), .int .u32 (iv e), .int .u32 (iv f), .int .u32 (iv g), .int .u32 (iv z)], .int .u32 (iv x)] w (WordsPost w (rnd [a, b, c, d, e, f, g, z] x)) := by
  have rx := iv_xor
  have ra := iv_and
  have rn := iv_not2
  have rp := iv_addm
  have rb1 : ∀ e, wxor (wxor (rotr e 6) (rotr e 11)) (rotr e 25) = bs1 e := fun _ => rfl
  have rb0 : ∀ e, wxor (wxor (rotr e 2) (rotr e 13)) (rotr e 22) = bs0 e := fun _ => rfl
  have rch : ∀ e f g, wxor (wand e f) (wand (wnot e) g) = chz e f g := fun _ _ _ => rfl
  have rmj : ∀ a b c, wxor (wxor (wand a b) (wand a c)) (wand b c) = maj a b c := fun _ _ _ => rfl
  have t1 : ∀ (x : W32) W, Calls Tryd.prog 68 #[.int .u32 (iv x), .int .i64 6] W fun e w' => e = .returned (.int .u32 (iv (rotr x 6))) ∧ W = w' := fun x W => turn_any x 6 W (by omega) (by omega)
  have t2 : ∀ (x : W32) W, Calls Tryd.prog 68 #[.int .u32 (iv x), .int .i64 11] W fun e w' => e = .returned (.int .u32 (iv (rotr x 11))) ∧ W = w' := fun x W => turn_any x 11 W (by omega) (by omega)
  have t3 : ∀ (x : W32) W, Calls Tryd.prog 68 #[.int .u32 (iv x), .int .i64 25] W fun e w' => e = .returned (.int .u32 (iv (rotr x 25))) ∧ W = w' := fun x W => turn_any x 25 W (by omega) (by omega)
  have t4 : ∀ (x : W32) W, Calls Tryd.prog 68 #[.int .u32 (iv x), .int .i64 2] W fun e w' => e = .returned (.int .u32 (iv (rotr x 2))) ∧ W = w' := fun x W => turn_any x 2 W (by omega) (by omega)
  have t5 : ∀ (x : W32) W, Calls Tryd.prog 68 #[.int .u32 (iv x), .int .i64 13] W fun e w' => e = .returned (.int .u32 (iv (rotr x 13))) ∧ W = w' := fun x W => turn_any x 13 W (by omega) (by omega)
  have t6 : ∀ (x : W32) W, Calls Tryd.prog 68 #[.int .u32 (iv x), .int .i64 22] W fun e w' => e = .returned (.int .u32 (iv (rotr x 22))) ∧ W = w' := fun x W => turn_any x 22 W (by omega) (by omega)
  have T1 := Lib.hid t1
  have T2 := Lib.hid t2
  have T3 := Lib.hid t3
  have T4 := Lib.hid t4
  have T5 := Lib.hid t5
  have T6 := Lib.hid t6
  clear t1 t2 t3 t4 t5 t6
  go_enter Tryd.func63, Tryd.ntmps63
  go_wp2
  go_quiet (fail)
  go_wp2_with fail
  refine (T1.out _ _).mono ?_
  rintro _ _ ⟨rfl, rfl⟩
  go_wp2_with fail
  refine (T2.out _ _).mono ?_
  rintro _ _ ⟨rfl, rfl⟩
  go_wp2_with fail
  refine (T3.out _ _).mono ?_
  rintro _ _ ⟨rfl, rfl⟩
  go_wp2_with fail
  refine (T4.out _ _).mono ?_
  rintro _ _ ⟨rfl, rfl⟩
  go_wp2_with fail
  refine (T5.out _ _).mono ?_
  rintro _ _ ⟨rfl, rfl⟩
  go_wp2_with fail
  refine (T6.out _ _).mono ?_
  rintro _ _ ⟨rfl, rfl⟩
  go_wp2_with fail
  refine bodyPost_ret (v := .agg (wv (rnd [a, b, c, d, e, f, g, z] x)).toArray) ?_ rfl ⟨rfl, ?_⟩
  · simp [results, Tryd.results63, go_sem, wv, rnd]
  · have hb := below_drewN (n := nq) (((Below.refl w.heap.size w).alloc (Nat.le_refl _) (.cells #[.int .u32 (iv a), .int .u32 (iv b), .int .u32 (iv c), .int .u32 (iv d), .int .u32 (iv e), .int .u32 (iv f), .int .u32 (iv g), .int .u32 (iv z)] 92)).alloc (by simp) (.cells #[.int .u32 0, .int .u32 0, .int .u32 0, .int .u32 0, .int .u32 0, .int .u32 0, .int .u32 0, .int .u32 0] 92))
    exact (((((((hb.setCell (by simp) _).setCell (by simp) _).setCell (by simp) _).setCell (by simp) _).setCell (by simp) _).setCell (by simp) _).setCell (by simp) _).setCell (by simp) _

theorem round_list (h : List W32) (hl : h.length = 8) (x : W32) (w : World) : Calls Tryd.prog 63 #[.agg (wv h).toArray, .int .u32 (iv x)] w (WordsPost w (rnd h x)) := by
  obtain ⟨a, b, c, d, e, f, g, z, rfl⟩ := list8 hl
  exact round_any a b c d e f g z x w
end Go.Proofs.YtaefgieodehceaaDoor.Sha
