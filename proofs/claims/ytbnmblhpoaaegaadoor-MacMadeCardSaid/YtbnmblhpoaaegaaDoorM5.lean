/- HMAC: what the chapter's example says. -/
import Derived.Test.YtbnmblhpoaaegaaDoorM4
namespace Go.Proofs.YtbnmblhpoaaegaaDoor
open Go.RowKit

theorem jefe : (tagP [74, 101, 102, 101] [119, 104, 97, 116, 32, 100, 111, 32, 121, 97, 32, 119, 97, 110, 116, 32, 102, 111, 114, 32, 110, 111, 116, 104, 105, 110, 103, 63]).take 4 = [91, 220, 193, 70] := by decide +kernel
theorem jefe_get : ∀ (j : Nat) (x : UInt8), [(91 : UInt8), 220, 193, 70][j]? = some x → (bv (tagP [74, 101, 102, 101] [119, 104, 97, 116, 32, 100, 111, 32, 121, 97, 32, 119, 97, 110, 116, 32, 102, 111, 114, 32, 110, 111, 116, 104, 105, 110, 103, 63])).toArray[j]? = some (Value.int .u8 (x.toNat : Int)) := fun j x hx => by
  have hj : j < 4 := (List.getElem?_eq_some_iff.1 hx).1
  rw [← jefe, List.getElem?_take, if_pos hj] at hx
  rw [List.getElem?_toArray]
  simp [bv, hx]

set_option maxHeartbeats 1000000 in
set_option maxRecDepth 4000 in
theorem mawake_any (w : World) (hk : Kt w) (hf : Ft w) (h1 : 1 < w.heap.size) : Calls Tryd.prog 29 #[] w fun e w' => e = .returned (.bool true) ∧ Below w.heap.size w w' := by
  have hb1 := (Below.refl w.heap.size w).alloc (Nat.le_refl _) (.cells #[.int .u8 74, .int .u8 101, .int .u8 102, .int .u8 101] 5 (4, 5))
  have hpb1 : Pb (w.alloc (.cells #[.int .u8 74, .int .u8 101, .int .u8 102, .int .u8 101] 5 (4, 5))) (.slice (some ⟨w.heap.size, 0, none⟩) 4 4) [74, 101, 102, 101] :=
    ⟨_, 4, rfl, by simp, fun _ => ⟨w.heap.size, 0, rfl, by simp, fun j u hu => by
      rw [cell_of_row _ _ _ _ _ _ (heap_alloc_new w _), Nat.zero_add, ← hu]
      simp [bv]⟩⟩
  obtain ⟨w1, hw1⟩ : ∃ w1, w1 = w.alloc (.cells #[.int .u8 74, .int .u8 101, .int .u8 102, .int .u8 101] 5 (4, 5)) := ⟨_, rfl⟩
  rw [← hw1] at hb1 hpb1
  have hz1 : w1.heap.size = w.heap.size + 1 := by rw [hw1]; simp
  have hb2 := hb1.alloc hb1.size (.cells #[.int .u8 119, .int .u8 104, .int .u8 97, .int .u8 116, .int .u8 32, .int .u8 100, .int .u8 111, .int .u8 32, .int .u8 121, .int .u8 97, .int .u8 32, .int .u8 119, .int .u8 97, .int .u8 110, .int .u8 116, .int .u8 32, .int .u8 102, .int .u8 111, .int .u8 114, .int .u8 32, .int .u8 110, .int .u8 111, .int .u8 116, .int .u8 104, .int .u8 105, .int .u8 110, .int .u8 103, .int .u8 63] 5 (28, 29))
  have hpb2 : Pb (w1.alloc (.cells #[.int .u8 119, .int .u8 104, .int .u8 97, .int .u8 116, .int .u8 32, .int .u8 100, .int .u8 111, .int .u8 32, .int .u8 121, .int .u8 97, .int .u8 32, .int .u8 119, .int .u8 97, .int .u8 110, .int .u8 116, .int .u8 32, .int .u8 102, .int .u8 111, .int .u8 114, .int .u8 32, .int .u8 110, .int .u8 111, .int .u8 116, .int .u8 104, .int .u8 105, .int .u8 110, .int .u8 103, .int .u8 63] 5 (28, 29))) (.slice (some ⟨w1.heap.size, 0, none⟩) 28 28) [119, 104, 97, 116, 32, 100, 111, 32, 121, 97, 32, 119, 97, 110, 116, 32, 102, 111, 114, 32, 110, 111, 116, 104, 105, 110, 103, 63] :=
    ⟨_, 28, rfl, by simp, fun _ => ⟨w1.heap.size, 0, rfl, by simp, fun j u hu => by
      rw [cell_of_row _ _ _ _ _ _ (heap_alloc_new w1 _), Nat.zero_add, ← hu]
      simp [bv]⟩⟩
  have hpb3 := hpb1.below ((Below.refl w1.heap.size w1).alloc (Nat.le_refl _) (.cells #[.int .u8 119, .int .u8 104, .int .u8 97, .int .u8 116, .int .u8 32, .int .u8 100, .int .u8 111, .int .u8 32, .int .u8 121, .int .u8 97, .int .u8 32, .int .u8 119, .int .u8 97, .int .u8 110, .int .u8 116, .int .u8 32, .int .u8 102, .int .u8 111, .int .u8 114, .int .u8 32, .int .u8 110, .int .u8 111, .int .u8 116, .int .u8 104, .int .u8 105, .int .u8 110, .int .u8 103, .int .u8 63] 5 (28, 29)))
  obtain ⟨w2, hw2⟩ : ∃ w2, w2 = w1.alloc (.cells #[.int .u8 119, .int .u8 104, .int .u8 97, .int .u8 116, .int .u8 32, .int .u8 100, .int .u8 111, .int .u8 32, .int .u8 121, .int .u8 97, .int .u8 32, .int .u8 119, .int .u8 97, .int .u8 110, .int .u8 116, .int .u8 32, .int .u8 102, .int .u8 111, .int .u8 114, .int .u8 32, .int .u8 110, .int .u8 111, .int .u8 116, .int .u8 104, .int .u8 105, .int .u8 110, .int .u8 103, .int .u8 63] 5 (28, 29)) := ⟨_, rfl⟩
  rw [← hw2] at hb2 hpb2 hpb3
  have hps := pbs_one hpb2 27
  have hb3 := hb2.alloc hb2.size (.cells #[.slice (some ⟨w1.heap.size, 0, none⟩) 28 28] 27)
  have hpb4 := hpb3.below ((Below.refl w2.heap.size w2).alloc (Nat.le_refl _) (.cells #[.slice (some ⟨w1.heap.size, 0, none⟩) 28 28] 27))
  have hs := mtag_any _ _ _ _ _ hpb4 hps (hk.below hb3 (by omega)) (hf.below hb3 h1) (Nat.lt_of_lt_of_le h1 hb3.size) (by simp) (by simp) (by simp)
  rw [flat_one] at hs
  have g0 := jefe_get 0 91 rfl
  have g1 := jefe_get 1 220 rfl
  have g2 := jefe_get 2 193 rfl
  have g3 := jefe_get 3 70 rfl
  obtain ⟨S, hS⟩ : ∃ S, S = tagP [74, 101, 102, 101] [119, 104, 97, 116, 32, 100, 111, 32, 121, 97, 32, 119, 97, 110, 116, 32, 102, 111, 114, 32, 110, 111, 116, 104, 105, 110, 103, 63] := ⟨_, rfl⟩
  have hSl : S.length = 32 := by rw [hS, tagP_length]
  rw [← hS] at hs g0 g1 g2 g3
  have I30 := Lib.hid (show (Tryd.prog.info? 30).map (·.size) = some ((bv S).toArray.size) by
    rw [Tryd.size30]
    simp [bv, hSl])
  have S30 := Lib.hid (show z32.size = (bv S).toArray.size by
    simp only [bv, List.size_toArray, List.length_map, hSl]
    rfl)
  have HSS := Lib.hid hs
  have HB3 := Lib.hid hb3
  have HW1 := Lib.hid hw1
  have HW2 := Lib.hid hw2
  have HZ1 := Lib.hid hz1
  have HZ2 := Lib.hid (show w2.heap.size = w1.heap.size + 1 by rw [hw2]; simp)
  have G0 := Lib.hid g0
  have G1 := Lib.hid g1
  have G2 := Lib.hid g2
  have G3 := Lib.hid g3
  clear hpb1 hpb2 hpb3 hpb4 hps hs hS hSl g0 g1 g2 g3 hk hf hb1 hb2 hb3 hw1 hw2 hz1
  have kc := fun (w : World) (C : Array Value) (n c : Nat) => Lib.run_convert_bytes_const (P := Tryd.prog) w 27 5 C n c Tryd.underlying27 Tryd.underlying5
  have kc2 := kc (w.alloc (.cells #[.int .u8 74, .int .u8 101, .int .u8 102, .int .u8 101] 5 (4, 5))) #[.int .u8 119, .int .u8 104, .int .u8 97, .int .u8 116, .int .u8 32, .int .u8 100, .int .u8 111, .int .u8 32, .int .u8 121, .int .u8 97, .int .u8 32, .int .u8 119, .int .u8 97, .int .u8 110, .int .u8 116, .int .u8 32, .int .u8 102, .int .u8 111, .int .u8 114, .int .u8 32, .int .u8 110, .int .u8 111, .int .u8 116, .int .u8 104, .int .u8 105, .int .u8 110, .int .u8 103, .int .u8 63] 28 28
  rw [show (w.alloc (.cells #[.int .u8 74, .int .u8 101, .int .u8 102, .int .u8 101] 5 (4, 5))).heap.size = w.heap.size + 1 by simp] at kc2
  go_enter Tryd.func29, Tryd.ntmps29
  go_wp2_with fail
  rw [← HW1.out, ← HZ1.out, ← HW2.out]
  try rw [← HZ2.out]
  refine HSS.out.mono ?_
  intro e w3 hp1
  obtain ⟨rfl, hb3⟩ := hp1
  have hb4 := HB3.out.trans (hb3.mono HB3.out.size)
  clear hb3 HSS HB3 HW1 HW2 HZ1 HZ2 kc kc2
  go_upto_region 2 with (refine wpList_store_row rfl 30 (.tmp 1) (.tmp 7) rfl w3.heap.size _ rfl rfl 30 _ (heap_alloc_new w3 _) I30.out S30.out (bv_one _) ?_; rw [World.setRow_alloc_new])
  have hr := heap_alloc_new w3 (.cells (bv S).toArray 30)
  have q0 := (cell_of_row _ _ 0 _ _ _ hr).trans G0.out
  have q1 := (cell_of_row _ _ 1 _ _ _ hr).trans G1.out
  have q2 := (cell_of_row _ _ 2 _ _ _ hr).trans G2.out
  have q3 := (cell_of_row _ _ 3 _ _ _ hr).trans G3.out
  simp only [UInt8.reduceToNat] at q0 q1 q2 q3
  have hb5 := hb4.alloc hb4.size (.cells (bv S).toArray 30)
  obtain ⟨w4, hw4⟩ : ∃ w4, w4 = w3.alloc (.cells (bv S).toArray 30) := ⟨_, rfl⟩
  rw [← hw4] at q0 q1 q2 q3 hb5 ⊢
  clear hr hw4 hb4
  go_wp2
  go_ret
  exact ⟨rfl, hb5⟩
end Go.Proofs.YtbnmblhpoaaegaaDoor
