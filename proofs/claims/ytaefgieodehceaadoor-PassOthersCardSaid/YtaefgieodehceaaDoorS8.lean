/- SHA-256: contracts for the method Write, for New and for Sum. -/
import Derived.Test.YtaefgieodehceaaDoorS7
namespace Go.Proofs.YtaefgieodehceaaDoor.Sha
set_option maxRecDepth 4000
open Go.RowKit

/-- Parts, at v, in blocks other than H. -/
def Ps (w : World) (H : Nat) (v : Value) (ps : List (List UInt8)) : Prop :=
  ∃ A c, v = .slice A ps.length c ∧ ps.length ≤ c ∧ (0 < ps.length → ∃ b o, A = some ⟨b, o, none⟩ ∧ b ≠ H ∧ b < w.heap.size ∧ ∀ j (hj : j < ps.length), ∃ u, w.cell? ⟨b, o + j, none⟩ = some u ∧ Px w H u ps[j])
theorem Ps.grown {w w' : World} {H : Nat} {v : Value} {ps : List (List UInt8)} (h : Ps w H v ps) (hg : w.grownBy w' (some H)) : Ps w' H v ps := by
  obtain ⟨A, c, e, hc, hr⟩ := h
  refine ⟨A, c, e, hc, fun hp => ?_⟩
  obtain ⟨b, o, ha, hb, hl, hcell⟩ := hr hp
  refine ⟨b, o, ha, hb, Nat.lt_of_lt_of_le hl hg.size, fun j hj => ?_⟩
  obtain ⟨u, h1, h2⟩ := hcell j hj
  have hbk := hg.block b hl (fun e => hb (by injection e with e))
  refine ⟨u, ?_, h2.grown hg⟩
  unfold World.cell? at h1 ⊢
  rw [hbk]
  exact h1

theorem flat_take (ps : List (List UInt8)) (k : Nat) (hk : k < ps.length) : (ps.take (k + 1)).flatten = (ps.take k).flatten ++ ps[k] := by
  rw [List.take_succ_eq_append_getElem hk, List.flatten_append]
  simp only [List.flatten_cons, List.flatten_nil, List.append_nil]
theorem flat_le (ps : List (List UInt8)) (k : Nat) : (ps.take k).flatten.length ≤ ps.flatten.length := by
  have h : ps.flatten = (ps.take k).flatten ++ (ps.drop k).flatten := by rw [← List.flatten_append, List.take_append_drop]
  rw [h, List.length_append]
  omega

theorem write_nil (v : Value) (w : World) : Calls Tryd.prog 33 #[.pointer Option.none, v] w fun e w' => e = .returned (.tuple #[]) ∧ w = w' := by
  go_enter Tryd.func33, Tryd.ntmps33
  go_wp2_with fail
  exact bodyPost_ret (v := .tuple #[]) (by simp [results, Tryd.results33, go_sem]) rfl ⟨rfl, rfl⟩

set_option maxHeartbeats 1000000 in
set_option maxRecDepth 4000 in
theorem write_any (H : Nat) (l : List UInt8) (v : Value) (ps : List (List UInt8)) (w : World) (hh : IsH w H l) (hp : Ps w H v ps) (hk : Kt w) (hH : 1 < H) (hlen : l.length + ps.flatten.length ≤ 900000) (hpl : ps.length ≤ 9223372036854775807) :
    Calls Tryd.prog 33 #[.pointer (some ⟨H, 0, none⟩), v] w (TakePost w H (l ++ ps.flatten)) := by
  obtain ⟨A, c, rfl, hc, hr⟩ := id hp
  have HH := Lib.hid hh
  have HP := Lib.hid hp
  have HK := Lib.hid hk
  clear hh hp hk hr
  go_enter Tryd.func33, Tryd.ntmps33
  go_wp2_with fail
  go_loopw [10] (fun v wr => ∃ k : Nat, k ≤ ps.length ∧ v = .int .i64 k ∧ Hid (IsH wr H (l ++ (ps.take k).flatten)) ∧ w.grownBy wr (some H)) (fun v _ => ps.length - (intOf v).toNat)
  case atStart => exact ⟨0, by omega, rfl, by simpa using HH, ⟨rfl, rfl, rfl, Nat.le_refl _, fun _ _ _ => rfl⟩⟩
  case round =>
    clear HH
    obtain ⟨k, hkl, rfl, hi, hg⟩ := hrel
    by_cases hlt : k < ps.length
    · have hps := HP.out.grown hg
      obtain ⟨A2, c2, e2, _, hr⟩ := hps
      injection e2 with e3 _ e4
      subst e3 e4
      obtain ⟨b, o, rfl, hb, hl, hcell⟩ := hr (by omega)
      obtain ⟨u, h1, h2⟩ := hcell k hlt
      have hfl := flat_le ps (k + 1)
      rw [flat_take ps k hlt, List.length_append] at hfl
      have ht := take_any H _ _ u wr hi.out h2 (HK.out.grown hg hH) hH (by rw [List.length_append]; omega)
      rw [List.append_assoc, ← flat_take ps k hlt] at ht
      obtain ⟨A3, c3, rfl, _, _⟩ := h2
      have HT := Lib.hid ht
      obtain ⟨n3, hn3⟩ : ∃ n3, n3 = (ps[k]).length := ⟨_, rfl⟩
      rw [← hn3] at h1 HT
      clear ht hr hcell hi hfl hn3
      go_wp2_with fail
      refine HT.out.mono ?_
      rintro e w2 ⟨rfl, hi2, hg2⟩
      have HI2 := Lib.hid hi2
      clear hi2
      go_wp2_with fail
      go_roundw
      case rel => exact ⟨k + 1, by omega, by go_num, HI2, grownBy_trans hg hg2⟩
      case measure => simp [intOf] <;> omega
    · have hk2 : k = ps.length := by omega
      have hi2 := hi.out
      rw [hk2, List.take_length] at hi2
      have HI2 := Lib.hid hi2
      clear hi hi2
      go_wp2_with fail
      go_end0
      exact ⟨rfl, HI2.out, hg⟩

/-- The first words, in block 1. -/
def Ft (w : World) : Prop := ∀ k, k < 8 → w.cell? ⟨0, k, none⟩ = some (.int .u32 (iv (fw.getD k 0)))
theorem Ft.below {w w' : World} {B : Nat} (h : Ft w) (hb : Below B w w') (hB : 1 < B) : Ft w' := fun k hk => (hb.cell (p := ⟨0, k, none⟩) (show 0 < B by omega)).trans (h k hk)

theorem new_built (a b c d e f g z : W32) : Tryd.prog.built 96 [(0, .agg #[.int .u32 (iv a), .int .u32 (iv b), .int .u32 (iv c), .int .u32 (iv d), .int .u32 (iv e), .int .u32 (iv f), .int .u32 (iv g), .int .u32 (iv z)])] = some (hcells [a, b, c, d, e, f, g, z] (List.replicate 64 0) 0 0).toArray := by kernel_rfl

set_option maxHeartbeats 1000000 in
set_option maxRecDepth 4000 in
theorem new_any (w : World) (hf : Ft w) : Calls Tryd.prog 32 #[] w fun e w' => e = .returned (.pointer (some ⟨w.heap.size, 0, none⟩)) ∧ IsH w' w.heap.size [] ∧ Below w.heap.size w w' := by
  obtain ⟨a, b, c, d, e, f, g, z, hfw⟩ := list8 (show fw.length = 8 from rfl)
  have q0 := hf 0 (by omega)
  have q1 := hf 1 (by omega)
  have q2 := hf 2 (by omega)
  have q3 := hf 3 (by omega)
  have q4 := hf 4 (by omega)
  have q5 := hf 5 (by omega)
  have q6 := hf 6 (by omega)
  have q7 := hf 7 (by omega)
  rw [hfw] at q0 q1 q2 q3 q4 q5 q6 q7
  simp only [List.getD_cons_zero, List.getD_cons_succ] at q0 q1 q2 q3 q4 q5 q6 q7
  have HB := Lib.hid (new_built a b c d e f g z)
  have HFW := Lib.hid hfw
  clear hfw hf
  go_enter Tryd.func32, Tryd.ntmps32
  go_wp2_with (refine wpList_build rfl 96 #[(0, .tmp 1)] rfl (by as_aux_lemma => kernel_rfl) ?_)
  go_ret
  refine ⟨rfl, ⟨List.replicate 64 0, by simp, by simp, ?_⟩, (Below.refl _ _).alloc (Nat.le_refl _) _⟩
  rw [heap_alloc_new]
  have hc : chain [] ([] : List UInt8).length = [a, b, c, d, e, f, g, z] := HFW.out
  have e0 : ([] : List UInt8).length / 64 = ([] : List UInt8).length := rfl
  have e1 : ([] : List UInt8).length % 64 = 0 := rfl
  rw [e0, e1, hc]
  simp only [List.length_nil]
  rw [HB.out]
  rfl

/-- The bytes p, at v, in a block that is there; parts likewise. -/
def Pb (w : World) (v : Value) (p : List UInt8) : Prop :=
  ∃ A c, v = .slice A p.length c ∧ p.length ≤ c ∧ (0 < p.length → ∃ b o, A = some ⟨b, o, none⟩ ∧ b < w.heap.size ∧ ∀ j u, (bv p)[j]? = some u → w.cell? ⟨b, o + j, none⟩ = some u)
def Pbs (w : World) (v : Value) (ps : List (List UInt8)) : Prop :=
  ∃ A c, v = .slice A ps.length c ∧ ps.length ≤ c ∧ (0 < ps.length → ∃ b o, A = some ⟨b, o, none⟩ ∧ b < w.heap.size ∧ ∀ j (hj : j < ps.length), ∃ u, w.cell? ⟨b, o + j, none⟩ = some u ∧ Pb w u ps[j])
theorem Pb.px {w W : World} {H : Nat} {v : Value} {p : List UInt8} (h : Pb w v p) (hb : Below w.heap.size w W) (hH : w.heap.size ≤ H) : Px W H v p := by
  obtain ⟨A, c, e, hc, hr⟩ := h
  refine ⟨A, c, e, hc, fun hp => ?_⟩
  obtain ⟨b, o, ha, hl, hcell⟩ := hr hp
  exact ⟨b, o, ha, by omega, Nat.lt_of_lt_of_le hl hb.size, fun j u hu => (hb.cell (p := ⟨b, o + j, none⟩) hl).trans (hcell j u hu)⟩
theorem Pb.below {w W : World} {v : Value} {p : List UInt8} (h : Pb w v p) (hb : Below w.heap.size w W) : Pb W v p := by
  obtain ⟨A, c, e, hc, hr⟩ := h
  refine ⟨A, c, e, hc, fun hp => ?_⟩
  obtain ⟨b, o, ha, hl, hcell⟩ := hr hp
  exact ⟨b, o, ha, Nat.lt_of_lt_of_le hl hb.size, fun j u hu => (hb.cell (p := ⟨b, o + j, none⟩) hl).trans (hcell j u hu)⟩
theorem Pbs.ps {w W : World} {H : Nat} {v : Value} {ps : List (List UInt8)} (h : Pbs w v ps) (hb : Below w.heap.size w W) (hH : w.heap.size ≤ H) : Ps W H v ps := by
  obtain ⟨A, c, e, hc, hr⟩ := h
  refine ⟨A, c, e, hc, fun hp => ?_⟩
  obtain ⟨b, o, ha, hl, hcell⟩ := hr hp
  refine ⟨b, o, ha, by omega, Nat.lt_of_lt_of_le hl hb.size, fun j hj => ?_⟩
  obtain ⟨u, h1, h2⟩ := hcell j hj
  exact ⟨u, (hb.cell (p := ⟨b, o + j, none⟩) hl).trans h1, h2.px hb hH⟩
theorem Pbs.below {w W : World} {v : Value} {ps : List (List UInt8)} (h : Pbs w v ps) (hb : Below w.heap.size w W) : Pbs W v ps := by
  obtain ⟨A, c, e, hc, hr⟩ := h
  refine ⟨A, c, e, hc, fun hp => ?_⟩
  obtain ⟨b, o, ha, hl, hcell⟩ := hr hp
  refine ⟨b, o, ha, Nat.lt_of_lt_of_le hl hb.size, fun j hj => ?_⟩
  obtain ⟨u, h1, h2⟩ := hcell j hj
  exact ⟨u, (hb.cell (p := ⟨b, o + j, none⟩) hl).trans h1, h2.below hb⟩
/-- One part alone, in a block of its own. -/
theorem pbs_one {w : World} {v : Value} {p : List UInt8} (h : Pb w v p) (t : TypeId) : Pbs (w.alloc (.cells #[v] t)) (.slice (some ⟨w.heap.size, 0, none⟩) 1 1) [p] :=
  ⟨_, 1, rfl, by simp, fun _ => ⟨w.heap.size, 0, rfl, by simp, fun j hj => by
    obtain rfl : j = 0 := by simpa using hj
    exact ⟨v, by rw [cell_of_row _ _ _ _ _ _ (heap_alloc_new w _)]; rfl, h.below ((Below.refl _ _).alloc (Nat.le_refl _) _)⟩⟩⟩

theorem below_grown {H : Nat} {a w w' : World} (hb : Below a.heap.size a w) (hg : w.grownBy w' (some H)) (hH : a.heap.size ≤ H) : Below a.heap.size a w' :=
  hb.trans ⟨hg.os, hg.tape, hg.output, hg.size, fun k hk => hg.block k (Nat.lt_of_lt_of_le hk hb.size) (fun e => by injection e with e; omega)⟩

set_option maxHeartbeats 1000000 in
set_option maxRecDepth 4000 in
/-- The sum of parts, one behind the other. -/
theorem sum_any (v : Value) (ps : List (List UInt8)) (w : World) (hp : Pbs w v ps) (hk : Kt w) (hf : Ft w) (h1 : 1 < w.heap.size) (hlen : ps.flatten.length ≤ 900000) (hpl : ps.length ≤ 9223372036854775807) :
    Calls Tryd.prog 24 #[v] w (SumPost w (sumP ps.flatten)) := by
  obtain ⟨A, c, rfl, _, _⟩ := id hp
  obtain ⟨S, hS⟩ : ∃ S, S = sumP ps.flatten := ⟨_, rfl⟩
  rw [← hS]
  have hSl : S.length = 32 := by rw [hS, sumP_length]
  have hb1 := (Below.refl w.heap.size w).alloc (Nat.le_refl _) (.cells z32 57)
  have hr1 := heap_alloc_new w (.cells z32 57)
  have hn := new_any (w.alloc (.cells z32 57)) (hf.below hb1 h1)
  have I30 := Lib.hid (show (Tryd.prog.info? 57).map (·.size) = some ((bv S).toArray.size) by
    rw [Tryd.size57]
    simp [bv, hSl])
  have S30 := Lib.hid (show z32.size = (bv S).toArray.size by
    simp only [bv, List.size_toArray, List.length_map, hSl]
    rfl)
  have HS := Lib.hid hS
  have HN := Lib.hid hn
  have HP := Lib.hid hp
  have HK := Lib.hid hk
  have HF := Lib.hid hf
  have HB1 := Lib.hid hb1
  have HR1 := Lib.hid hr1
  clear hS hSl hn hp hk hf hb1 hr1
  go_enter Tryd.func24, Tryd.ntmps24
  go_upto_region 1 with (fail)
  rw [z32_lit]
  obtain ⟨w1, hw1⟩ : ∃ w1, w1 = w.alloc (.cells z32 57) := ⟨_, rfl⟩
  have hn := HN.out
  have hb1 := HB1.out
  have hr1 := HR1.out
  rw [← hw1] at hn hb1 hr1 ⊢
  have hz1 : w.heap.size < w1.heap.size := lt_of_block' hr1
  have HN1 := Lib.hid hn
  have HR := Lib.hid hr1
  clear HN HB1 HR1 hn hr1 hw1
  go_wp2_with fail
  refine HN1.out.mono ?_
  rintro e w2 ⟨rfl, hi2, hb2⟩
  have hb12 := hb1.trans (hb2.mono hb1.size)
  have hw := write_any w1.heap.size [] _ ps w2 hi2 (HP.out.ps hb12 (by omega)) (HK.out.below hb12 (by omega)) (by omega) (by simpa using hlen) hpl
  rw [List.nil_append] at hw
  have hr2 := (hb2.block w.heap.size hz1).trans HR.out
  have HW := Lib.hid hw
  have HR2 := Lib.hid hr2
  clear hw hr2 hi2 hb2 hb1
  go_wp2_with fail
  refine HW.out.mono ?_
  rintro e w3 ⟨rfl, hi3, hg3⟩
  have hb13 := below_grown hb12 hg3 (by omega)
  have hs := msum_any w1.heap.size _ w3 hi3 (HK.out.below hb13 (by omega)) (by omega) hlen
  rw [← HS.out] at hs
  have hr3 := (hg3.block w.heap.size (lt_of_block' HR2.out) (fun e => by injection e with e; omega)).trans HR2.out
  have HSS := Lib.hid hs
  have HR3 := Lib.hid hr3
  clear hs hr3 hi3 hg3 hb12
  go_wp2_with fail
  refine HSS.out.mono ?_
  intro e w4 hp4
  obtain ⟨rfl, hb4⟩ := hp4
  have hb14 := hb13.trans (hb4.mono hb13.size)
  have hr4 := (hb4.block w.heap.size (lt_of_block' HR3.out)).trans HR3.out
  have HR4 := Lib.hid hr4
  clear hr4 hb4 hb13
  go_wp2_with (refine wpList_store_row rfl 57 (.tmp 2) (.tmp 9) rfl w.heap.size _ rfl rfl 57 _ HR4.out I30.out S30.out (bv_one _) ?_)
  refine bodyPost_ret (v := .agg (bv S).toArray) ?_ rfl ⟨rfl, below_setRow hb14 (Nat.le_refl _) _⟩
  exact results_cell_row Tryd.results24 _ _ w.heap.size 57 _ (0, 0) _ rfl (setRow_heap w4 _ _ _ _ _ HR4.out) Tryd.underlying57 rfl I30.out
end Go.Proofs.YtaefgieodehceaaDoor.Sha
