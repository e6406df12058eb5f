/- Pass: without a key; PassNil's walk. -/
import Derived.Test.YtaefgieodehceaaDoorR3
namespace Go.Proofs.YtaefgieodehceaaDoor
open Go.RowKit Go.ChangeShapes
set_option maxRecDepth 20000

theorem fit_none (t l : List UInt8) : fitO none t l = false := rfl
theorem nil_tick (p : Nat) (e : Int) (n : Nat) : openT none (sealT none p e n) = (8, 0, 0, 0) := by
  unfold openT
  rw [if_pos ⟨sealT_len _ _ _ _, by simp [sealT, tickB]⟩, fit_none, if_neg (by simp)]
theorem nil_tok (p m i s : Nat) (e : Int) (n : Nat) : openK none (sealK none p m i s e n) = (8, 0, 0, 0, 0, 0, 0) := by
  unfold openK
  rw [if_pos ⟨sealK_len _ _ _ _ _ _ _, by simp [sealK, tokB]⟩, fit_none, if_neg (by simp)]
theorem nil_any (l : List UInt8) : ∃ er, openT none l = (er, 0, 0, 0) ∧ er ≠ 0 := by
  unfold openT
  split
  · rw [fit_none, if_neg (by simp)]
    exact ⟨8, rfl, by decide⟩
  · exact ⟨7, rfl, by decide⟩
theorem text_front (q : ByteArray) (l t : List UInt8) (n : Nat) (hq : q.data.toList = l ++ t) (hl : l.length = n) : ∃ u : ByteArray, u = ⟨l.toArray⟩ ∧ ∀ W, (Instr.slice 9 (.string q) none (some (.int .i64 (n : Int))) none).run Tryd.prog W = .ok (.string u) W := by
  refine ⟨_, rfl, fun W => ?_⟩
  have hs : n ≤ q.size := by
    have := congrArg List.length hq
    simp at this
    omega
  rw [run_slice_string_h W 9 q Tryd.underlying9 .i64 n (by omega) (by omega)]
  congr 2
  apply ByteArray.ext
  apply Array.toList_inj.1
  rw [Int.toNat_natCast, ext_front, hq, List.take_left' hl]
theorem text_back (q : ByteArray) (l t : List UInt8) (n : Nat) (hq : q.data.toList = l ++ t) (hl : l.length = n) : ∀ W, (Instr.slice 9 (.string q) (some (.int .i64 (n : Int))) none none).run Tryd.prog W = .ok (.string ⟨t.toArray⟩) W := fun W => by
  have hs : n ≤ q.size := by
    have := congrArg List.length hq
    simp at this
    omega
  rw [run_slice_string_l W 9 q Tryd.underlying9 .i64 n (by omega) (by omega)]
  congr 2
  apply ByteArray.ext
  apply Array.toList_inj.1
  rw [Int.toNat_natCast, ext_back, hq, List.drop_left' hl]

set_option maxHeartbeats 10000000 in
theorem pnil_walk (a : Nat) (b : Int) (d : Nat) (p m i s : Nat) (e : Int) (n : Nat) (x : ByteArray) (w : World) (hs : Sh w) (ht : BdT a b d) (ho : BdK p m i s e n) (_hx : x.size ≤ 9223372036854775807) :
    Calls Tryd.prog 9 #[tickV a b d, tokV p m i s e n, .string x] w fun r w' => r = .returned (.bool true) ∧ Below w.heap.size w w' := by
  obtain ⟨w0, hw0⟩ : ∃ w0, w0 = (w.alloc (.cells #[.int .u32 (a : Int), .int .i64 b, .int .u64 (d : Int)] 26)).alloc (.cells #[.int .u32 (p : Int), .int .u32 (m : Int), .int .u16 (i : Int), .int .u8 (s : Int), .int .i64 e, .int .u64 (n : Int)] 29) := ⟨_, rfl⟩
  have hb0 : Below w.heap.size w w0 := by rw [hw0]; exact ((Below.refl _ _).alloc (Nat.le_refl _) _).alloc (by simp) _
  have hp1 : w0.heap[w.heap.size]? = some (.cells #[.int .u32 (a : Int), .int .i64 b, .int .u64 (d : Int)] 26 (0, 0)) := by
    rw [hw0]; exact (Below.heap_alloc _ _ _ (by simp)).trans (heap_alloc_new w _)
  have hp2 : w0.heap[w.heap.size + 1]? = some (.cells #[.int .u32 (p : Int), .int .u32 (m : Int), .int .u16 (i : Int), .int .u8 (s : Int), .int .i64 e, .int .u64 (n : Int)] 29 (0, 0)) := by
    have := heap_alloc_new (w.alloc (.cells #[.int .u32 (a : Int), .int .i64 b, .int .u64 (d : Int)] 26)) (.cells #[.int .u32 (p : Int), .int .u32 (m : Int), .int .u16 (i : Int), .int .u8 (s : Int), .int .i64 e, .int .u64 (n : Int)] 29)
    rw [hw0]
    rwa [World.size_alloc] at this
  have H0 := Lib.hid hw0
  have HB0 := Lib.hid hb0
  have HP1 := Lib.hid hp1
  have HP2 := Lib.hid hp2
  have HS := Lib.hid hs
  by_cases hlong : 300 < x.size
  · have t : decide ((x.size : Int) > 300) = true := by rw [decide_eq_true_iff]; omega
    clear hw0 hb0 hp1 hp2 hs
    go_enter Tryd.func9, Tryd.ntmps9
    go_upto_region 1 with (fail)
    rw [← H0.out]
    go_wp2
    go_ret
    exact ⟨rfl, HB0.out⟩
  have t : decide ((x.size : Int) > 300) = false := by rw [decide_eq_false_iff_not]; omega
  obtain ⟨q1, hq1⟩ : ∃ q : ByteArray, q = ⟨(sealT none a b d).toArray⟩ := ⟨_, rfl⟩
  obtain ⟨q2, hq2⟩ : ∃ q : ByteArray, q = ⟨(sealK none p m i s e n).toArray⟩ := ⟨_, rfl⟩
  obtain ⟨q3, hq3⟩ : ∃ q : ByteArray, q = ⟨(sealT (some (Sha.blockP [])) a b d).toArray⟩ := ⟨_, rfl⟩
  have l1 : q1.data.toList = sealT none a b d := by rw [hq1]
  have l2 : q2.data.toList = sealK none p m i s e n := by rw [hq2]
  have l3 : q3.data.toList = sealT (some (Sha.blockP [])) a b d := by rw [hq3]
  have z1 : (q1.size : Int) = 53 := by rw [hq1, text_size, sealT_len]; rfl
  have z2 : (q2.size : Int) = 60 := by rw [hq2, text_size, sealK_len]; rfl
  obtain ⟨u, hu, f1⟩ := text_front q1 _ _ 21 l1 (tickB_len a b d)
  obtain ⟨u', hu', f3⟩ := text_front q3 _ _ 21 l3 (tickB_len a b d)
  obtain rfl : u = u' := hu.trans hu'.symm
  obtain ⟨nz, hnz⟩ : ∃ nz : ByteArray, nz = ⟨(List.replicate 32 (0 : UInt8)).toArray⟩ := ⟨_, rfl⟩
  have b1 := text_back q1 _ _ 21 l1 (tickB_len a b d)
  have b2 := text_back q2 _ _ 28 l2 (tokB_len p m i s e n)
  have hF1 : ∀ W, (Instr.slice 9 (.string q1) none (some (.int .i64 21)) none).run Tryd.prog W = .ok (.string u) W := f1
  have hF3 : ∀ W, (Instr.slice 9 (.string q3) none (some (.int .i64 21)) none).run Tryd.prog W = .ok (.string u) W := f3
  have hB1 : ∀ W, (Instr.slice 9 (.string q1) (some (.int .i64 21)) none none).run Tryd.prog W = .ok (.string nz) W := fun W => by rw [hnz]; exact b1 W
  have hB2 : ∀ W, (Instr.slice 9 (.string q2) (some (.int .i64 28)) none none).run Tryd.prog W = .ok (.string nz) W := fun W => by rw [hnz]; exact b2 W
  have e1 : (u.toList == u.toList) = true := beq_self_eq_true _
  have e2 : (nz.toList == nz.toList) = true := beq_self_eq_true _
  obtain ⟨er, her, her0⟩ := nil_any x.data.toList
  have hn1 : ((er : Int) != 0) = true := by simp; omega
  have hn2 : ((er : Int) == 0) = false := by simp; omega
  have HT1 : Hid (∀ W, Sh W → Calls Tryd.prog 12 #[tickV a b d, .pointer none] W fun r w' => r = .returned (.string q1) ∧ Below W.heap.size W w') := fun W hS => by
    rw [hq1]
    exact tseal_any none _ a b d W rfl hS ht.1 ht.2.2
  have HT2 : Hid (∀ W, Sh W → Calls Tryd.prog 15 #[tokV p m i s e n, .pointer none] W fun r w' => r = .returned (.string q2) ∧ Below W.heap.size W w') := fun W hS => by
    rw [hq2]
    exact kseal_any none _ p m i s e n W rfl hS ho.1 ho.2.1 ho.2.2.1 ho.2.2.2.1 ho.2.2.2.2.2
  have HT3 : Hid (∀ W, Calls Tryd.prog 13 #[.slice none 0 0, tickV a b d] W fun r w' => r = .returned (.string q3) ∧ Below W.heap.size W w') := fun W => by
    rw [hq3]
    exact rtseal_any _ [] a b d W (Bs.nil _ _) (by simp) ht.1 ht.2.2
  have HO1 : Hid (∀ W, Sh W → Calls Tryd.prog 18 #[.pointer none, .string q1] W fun r w' => r = .returned (.tuple #[.agg #[.int .u32 0, .int .i64 0, .int .u64 0], .int .i64 8]) ∧ Below W.heap.size W w') := fun W hS => by
    have := opent_any none (.pointer none) q1 W rfl hS
    rw [l1, nil_tick] at this
    exact this
  have HO2 : Hid (∀ W, Sh W → Calls Tryd.prog 20 #[.pointer none, .string q2] W fun r w' => r = .returned (.tuple #[.agg #[.int .u32 0, .int .u32 0, .int .u16 0, .int .u8 0, .int .i64 0, .int .u64 0], .int .i64 8]) ∧ Below W.heap.size W w') := fun W hS => by
    have := openk_any none (.pointer none) q2 W rfl hS
    rw [l2, nil_tok] at this
    exact this
  have HO3 : Hid (∀ W, Sh W → Calls Tryd.prog 18 #[.pointer none, .string x] W fun r w' => r = .returned (.tuple #[.agg #[.int .u32 0, .int .i64 0, .int .u64 0], .int .i64 (er : Int)]) ∧ Below W.heap.size W w') := fun W hS => by
    have := opent_any none (.pointer none) x W rfl hS
    rw [her] at this
    exact this
  obtain ⟨C, hC⟩ : ∃ C, C = madeCells #[Value.int .u8 0] 32 := ⟨_, rfl⟩
  have hmk : ∀ W : World, (Instr.makeSlice 22 (.int .i64 32) (.int .i64 32)).run Tryd.prog W = .ok (.slice (some ⟨W.heap.size, 0, none⟩) 32 32) (W.alloc (.cells C 5)) := fun W => by
    rw [hC]
    exact run_make_row' (P := Tryd.prog) 22 5 (.int .u8 0) 1 Tryd.underlying22 Tryd.info5 rfl .i64 .i64 32 (by omega) (by omega) W
  have HMC := Lib.hid hC
  have HBOX : Hid (∀ W, Below w0.heap.size w0 W → W.heap[w.heap.size]? = some (.cells #[.int .u32 (a : Int), .int .i64 b, .int .u64 (d : Int)] 26 (0, 0)) ∧ W.heap[w.heap.size + 1]? = some (.cells #[.int .u32 (p : Int), .int .u32 (m : Int), .int .u16 (i : Int), .int .u8 (s : Int), .int .i64 e, .int .u64 (n : Int)] 29 (0, 0))) := fun W hW => ⟨(hW.block _ (lt_of_block HP1.out)).trans HP1.out, (hW.block _ (lt_of_block HP2.out)).trans HP2.out⟩
  have HSW : Hid (∀ W, Below w0.heap.size w0 W → Sh W ∧ Below w.heap.size w W) := fun W hW => ⟨(HS.out.below HB0.out).below hW, HB0.out.trans (hW.mono HB0.out.size)⟩
  have HNZ := Lib.hid hnz
  clear hw0 hb0 hp1 hp2 hs hq1 hq2 hq3 l1 l2 l3 hu hu' f1 f3 b1 b2 ht ho her her0 hnz hC
  go_enter Tryd.func9, Tryd.ntmps9
  go_upto_region 1 with (fail)
  rw [← H0.out]
  go_upto_region 4 with (fail)
  go_cut [8, 9] (fun x y wx => x = .string q1 ∧ y = .string q2 ∧ Hid (Below w0.heap.size w0 wx))
  case first =>
    have HD : Hid (Below w0.heap.size w0 w0.drew) := (Below.refl _ _).drew
    have HC : Hid (∀ W, Below w0.heap.size w0 W → W.cell? ⟨w.heap.size, 0, none⟩ = some (.int .u32 (a : Int)) ∧ W.cell? ⟨w.heap.size, 1, none⟩ = some (.int .i64 b) ∧ W.cell? ⟨w.heap.size, 2, none⟩ = some (.int .u64 (d : Int)) ∧ W.cell? ⟨w.heap.size + 1, 0, none⟩ = some (.int .u32 (p : Int)) ∧ W.cell? ⟨w.heap.size + 1, 1, none⟩ = some (.int .u32 (m : Int)) ∧ W.cell? ⟨w.heap.size + 1, 2, none⟩ = some (.int .u16 (i : Int)) ∧ W.cell? ⟨w.heap.size + 1, 3, none⟩ = some (.int .u8 (s : Int)) ∧ W.cell? ⟨w.heap.size + 1, 4, none⟩ = some (.int .i64 e) ∧ W.cell? ⟨w.heap.size + 1, 5, none⟩ = some (.int .u64 (n : Int))) := fun W hW => by
      obtain ⟨e1, e2⟩ := HBOX.out W hW
      exact ⟨cell_of_row W _ 0 _ _ _ e1, cell_of_row W _ 1 _ _ _ e1, cell_of_row W _ 2 _ _ _ e1, cell_of_row W _ 0 _ _ _ e2, cell_of_row W _ 1 _ _ _ e2, cell_of_row W _ 2 _ _ _ e2, cell_of_row W _ 3 _ _ _ e2, cell_of_row W _ 4 _ _ _ e2, cell_of_row W _ 5 _ _ _ e2⟩
    go_region_held3 (fun W => W.cell? ⟨w.heap.size, 0, none⟩ = some (.int .u32 (a : Int)) ∧ W.cell? ⟨w.heap.size, 1, none⟩ = some (.int .i64 b) ∧ W.cell? ⟨w.heap.size, 2, none⟩ = some (.int .u64 (d : Int)) ∧ W.cell? ⟨w.heap.size + 1, 0, none⟩ = some (.int .u32 (p : Int)) ∧ W.cell? ⟨w.heap.size + 1, 1, none⟩ = some (.int .u32 (m : Int)) ∧ W.cell? ⟨w.heap.size + 1, 2, none⟩ = some (.int .u16 (i : Int)) ∧ W.cell? ⟨w.heap.size + 1, 3, none⟩ = some (.int .u8 (s : Int)) ∧ W.cell? ⟨w.heap.size + 1, 4, none⟩ = some (.int .i64 e) ∧ W.cell? ⟨w.heap.size + 1, 5, none⟩ = some (.int .u64 (n : Int)))
      (first | exact HC.out _ hc4 | exact HC.out _ hc3 | exact HC.out _ hc2 | exact HC.out _ hc1 | exact HC.out _ HD.out | go_keep)
      (first
        | (go_at_call 11; refine (ticket_any a b d w0.drew).mono ?_; rintro x wA ⟨rfl, hbA⟩; have hc1 := HD.out.trans hbA)
        | (go_at_call 12; refine (HT1.out wA (HSW.out wA hc1).1).mono ?_; rintro x wB ⟨rfl, hbB⟩; have hc2 := hc1.trans (hbB.mono hc1.size))
        | (go_at_call 14; refine (token_any p m i s e n wB).mono ?_; rintro x wC ⟨rfl, hbC⟩; have hc3 := hc2.trans (hbC.mono hc2.size))
        | (go_at_call 15; refine (HT2.out wC (HSW.out wC hc3).1).mono ?_; rintro x wD ⟨rfl, hbD⟩; have hc4 := hc3.trans (hbD.mono hc3.size))
        | fail)
    try go_wp2_with fail
    go_meet
    exact ⟨rfl, rfl, hc4⟩
  case rest =>
    obtain ⟨rfl, rfl, HD⟩ := hcut
    rename World => w5
    obtain ⟨w6, hw6⟩ : ∃ w6, w6 = w5.alloc (.cells C 5) := ⟨_, rfl⟩
    have HD6 : Hid (Below w0.heap.size w0 w6) := by rw [hw6]; exact HD.out.alloc HD.out.size _
    have hq6 : w6.heap[w5.heap.size]? = some (.cells (putRow 32 0 32) 5 (0, 0)) := by rw [hw6, ← putRow_start, ← HMC.out]; exact heap_alloc_new w5 _
    have hcv := conv_rd (w := w6) (l := List.replicate 32 (0 : UInt8)) (rd_block' hq6 (by unfold putRow; rw [List.drop_of_length_le (by rw [be_length]; omega), List.append_nil]) (lt_of_block hq6)) 32
    rw [List.length_replicate, ← HNZ.out] at hcv
    have H6 := Lib.hid hw6
    rw [hw6] at hcv
    clear hw6 hq6
    go_upto_region 8 with (fail)
    rw [← H6.out]
    clear hcv hmk
    go_wp2_with fail
    refine (HO1.out w6 (HSW.out w6 HD6.out).1).mono ?_
    rintro x w7 ⟨rfl, hb7⟩
    obtain ⟨w8, hw8⟩ : ∃ w8, w8 = w7.alloc (.cells #[.int .u32 0, .int .i64 0, .int .u64 0] 35) := ⟨_, rfl⟩
    have hx7 : Below w7.heap.size w7 w8 := by rw [hw8]; exact (Below.refl _ _).alloc (Nat.le_refl _) _
    have HD8 := Lib.hid (HD6.out.trans ((hb7.trans (hx7.mono hb7.size)).mono HD6.out.size))
    have HQ7 : Hid (w8.heap[w7.heap.size]? = some (.cells #[.int .u32 0, .int .i64 0, .int .u64 0] 35 (0, 0))) := by rw [hw8]; exact heap_alloc_new w7 _
    have H8 := Lib.hid hw8
    clear hw8 hb7 hx7
    go_upto_region 9 with (fail)
    rw [← H8.out]
    go_wp2_with fail
    refine (HO2.out w8 (HSW.out w8 HD8.out).1).mono ?_
    rintro x w9 ⟨rfl, hb9⟩
    obtain ⟨w10, hw10⟩ : ∃ w10, w10 = w9.alloc (.cells #[.int .u32 0, .int .u32 0, .int .u16 0, .int .u8 0, .int .i64 0, .int .u64 0] 40) := ⟨_, rfl⟩
    have hx9 : Below w9.heap.size w9 w10 := by rw [hw10]; exact (Below.refl _ _).alloc (Nat.le_refl _) _
    have HD10 := Lib.hid (HD8.out.trans ((hb9.trans (hx9.mono hb9.size)).mono HD8.out.size))
    have HQ9 : Hid (w10.heap[w9.heap.size]? = some (.cells #[.int .u32 0, .int .u32 0, .int .u16 0, .int .u8 0, .int .i64 0, .int .u64 0] 40 (0, 0))) := by rw [hw10]; exact heap_alloc_new w9 _
    have H10 := Lib.hid hw10
    clear hw10 hb9 hx9
    go_upto_region 10 with (fail)
    rw [← H10.out]
    go_wp2_with fail
    refine (HO3.out w10 (HSW.out w10 HD10.out).1).mono ?_
    rintro x w11 ⟨rfl, hb11⟩
    obtain ⟨w12, hw12⟩ : ∃ w12, w12 = w11.alloc (.cells #[.int .u32 0, .int .i64 0, .int .u64 0] 35) := ⟨_, rfl⟩
    have hx11 : Below w11.heap.size w11 w12 := by rw [hw12]; exact (Below.refl _ _).alloc (Nat.le_refl _) _
    have HD12 := Lib.hid (HD10.out.trans ((hb11.trans (hx11.mono hb11.size)).mono HD10.out.size))
    have HQ11 : Hid (w12.heap[w11.heap.size]? = some (.cells #[.int .u32 0, .int .i64 0, .int .u64 0] 35 (0, 0))) := by rw [hw12]; exact heap_alloc_new w11 _
    have H12 := Lib.hid hw12
    clear hw12 hb11 hx11
    go_upto_region 11 with (fail)
    rw [← H12.out]
    obtain ⟨g3, hg3⟩ : ∃ g3, g3 = w11.heap.size := ⟨_, rfl⟩
    rw [← hg3] at HQ11 ⊢
    have HC : Hid (∀ W, Below w12.heap.size w12 W → W.cell? ⟨w.heap.size, 0, none⟩ = some (.int .u32 (a : Int)) ∧ W.cell? ⟨w.heap.size, 1, none⟩ = some (.int .i64 b) ∧ W.cell? ⟨w.heap.size, 2, none⟩ = some (.int .u64 (d : Int)) ∧ W.cell? ⟨g3, 0, none⟩ = some (.int .u32 0) ∧ W.cell? ⟨g3, 1, none⟩ = some (.int .i64 0) ∧ W.cell? ⟨g3, 2, none⟩ = some (.int .u64 0)) := fun W hW => by
      obtain ⟨e1, _⟩ := HBOX.out W (HD12.out.trans (hW.mono HD12.out.size))
      have e2 := (hW.block g3 (lt_of_block HQ11.out)).trans HQ11.out
      exact ⟨cell_of_row W _ 0 _ _ _ e1, cell_of_row W _ 1 _ _ _ e1, cell_of_row W _ 2 _ _ _ e1, cell_of_row W _ 0 _ _ _ e2, cell_of_row W _ 1 _ _ _ e2, cell_of_row W _ 2 _ _ _ e2⟩
    have HE : Hid (Below w12.heap.size w12 w12.drew) := (Below.refl _ _).drew
    clear hg3
    go_region_held3 (fun W => W.cell? ⟨w.heap.size, 0, none⟩ = some (.int .u32 (a : Int)) ∧ W.cell? ⟨w.heap.size, 1, none⟩ = some (.int .i64 b) ∧ W.cell? ⟨w.heap.size, 2, none⟩ = some (.int .u64 (d : Int)) ∧ W.cell? ⟨g3, 0, none⟩ = some (.int .u32 0) ∧ W.cell? ⟨g3, 1, none⟩ = some (.int .i64 0) ∧ W.cell? ⟨g3, 2, none⟩ = some (.int .u64 0))
      (first | exact HC.out _ hc2 | exact HC.out _ hc1 | exact HC.out _ HE.out | go_keep)
      (first
        | (go_at_call 13; refine (HT3.out w12.drew).mono ?_; rintro x wA ⟨rfl, hbA⟩; have hc1 := HE.out.trans hbA)
        | (go_at_call 17; refine (pawake wA (HSW.out wA (HD12.out.trans (hc1.mono HD12.out.size))).1).mono ?_; rintro x wB ⟨rfl, hbB⟩; have hc2 := hc1.trans (hbB.mono hc1.size))
        | fail)
    go_wp2
    go_ret
    exact ⟨rfl, (HSW.out _ (HD12.out.trans (hc2.mono HD12.out.size))).2⟩
end Go.Proofs.YtaefgieodehceaaDoor
