/- Pass: the document's own OpenTicket and OpenToken, awake; tickets and tokens that came in; PassSeals' walk. -/
import Derived.Test.YtaefgieodehceaaDoorR2
import Derived.Lib.SlBytesConst
import Derived.Test.YtaefgieodehceaaDoorSC
import Derived.Lib.SmallJoins
import Derived.Deep.RegionHeld3

/- Pass: the document's own OpenTicket. -/
namespace Go.Proofs.YtaefgieodehceaaDoor
open Go.RowKit
set_option maxRecDepth 20000

theorem slice_mid (g n c i j : Nat) (hij : i ≤ j) (hj : j ≤ c) (hi : i < c) (W : World) :
    (Instr.slice 22 (.slice (some ⟨g, 0, none⟩) n c) (some (.int .i64 (i : Int))) (some (.int .i64 (j : Int))) none).run Tryd.prog W = .ok (.slice (some ⟨g, i, none⟩) (j - i) (c - i)) W := by
  obtain ⟨i0, hi0, _, hz1, _⟩ := info_parts Tryd.info5
  have h1 : (i : Int) ≤ (j : Int) := by omega
  have h2 : (j : Int) ≤ (c : Int) := by omega
  have h3 : ¬ c = i := by omega
  simp [Instr.slice, Sem.run_bind, run_underlying Tryd.underlying22, Instr.sliceBounds, run_sliceBound, sizeOf, typeInfo, hi0, hz1, h1, h2, h3, add_plain]

/-- Bytes in a block: a part of them. -/
theorem bs_mid {W : World} {g c n i k : Nat} {l : List UInt8} (h : ∀ (j : Nat) (u : Value), (bv l)[j]? = some u → W.cell? ⟨g, j, none⟩ = some u) (hg : g < W.heap.size) (hl : l.length = n) (hik : i + k ≤ n) (hc : n ≤ c) :
    Bs W W.heap.size (.slice (some ⟨g, i, none⟩) k (c - i)) ((l.drop i).take k) := by
  have hlen : ((l.drop i).take k).length = k := by simp; omega
  refine ⟨_, c - i, by rw [hlen], by rw [hlen]; omega, fun _ => ⟨g, i, rfl, hg, fun j u hu => h (i + j) u ?_⟩⟩
  have hjk : j < k := by
    have := (List.getElem?_eq_some_iff.1 hu).1
    simp [bv] at this
    omega
  unfold bv at hu ⊢
  rw [List.getElem?_map] at hu ⊢
  rwa [List.getElem?_take, if_pos hjk, List.getElem?_drop] at hu

theorem seal_fit {bk l : List UInt8} (h0 : l[0]? = some 116) (hl : 21 ≤ l.length) :
    sealT (some bk) (numAt l 1 4) (in64 (numAt l 5 8)) (numAt l 13 8) = l ↔ fitO (some bk) (l.drop 21) (l.take 21) = true := by
  have e : fitO (some bk) (l.drop 21) (l.take 21) = true ↔ l.drop 21 = tagO (some bk) (l.take 21) := by
    rw [fitO, Option.isSome_some, Bool.true_and, decide_eq_true_iff]
  unfold sealT
  rw [← tick_take l h0 hl, e]
  constructor
  · intro h
    have := congrArg (List.drop 21) h
    rw [List.drop_left' (by simp; omega)] at this
    exact this.symm
  · intro h
    rw [← h, List.take_append_drop]

set_option maxHeartbeats 4000000 in
theorem ropent_any (v : Value) (key : List UInt8) (s : ByteArray) (w : World) (hv : Bs w w.heap.size v key) (hkl : key.length ≤ 900000) :
    Calls Tryd.prog 19 #[v, .string s] w (TPost w (openT (some (Sha.blockP key)) s.data.toList)) := by
  obtain ⟨w0, hw0⟩ : ∃ w0, w0 = w.alloc (.cells #[.int .u32 0, .int .i64 0, .int .u64 0] 26) := ⟨_, rfl⟩
  have hb0 : Below w.heap.size w w0 := by rw [hw0]; exact (Below.refl _ _).alloc (Nat.le_refl _) _
  have hp0 : w0.heap[w.heap.size]? = some (.cells #[.int .u32 0, .int .i64 0, .int .u64 0] 26 (0, 0)) := by rw [hw0]; exact heap_alloc_new w _
  have f0 : ∀ i, w0.frozen? ⟨w.heap.size, i, none⟩ = false := fun i => frozen_of_row w0 _ i _ _ hp0
  have g0 := cell_of_row w0 w.heap.size 0 _ _ _ hp0
  have g1 := cell_of_row w0 w.heap.size 1 _ _ _ hp0
  have g2 := cell_of_row w0 w.heap.size 2 _ _ _ hp0
  simp at g0 g1 g2
  have H0 := Lib.hid hw0
  have HB0 := Lib.hid hb0
  have HP0 := Lib.hid hp0
  clear hw0 hb0 hp0
  by_cases hok : s.data.toList.length = 53 ∧ s.data.toList[0]? = some 116
  · have hz : s.size = 53 := by simpa using hok.1
    have t1 : ((s.size : Int) != 53) = false := by simp; omega
    obtain ⟨x, hx, hix⟩ := str_zero s (by omega)
    obtain rfl : x = 116 := Option.some.inj (hx.symm.trans hok.2)
    obtain ⟨res, hres⟩ : ∃ res, res = openT (some (Sha.blockP key)) s.data.toList := ⟨_, rfl⟩
    rw [← hres]
    unfold openT at hres
    rw [if_pos hok] at hres
    obtain ⟨c3, hc3⟩ : ∃ c3, c3 = grownCap w0 s.size 0 5 := ⟨_, rfl⟩
    have hcc : 53 ≤ c3 := by
      have := grownCap_ge w0 s.size 0 5
      omega
    obtain ⟨w3, hw3⟩ : ∃ w3, w3 = Lib.bytesWorld w0 5 s := ⟨_, rfl⟩
    have hcv : (convert 9 22 (.string s)).run Tryd.prog w0 = .ok (.slice (some ⟨w0.heap.size, 0, none⟩) 53 c3) w3 := by
      rw [Lib.run_convert_string_bytes w0 9 22 5 s Tryd.underlying9 Tryd.underlying22 Tryd.underlying5, hw3, hc3, hz]
    have hbk : Bk w3 w0.heap.size (.slice (some ⟨w0.heap.size, 0, none⟩) s.size c3) s.data.toList := by rw [hw3]; exact bk_conv (Nat.le_refl _) s c3 (by omega)
    have hb03 : Below w0.heap.size w0 w3 := by rw [hw3]; exact (Below.refl _ _).grown (grown_conv _ _) (Nat.le_refl _) (by simp)
    obtain ⟨l, hl⟩ : ∃ l, l = s.data.toList := ⟨_, rfl⟩
    rw [← hl] at hbk hres hok
    obtain ⟨g, hg⟩ : ∃ g, g = w0.heap.size := ⟨_, rfl⟩
    rw [← hg] at hbk hcv
    have hrow : g < w3.heap.size ∧ ∀ W, Below w3.heap.size w3 W → ∀ (j : Nat) (u : Value), (bv l)[j]? = some u → W.cell? ⟨g, j, none⟩ = some u := by
      obtain ⟨G, c, cs, fr, e1, _, _, hG, hcs⟩ := hbk
      injection e1 with e1 _ _
      injection e1 with e1
      injection e1 with e1 _ _
      subst e1
      exact ⟨lt_of_block hG, fun W hW j u hu => (hW.cell (p := ⟨g, j, none⟩) (lt_of_block hG)).trans ((cell_of_row w3 g j cs 5 fr hG).trans (hcs j u hu))⟩
    obtain ⟨n1, hn1⟩ : ∃ n1, n1 = numAt l 1 4 := ⟨_, rfl⟩
    obtain ⟨n2, hn2⟩ : ∃ n2, n2 = numAt l 5 8 := ⟨_, rfl⟩
    obtain ⟨n3, hn3⟩ : ∃ n3, n3 = numAt l 13 8 := ⟨_, rfl⟩
    have l1 : n1 < 4294967296 := by rw [hn1]; exact numAt_lt _ 1 4
    have l2 : n2 < 18446744073709551616 := by rw [hn2]; exact numAt_lt _ 5 8
    have l3 : n3 < 18446744073709551616 := by rw [hn3]; exact numAt_lt _ 13 8
    have hnum : ∀ (i k n : Nat), n = numAt l i k → i + k ≤ 53 → k ≤ 8 → Hid (∀ W, Below w3.heap.size w3 W → Calls Tryd.prog 30 #[.slice (some ⟨g, i, none⟩) k (c3 - i)] W fun e w' => e = .returned (.int .u64 (n : Int)) ∧ W = w') := fun i k n hn hik hk W hW => by
      rw [hn]
      exact rnumber_any W.heap.size _ _ W (bs_mid (hrow.2 W hW) (Nat.lt_of_lt_of_le hrow.1 hW.size) hok.1 hik hcc) (by simp; omega)
    have HN1 := hnum 1 4 n1 hn1 (by omega) (by omega)
    have HN2 := hnum 5 8 n2 hn2 (by omega) (by omega)
    have HN3 := hnum 13 8 n3 hn3 (by omega) (by omega)
    have hs1 : ∀ W, (Instr.slice 22 (.slice (some ⟨g, 0, none⟩) 53 c3) (some (.int .i64 1)) (some (.int .i64 5)) none).run Tryd.prog W = .ok (.slice (some ⟨g, 1, none⟩) 4 (c3 - 1)) W := slice_mid g 53 c3 1 5 (by omega) (by omega) (by omega)
    have hs2 : ∀ W, (Instr.slice 22 (.slice (some ⟨g, 0, none⟩) 53 c3) (some (.int .i64 5)) (some (.int .i64 13)) none).run Tryd.prog W = .ok (.slice (some ⟨g, 5, none⟩) 8 (c3 - 5)) W := slice_mid g 53 c3 5 13 (by omega) (by omega) (by omega)
    have hs3 : ∀ W, (Instr.slice 22 (.slice (some ⟨g, 0, none⟩) 53 c3) (some (.int .i64 13)) (some (.int .i64 21)) none).run Tryd.prog W = .ok (.slice (some ⟨g, 13, none⟩) 8 (c3 - 13)) W := slice_mid g 53 c3 13 21 (by omega) (by omega) (by omega)
    obtain ⟨z2, hz2⟩ : ∃ z2, z2 = in64 n2 := ⟨_, rfl⟩
    have hfit := seal_fit (bk := Sha.blockP key) hok.2 (by omega)
    rw [← hn1, ← hn2, ← hn3, ← hz2] at hfit
    rw [← hn1, ← hn2, ← hn3, ← hz2] at hres
    have hwz := in_wrap n2 l2
    rw [← hz2] at hwz
    have hw32 : IntKind.u32.wrap (n1 : Int) = (n1 : Int) := by rw [IntKind.wrap_u32']; omega
    obtain ⟨q, hq⟩ : ∃ q : ByteArray, q = ⟨(sealT (some (Sha.blockP key)) n1 z2 n3).toArray⟩ := ⟨_, rfl⟩
    have hse : ∀ W, Below w.heap.size w W → Calls Tryd.prog 13 #[v, tickV n1 z2 n3] W fun r w' => r = .returned (.string q) ∧ Below W.heap.size W w' := fun W hW => by
      rw [hq]
      exact rtseal_any v key n1 z2 n3 W (bs_up (hv.below hW (Nat.le_refl _)) hW.size) hkl l1 l3
    have hqs : q = s ↔ sealT (some (Sha.blockP key)) n1 z2 n3 = l := by
      rw [hq, hl]
      constructor
      · intro e; rw [← e]
      · intro e; rw [e]
    obtain ⟨fb, hfb⟩ : ∃ fb, fb = fitO (some (Sha.blockP key)) (l.drop 21) (l.take 21) := ⟨_, rfl⟩
    rw [← hfb] at hres hfit
    have tq : (q.toList == s.toList) = fb := by
      rw [Bool.eq_iff_iff, beq_iff_eq, ByteArray.toList_eq, ByteArray.toList_eq, ← hfit, ← hqs]
      exact ⟨fun e => by cases q; cases s; simpa using e, fun e => by rw [e]⟩
    have HC0 : Hid (w3.cell? ⟨g, 0, none⟩ = some (.int .u8 116)) := hrow.2 w3 (Below.refl _ _) 0 _ (by
      unfold bv
      rw [List.getElem?_map, hok.2]
      rfl)
    have HRES := Lib.hid hres
    have HSE := Lib.hid hse
    have HW3 := Lib.hid (show Below w.heap.size w w3 from HB0.out.trans (hb03.mono HB0.out.size))
    have HP3 := Lib.hid ((hb03.block w.heap.size (lt_of_block HP0.out)).trans HP0.out)
    clear hz hx hres hc3 hcc hw3 hbk hb03 hl hg hrow hn1 hn2 hn3 hnum hz2 hfit hq hse hqs hfb hok
    go_enter Tryd.func19, Tryd.ntmps19
    go_upto_region 1 with (fail)
    rw [← H0.out]
    go_upto_region 4 with (fail)
    go_cut [7] (fun x wx => ∃ G, x = .pointer (some ⟨G, 0, none⟩) ∧ Hid (wx.heap[G]? = some (.cells #[.int .u32 (n1 : Int), .int .i64 z2, .int .u64 (n3 : Int)] 26 (0, 0)) ∧ Below w3.heap.size w3 wx))
    case first =>
      have HS : Hid ((fun W : World => W.cell? ⟨g, 0, none⟩ = some (.int .u8 116)) w3.drew) := HC0.out
      refine wp_region_held_drew (S := fun W : World => W.cell? ⟨g, 0, none⟩ = some (.int .u8 116)) (by kernel_rfl) HS.out (fun hHeld => ?_)
      obtain ⟨W0, hW0⟩ : ∃ W0, W0 = w3.drew := ⟨_, rfl⟩
      have HD : Hid (Below w3.heap.size w3 W0) := by rw [hW0]; exact (Below.refl _ _).drew
      have HDA : Hid (Below w3.heap.size w3 (W0.alloc (.cells #[.int .u32 0, .int .i64 0, .int .u64 0] 26))) := HD.out.alloc HD.out.size _
      rw [← hW0] at hHeld ⊢
      have hHeldA : Hid ((fun W : World => W.cell? ⟨g, 0, none⟩ = some (.int .u8 116)) (W0.alloc (.cells #[.int .u32 0, .int .i64 0, .int .u64 0] 26))) := ((Below.refl W0.heap.size W0).alloc (Nat.le_refl _) _).cell (p := ⟨g, 0, none⟩) (World.block_lt_of_cell? W0 _ hHeld) |>.trans hHeld
      have hHeldB : Hid ((fun W : World => W.cell? ⟨g, 0, none⟩ = some (.int .u8 116)) (W0.alloc (.cells #[.int .u32 (n1 : Int), .int .i64 z2, .int .u64 (n3 : Int)] 26))) := ((Below.refl W0.heap.size W0).alloc (Nat.le_refl _) _).cell (p := ⟨g, 0, none⟩) (World.block_lt_of_cell? W0 _ hHeld) |>.trans hHeld
      have qA := heap_alloc_new W0 (.cells #[.int .u32 0, .int .i64 0, .int .u64 0] 26)
      have fA : ∀ i, (W0.alloc (.cells #[.int .u32 0, .int .i64 0, .int .u64 0] 26)).frozen? ⟨W0.heap.size, i, none⟩ = false := fun i => frozen_of_row _ _ i _ _ qA
      have a0 := cell_of_row (W0.alloc (.cells #[.int .u32 0, .int .i64 0, .int .u64 0] 26)) W0.heap.size 0 _ _ _ qA
      have a1 := cell_of_row (W0.alloc (.cells #[.int .u32 0, .int .i64 0, .int .u64 0] 26)) W0.heap.size 1 _ _ _ qA
      have a2 := cell_of_row (W0.alloc (.cells #[.int .u32 0, .int .i64 0, .int .u64 0] 26)) W0.heap.size 2 _ _ _ qA
      simp at a0 a1 a2
      have HQA := Lib.hid qA
      clear hW0 qA hcv
      refine wpAnyH_take (i := 0) (oi := ?oi0x1) (v := ?v0x1) ?hi0x1 ?hs0x1 ?hf0x1 ?hr0x1 ?hQ0x1 ?hy0x1 ?hS0x1 ?h0x1
      case hi0x1 => exact (by simp only [List.getElem?_toArray, List.getElem?_cons_zero]; rfl)
      case hs0x1 => kernel_rfl
      case hf0x1 => kernel_rfl
      case hr0x1 => kernel_rfl
      case hQ0x1 => exact fun _ _ _ h => h
      case hy0x1 =>
        refine Or.inl ⟨rfl, ?_⟩
        intro W hSw
        go_simp
        try with_reducible rfl
      case hS0x1 => assumption
      try simp only [Act.put, List.setIfInBounds_toArray, List.set_cons_zero, List.set_cons_succ]
      refine wpAnyH_take (i := 1) (oi := ?oi1x2) (v := ?v1x2) ?hi1x2 ?hs1x2 ?hf1x2 ?hr1x2 ?hQ1x2 ?hy1x2 ?hS1x2 ?h1x2
      case hi1x2 => exact (by simp only [List.getElem?_toArray, List.getElem?_cons_succ, List.getElem?_cons_zero]; rfl)
      case hs1x2 => kernel_rfl
      case hf1x2 => kernel_rfl
      case hr1x2 => kernel_rfl
      case hQ1x2 => exact fun _ _ _ h => h
      case hy1x2 =>
        refine Or.inl ⟨rfl, ?_⟩
        intro W hSw
        go_simp
        try with_reducible rfl
      case hS1x2 => assumption
      try simp only [Act.put, List.setIfInBounds_toArray, List.set_cons_zero, List.set_cons_succ]
      refine wpAnyH_take (i := 4) (oi := ?oi4x3) (v := ?v4x3) ?hi4x3 ?hs4x3 ?hf4x3 ?hr4x3 ?hQ4x3 ?hy4x3 ?hS4x3 ?h4x3
      case hi4x3 => exact (by simp only [List.getElem?_toArray, List.getElem?_cons_succ, List.getElem?_cons_zero]; rfl)
      case hs4x3 => kernel_rfl
      case hf4x3 => kernel_rfl
      case hr4x3 => kernel_rfl
      case hQ4x3 => exact fun _ _ _ h => h
      case hy4x3 =>
        refine Or.inl ⟨rfl, ?_⟩
        intro W hSw
        go_simp
        try with_reducible rfl
      case hS4x3 => assumption
      try simp only [Act.put, List.setIfInBounds_toArray, List.set_cons_zero, List.set_cons_succ]
      refine wpAnyH_take (i := 5) (oi := ?oi5x4) (v := ?v5x4) ?hi5x4 ?hs5x4 ?hf5x4 ?hr5x4 ?hQ5x4 ?hy5x4 ?hS5x4 ?h5x4
      case hi5x4 => exact (by simp only [List.getElem?_toArray, List.getElem?_cons_succ, List.getElem?_cons_zero]; rfl)
      case hs5x4 => kernel_rfl
      case hf5x4 => kernel_rfl
      case hr5x4 => kernel_rfl
      case hQ5x4 => exact fun _ _ _ h => h
      case hy5x4 =>
        refine Or.inl ⟨rfl, ?_⟩
        intro W hSw
        go_simp
        try with_reducible rfl
      case hS5x4 => assumption
      try simp only [Act.put, List.setIfInBounds_toArray, List.set_cons_zero, List.set_cons_succ]
      refine wpAnyH_take (i := 8) (oi := ?oi8x5) (v := ?v8x5) ?hi8x5 ?hs8x5 ?hf8x5 ?hr8x5 ?hQ8x5 ?hy8x5 ?hS8x5 ?h8x5
      case hi8x5 => exact (by simp only [List.getElem?_toArray, List.getElem?_cons_succ, List.getElem?_cons_zero]; rfl)
      case hs8x5 => kernel_rfl
      case hf8x5 => kernel_rfl
      case hr8x5 => kernel_rfl
      case hQ8x5 => exact fun _ _ _ h => h
      case hy8x5 =>
        refine Or.inl ⟨rfl, ?_⟩
        intro W hSw
        go_simp
        try with_reducible rfl
      case hS8x5 => assumption
      try simp only [Act.put, List.setIfInBounds_toArray, List.set_cons_zero, List.set_cons_succ]
      refine wpAnyH_take (i := 9) (oi := ?oi9x6) (v := ?v9x6) ?hi9x6 ?hs9x6 ?hf9x6 ?hr9x6 ?hQ9x6 ?hy9x6 ?hS9x6 ?h9x6
      case hi9x6 => exact (by simp only [List.getElem?_toArray, List.getElem?_cons_succ, List.getElem?_cons_zero]; rfl)
      case hs9x6 => kernel_rfl
      case hf9x6 => kernel_rfl
      case hr9x6 => kernel_rfl
      case hQ9x6 => exact fun _ _ _ h => h
      case hy9x6 =>
        refine Or.inl ⟨rfl, ?_⟩
        intro W hSw
        go_simp
        try with_reducible rfl
      case hS9x6 => assumption
      try simp only [Act.put, List.setIfInBounds_toArray, List.set_cons_zero, List.set_cons_succ]
      refine wpAnyH_ready (rs := [2, 12]) (by kernel_rfl) (by simp) ?_
      refine AllReadyH.cons (o := _) rfl (fun K hK => ?_) (AllReadyH.cons (o := _) rfl (fun K hK => ?_) AllReadyH.nil)
      · go_simp
        refine (HN1.out _ HD.out).mono ?_
        rintro e wX ⟨rfl, rfl⟩
        refine hK.out _ _ hHeld (fun hHeld => ?_)
        clear hK K
        try simp only [Act.put, List.setIfInBounds_toArray, List.set_cons_zero, List.set_cons_succ]
        refine wpAnyH_take (i := 3) (oi := ?oi3x7) (v := ?v3x7) ?hi3x7 ?hs3x7 ?hf3x7 ?hr3x7 ?hQ3x7 ?hy3x7 ?hS3x7 ?h3x7
        case hi3x7 => exact (by simp only [List.getElem?_toArray, List.getElem?_cons_succ, List.getElem?_cons_zero]; rfl)
        case hs3x7 => kernel_rfl
        case hf3x7 => kernel_rfl
        case hr3x7 => kernel_rfl
        case hQ3x7 => exact fun _ _ _ h => h
        case hy3x7 =>
          refine Or.inl ⟨rfl, ?_⟩
          intro W hSw
          go_simp
          try with_reducible rfl
        case hS3x7 => assumption
        try simp only [Act.put, List.setIfInBounds_toArray, List.set_cons_zero, List.set_cons_succ]
        refine wpAnyH_ready (rs := [6, 12]) (by kernel_rfl) (by simp) ?_
        refine AllReadyH.cons (o := _) rfl (fun K hK => ?_) (AllReadyH.cons (o := _) rfl (fun K hK => ?_) AllReadyH.nil)
        · go_simp
          refine (HN2.out _ HD.out).mono ?_
          rintro e wX ⟨rfl, rfl⟩
          refine hK.out _ _ hHeld (fun hHeld => ?_)
          clear hK K
          try simp only [Act.put, List.setIfInBounds_toArray, List.set_cons_zero, List.set_cons_succ]
          refine wpAnyH_take (i := 7) (oi := ?oi7x8) (v := ?v7x8) ?hi7x8 ?hs7x8 ?hf7x8 ?hr7x8 ?hQ7x8 ?hy7x8 ?hS7x8 ?h7x8
          case hi7x8 => exact (by simp only [List.getElem?_toArray, List.getElem?_cons_succ, List.getElem?_cons_zero]; rfl)
          case hs7x8 => kernel_rfl
          case hf7x8 => kernel_rfl
          case hr7x8 => kernel_rfl
          case hQ7x8 => exact fun _ _ _ h => h
          case hy7x8 =>
            refine Or.inl ⟨rfl, ?_⟩
            intro W hSw
            go_simp
            try with_reducible rfl
          case hS7x8 => assumption
          try simp only [Act.put, List.setIfInBounds_toArray, List.set_cons_zero, List.set_cons_succ]
          refine wpAnyH_ready (rs := [10, 12]) (by kernel_rfl) (by simp) ?_
          refine AllReadyH.cons (o := _) rfl (fun K hK => ?_) (AllReadyH.cons (o := _) rfl (fun K hK => ?_) AllReadyH.nil)
          · go_simp
            refine (HN3.out _ HD.out).mono ?_
            rintro e wX ⟨rfl, rfl⟩
            refine hK.out _ _ hHeld (fun hHeld => ?_)
            clear hK K
            try simp only [Act.put, List.setIfInBounds_toArray, List.set_cons_zero, List.set_cons_succ]
            refine wpAnyH_take (i := 11) (oi := ?oi11x9) (v := ?v11x9) ?hi11x9 ?hs11x9 ?hf11x9 ?hr11x9 ?hQ11x9 ?hy11x9 ?hS11x9 ?h11x9
            case hi11x9 => exact (by simp only [List.getElem?_toArray, List.getElem?_cons_succ, List.getElem?_cons_zero]; rfl)
            case hs11x9 => kernel_rfl
            case hf11x9 => kernel_rfl
            case hr11x9 => kernel_rfl
            case hQ11x9 => exact fun _ _ _ h => h
            case hy11x9 =>
              refine Or.inl ⟨rfl, ?_⟩
              intro W hSw
              go_simp
              try with_reducible rfl
            case hS11x9 => assumption
            try simp only [Act.put, List.setIfInBounds_toArray, List.set_cons_zero, List.set_cons_succ]
            refine wpAnyH_ready (rs := [12]) (by kernel_rfl) (by simp) ?_
            refine AllReadyH.cons (o := _) rfl (fun K hK => ?_) AllReadyH.nil
            go_simp
            refine hK.out _ _ hHeldA.out (fun hHeld => ?_)
            clear hK K
            try simp only [Act.put, List.setIfInBounds_toArray, List.set_cons_zero, List.set_cons_succ]
            refine wpAnyH_ready (rs := [13]) (by kernel_rfl) (by simp) ?_
            refine AllReadyH.cons (o := _) rfl (fun K hK => ?_) AllReadyH.nil
            go_simp
            refine hK.out _ _ hHeldB.out (fun hHeld => ?_)
            clear hK K
            try simp only [Act.put, List.setIfInBounds_toArray, List.set_cons_zero, List.set_cons_succ]
            refine wpAnyH_done (by kernel_rfl) ?_ _
            try go_wp2_with fail
            go_meet
            exact ⟨_, rfl, Lib.hid ⟨heap_alloc_new W0 _, HD.out.alloc HD.out.size _⟩⟩
          · go_simp
            refine hK.out _ _ hHeldA.out (fun hHeld => ?_)
            clear hK K
            try simp only [Act.put, List.setIfInBounds_toArray, List.set_cons_zero, List.set_cons_succ]
            refine wpAnyH_ready (rs := [10]) (by kernel_rfl) (by simp) ?_
            refine AllReadyH.cons (o := _) rfl (fun K hK => ?_) AllReadyH.nil
            go_simp
            refine (HN3.out _ HDA.out).mono ?_
            rintro e wX ⟨rfl, rfl⟩
            refine hK.out _ _ hHeldA.out (fun hHeld => ?_)
            clear hK K
            try simp only [Act.put, List.setIfInBounds_toArray, List.set_cons_zero, List.set_cons_succ]
            refine wpAnyH_take (i := 11) (oi := ?oi11x10) (v := ?v11x10) ?hi11x10 ?hs11x10 ?hf11x10 ?hr11x10 ?hQ11x10 ?hy11x10 ?hS11x10 ?h11x10
            case hi11x10 => exact (by simp only [List.getElem?_toArray, List.getElem?_cons_succ, List.getElem?_cons_zero]; rfl)
            case hs11x10 => kernel_rfl
            case hf11x10 => kernel_rfl
            case hr11x10 => kernel_rfl
            case hQ11x10 => exact fun _ _ _ h => h
            case hy11x10 =>
              refine Or.inl ⟨rfl, ?_⟩
              intro W hSw
              go_simp
              try with_reducible rfl
            case hS11x10 => assumption
            try simp only [Act.put, List.setIfInBounds_toArray, List.set_cons_zero, List.set_cons_succ]
            refine wpAnyH_ready (rs := [13]) (by kernel_rfl) (by simp) ?_
            refine AllReadyH.cons (o := _) rfl (fun K hK => ?_) AllReadyH.nil
            go_simp
            refine hK.out _ _ hHeldB.out (fun hHeld => ?_)
            clear hK K
            try simp only [Act.put, List.setIfInBounds_toArray, List.set_cons_zero, List.set_cons_succ]
            refine wpAnyH_done (by kernel_rfl) ?_ _
            try go_wp2_with fail
            go_meet
            exact ⟨_, rfl, Lib.hid ⟨heap_alloc_new W0 _, HD.out.alloc HD.out.size _⟩⟩
        · go_simp
          refine hK.out _ _ hHeldA.out (fun hHeld => ?_)
          clear hK K
          try simp only [Act.put, List.setIfInBounds_toArray, List.set_cons_zero, List.set_cons_succ]
          refine wpAnyH_ready (rs := [6]) (by kernel_rfl) (by simp) ?_
          refine AllReadyH.cons (o := _) rfl (fun K hK => ?_) AllReadyH.nil
          go_simp
          refine (HN2.out _ HDA.out).mono ?_
          rintro e wX ⟨rfl, rfl⟩
          refine hK.out _ _ hHeldA.out (fun hHeld => ?_)
          clear hK K
          try simp only [Act.put, List.setIfInBounds_toArray, List.set_cons_zero, List.set_cons_succ]
          refine wpAnyH_take (i := 7) (oi := ?oi7x11) (v := ?v7x11) ?hi7x11 ?hs7x11 ?hf7x11 ?hr7x11 ?hQ7x11 ?hy7x11 ?hS7x11 ?h7x11
          case hi7x11 => exact (by simp only [List.getElem?_toArray, List.getElem?_cons_succ, List.getElem?_cons_zero]; rfl)
          case hs7x11 => kernel_rfl
          case hf7x11 => kernel_rfl
          case hr7x11 => kernel_rfl
          case hQ7x11 => exact fun _ _ _ h => h
          case hy7x11 =>
            refine Or.inl ⟨rfl, ?_⟩
            intro W hSw
            go_simp
            try with_reducible rfl
          case hS7x11 => assumption
          try simp only [Act.put, List.setIfInBounds_toArray, List.set_cons_zero, List.set_cons_succ]
          refine wpAnyH_ready (rs := [10]) (by kernel_rfl) (by simp) ?_
          refine AllReadyH.cons (o := _) rfl (fun K hK => ?_) AllReadyH.nil
          go_simp
          refine (HN3.out _ HDA.out).mono ?_
          rintro e wX ⟨rfl, rfl⟩
          refine hK.out _ _ hHeldA.out (fun hHeld => ?_)
          clear hK K
          try simp only [Act.put, List.setIfInBounds_toArray, List.set_cons_zero, List.set_cons_succ]
          refine wpAnyH_take (i := 11) (oi := ?oi11x12) (v := ?v11x12) ?hi11x12 ?hs11x12 ?hf11x12 ?hr11x12 ?hQ11x12 ?hy11x12 ?hS11x12 ?h11x12
          case hi11x12 => exact (by simp only [List.getElem?_toArray, List.getElem?_cons_succ, List.getElem?_cons_zero]; rfl)
          case hs11x12 => kernel_rfl
          case hf11x12 => kernel_rfl
          case hr11x12 => kernel_rfl
          case hQ11x12 => exact fun _ _ _ h => h
          case hy11x12 =>
            refine Or.inl ⟨rfl, ?_⟩
            intro W hSw
            go_simp
            try with_reducible rfl
          case hS11x12 => assumption
          try simp only [Act.put, List.setIfInBounds_toArray, List.set_cons_zero, List.set_cons_succ]
          refine wpAnyH_ready (rs := [13]) (by kernel_rfl) (by simp) ?_
          refine AllReadyH.cons (o := _) rfl (fun K hK => ?_) AllReadyH.nil
          go_simp
          refine hK.out _ _ hHeldB.out (fun hHeld => ?_)
          clear hK K
          try simp only [Act.put, List.setIfInBounds_toArray, List.set_cons_zero, List.set_cons_succ]
          refine wpAnyH_done (by kernel_rfl) ?_ _
          try go_wp2_with fail
          go_meet
          exact ⟨_, rfl, Lib.hid ⟨heap_alloc_new W0 _, HD.out.alloc HD.out.size _⟩⟩
      · go_simp
        refine hK.out _ _ hHeldA.out (fun hHeld => ?_)
        clear hK K
        try simp only [Act.put, List.setIfInBounds_toArray, List.set_cons_zero, List.set_cons_succ]
        refine wpAnyH_ready (rs := [2]) (by kernel_rfl) (by simp) ?_
        refine AllReadyH.cons (o := _) rfl (fun K hK => ?_) AllReadyH.nil
        go_simp
        refine (HN1.out _ HDA.out).mono ?_
        rintro e wX ⟨rfl, rfl⟩
        refine hK.out _ _ hHeldA.out (fun hHeld => ?_)
        clear hK K
        try simp only [Act.put, List.setIfInBounds_toArray, List.set_cons_zero, List.set_cons_succ]
        refine wpAnyH_take (i := 3) (oi := ?oi3x13) (v := ?v3x13) ?hi3x13 ?hs3x13 ?hf3x13 ?hr3x13 ?hQ3x13 ?hy3x13 ?hS3x13 ?h3x13
        case hi3x13 => exact (by simp only [List.getElem?_toArray, List.getElem?_cons_succ, List.getElem?_cons_zero]; rfl)
        case hs3x13 => kernel_rfl
        case hf3x13 => kernel_rfl
        case hr3x13 => kernel_rfl
        case hQ3x13 => exact fun _ _ _ h => h
        case hy3x13 =>
          refine Or.inl ⟨rfl, ?_⟩
          intro W hSw
          go_simp
          try with_reducible rfl
        case hS3x13 => assumption
        try simp only [Act.put, List.setIfInBounds_toArray, List.set_cons_zero, List.set_cons_succ]
        refine wpAnyH_ready (rs := [6]) (by kernel_rfl) (by simp) ?_
        refine AllReadyH.cons (o := _) rfl (fun K hK => ?_) AllReadyH.nil
        go_simp
        refine (HN2.out _ HDA.out).mono ?_
        rintro e wX ⟨rfl, rfl⟩
        refine hK.out _ _ hHeldA.out (fun hHeld => ?_)
        clear hK K
        try simp only [Act.put, List.setIfInBounds_toArray, List.set_cons_zero, List.set_cons_succ]
        refine wpAnyH_take (i := 7) (oi := ?oi7x14) (v := ?v7x14) ?hi7x14 ?hs7x14 ?hf7x14 ?hr7x14 ?hQ7x14 ?hy7x14 ?hS7x14 ?h7x14
        case hi7x14 => exact (by simp only [List.getElem?_toArray, List.getElem?_cons_succ, List.getElem?_cons_zero]; rfl)
        case hs7x14 => kernel_rfl
        case hf7x14 => kernel_rfl
        case hr7x14 => kernel_rfl
        case hQ7x14 => exact fun _ _ _ h => h
        case hy7x14 =>
          refine Or.inl ⟨rfl, ?_⟩
          intro W hSw
          go_simp
          try with_reducible rfl
        case hS7x14 => assumption
        try simp only [Act.put, List.setIfInBounds_toArray, List.set_cons_zero, List.set_cons_succ]
        refine wpAnyH_ready (rs := [10]) (by kernel_rfl) (by simp) ?_
        refine AllReadyH.cons (o := _) rfl (fun K hK => ?_) AllReadyH.nil
        go_simp
        refine (HN3.out _ HDA.out).mono ?_
        rintro e wX ⟨rfl, rfl⟩
        refine hK.out _ _ hHeldA.out (fun hHeld => ?_)
        clear hK K
        try simp only [Act.put, List.setIfInBounds_toArray, List.set_cons_zero, List.set_cons_succ]
        refine wpAnyH_take (i := 11) (oi := ?oi11x15) (v := ?v11x15) ?hi11x15 ?hs11x15 ?hf11x15 ?hr11x15 ?hQ11x15 ?hy11x15 ?hS11x15 ?h11x15
        case hi11x15 => exact (by simp only [List.getElem?_toArray, List.getElem?_cons_succ, List.getElem?_cons_zero]; rfl)
        case hs11x15 => kernel_rfl
        case hf11x15 => kernel_rfl
        case hr11x15 => kernel_rfl
        case hQ11x15 => exact fun _ _ _ h => h
        case hy11x15 =>
          refine Or.inl ⟨rfl, ?_⟩
          intro W hSw
          go_simp
          try with_reducible rfl
        case hS11x15 => assumption
        try simp only [Act.put, List.setIfInBounds_toArray, List.set_cons_zero, List.set_cons_succ]
        refine wpAnyH_ready (rs := [13]) (by kernel_rfl) (by simp) ?_
        refine AllReadyH.cons (o := _) rfl (fun K hK => ?_) AllReadyH.nil
        go_simp
        refine hK.out _ _ hHeldB.out (fun hHeld => ?_)
        clear hK K
        try simp only [Act.put, List.setIfInBounds_toArray, List.set_cons_zero, List.set_cons_succ]
        refine wpAnyH_done (by kernel_rfl) ?_ _
        try go_wp2_with fail
        go_meet
        exact ⟨_, rfl, Lib.hid ⟨heap_alloc_new W0 _, HD.out.alloc HD.out.size _⟩⟩
    case rest =>
      obtain ⟨G, rfl, HC⟩ := hcut
      have hbc := HW3.out.trans (HC.out.2.mono HW3.out.size)
      have e0 := cell_of_row wc G 0 _ _ _ HC.out.1
      have e1 := cell_of_row wc G 1 _ _ _ HC.out.1
      have e2 := cell_of_row wc G 2 _ _ _ HC.out.1
      simp at e0 e1 e2
      have hse := HSE.out wc hbc
      have HS2 := Lib.hid hse
      have HPC := Lib.hid ((HC.out.2.block w.heap.size (lt_of_block HP3.out)).trans HP3.out)
      have HBC := Lib.hid hbc
      clear hse hbc hcv hs1 hs2 hs3 f0 g0 g1 g2
      go_wp2_with fail
      refine HS2.out.mono ?_
      rintro e w5 ⟨rfl, hb5⟩
      have hp5 := (hb5.block w.heap.size (lt_of_block HPC.out)).trans HPC.out
      have f5 : ∀ i, w5.frozen? ⟨w.heap.size, i, none⟩ = false := fun i => frozen_of_row w5 _ i _ _ hp5
      have k0 := cell_of_row w5 w.heap.size 0 _ _ _ hp5
      have k1 := cell_of_row w5 w.heap.size 1 _ _ _ hp5
      have k2 := cell_of_row w5 w.heap.size 2 _ _ _ hp5
      have hG5 := (hb5.block G (lt_of_block HC.out.1)).trans HC.out.1
      have m0 := cell_of_row w5 G 0 _ _ _ hG5
      have m1 := cell_of_row w5 G 1 _ _ _ hG5
      have m2 := cell_of_row w5 G 2 _ _ _ hG5
      simp at k0 k1 k2 m0 m1 m2
      have hb05 := HBC.out.trans (hb5.mono HBC.out.size)
      clear hp5 hG5 e0 e1 e2
      rcases fb with _ | _
      · have HX : Hid (res = (8, 0, 0, 0)) := HRES.out
        go_wp2
        exact bodyPost_ret (v := .tuple #[tickV 0 0 0, .int .i64 8]) (by simp [results, Tryd.results19, go_sem, k0, k1, k2]) rfl (by rw [HX.out]; exact ⟨rfl, ((hb05.setCell (by simp) _).setCell (by simp) _).setCell (by simp) _⟩)
      · have HX : Hid (res = (0, n1, z2, n3)) := HRES.out
        go_wp2
        exact bodyPost_ret (v := .tuple #[tickV n1 z2 n3, .int .i64 0]) (by simp [results, Tryd.results19, go_sem, k0, k1, k2]) rfl (by rw [HX.out]; exact ⟨rfl, ((hb05.setCell (by simp) _).setCell (by simp) _).setCell (by simp) _⟩)
  · have e1 : openT (some (Sha.blockP key)) s.data.toList = (7, 0, 0, 0) := by unfold openT; rw [if_neg hok]
    rw [e1]
    by_cases hz : s.size = 53
    · have t1 : ((s.size : Int) != 53) = false := by simp; omega
      obtain ⟨x, hx, hix⟩ := str_zero s (by omega)
      have hxm : x ≠ 116 := fun e => hok ⟨by simpa using hz, by rw [hx, e]⟩
      have t2 : ((x.toNat : Int) != 116) = true := by
        simp only [bne_iff_ne, ne_eq]
        exact fun e => hxm (UInt8.toNat_inj.1 (by rw [show (116 : UInt8).toNat = 116 from rfl]; omega))
      clear hok e1 hx hxm hv hkl
      go_enter Tryd.func19, Tryd.ntmps19
      go_upto_region 1 with (fail)
      rw [← H0.out]
      go_wp2
      exact bodyPost_ret (v := .tuple #[tickV 0 0 0, .int .i64 7]) (by simp [results, Tryd.results19, go_sem, g0, g1, g2]) rfl ⟨rfl, ((HB0.out.setCell (by simp) _).setCell (by simp) _).setCell (by simp) _⟩
    · have t1 : ((s.size : Int) != 53) = true := by simp; omega
      clear hok e1 hv hkl
      go_enter Tryd.func19, Tryd.ntmps19
      go_upto_region 1 with (fail)
      rw [← H0.out]
      go_wp2
      exact bodyPost_ret (v := .tuple #[tickV 0 0 0, .int .i64 7]) (by simp [results, Tryd.results19, go_sem, g0, g1, g2]) rfl ⟨rfl, ((HB0.out.setCell (by simp) _).setCell (by simp) _).setCell (by simp) _⟩
end Go.Proofs.YtaefgieodehceaaDoor

/- Pass: the document's own OpenToken. -/
namespace Go.Proofs.YtaefgieodehceaaDoor
open Go.RowKit
set_option maxRecDepth 20000

theorem num_single {l : List UInt8} {i : Nat} {y : UInt8} (h : l[i]? = some y) : numAt l i 1 = y.toNat := by
  obtain ⟨hi, rfl⟩ := List.getElem?_eq_some_iff.1 h
  unfold numAt
  rw [List.drop_eq_getElem_cons hi, List.take_succ_cons, List.take_zero]
  simp [num]

theorem kseal_fit {bk l : List UInt8} (h0 : l[0]? = some 106) (hl : 28 ≤ l.length) :
    sealK (some bk) (numAt l 1 4) (numAt l 5 4) (numAt l 9 2) (numAt l 11 1) (in64 (numAt l 12 8)) (numAt l 20 8) = l ↔ fitO (some bk) (l.drop 28) (l.take 28) = true := by
  have e : fitO (some bk) (l.drop 28) (l.take 28) = true ↔ l.drop 28 = tagO (some bk) (l.take 28) := by
    rw [fitO, Option.isSome_some, Bool.true_and, decide_eq_true_iff]
  unfold sealK
  rw [← tok_take l h0 hl, e]
  constructor
  · intro h
    have := congrArg (List.drop 28) h
    rw [List.drop_left' (by simp; omega)] at this
    exact this.symm
  · intro h
    rw [← h, List.take_append_drop]

set_option maxHeartbeats 4000000 in
theorem ropenk_any (v : Value) (key : List UInt8) (s : ByteArray) (w : World) (hv : Bs w w.heap.size v key) (hkl : key.length ≤ 900000) :
    Calls Tryd.prog 21 #[v, .string s] w (KPost w (openK (some (Sha.blockP key)) s.data.toList)) := by
  obtain ⟨w0, hw0⟩ : ∃ w0, w0 = w.alloc (.cells #[.int .u32 0, .int .u32 0, .int .u16 0, .int .u8 0, .int .i64 0, .int .u64 0] 29) := ⟨_, rfl⟩
  have hb0 : Below w.heap.size w w0 := by rw [hw0]; exact (Below.refl _ _).alloc (Nat.le_refl _) _
  have hp0 : w0.heap[w.heap.size]? = some (.cells #[.int .u32 0, .int .u32 0, .int .u16 0, .int .u8 0, .int .i64 0, .int .u64 0] 29 (0, 0)) := by rw [hw0]; exact heap_alloc_new w _
  have f0 : ∀ i, w0.frozen? ⟨w.heap.size, i, none⟩ = false := fun i => frozen_of_row w0 _ i _ _ hp0
  have g0 := cell_of_row w0 w.heap.size 0 _ _ _ hp0
  have g1 := cell_of_row w0 w.heap.size 1 _ _ _ hp0
  have g2 := cell_of_row w0 w.heap.size 2 _ _ _ hp0
  have g3 := cell_of_row w0 w.heap.size 3 _ _ _ hp0
  have g4 := cell_of_row w0 w.heap.size 4 _ _ _ hp0
  have g5 := cell_of_row w0 w.heap.size 5 _ _ _ hp0
  simp at g0 g1 g2 g3 g4 g5
  have H0 := Lib.hid hw0
  have HB0 := Lib.hid hb0
  have HP0 := Lib.hid hp0
  clear hw0 hb0 hp0
  by_cases hok : s.data.toList.length = 60 ∧ s.data.toList[0]? = some 106
  · have hz : s.size = 60 := by simpa using hok.1
    have t1 : ((s.size : Int) != 60) = false := by simp; omega
    obtain ⟨x, hx, hix⟩ := str_zero s (by omega)
    obtain rfl : x = 106 := Option.some.inj (hx.symm.trans hok.2)
    obtain ⟨res, hres⟩ : ∃ res, res = openK (some (Sha.blockP key)) s.data.toList := ⟨_, rfl⟩
    rw [← hres]
    unfold openK at hres
    rw [if_pos hok] at hres
    obtain ⟨c3, hc3⟩ : ∃ c3, c3 = grownCap w0 s.size 0 5 := ⟨_, rfl⟩
    have hcc : 60 ≤ c3 := by
      have := grownCap_ge w0 s.size 0 5
      omega
    obtain ⟨w3, hw3⟩ : ∃ w3, w3 = Lib.bytesWorld w0 5 s := ⟨_, rfl⟩
    have hcv : (convert 9 22 (.string s)).run Tryd.prog w0 = .ok (.slice (some ⟨w0.heap.size, 0, none⟩) 60 c3) w3 := by
      rw [Lib.run_convert_string_bytes w0 9 22 5 s Tryd.underlying9 Tryd.underlying22 Tryd.underlying5, hw3, hc3, hz]
    have hbk : Bk w3 w0.heap.size (.slice (some ⟨w0.heap.size, 0, none⟩) s.size c3) s.data.toList := by rw [hw3]; exact bk_conv (Nat.le_refl _) s c3 (by omega)
    have hb03 : Below w0.heap.size w0 w3 := by rw [hw3]; exact (Below.refl _ _).grown (grown_conv _ _) (Nat.le_refl _) (by simp)
    obtain ⟨l, hl⟩ : ∃ l, l = s.data.toList := ⟨_, rfl⟩
    rw [← hl] at hbk hres hok
    obtain ⟨g, hg⟩ : ∃ g, g = w0.heap.size := ⟨_, rfl⟩
    rw [← hg] at hbk hcv
    have hrow : g < w3.heap.size ∧ ∀ W, Below w3.heap.size w3 W → ∀ (j : Nat) (u : Value), (bv l)[j]? = some u → W.cell? ⟨g, j, none⟩ = some u := by
      obtain ⟨G, c, cs, fr, e1, _, _, hG, hcs⟩ := hbk
      injection e1 with e1 _ _
      injection e1 with e1
      injection e1 with e1 _ _
      subst e1
      exact ⟨lt_of_block hG, fun W hW j u hu => (hW.cell (p := ⟨g, j, none⟩) (lt_of_block hG)).trans ((cell_of_row w3 g j cs 5 fr hG).trans (hcs j u hu))⟩
    obtain ⟨n1, hn1⟩ : ∃ n1, n1 = numAt l 1 4 := ⟨_, rfl⟩
    obtain ⟨n2, hn2⟩ : ∃ n2, n2 = numAt l 5 4 := ⟨_, rfl⟩
    obtain ⟨n3, hn3⟩ : ∃ n3, n3 = numAt l 9 2 := ⟨_, rfl⟩
    obtain ⟨n4, hn4⟩ : ∃ n4, n4 = numAt l 11 1 := ⟨_, rfl⟩
    obtain ⟨n5, hn5⟩ : ∃ n5, n5 = numAt l 12 8 := ⟨_, rfl⟩
    obtain ⟨n6, hn6⟩ : ∃ n6, n6 = numAt l 20 8 := ⟨_, rfl⟩
    have l1 : n1 < 4294967296 := by rw [hn1]; exact numAt_lt _ 1 4
    have l2 : n2 < 4294967296 := by rw [hn2]; exact numAt_lt _ 5 4
    have l3 : n3 < 65536 := by rw [hn3]; exact numAt_lt _ 9 2
    have l4 : n4 < 256 := by rw [hn4]; exact numAt_lt _ 11 1
    have l5 : n5 < 18446744073709551616 := by rw [hn5]; exact numAt_lt _ 12 8
    have l6 : n6 < 18446744073709551616 := by rw [hn6]; exact numAt_lt _ 20 8
    have hnum : ∀ (i k n : Nat), n = numAt l i k → i + k ≤ 60 → k ≤ 8 → Hid (∀ W, Below w3.heap.size w3 W → Calls Tryd.prog 30 #[.slice (some ⟨g, i, none⟩) k (c3 - i)] W fun e w' => e = .returned (.int .u64 (n : Int)) ∧ W = w') := fun i k n hn hik hk W hW => by
      rw [hn]
      exact rnumber_any W.heap.size _ _ W (bs_mid (hrow.2 W hW) (Nat.lt_of_lt_of_le hrow.1 hW.size) hok.1 hik hcc) (by simp; omega)
    have HN1 := hnum 1 4 n1 hn1 (by omega) (by omega)
    have HN2 := hnum 5 4 n2 hn2 (by omega) (by omega)
    have HN3 := hnum 9 2 n3 hn3 (by omega) (by omega)
    have HN5 := hnum 12 8 n5 hn5 (by omega) (by omega)
    have HN6 := hnum 20 8 n6 hn6 (by omega) (by omega)
    have hs1 : ∀ W, (Instr.slice 22 (.slice (some ⟨g, 0, none⟩) 60 c3) (some (.int .i64 1)) (some (.int .i64 5)) none).run Tryd.prog W = .ok (.slice (some ⟨g, 1, none⟩) 4 (c3 - 1)) W := slice_mid g 60 c3 1 5 (by omega) (by omega) (by omega)
    have hs2 : ∀ W, (Instr.slice 22 (.slice (some ⟨g, 0, none⟩) 60 c3) (some (.int .i64 5)) (some (.int .i64 9)) none).run Tryd.prog W = .ok (.slice (some ⟨g, 5, none⟩) 4 (c3 - 5)) W := slice_mid g 60 c3 5 9 (by omega) (by omega) (by omega)
    have hs3 : ∀ W, (Instr.slice 22 (.slice (some ⟨g, 0, none⟩) 60 c3) (some (.int .i64 9)) (some (.int .i64 11)) none).run Tryd.prog W = .ok (.slice (some ⟨g, 9, none⟩) 2 (c3 - 9)) W := slice_mid g 60 c3 9 11 (by omega) (by omega) (by omega)
    have hs5 : ∀ W, (Instr.slice 22 (.slice (some ⟨g, 0, none⟩) 60 c3) (some (.int .i64 12)) (some (.int .i64 20)) none).run Tryd.prog W = .ok (.slice (some ⟨g, 12, none⟩) 8 (c3 - 12)) W := slice_mid g 60 c3 12 20 (by omega) (by omega) (by omega)
    have hs6 : ∀ W, (Instr.slice 22 (.slice (some ⟨g, 0, none⟩) 60 c3) (some (.int .i64 20)) (some (.int .i64 28)) none).run Tryd.prog W = .ok (.slice (some ⟨g, 20, none⟩) 8 (c3 - 20)) W := slice_mid g 60 c3 20 28 (by omega) (by omega) (by omega)
    obtain ⟨z5, hz5⟩ : ∃ z5, z5 = in64 n5 := ⟨_, rfl⟩
    have hfit := kseal_fit (bk := Sha.blockP key) hok.2 (by omega)
    rw [← hn1, ← hn2, ← hn3, ← hn4, ← hn5, ← hn6, ← hz5] at hfit
    rw [← hn1, ← hn2, ← hn3, ← hn4, ← hn5, ← hn6, ← hz5] at hres
    have hwz := in_wrap n5 l5
    rw [← hz5] at hwz
    have hw1 : IntKind.u32.wrap (n1 : Int) = (n1 : Int) := by rw [IntKind.wrap_u32']; omega
    have hw2 : IntKind.u32.wrap (n2 : Int) = (n2 : Int) := by rw [IntKind.wrap_u32']; omega
    have hwn : IntKind.u16.wrap (n3 : Int) = (n3 : Int) := by unfold IntKind.wrap; simp [IntKind.signed, IntKind.bits]; omega
    obtain ⟨y, hy⟩ : ∃ y, l[11]? = some y := ⟨l[11], List.getElem?_eq_getElem (by omega)⟩
    have hyn : n4 = y.toNat := by rw [hn4, num_single hy]
    obtain ⟨q, hq⟩ : ∃ q : ByteArray, q = ⟨(sealK (some (Sha.blockP key)) n1 n2 n3 n4 z5 n6).toArray⟩ := ⟨_, rfl⟩
    have hse : ∀ W, Below w.heap.size w W → Calls Tryd.prog 16 #[v, tokV n1 n2 n3 n4 z5 n6] W fun r w' => r = .returned (.string q) ∧ Below W.heap.size W w' := fun W hW => by
      rw [hq]
      exact rkseal_any v key n1 n2 n3 n4 z5 n6 W (bs_up (hv.below hW (Nat.le_refl _)) hW.size) hkl l1 l2 l3 l4 l6
    have hqs : q = s ↔ sealK (some (Sha.blockP key)) n1 n2 n3 n4 z5 n6 = l := by
      rw [hq, hl]
      constructor
      · intro e; rw [← e]
      · intro e; rw [e]
    obtain ⟨fb, hfb⟩ : ∃ fb, fb = fitO (some (Sha.blockP key)) (l.drop 28) (l.take 28) := ⟨_, rfl⟩
    rw [← hfb] at hres hfit
    have tq : (q.toList == s.toList) = fb := by
      rw [Bool.eq_iff_iff, beq_iff_eq, ByteArray.toList_eq, ByteArray.toList_eq, ← hfit, ← hqs]
      exact ⟨fun e => by cases q; cases s; simpa using e, fun e => by rw [e]⟩
    have HC0 : Hid (w3.cell? ⟨g, 11, none⟩ = some (.int .u8 (n4 : Int))) := hrow.2 w3 (Below.refl _ _) 11 _ (by
      unfold bv
      rw [List.getElem?_map, hy, hyn]
      rfl)
    have HRES := Lib.hid hres
    have HSE := Lib.hid hse
    have HW3 := Lib.hid (show Below w.heap.size w w3 from HB0.out.trans (hb03.mono HB0.out.size))
    have HP3 := Lib.hid ((hb03.block w.heap.size (lt_of_block HP0.out)).trans HP0.out)
    clear hz hx hres hc3 hcc hw3 hbk hb03 hl hg hrow hn1 hn2 hn3 hn4 hn5 hn6 hnum hz5 hy hyn hfit hq hse hqs hfb hok
    go_enter Tryd.func21, Tryd.ntmps21
    go_upto_region 1 with (fail)
    rw [← H0.out]
    go_upto_region 4 with (fail)
    go_cut [7] (fun x wx => ∃ G, x = .pointer (some ⟨G, 0, none⟩) ∧ Hid (wx.heap[G]? = some (.cells #[.int .u32 (n1 : Int), .int .u32 (n2 : Int), .int .u16 (n3 : Int), .int .u8 (n4 : Int), .int .i64 z5, .int .u64 (n6 : Int)] 29 (0, 0)) ∧ Below w3.heap.size w3 wx))
    case first =>
      have HS : Hid ((fun W : World => W.cell? ⟨g, 11, none⟩ = some (.int .u8 (n4 : Int))) w3.drew) := HC0.out
      refine wp_region_held_drew (S := fun W : World => W.cell? ⟨g, 11, none⟩ = some (.int .u8 (n4 : Int))) (by kernel_rfl) HS.out (fun hHeld => ?_)
      obtain ⟨W0, hW0⟩ : ∃ W0, W0 = w3.drew := ⟨_, rfl⟩
      have HD : Hid (Below w3.heap.size w3 W0) := by rw [hW0]; exact (Below.refl _ _).drew
      have HDA : Hid (Below w3.heap.size w3 (W0.alloc (.cells #[.int .u32 0, .int .u32 0, .int .u16 0, .int .u8 0, .int .i64 0, .int .u64 0] 29))) := HD.out.alloc HD.out.size _
      rw [← hW0] at hHeld ⊢
      have hHeldA : Hid ((fun W : World => W.cell? ⟨g, 11, none⟩ = some (.int .u8 (n4 : Int))) (W0.alloc (.cells #[.int .u32 0, .int .u32 0, .int .u16 0, .int .u8 0, .int .i64 0, .int .u64 0] 29))) := ((Below.refl W0.heap.size W0).alloc (Nat.le_refl _) _).cell (p := ⟨g, 11, none⟩) (World.block_lt_of_cell? W0 _ hHeld) |>.trans hHeld
      have hHeldB : Hid ((fun W : World => W.cell? ⟨g, 11, none⟩ = some (.int .u8 (n4 : Int))) (W0.alloc (.cells #[.int .u32 (n1 : Int), .int .u32 (n2 : Int), .int .u16 (n3 : Int), .int .u8 (n4 : Int), .int .i64 z5, .int .u64 (n6 : Int)] 29))) := ((Below.refl W0.heap.size W0).alloc (Nat.le_refl _) _).cell (p := ⟨g, 11, none⟩) (World.block_lt_of_cell? W0 _ hHeld) |>.trans hHeld
      have qA := heap_alloc_new W0 (.cells #[.int .u32 0, .int .u32 0, .int .u16 0, .int .u8 0, .int .i64 0, .int .u64 0] 29)
      have fA : ∀ i, (W0.alloc (.cells #[.int .u32 0, .int .u32 0, .int .u16 0, .int .u8 0, .int .i64 0, .int .u64 0] 29)).frozen? ⟨W0.heap.size, i, none⟩ = false := fun i => frozen_of_row _ _ i _ _ qA
      have a0 := cell_of_row (W0.alloc (.cells #[.int .u32 0, .int .u32 0, .int .u16 0, .int .u8 0, .int .i64 0, .int .u64 0] 29)) W0.heap.size 0 _ _ _ qA
      have a1 := cell_of_row (W0.alloc (.cells #[.int .u32 0, .int .u32 0, .int .u16 0, .int .u8 0, .int .i64 0, .int .u64 0] 29)) W0.heap.size 1 _ _ _ qA
      have a2 := cell_of_row (W0.alloc (.cells #[.int .u32 0, .int .u32 0, .int .u16 0, .int .u8 0, .int .i64 0, .int .u64 0] 29)) W0.heap.size 2 _ _ _ qA
      have a3 := cell_of_row (W0.alloc (.cells #[.int .u32 0, .int .u32 0, .int .u16 0, .int .u8 0, .int .i64 0, .int .u64 0] 29)) W0.heap.size 3 _ _ _ qA
      have a4 := cell_of_row (W0.alloc (.cells #[.int .u32 0, .int .u32 0, .int .u16 0, .int .u8 0, .int .i64 0, .int .u64 0] 29)) W0.heap.size 4 _ _ _ qA
      have a5 := cell_of_row (W0.alloc (.cells #[.int .u32 0, .int .u32 0, .int .u16 0, .int .u8 0, .int .i64 0, .int .u64 0] 29)) W0.heap.size 5 _ _ _ qA
      simp at a0 a1 a2 a3 a4 a5
      clear hW0 qA hcv
      refine wpAnyH_take (i := 0) (oi := ?oi0x1) (v := ?v0x1) ?hi0x1 ?hs0x1 ?hf0x1 ?hr0x1 ?hQ0x1 ?hy0x1 ?hS0x1 ?h0x1
      case hi0x1 => exact (by simp only [List.getElem?_toArray, List.getElem?_cons_zero]; rfl)
      case hs0x1 => kernel_rfl
      case hf0x1 => kernel_rfl
      case hr0x1 => kernel_rfl
      case hQ0x1 => exact fun _ _ _ h => h
      case hy0x1 =>
        refine Or.inl ⟨rfl, ?_⟩
        intro W hSw
        go_simp
        try with_reducible rfl
      case hS0x1 => assumption
      try simp only [Act.put, List.setIfInBounds_toArray, List.set_cons_zero, List.set_cons_succ]
      refine wpAnyH_take (i := 1) (oi := ?oi1x2) (v := ?v1x2) ?hi1x2 ?hs1x2 ?hf1x2 ?hr1x2 ?hQ1x2 ?hy1x2 ?hS1x2 ?h1x2
      case hi1x2 => exact (by simp only [List.getElem?_toArray, List.getElem?_cons_succ, List.getElem?_cons_zero]; rfl)
      case hs1x2 => kernel_rfl
      case hf1x2 => kernel_rfl
      case hr1x2 => kernel_rfl
      case hQ1x2 => exact fun _ _ _ h => h
      case hy1x2 =>
        refine Or.inl ⟨rfl, ?_⟩
        intro W hSw
        go_simp
        try with_reducible rfl
      case hS1x2 => assumption
      try simp only [Act.put, List.setIfInBounds_toArray, List.set_cons_zero, List.set_cons_succ]
      refine wpAnyH_take (i := 4) (oi := ?oi4x3) (v := ?v4x3) ?hi4x3 ?hs4x3 ?hf4x3 ?hr4x3 ?hQ4x3 ?hy4x3 ?hS4x3 ?h4x3
      case hi4x3 => exact (by simp only [List.getElem?_toArray, List.getElem?_cons_succ, List.getElem?_cons_zero]; rfl)
      case hs4x3 => kernel_rfl
      case hf4x3 => kernel_rfl
      case hr4x3 => kernel_rfl
      case hQ4x3 => exact fun _ _ _ h => h
      case hy4x3 =>
        refine Or.inl ⟨rfl, ?_⟩
        intro W hSw
        go_simp
        try with_reducible rfl
      case hS4x3 => assumption
      try simp only [Act.put, List.setIfInBounds_toArray, List.set_cons_zero, List.set_cons_succ]
      refine wpAnyH_take (i := 5) (oi := ?oi5x4) (v := ?v5x4) ?hi5x4 ?hs5x4 ?hf5x4 ?hr5x4 ?hQ5x4 ?hy5x4 ?hS5x4 ?h5x4
      case hi5x4 => exact (by simp only [List.getElem?_toArray, List.getElem?_cons_succ, List.getElem?_cons_zero]; rfl)
      case hs5x4 => kernel_rfl
      case hf5x4 => kernel_rfl
      case hr5x4 => kernel_rfl
      case hQ5x4 => exact fun _ _ _ h => h
      case hy5x4 =>
        refine Or.inl ⟨rfl, ?_⟩
        intro W hSw
        go_simp
        try with_reducible rfl
      case hS5x4 => assumption
      try simp only [Act.put, List.setIfInBounds_toArray, List.set_cons_zero, List.set_cons_succ]
      refine wpAnyH_take (i := 8) (oi := ?oi8x5) (v := ?v8x5) ?hi8x5 ?hs8x5 ?hf8x5 ?hr8x5 ?hQ8x5 ?hy8x5 ?hS8x5 ?h8x5
      case hi8x5 => exact (by simp only [List.getElem?_toArray, List.getElem?_cons_succ, List.getElem?_cons_zero]; rfl)
      case hs8x5 => kernel_rfl
      case hf8x5 => kernel_rfl
      case hr8x5 => kernel_rfl
      case hQ8x5 => exact fun _ _ _ h => h
      case hy8x5 =>
        refine Or.inl ⟨rfl, ?_⟩
        intro W hSw
        go_simp
        try with_reducible rfl
      case hS8x5 => assumption
      try simp only [Act.put, List.setIfInBounds_toArray, List.set_cons_zero, List.set_cons_succ]
      refine wpAnyH_take (i := 9) (oi := ?oi9x6) (v := ?v9x6) ?hi9x6 ?hs9x6 ?hf9x6 ?hr9x6 ?hQ9x6 ?hy9x6 ?hS9x6 ?h9x6
      case hi9x6 => exact (by simp only [List.getElem?_toArray, List.getElem?_cons_succ, List.getElem?_cons_zero]; rfl)
      case hs9x6 => kernel_rfl
      case hf9x6 => kernel_rfl
      case hr9x6 => kernel_rfl
      case hQ9x6 => exact fun _ _ _ h => h
      case hy9x6 =>
        refine Or.inl ⟨rfl, ?_⟩
        intro W hSw
        go_simp
        try with_reducible rfl
      case hS9x6 => assumption
      try simp only [Act.put, List.setIfInBounds_toArray, List.set_cons_zero, List.set_cons_succ]
      refine wpAnyH_take (i := 12) (oi := ?oi12x7) (v := ?v12x7) ?hi12x7 ?hs12x7 ?hf12x7 ?hr12x7 ?hQ12x7 ?hy12x7 ?hS12x7 ?h12x7
      case hi12x7 => exact (by simp only [List.getElem?_toArray, List.getElem?_cons_succ, List.getElem?_cons_zero]; rfl)
      case hs12x7 => kernel_rfl
      case hf12x7 => kernel_rfl
      case hr12x7 => kernel_rfl
      case hQ12x7 => exact fun _ _ _ h => h
      case hy12x7 =>
        refine Or.inl ⟨rfl, ?_⟩
        intro W hSw
        go_simp
        try with_reducible rfl
      case hS12x7 => assumption
      try simp only [Act.put, List.setIfInBounds_toArray, List.set_cons_zero, List.set_cons_succ]
      refine wpAnyH_take (i := 13) (oi := ?oi13x8) (v := ?v13x8) ?hi13x8 ?hs13x8 ?hf13x8 ?hr13x8 ?hQ13x8 ?hy13x8 ?hS13x8 ?h13x8
      case hi13x8 => exact (by simp only [List.getElem?_toArray, List.getElem?_cons_succ, List.getElem?_cons_zero]; rfl)
      case hs13x8 => kernel_rfl
      case hf13x8 => kernel_rfl
      case hr13x8 => kernel_rfl
      case hQ13x8 => exact fun _ _ _ h => h
      case hy13x8 =>
        refine Or.inl ⟨rfl, ?_⟩
        intro W hSw
        go_simp
        try with_reducible rfl
      case hS13x8 => assumption
      try simp only [Act.put, List.setIfInBounds_toArray, List.set_cons_zero, List.set_cons_succ]
      refine wpAnyH_take (i := 14) (oi := ?oi14x9) (v := ?v14x9) ?hi14x9 ?hs14x9 ?hf14x9 ?hr14x9 ?hQ14x9 ?hy14x9 ?hS14x9 ?h14x9
      case hi14x9 => exact (by simp only [List.getElem?_toArray, List.getElem?_cons_succ, List.getElem?_cons_zero]; rfl)
      case hs14x9 => kernel_rfl
      case hf14x9 => kernel_rfl
      case hr14x9 => kernel_rfl
      case hQ14x9 => exact fun _ _ _ h => h
      case hy14x9 =>
        refine Or.inl ⟨rfl, ?_⟩
        intro W hSw
        go_simp
        try with_reducible rfl
      case hS14x9 => assumption
      try simp only [Act.put, List.setIfInBounds_toArray, List.set_cons_zero, List.set_cons_succ]
      refine wpAnyH_take (i := 15) (oi := ?oi15x10) (v := ?v15x10) ?hi15x10 ?hs15x10 ?hf15x10 ?hr15x10 ?hQ15x10 ?hy15x10 ?hS15x10 ?h15x10
      case hi15x10 => exact (by simp only [List.getElem?_toArray, List.getElem?_cons_succ, List.getElem?_cons_zero]; rfl)
      case hs15x10 => kernel_rfl
      case hf15x10 => kernel_rfl
      case hr15x10 => kernel_rfl
      case hQ15x10 => exact fun _ _ _ h => h
      case hy15x10 =>
        refine Or.inl ⟨rfl, ?_⟩
        intro W hSw
        go_simp
        try with_reducible rfl
      case hS15x10 => assumption
      try simp only [Act.put, List.setIfInBounds_toArray, List.set_cons_zero, List.set_cons_succ]
      refine wpAnyH_take (i := 16) (oi := ?oi16x11) (v := ?v16x11) ?hi16x11 ?hs16x11 ?hf16x11 ?hr16x11 ?hQ16x11 ?hy16x11 ?hS16x11 ?h16x11
      case hi16x11 => exact (by simp only [List.getElem?_toArray, List.getElem?_cons_succ, List.getElem?_cons_zero]; rfl)
      case hs16x11 => kernel_rfl
      case hf16x11 => kernel_rfl
      case hr16x11 => kernel_rfl
      case hQ16x11 => exact fun _ _ _ h => h
      case hy16x11 =>
        refine Or.inl ⟨rfl, ?_⟩
        intro W hSw
        go_simp
        try with_reducible rfl
      case hS16x11 => assumption
      try simp only [Act.put, List.setIfInBounds_toArray, List.set_cons_zero, List.set_cons_succ]
      refine wpAnyH_take (i := 19) (oi := ?oi19x12) (v := ?v19x12) ?hi19x12 ?hs19x12 ?hf19x12 ?hr19x12 ?hQ19x12 ?hy19x12 ?hS19x12 ?h19x12
      case hi19x12 => exact (by simp only [List.getElem?_toArray, List.getElem?_cons_succ, List.getElem?_cons_zero]; rfl)
      case hs19x12 => kernel_rfl
      case hf19x12 => kernel_rfl
      case hr19x12 => kernel_rfl
      case hQ19x12 => exact fun _ _ _ h => h
      case hy19x12 =>
        refine Or.inl ⟨rfl, ?_⟩
        intro W hSw
        go_simp
        try with_reducible rfl
      case hS19x12 => assumption
      try simp only [Act.put, List.setIfInBounds_toArray, List.set_cons_zero, List.set_cons_succ]
      refine wpAnyH_take (i := 20) (oi := ?oi20x13) (v := ?v20x13) ?hi20x13 ?hs20x13 ?hf20x13 ?hr20x13 ?hQ20x13 ?hy20x13 ?hS20x13 ?h20x13
      case hi20x13 => exact (by simp only [List.getElem?_toArray, List.getElem?_cons_succ, List.getElem?_cons_zero]; rfl)
      case hs20x13 => kernel_rfl
      case hf20x13 => kernel_rfl
      case hr20x13 => kernel_rfl
      case hQ20x13 => exact fun _ _ _ h => h
      case hy20x13 =>
        refine Or.inl ⟨rfl, ?_⟩
        intro W hSw
        go_simp
        try with_reducible rfl
      case hS20x13 => assumption
      try simp only [Act.put, List.setIfInBounds_toArray, List.set_cons_zero, List.set_cons_succ]
      refine wpAnyH_ready (rs := [2, 23]) (by kernel_rfl) (by simp) ?_
      refine AllReadyH.cons (o := _) rfl (fun K hK => ?_) (AllReadyH.cons (o := _) rfl (fun K hK => ?_) AllReadyH.nil)
      · go_simp
        refine (HN1.out _ HD.out).mono ?_
        rintro e wX ⟨rfl, rfl⟩
        refine hK.out _ _ hHeld (fun hHeld => ?_)
        clear hK K
        try simp only [Act.put, List.setIfInBounds_toArray, List.set_cons_zero, List.set_cons_succ]
        refine wpAnyH_take (i := 3) (oi := ?oi3x14) (v := ?v3x14) ?hi3x14 ?hs3x14 ?hf3x14 ?hr3x14 ?hQ3x14 ?hy3x14 ?hS3x14 ?h3x14
        case hi3x14 => exact (by simp only [List.getElem?_toArray, List.getElem?_cons_succ, List.getElem?_cons_zero]; rfl)
        case hs3x14 => kernel_rfl
        case hf3x14 => kernel_rfl
        case hr3x14 => kernel_rfl
        case hQ3x14 => exact fun _ _ _ h => h
        case hy3x14 =>
          refine Or.inl ⟨rfl, ?_⟩
          intro W hSw
          go_simp
          try with_reducible rfl
        case hS3x14 => assumption
        try simp only [Act.put, List.setIfInBounds_toArray, List.set_cons_zero, List.set_cons_succ]
        refine wpAnyH_ready (rs := [6, 23]) (by kernel_rfl) (by simp) ?_
        refine AllReadyH.cons (o := _) rfl (fun K hK => ?_) (AllReadyH.cons (o := _) rfl (fun K hK => ?_) AllReadyH.nil)
        · go_simp
          refine (HN2.out _ HD.out).mono ?_
          rintro e wX ⟨rfl, rfl⟩
          refine hK.out _ _ hHeld (fun hHeld => ?_)
          clear hK K
          try simp only [Act.put, List.setIfInBounds_toArray, List.set_cons_zero, List.set_cons_succ]
          refine wpAnyH_take (i := 7) (oi := ?oi7x15) (v := ?v7x15) ?hi7x15 ?hs7x15 ?hf7x15 ?hr7x15 ?hQ7x15 ?hy7x15 ?hS7x15 ?h7x15
          case hi7x15 => exact (by simp only [List.getElem?_toArray, List.getElem?_cons_succ, List.getElem?_cons_zero]; rfl)
          case hs7x15 => kernel_rfl
          case hf7x15 => kernel_rfl
          case hr7x15 => kernel_rfl
          case hQ7x15 => exact fun _ _ _ h => h
          case hy7x15 =>
            refine Or.inl ⟨rfl, ?_⟩
            intro W hSw
            go_simp
            try with_reducible rfl
          case hS7x15 => assumption
          try simp only [Act.put, List.setIfInBounds_toArray, List.set_cons_zero, List.set_cons_succ]
          refine wpAnyH_ready (rs := [10, 23]) (by kernel_rfl) (by simp) ?_
          refine AllReadyH.cons (o := _) rfl (fun K hK => ?_) (AllReadyH.cons (o := _) rfl (fun K hK => ?_) AllReadyH.nil)
          · go_simp
            refine (HN3.out _ HD.out).mono ?_
            rintro e wX ⟨rfl, rfl⟩
            refine hK.out _ _ hHeld (fun hHeld => ?_)
            clear hK K
            try simp only [Act.put, List.setIfInBounds_toArray, List.set_cons_zero, List.set_cons_succ]
            refine wpAnyH_take (i := 11) (oi := ?oi11x16) (v := ?v11x16) ?hi11x16 ?hs11x16 ?hf11x16 ?hr11x16 ?hQ11x16 ?hy11x16 ?hS11x16 ?h11x16
            case hi11x16 => exact (by simp only [List.getElem?_toArray, List.getElem?_cons_succ, List.getElem?_cons_zero]; rfl)
            case hs11x16 => kernel_rfl
            case hf11x16 => kernel_rfl
            case hr11x16 => kernel_rfl
            case hQ11x16 => exact fun _ _ _ h => h
            case hy11x16 =>
              refine Or.inl ⟨rfl, ?_⟩
              intro W hSw
              go_simp
              try with_reducible rfl
            case hS11x16 => assumption
            try simp only [Act.put, List.setIfInBounds_toArray, List.set_cons_zero, List.set_cons_succ]
            refine wpAnyH_ready (rs := [17, 23]) (by kernel_rfl) (by simp) ?_
            refine AllReadyH.cons (o := _) rfl (fun K hK => ?_) (AllReadyH.cons (o := _) rfl (fun K hK => ?_) AllReadyH.nil)
            · go_simp
              refine (HN5.out _ HD.out).mono ?_
              rintro e wX ⟨rfl, rfl⟩
              refine hK.out _ _ hHeld (fun hHeld => ?_)
              clear hK K
              try simp only [Act.put, List.setIfInBounds_toArray, List.set_cons_zero, List.set_cons_succ]
              refine wpAnyH_take (i := 18) (oi := ?oi18x17) (v := ?v18x17) ?hi18x17 ?hs18x17 ?hf18x17 ?hr18x17 ?hQ18x17 ?hy18x17 ?hS18x17 ?h18x17
              case hi18x17 => exact (by simp only [List.getElem?_toArray, List.getElem?_cons_succ, List.getElem?_cons_zero]; rfl)
              case hs18x17 => kernel_rfl
              case hf18x17 => kernel_rfl
              case hr18x17 => kernel_rfl
              case hQ18x17 => exact fun _ _ _ h => h
              case hy18x17 =>
                refine Or.inl ⟨rfl, ?_⟩
                intro W hSw
                go_simp
                try with_reducible rfl
              case hS18x17 => assumption
              try simp only [Act.put, List.setIfInBounds_toArray, List.set_cons_zero, List.set_cons_succ]
              refine wpAnyH_ready (rs := [21, 23]) (by kernel_rfl) (by simp) ?_
              refine AllReadyH.cons (o := _) rfl (fun K hK => ?_) (AllReadyH.cons (o := _) rfl (fun K hK => ?_) AllReadyH.nil)
              · go_simp
                refine (HN6.out _ HD.out).mono ?_
                rintro e wX ⟨rfl, rfl⟩
                refine hK.out _ _ hHeld (fun hHeld => ?_)
                clear hK K
                try simp only [Act.put, List.setIfInBounds_toArray, List.set_cons_zero, List.set_cons_succ]
                refine wpAnyH_take (i := 22) (oi := ?oi22x18) (v := ?v22x18) ?hi22x18 ?hs22x18 ?hf22x18 ?hr22x18 ?hQ22x18 ?hy22x18 ?hS22x18 ?h22x18
                case hi22x18 => exact (by simp only [List.getElem?_toArray, List.getElem?_cons_succ, List.getElem?_cons_zero]; rfl)
                case hs22x18 => kernel_rfl
                case hf22x18 => kernel_rfl
                case hr22x18 => kernel_rfl
                case hQ22x18 => exact fun _ _ _ h => h
                case hy22x18 =>
                  refine Or.inl ⟨rfl, ?_⟩
                  intro W hSw
                  go_simp
                  try with_reducible rfl
                case hS22x18 => assumption
                try simp only [Act.put, List.setIfInBounds_toArray, List.set_cons_zero, List.set_cons_succ]
                refine wpAnyH_ready (rs := [23]) (by kernel_rfl) (by simp) ?_
                refine AllReadyH.cons (o := _) rfl (fun K hK => ?_) AllReadyH.nil
                go_simp
                refine hK.out _ _ hHeldA.out (fun hHeld => ?_)
                clear hK K
                try simp only [Act.put, List.setIfInBounds_toArray, List.set_cons_zero, List.set_cons_succ]
                refine wpAnyH_ready (rs := [24]) (by kernel_rfl) (by simp) ?_
                refine AllReadyH.cons (o := _) rfl (fun K hK => ?_) AllReadyH.nil
                go_simp
                refine hK.out _ _ hHeldB.out (fun hHeld => ?_)
                clear hK K
                try simp only [Act.put, List.setIfInBounds_toArray, List.set_cons_zero, List.set_cons_succ]
                refine wpAnyH_done (by kernel_rfl) ?_ _
                try go_wp2_with fail
                go_meet
                exact ⟨_, rfl, Lib.hid ⟨heap_alloc_new W0 _, HD.out.alloc HD.out.size _⟩⟩
              · go_simp
                refine hK.out _ _ hHeldA.out (fun hHeld => ?_)
                clear hK K
                try simp only [Act.put, List.setIfInBounds_toArray, List.set_cons_zero, List.set_cons_succ]
                refine wpAnyH_ready (rs := [21]) (by kernel_rfl) (by simp) ?_
                refine AllReadyH.cons (o := _) rfl (fun K hK => ?_) AllReadyH.nil
                go_simp
                refine (HN6.out _ HDA.out).mono ?_
                rintro e wX ⟨rfl, rfl⟩
                refine hK.out _ _ hHeldA.out (fun hHeld => ?_)
                clear hK K
                try simp only [Act.put, List.setIfInBounds_toArray, List.set_cons_zero, List.set_cons_succ]
                refine wpAnyH_take (i := 22) (oi := ?oi22x19) (v := ?v22x19) ?hi22x19 ?hs22x19 ?hf22x19 ?hr22x19 ?hQ22x19 ?hy22x19 ?hS22x19 ?h22x19
                case hi22x19 => exact (by simp only [List.getElem?_toArray, List.getElem?_cons_succ, List.getElem?_cons_zero]; rfl)
                case hs22x19 => kernel_rfl
                case hf22x19 => kernel_rfl
                case hr22x19 => kernel_rfl
                case hQ22x19 => exact fun _ _ _ h => h
                case hy22x19 =>
                  refine Or.inl ⟨rfl, ?_⟩
                  intro W hSw
                  go_simp
                  try with_reducible rfl
                case hS22x19 => assumption
                try simp only [Act.put, List.setIfInBounds_toArray, List.set_cons_zero, List.set_cons_succ]
                refine wpAnyH_ready (rs := [24]) (by kernel_rfl) (by simp) ?_
                refine AllReadyH.cons (o := _) rfl (fun K hK => ?_) AllReadyH.nil
                go_simp
                refine hK.out _ _ hHeldB.out (fun hHeld => ?_)
                clear hK K
                try simp only [Act.put, List.setIfInBounds_toArray, List.set_cons_zero, List.set_cons_succ]
                refine wpAnyH_done (by kernel_rfl) ?_ _
                try go_wp2_with fail
                go_meet
                exact ⟨_, rfl, Lib.hid ⟨heap_alloc_new W0 _, HD.out.alloc HD.out.size _⟩⟩
            · go_simp
              refine hK.out _ _ hHeldA.out (fun hHeld => ?_)
              clear hK K
              try simp only [Act.put, List.setIfInBounds_toArray, List.set_cons_zero, List.set_cons_succ]
              refine wpAnyH_ready (rs := [17]) (by kernel_rfl) (by simp) ?_
              refine AllReadyH.cons (o := _) rfl (fun K hK => ?_) AllReadyH.nil
              go_simp
              refine (HN5.out _ HDA.out).mono ?_
              rintro e wX ⟨rfl, rfl⟩
              refine hK.out _ _ hHeldA.out (fun hHeld => ?_)
              clear hK K
              try simp only [Act.put, List.setIfInBounds_toArray, List.set_cons_zero, List.set_cons_succ]
              refine wpAnyH_take (i := 18) (oi := ?oi18x20) (v := ?v18x20) ?hi18x20 ?hs18x20 ?hf18x20 ?hr18x20 ?hQ18x20 ?hy18x20 ?hS18x20 ?h18x20
              case hi18x20 => exact (by simp only [List.getElem?_toArray, List.getElem?_cons_succ, List.getElem?_cons_zero]; rfl)
              case hs18x20 => kernel_rfl
              case hf18x20 => kernel_rfl
              case hr18x20 => kernel_rfl
              case hQ18x20 => exact fun _ _ _ h => h
              case hy18x20 =>
                refine Or.inl ⟨rfl, ?_⟩
                intro W hSw
                go_simp
                try with_reducible rfl
              case hS18x20 => assumption
              try simp only [Act.put, List.setIfInBounds_toArray, List.set_cons_zero, List.set_cons_succ]
              refine wpAnyH_ready (rs := [21]) (by kernel_rfl) (by simp) ?_
              refine AllReadyH.cons (o := _) rfl (fun K hK => ?_) AllReadyH.nil
              go_simp
              refine (HN6.out _ HDA.out).mono ?_
              rintro e wX ⟨rfl, rfl⟩
              refine hK.out _ _ hHeldA.out (fun hHeld => ?_)
              clear hK K
              try simp only [Act.put, List.setIfInBounds_toArray, List.set_cons_zero, List.set_cons_succ]
              refine wpAnyH_take (i := 22) (oi := ?oi22x21) (v := ?v22x21) ?hi22x21 ?hs22x21 ?hf22x21 ?hr22x21 ?hQ22x21 ?hy22x21 ?hS22x21 ?h22x21
              case hi22x21 => exact (by simp only [List.getElem?_toArray, List.getElem?_cons_succ, List.getElem?_cons_zero]; rfl)
              case hs22x21 => kernel_rfl
              case hf22x21 => kernel_rfl
              case hr22x21 => kernel_rfl
              case hQ22x21 => exact fun _ _ _ h => h
              case hy22x21 =>
                refine Or.inl ⟨rfl, ?_⟩
                intro W hSw
                go_simp
                try with_reducible rfl
              case hS22x21 => assumption
              try simp only [Act.put, List.setIfInBounds_toArray, List.set_cons_zero, List.set_cons_succ]
              refine wpAnyH_ready (rs := [24]) (by kernel_rfl) (by simp) ?_
              refine AllReadyH.cons (o := _) rfl (fun K hK => ?_) AllReadyH.nil
              go_simp
              refine hK.out _ _ hHeldB.out (fun hHeld => ?_)
              clear hK K
              try simp only [Act.put, List.setIfInBounds_toArray, List.set_cons_zero, List.set_cons_succ]
              refine wpAnyH_done (by kernel_rfl) ?_ _
              try go_wp2_with fail
              go_meet
              exact ⟨_, rfl, Lib.hid ⟨heap_alloc_new W0 _, HD.out.alloc HD.out.size _⟩⟩
          · go_simp
            refine hK.out _ _ hHeldA.out (fun hHeld => ?_)
            clear hK K
            try simp only [Act.put, List.setIfInBounds_toArray, List.set_cons_zero, List.set_cons_succ]
            refine wpAnyH_ready (rs := [10]) (by kernel_rfl) (by simp) ?_
            refine AllReadyH.cons (o := _) rfl (fun K hK => ?_) AllReadyH.nil
            go_simp
            refine (HN3.out _ HDA.out).mono ?_
            rintro e wX ⟨rfl, rfl⟩
            refine hK.out _ _ hHeldA.out (fun hHeld => ?_)
            clear hK K
            try simp only [Act.put, List.setIfInBounds_toArray, List.set_cons_zero, List.set_cons_succ]
            refine wpAnyH_take (i := 11) (oi := ?oi11x22) (v := ?v11x22) ?hi11x22 ?hs11x22 ?hf11x22 ?hr11x22 ?hQ11x22 ?hy11x22 ?hS11x22 ?h11x22
            case hi11x22 => exact (by simp only [List.getElem?_toArray, List.getElem?_cons_succ, List.getElem?_cons_zero]; rfl)
            case hs11x22 => kernel_rfl
            case hf11x22 => kernel_rfl
            case hr11x22 => kernel_rfl
            case hQ11x22 => exact fun _ _ _ h => h
            case hy11x22 =>
              refine Or.inl ⟨rfl, ?_⟩
              intro W hSw
              go_simp
              try with_reducible rfl
            case hS11x22 => assumption
            try simp only [Act.put, List.setIfInBounds_toArray, List.set_cons_zero, List.set_cons_succ]
            refine wpAnyH_ready (rs := [17]) (by kernel_rfl) (by simp) ?_
            refine AllReadyH.cons (o := _) rfl (fun K hK => ?_) AllReadyH.nil
            go_simp
            refine (HN5.out _ HDA.out).mono ?_
            rintro e wX ⟨rfl, rfl⟩
            refine hK.out _ _ hHeldA.out (fun hHeld => ?_)
            clear hK K
            try simp only [Act.put, List.setIfInBounds_toArray, List.set_cons_zero, List.set_cons_succ]
            refine wpAnyH_take (i := 18) (oi := ?oi18x23) (v := ?v18x23) ?hi18x23 ?hs18x23 ?hf18x23 ?hr18x23 ?hQ18x23 ?hy18x23 ?hS18x23 ?h18x23
            case hi18x23 => exact (by simp only [List.getElem?_toArray, List.getElem?_cons_succ, List.getElem?_cons_zero]; rfl)
            case hs18x23 => kernel_rfl
            case hf18x23 => kernel_rfl
            case hr18x23 => kernel_rfl
            case hQ18x23 => exact fun _ _ _ h => h
            case hy18x23 =>
              refine Or.inl ⟨rfl, ?_⟩
              intro W hSw
              go_simp
              try with_reducible rfl
            case hS18x23 => assumption
            try simp only [Act.put, List.setIfInBounds_toArray, List.set_cons_zero, List.set_cons_succ]
            refine wpAnyH_ready (rs := [21]) (by kernel_rfl) (by simp) ?_
            refine AllReadyH.cons (o := _) rfl (fun K hK => ?_) AllReadyH.nil
            go_simp
            refine (HN6.out _ HDA.out).mono ?_
            rintro e wX ⟨rfl, rfl⟩
            refine hK.out _ _ hHeldA.out (fun hHeld => ?_)
            clear hK K
            try simp only [Act.put, List.setIfInBounds_toArray, List.set_cons_zero, List.set_cons_succ]
            refine wpAnyH_take (i := 22) (oi := ?oi22x24) (v := ?v22x24) ?hi22x24 ?hs22x24 ?hf22x24 ?hr22x24 ?hQ22x24 ?hy22x24 ?hS22x24 ?h22x24
            case hi22x24 => exact (by simp only [List.getElem?_toArray, List.getElem?_cons_succ, List.getElem?_cons_zero]; rfl)
            case hs22x24 => kernel_rfl
            case hf22x24 => kernel_rfl
            case hr22x24 => kernel_rfl
            case hQ22x24 => exact fun _ _ _ h => h
            case hy22x24 =>
              refine Or.inl ⟨rfl, ?_⟩
              intro W hSw
              go_simp
              try with_reducible rfl
            case hS22x24 => assumption
            try simp only [Act.put, List.setIfInBounds_toArray, List.set_cons_zero, List.set_cons_succ]
            refine wpAnyH_ready (rs := [24]) (by kernel_rfl) (by simp) ?_
            refine AllReadyH.cons (o := _) rfl (fun K hK => ?_) AllReadyH.nil
            go_simp
            refine hK.out _ _ hHeldB.out (fun hHeld => ?_)
            clear hK K
            try simp only [Act.put, List.setIfInBounds_toArray, List.set_cons_zero, List.set_cons_succ]
            refine wpAnyH_done (by kernel_rfl) ?_ _
            try go_wp2_with fail
            go_meet
            exact ⟨_, rfl, Lib.hid ⟨heap_alloc_new W0 _, HD.out.alloc HD.out.size _⟩⟩
        · go_simp
          refine hK.out _ _ hHeldA.out (fun hHeld => ?_)
          clear hK K
          try simp only [Act.put, List.setIfInBounds_toArray, List.set_cons_zero, List.set_cons_succ]
          refine wpAnyH_ready (rs := [6]) (by kernel_rfl) (by simp) ?_
          refine AllReadyH.cons (o := _) rfl (fun K hK => ?_) AllReadyH.nil
          go_simp
          refine (HN2.out _ HDA.out).mono ?_
          rintro e wX ⟨rfl, rfl⟩
          refine hK.out _ _ hHeldA.out (fun hHeld => ?_)
          clear hK K
          try simp only [Act.put, List.setIfInBounds_toArray, List.set_cons_zero, List.set_cons_succ]
          refine wpAnyH_take (i := 7) (oi := ?oi7x25) (v := ?v7x25) ?hi7x25 ?hs7x25 ?hf7x25 ?hr7x25 ?hQ7x25 ?hy7x25 ?hS7x25 ?h7x25
          case hi7x25 => exact (by simp only [List.getElem?_toArray, List.getElem?_cons_succ, List.getElem?_cons_zero]; rfl)
          case hs7x25 => kernel_rfl
          case hf7x25 => kernel_rfl
          case hr7x25 => kernel_rfl
          case hQ7x25 => exact fun _ _ _ h => h
          case hy7x25 =>
            refine Or.inl ⟨rfl, ?_⟩
            intro W hSw
            go_simp
            try with_reducible rfl
          case hS7x25 => assumption
          try simp only [Act.put, List.setIfInBounds_toArray, List.set_cons_zero, List.set_cons_succ]
          refine wpAnyH_ready (rs := [10]) (by kernel_rfl) (by simp) ?_
          refine AllReadyH.cons (o := _) rfl (fun K hK => ?_) AllReadyH.nil
          go_simp
          refine (HN3.out _ HDA.out).mono ?_
          rintro e wX ⟨rfl, rfl⟩
          refine hK.out _ _ hHeldA.out (fun hHeld => ?_)
          clear hK K
          try simp only [Act.put, List.setIfInBounds_toArray, List.set_cons_zero, List.set_cons_succ]
          refine wpAnyH_take (i := 11) (oi := ?oi11x26) (v := ?v11x26) ?hi11x26 ?hs11x26 ?hf11x26 ?hr11x26 ?hQ11x26 ?hy11x26 ?hS11x26 ?h11x26
          case hi11x26 => exact (by simp only [List.getElem?_toArray, List.getElem?_cons_succ, List.getElem?_cons_zero]; rfl)
          case hs11x26 => kernel_rfl
          case hf11x26 => kernel_rfl
          case hr11x26 => kernel_rfl
          case hQ11x26 => exact fun _ _ _ h => h
          case hy11x26 =>
            refine Or.inl ⟨rfl, ?_⟩
            intro W hSw
            go_simp
            try with_reducible rfl
          case hS11x26 => assumption
          try simp only [Act.put, List.setIfInBounds_toArray, List.set_cons_zero, List.set_cons_succ]
          refine wpAnyH_ready (rs := [17]) (by kernel_rfl) (by simp) ?_
          refine AllReadyH.cons (o := _) rfl (fun K hK => ?_) AllReadyH.nil
          go_simp
          refine (HN5.out _ HDA.out).mono ?_
          rintro e wX ⟨rfl, rfl⟩
          refine hK.out _ _ hHeldA.out (fun hHeld => ?_)
          clear hK K
          try simp only [Act.put, List.setIfInBounds_toArray, List.set_cons_zero, List.set_cons_succ]
          refine wpAnyH_take (i := 18) (oi := ?oi18x27) (v := ?v18x27) ?hi18x27 ?hs18x27 ?hf18x27 ?hr18x27 ?hQ18x27 ?hy18x27 ?hS18x27 ?h18x27
          case hi18x27 => exact (by simp only [List.getElem?_toArray, List.getElem?_cons_succ, List.getElem?_cons_zero]; rfl)
          case hs18x27 => kernel_rfl
          case hf18x27 => kernel_rfl
          case hr18x27 => kernel_rfl
          case hQ18x27 => exact fun _ _ _ h => h
          case hy18x27 =>
            refine Or.inl ⟨rfl, ?_⟩
            intro W hSw
            go_simp
            try with_reducible rfl
          case hS18x27 => assumption
          try simp only [Act.put, List.setIfInBounds_toArray, List.set_cons_zero, List.set_cons_succ]
          refine wpAnyH_ready (rs := [21]) (by kernel_rfl) (by simp) ?_
          refine AllReadyH.cons (o := _) rfl (fun K hK => ?_) AllReadyH.nil
          go_simp
          refine (HN6.out _ HDA.out).mono ?_
          rintro e wX ⟨rfl, rfl⟩
          refine hK.out _ _ hHeldA.out (fun hHeld => ?_)
          clear hK K
          try simp only [Act.put, List.setIfInBounds_toArray, List.set_cons_zero, List.set_cons_succ]
          refine wpAnyH_take (i := 22) (oi := ?oi22x28) (v := ?v22x28) ?hi22x28 ?hs22x28 ?hf22x28 ?hr22x28 ?hQ22x28 ?hy22x28 ?hS22x28 ?h22x28
          case hi22x28 => exact (by simp only [List.getElem?_toArray, List.getElem?_cons_succ, List.getElem?_cons_zero]; rfl)
          case hs22x28 => kernel_rfl
          case hf22x28 => kernel_rfl
          case hr22x28 => kernel_rfl
          case hQ22x28 => exact fun _ _ _ h => h
          case hy22x28 =>
            refine Or.inl ⟨rfl, ?_⟩
            intro W hSw
            go_simp
            try with_reducible rfl
          case hS22x28 => assumption
          try simp only [Act.put, List.setIfInBounds_toArray, List.set_cons_zero, List.set_cons_succ]
          refine wpAnyH_ready (rs := [24]) (by kernel_rfl) (by simp) ?_
          refine AllReadyH.cons (o := _) rfl (fun K hK => ?_) AllReadyH.nil
          go_simp
          refine hK.out _ _ hHeldB.out (fun hHeld => ?_)
          clear hK K
          try simp only [Act.put, List.setIfInBounds_toArray, List.set_cons_zero, List.set_cons_succ]
          refine wpAnyH_done (by kernel_rfl) ?_ _
          try go_wp2_with fail
          go_meet
          exact ⟨_, rfl, Lib.hid ⟨heap_alloc_new W0 _, HD.out.alloc HD.out.size _⟩⟩
      · go_simp
        refine hK.out _ _ hHeldA.out (fun hHeld => ?_)
        clear hK K
        try simp only [Act.put, List.setIfInBounds_toArray, List.set_cons_zero, List.set_cons_succ]
        refine wpAnyH_ready (rs := [2]) (by kernel_rfl) (by simp) ?_
        refine AllReadyH.cons (o := _) rfl (fun K hK => ?_) AllReadyH.nil
        go_simp
        refine (HN1.out _ HDA.out).mono ?_
        rintro e wX ⟨rfl, rfl⟩
        refine hK.out _ _ hHeldA.out (fun hHeld => ?_)
        clear hK K
        try simp only [Act.put, List.setIfInBounds_toArray, List.set_cons_zero, List.set_cons_succ]
        refine wpAnyH_take (i := 3) (oi := ?oi3x29) (v := ?v3x29) ?hi3x29 ?hs3x29 ?hf3x29 ?hr3x29 ?hQ3x29 ?hy3x29 ?hS3x29 ?h3x29
        case hi3x29 => exact (by simp only [List.getElem?_toArray, List.getElem?_cons_succ, List.getElem?_cons_zero]; rfl)
        case hs3x29 => kernel_rfl
        case hf3x29 => kernel_rfl
        case hr3x29 => kernel_rfl
        case hQ3x29 => exact fun _ _ _ h => h
        case hy3x29 =>
          refine Or.inl ⟨rfl, ?_⟩
          intro W hSw
          go_simp
          try with_reducible rfl
        case hS3x29 => assumption
        try simp only [Act.put, List.setIfInBounds_toArray, List.set_cons_zero, List.set_cons_succ]
        refine wpAnyH_ready (rs := [6]) (by kernel_rfl) (by simp) ?_
        refine AllReadyH.cons (o := _) rfl (fun K hK => ?_) AllReadyH.nil
        go_simp
        refine (HN2.out _ HDA.out).mono ?_
        rintro e wX ⟨rfl, rfl⟩
        refine hK.out _ _ hHeldA.out (fun hHeld => ?_)
        clear hK K
        try simp only [Act.put, List.setIfInBounds_toArray, List.set_cons_zero, List.set_cons_succ]
        refine wpAnyH_take (i := 7) (oi := ?oi7x30) (v := ?v7x30) ?hi7x30 ?hs7x30 ?hf7x30 ?hr7x30 ?hQ7x30 ?hy7x30 ?hS7x30 ?h7x30
        case hi7x30 => exact (by simp only [List.getElem?_toArray, List.getElem?_cons_succ, List.getElem?_cons_zero]; rfl)
        case hs7x30 => kernel_rfl
        case hf7x30 => kernel_rfl
        case hr7x30 => kernel_rfl
        case hQ7x30 => exact fun _ _ _ h => h
        case hy7x30 =>
          refine Or.inl ⟨rfl, ?_⟩
          intro W hSw
          go_simp
          try with_reducible rfl
        case hS7x30 => assumption
        try simp only [Act.put, List.setIfInBounds_toArray, List.set_cons_zero, List.set_cons_succ]
        refine wpAnyH_ready (rs := [10]) (by kernel_rfl) (by simp) ?_
        refine AllReadyH.cons (o := _) rfl (fun K hK => ?_) AllReadyH.nil
        go_simp
        refine (HN3.out _ HDA.out).mono ?_
        rintro e wX ⟨rfl, rfl⟩
        refine hK.out _ _ hHeldA.out (fun hHeld => ?_)
        clear hK K
        try simp only [Act.put, List.setIfInBounds_toArray, List.set_cons_zero, List.set_cons_succ]
        refine wpAnyH_take (i := 11) (oi := ?oi11x31) (v := ?v11x31) ?hi11x31 ?hs11x31 ?hf11x31 ?hr11x31 ?hQ11x31 ?hy11x31 ?hS11x31 ?h11x31
        case hi11x31 => exact (by simp only [List.getElem?_toArray, List.getElem?_cons_succ, List.getElem?_cons_zero]; rfl)
        case hs11x31 => kernel_rfl
        case hf11x31 => kernel_rfl
        case hr11x31 => kernel_rfl
        case hQ11x31 => exact fun _ _ _ h => h
        case hy11x31 =>
          refine Or.inl ⟨rfl, ?_⟩
          intro W hSw
          go_simp
          try with_reducible rfl
        case hS11x31 => assumption
        try simp only [Act.put, List.setIfInBounds_toArray, List.set_cons_zero, List.set_cons_succ]
        refine wpAnyH_ready (rs := [17]) (by kernel_rfl) (by simp) ?_
        refine AllReadyH.cons (o := _) rfl (fun K hK => ?_) AllReadyH.nil
        go_simp
        refine (HN5.out _ HDA.out).mono ?_
        rintro e wX ⟨rfl, rfl⟩
        refine hK.out _ _ hHeldA.out (fun hHeld => ?_)
        clear hK K
        try simp only [Act.put, List.setIfInBounds_toArray, List.set_cons_zero, List.set_cons_succ]
        refine wpAnyH_take (i := 18) (oi := ?oi18x32) (v := ?v18x32) ?hi18x32 ?hs18x32 ?hf18x32 ?hr18x32 ?hQ18x32 ?hy18x32 ?hS18x32 ?h18x32
        case hi18x32 => exact (by simp only [List.getElem?_toArray, List.getElem?_cons_succ, List.getElem?_cons_zero]; rfl)
        case hs18x32 => kernel_rfl
        case hf18x32 => kernel_rfl
        case hr18x32 => kernel_rfl
        case hQ18x32 => exact fun _ _ _ h => h
        case hy18x32 =>
          refine Or.inl ⟨rfl, ?_⟩
          intro W hSw
          go_simp
          try with_reducible rfl
        case hS18x32 => assumption
        try simp only [Act.put, List.setIfInBounds_toArray, List.set_cons_zero, List.set_cons_succ]
        refine wpAnyH_ready (rs := [21]) (by kernel_rfl) (by simp) ?_
        refine AllReadyH.cons (o := _) rfl (fun K hK => ?_) AllReadyH.nil
        go_simp
        refine (HN6.out _ HDA.out).mono ?_
        rintro e wX ⟨rfl, rfl⟩
        refine hK.out _ _ hHeldA.out (fun hHeld => ?_)
        clear hK K
        try simp only [Act.put, List.setIfInBounds_toArray, List.set_cons_zero, List.set_cons_succ]
        refine wpAnyH_take (i := 22) (oi := ?oi22x33) (v := ?v22x33) ?hi22x33 ?hs22x33 ?hf22x33 ?hr22x33 ?hQ22x33 ?hy22x33 ?hS22x33 ?h22x33
        case hi22x33 => exact (by simp only [List.getElem?_toArray, List.getElem?_cons_succ, List.getElem?_cons_zero]; rfl)
        case hs22x33 => kernel_rfl
        case hf22x33 => kernel_rfl
        case hr22x33 => kernel_rfl
        case hQ22x33 => exact fun _ _ _ h => h
        case hy22x33 =>
          refine Or.inl ⟨rfl, ?_⟩
          intro W hSw
          go_simp
          try with_reducible rfl
        case hS22x33 => assumption
        try simp only [Act.put, List.setIfInBounds_toArray, List.set_cons_zero, List.set_cons_succ]
        refine wpAnyH_ready (rs := [24]) (by kernel_rfl) (by simp) ?_
        refine AllReadyH.cons (o := _) rfl (fun K hK => ?_) AllReadyH.nil
        go_simp
        refine hK.out _ _ hHeldB.out (fun hHeld => ?_)
        clear hK K
        try simp only [Act.put, List.setIfInBounds_toArray, List.set_cons_zero, List.set_cons_succ]
        refine wpAnyH_done (by kernel_rfl) ?_ _
        try go_wp2_with fail
        go_meet
        exact ⟨_, rfl, Lib.hid ⟨heap_alloc_new W0 _, HD.out.alloc HD.out.size _⟩⟩
    case rest =>
      obtain ⟨G, rfl, HC⟩ := hcut
      have hbc := HW3.out.trans (HC.out.2.mono HW3.out.size)
      have e0 := cell_of_row wc G 0 _ _ _ HC.out.1
      have e1 := cell_of_row wc G 1 _ _ _ HC.out.1
      have e2 := cell_of_row wc G 2 _ _ _ HC.out.1
      have e3 := cell_of_row wc G 3 _ _ _ HC.out.1
      have e4 := cell_of_row wc G 4 _ _ _ HC.out.1
      have e5 := cell_of_row wc G 5 _ _ _ HC.out.1
      simp at e0 e1 e2 e3 e4 e5
      have hse := HSE.out wc hbc
      have HS2 := Lib.hid hse
      have HPC := Lib.hid ((HC.out.2.block w.heap.size (lt_of_block HP3.out)).trans HP3.out)
      have HBC := Lib.hid hbc
      clear hse hbc hcv hs1 hs2 hs3 hs5 hs6 f0 g0 g1 g2 g3 g4 g5
      go_wp2_with fail
      refine HS2.out.mono ?_
      rintro e w5 ⟨rfl, hb5⟩
      have hp5 := (hb5.block w.heap.size (lt_of_block HPC.out)).trans HPC.out
      have f5 : ∀ i, w5.frozen? ⟨w.heap.size, i, none⟩ = false := fun i => frozen_of_row w5 _ i _ _ hp5
      have k0 := cell_of_row w5 w.heap.size 0 _ _ _ hp5
      have k1 := cell_of_row w5 w.heap.size 1 _ _ _ hp5
      have k2 := cell_of_row w5 w.heap.size 2 _ _ _ hp5
      have k3 := cell_of_row w5 w.heap.size 3 _ _ _ hp5
      have k4 := cell_of_row w5 w.heap.size 4 _ _ _ hp5
      have k5 := cell_of_row w5 w.heap.size 5 _ _ _ hp5
      have hG5 := (hb5.block G (lt_of_block HC.out.1)).trans HC.out.1
      have m0 := cell_of_row w5 G 0 _ _ _ hG5
      have m1 := cell_of_row w5 G 1 _ _ _ hG5
      have m2 := cell_of_row w5 G 2 _ _ _ hG5
      have m3 := cell_of_row w5 G 3 _ _ _ hG5
      have m4 := cell_of_row w5 G 4 _ _ _ hG5
      have m5 := cell_of_row w5 G 5 _ _ _ hG5
      simp at k0 k1 k2 k3 k4 k5 m0 m1 m2 m3 m4 m5
      have hb05 := HBC.out.trans (hb5.mono HBC.out.size)
      clear hp5 hG5 e0 e1 e2 e3 e4 e5
      rcases fb with _ | _
      · have HX : Hid (res = (8, 0, 0, 0, 0, 0, 0)) := HRES.out
        go_wp2
        exact bodyPost_ret (v := .tuple #[tokV 0 0 0 0 0 0, .int .i64 8]) (by simp [results, Tryd.results21, go_sem, k0, k1, k2, k3, k4, k5]) rfl (by rw [HX.out]; exact ⟨rfl, (((((hb05.setCell (by simp) _).setCell (by simp) _).setCell (by simp) _).setCell (by simp) _).setCell (by simp) _).setCell (by simp) _⟩)
      · have HX : Hid (res = (0, n1, n2, n3, n4, z5, n6)) := HRES.out
        go_wp2
        exact bodyPost_ret (v := .tuple #[tokV n1 n2 n3 n4 z5 n6, .int .i64 0]) (by simp [results, Tryd.results21, go_sem, k0, k1, k2, k3, k4, k5]) rfl (by rw [HX.out]; exact ⟨rfl, (((((hb05.setCell (by simp) _).setCell (by simp) _).setCell (by simp) _).setCell (by simp) _).setCell (by simp) _).setCell (by simp) _⟩)
  · have e1 : openK (some (Sha.blockP key)) s.data.toList = (7, 0, 0, 0, 0, 0, 0) := by unfold openK; rw [if_neg hok]
    rw [e1]
    by_cases hz : s.size = 60
    · have t1 : ((s.size : Int) != 60) = false := by simp; omega
      obtain ⟨x, hx, hix⟩ := str_zero s (by omega)
      have hxm : x ≠ 106 := fun e => hok ⟨by simpa using hz, by rw [hx, e]⟩
      have t2 : ((x.toNat : Int) != 106) = true := by
        simp only [bne_iff_ne, ne_eq]
        exact fun e => hxm (UInt8.toNat_inj.1 (by rw [show (106 : UInt8).toNat = 106 from rfl]; omega))
      clear hok e1 hx hxm hv hkl
      go_enter Tryd.func21, Tryd.ntmps21
      go_upto_region 1 with (fail)
      rw [← H0.out]
      go_wp2
      exact bodyPost_ret (v := .tuple #[tokV 0 0 0 0 0 0, .int .i64 7]) (by simp [results, Tryd.results21, go_sem, g0, g1, g2, g3, g4, g5]) rfl ⟨rfl, (((((HB0.out.setCell (by simp) _).setCell (by simp) _).setCell (by simp) _).setCell (by simp) _).setCell (by simp) _).setCell (by simp) _⟩
    · have t1 : ((s.size : Int) != 60) = true := by simp; omega
      clear hok e1 hv hkl
      go_enter Tryd.func21, Tryd.ntmps21
      go_upto_region 1 with (fail)
      rw [← H0.out]
      go_wp2
      exact bodyPost_ret (v := .tuple #[tokV 0 0 0 0 0 0, .int .i64 7]) (by simp [results, Tryd.results21, go_sem, g0, g1, g2, g3, g4, g5]) rfl ⟨rfl, (((((HB0.out.setCell (by simp) _).setCell (by simp) _).setCell (by simp) _).setCell (by simp) _).setCell (by simp) _).setCell (by simp) _⟩
end Go.Proofs.YtaefgieodehceaaDoor

/- Pass: awake. -/
namespace Go.Proofs.YtaefgieodehceaaDoor
open Go.RowKit
set_option maxRecDepth 20000

theorem text_size (l : List UInt8) : (⟨l.toArray⟩ : ByteArray).size = l.length := by simp [ByteArray.size]

set_option maxHeartbeats 4000000 in
theorem pawake (w : World) (hs : Sh w) : Calls Tryd.prog 17 #[] w fun e w' => e = .returned (.bool true) ∧ Below w.heap.size w w' := by
  have hb1 : Below w.heap.size w (w.alloc (.cells #[.int .u8 107, .int .u8 101, .int .u8 121] 5 (3, 4))) := (Below.refl _ _).alloc (Nat.le_refl _) _
  have hq1 := heap_alloc_new w (.cells #[.int .u8 107, .int .u8 101, .int .u8 121] 5 (3, 4))
  have hmk := make_o (.slice (some ⟨w.heap.size, 0, none⟩) 3 3) [107, 101, 121] _ ⟨_, 3, rfl, by simp, rd_block' hq1 (by simp [bv]) (lt_of_block hq1)⟩ (hs.below hb1) (by simp)
  have HB1 := Lib.hid hb1
  have HS := Lib.hid hs
  have HMK := Lib.hid hmk
  clear hb1 hq1 hmk hs
  have kc := Lib.run_convert_bytes_const (P := Tryd.prog) w 22 5 #[.int .u8 107, .int .u8 101, .int .u8 121] 3 3 Tryd.underlying22 Tryd.underlying5
  go_enter Tryd.func17, Tryd.ntmps17
  go_wp2_with fail
  refine HMK.out.mono ?_
  rintro e w2 ⟨kv, rfl, hk, hb2⟩
  have HB2 := Lib.hid (HB1.out.trans (hb2.mono HB1.out.size))
  have HK2 := Lib.hid hk
  have H11 : Hid (Calls Tryd.prog 11 #[.agg #[.int .u32 7, .int .i64 9, .int .u64 3]] w2 fun r w' => r = .returned (.agg #[.int .u32 7, .int .i64 9, .int .u64 3]) ∧ Below w2.heap.size w2 w') := ticket_any 7 9 3 w2
  clear hk hb2
  go_wp2_with fail
  refine H11.out.mono ?_
  rintro e w3 ⟨rfl, hb3⟩
  obtain ⟨w4, hw4⟩ : ∃ w4, w4 = w3.alloc (.cells #[.int .u32 7, .int .i64 9, .int .u64 3] 35) := ⟨_, rfl⟩
  have hb34 : Below w3.heap.size w3 w4 := by rw [hw4]; exact (Below.refl _ _).alloc (Nat.le_refl _) _
  have hb24 := hb3.trans (hb34.mono hb3.size)
  have HP4 : Hid (w4.heap[w3.heap.size]? = some (.cells #[.int .u32 7, .int .i64 9, .int .u64 3] 35 (0, 0))) := by rw [hw4]; exact heap_alloc_new w3 _
  have HK4 := Lib.hid (HK2.out.below hb24)
  have HB4 := Lib.hid (HB2.out.trans (hb24.mono HB2.out.size))
  have H4 := Lib.hid hw4
  clear hw4 hb34 hb24 hb3
  go_upto_region 3 with (fail)
  rw [← H4.out]
  have c0 := cell_of_row w4 w3.heap.size 0 _ _ _ HP4.out
  have c1 := cell_of_row w4 w3.heap.size 1 _ _ _ HP4.out
  have c2 := cell_of_row w4 w3.heap.size 2 _ _ _ HP4.out
  simp at c0 c1 c2
  obtain ⟨q1, hq1⟩ : ∃ q1 : ByteArray, q1 = ⟨(sealT (some (Sha.blockP [107, 101, 121])) 7 9 3).toArray⟩ := ⟨_, rfl⟩
  have HT : Hid (Calls Tryd.prog 12 #[.agg #[.int .u32 7, .int .i64 9, .int .u64 3], kv] w4 fun r w' => r = .returned (.string q1) ∧ Below w4.heap.size w4 w') := by
    rw [hq1]
    exact tseal_any _ kv 7 9 3 w4 HK4.out (HS.out.below HB4.out) (by decide) (by decide)
  have t1 : (q1.size : Int) = 53 := by rw [hq1, text_size, sealT_len]; rfl
  clear hq1
  go_wp2_with fail
  refine HT.out.mono ?_
  rintro e w5 ⟨rfl, hb5⟩
  have HB5 := Lib.hid (HB4.out.trans (hb5.mono HB4.out.size))
  have HK5 := Lib.hid (HK4.out.below hb5)
  have HP5 := Lib.hid ((hb5.block w3.heap.size (lt_of_block HP4.out)).trans HP4.out)
  obtain ⟨q2, hq2⟩ : ∃ q2 : ByteArray, q2 = ⟨(sealK (some (Sha.blockP [107, 101, 121])) 0 0 0 0 0 0).toArray⟩ := ⟨_, rfl⟩
  have HT2 : Hid (Calls Tryd.prog 15 #[.agg #[.int .u32 0, .int .u32 0, .int .u16 0, .int .u8 0, .int .i64 0, .int .u64 0], kv] w5 fun r w' => r = .returned (.string q2) ∧ Below w5.heap.size w5 w') := by
    rw [hq2]
    exact kseal_any _ kv 0 0 0 0 0 0 w5 HK5.out (HS.out.below HB5.out) (by decide) (by decide) (by decide) (by decide) (by decide)
  have t2 : (q2.size : Int) = 60 := by rw [hq2, text_size, sealK_len]; rfl
  clear hq2 hb5 c0 c1 c2
  go_wp2_with fail
  refine HT2.out.mono ?_
  rintro e w6 ⟨rfl, hb6⟩
  have HB6 := Lib.hid (HB5.out.trans (hb6.mono HB5.out.size))
  have HP6 := Lib.hid ((hb6.block w3.heap.size (lt_of_block HP5.out)).trans HP5.out)
  have d1 := cell_of_row w6 w3.heap.size 1 _ _ _ HP6.out
  have d2 := cell_of_row w6 w3.heap.size 2 _ _ _ HP6.out
  simp at d1 d2
  have HO1 : Hid (Calls Tryd.prog 23 #[.agg #[.int .i64 9, .int .u64 3], .int .i64 10] w6 fun r w' => r = .returned (.bool true) ∧ Below w6.heap.size w6 w') := old_any 9 3 10 w6
  clear hb6
  go_wp2_with fail
  refine HO1.out.mono ?_
  rintro e w7 ⟨rfl, hb7⟩
  have HB7 := Lib.hid (HB6.out.trans (hb7.mono HB6.out.size))
  have HP7 := Lib.hid ((hb7.block w3.heap.size (lt_of_block HP6.out)).trans HP6.out)
  have e1 := cell_of_row w7 w3.heap.size 1 _ _ _ HP7.out
  have e2 := cell_of_row w7 w3.heap.size 2 _ _ _ HP7.out
  simp at e1 e2
  have HO2 : Hid (Calls Tryd.prog 23 #[.agg #[.int .i64 9, .int .u64 3], .int .i64 9] w7 fun r w' => r = .returned (.bool false) ∧ Below w7.heap.size w7 w') := old_any 9 3 9 w7
  clear hb7 d1 d2
  go_wp2_with fail
  refine HO2.out.mono ?_
  rintro e w8 ⟨rfl, hb8⟩
  go_wp2
  go_ret
  exact ⟨rfl, HB7.out.trans (hb8.mono HB7.out.size)⟩
end Go.Proofs.YtaefgieodehceaaDoor

/- Pass: tickets and tokens that came in; PassSeals' and PassOld's walks. -/
namespace Go.Proofs.YtaefgieodehceaaDoor
open Go.RowKit Go.ChangeShapes
open Go.Joins
set_option maxRecDepth 20000

theorem sh_of_laid {W : World} (h : laidMetH Tryd.prog Sha.laidAll W) : Sh W := ⟨Sha.kt_of_laid h, Sha.ft_of_laid h, World.block_lt_of_cell? W _ (Sha.kt_of_laid h 0 (by omega))⟩

def BdT (p : Nat) (e : Int) (n : Nat) : Prop := p < 4294967296 ∧ (-9223372036854775808 ≤ e ∧ e ≤ 9223372036854775807) ∧ n < 18446744073709551616
def BdK (p m i s : Nat) (e : Int) (n : Nat) : Prop := p < 4294967296 ∧ m < 4294967296 ∧ i < 65536 ∧ s < 256 ∧ (-9223372036854775808 ≤ e ∧ e ≤ 9223372036854775807) ∧ n < 18446744073709551616

theorem open_tick {H : Type} {enc : TypeId × Value → H} {W : World} {r : Reach} {b0 : Nat} {v : Value} {d : DataW H} {q : List MemPlace} (hv : Value.okWide Tryd.prog W r b0 26 v) (h : DataW.Trod enc Tryd.prog W 0 (fun _ => true) true 26 v d q) :
    ∃ (p : Nat) (e : Int) (n : Nat), v = tickV p e n ∧ BdT p e n := by
  obtain ⟨v0, v1, v2, y0, y1, y2, m, rfl, _, _, h0, h1, h2⟩ := open_agg3 Tryd.underlying26 (by kernel_rfl) (by kernel_rfl) hv h
  obtain ⟨x0, e0, _, w0⟩ := DataW.trod_int Tryd.underlying23 h0
  obtain ⟨x1, e1, _, w1⟩ := DataW.trod_int Tryd.underlying2 h1
  obtain ⟨x2, e2, _, w2⟩ := DataW.trod_int Tryd.underlying24 h2
  simp only [List.cons.injEq, and_true] at e0 e1 e2
  subst e0 e1 e2
  have b0 := bounds_u32 w0
  have b1 := bounds_i64 w1
  have b2 := bounds_u64 w2
  obtain ⟨p, rfl⟩ : ∃ p : Nat, x0 = (p : Int) := ⟨x0.toNat, by omega⟩
  obtain ⟨n, rfl⟩ : ∃ n : Nat, x2 = (n : Int) := ⟨x2.toNat, by omega⟩
  exact ⟨p, x1, n, rfl, by omega, by omega, by omega⟩

theorem array6 {α : Type} {cs : Array α} (h : cs.size = 6) : ∃ c0 c1 c2 c3 c4 c5, cs = #[c0, c1, c2, c3, c4, c5] := by
  obtain ⟨l⟩ := cs
  match l, h with
  | [c0, c1, c2, c3, c4, c5], _ => exact ⟨c0, c1, c2, c3, c4, c5, rfl⟩

theorem open_tok {H : Type} {enc : TypeId × Value → H} {W : World} {r : Reach} {b0 : Nat} {v : Value} {d : DataW H} {q : List MemPlace} (hv : Value.okWide Tryd.prog W r b0 29 v) (h : DataW.Trod enc Tryd.prog W 0 (fun _ => true) true 29 v d q) :
    ∃ (p m i s : Nat) (e : Int) (n : Nat), v = tokV p m i s e n ∧ BdK p m i s e n := by
  obtain ⟨cs, rfl, hsz⟩ := WideShapes.okWide_struct Tryd.underlying29 hv
  obtain ⟨c0, c1, c2, c3, c4, c5, rfl⟩ := array6 (hsz.trans (show Tryd.prog.cellsOf 29 = 6 by kernel_rfl))
  obtain ⟨fuel, hf⟩ := h
  obtain ⟨xs, m, _, _, _, hlen, hx⟩ := DataW.trod_struct Tryd.underlying29 hf
  have k5 : Tryd.prog.cellsOf 5 = 1 := by kernel_rfl
  have k2 : Tryd.prog.cellsOf 2 = 1 := by kernel_rfl
  have k23 : Tryd.prog.cellsOf 23 = 1 := by kernel_rfl
  have k24 : Tryd.prog.cellsOf 24 = 1 := by kernel_rfl
  have k27 : Tryd.prog.cellsOf 27 = 1 := by kernel_rfl
  match xs, hlen with
  | [y0, y1, y2, y3, y4, y5], _ =>
    have h0 : DataW.trod enc Tryd.prog W 0 (fun _ => true) true m 23 [c0] = some y0 := by simpa [Value.cells, k23] using hx 0 _ rfl
    have h1 : DataW.trod enc Tryd.prog W 0 (fun _ => true) true m 23 [c1] = some y1 := by simpa [Value.cells, k23] using hx 1 _ rfl
    have h2 : DataW.trod enc Tryd.prog W 0 (fun _ => true) true m 27 [c2] = some y2 := by simpa [Value.cells, k27] using hx 2 _ rfl
    have h3 : DataW.trod enc Tryd.prog W 0 (fun _ => true) true m 5 [c3] = some y3 := by simpa [Value.cells, k5] using hx 3 _ rfl
    have h4 : DataW.trod enc Tryd.prog W 0 (fun _ => true) true m 2 [c4] = some y4 := by simpa [Value.cells, k2] using hx 4 _ rfl
    have h5 : DataW.trod enc Tryd.prog W 0 (fun _ => true) true m 24 [c5] = some y5 := by simpa [Value.cells, k24] using hx 5 _ rfl
    obtain ⟨x0, e0, _, w0⟩ := DataW.trod_int Tryd.underlying23 h0
    obtain ⟨x1, e1, _, w1⟩ := DataW.trod_int Tryd.underlying23 h1
    obtain ⟨x2, e2, _, w2⟩ := DataW.trod_int Tryd.underlying27 h2
    obtain ⟨x3, e3, _, w3⟩ := DataW.trod_int Tryd.underlying5 h3
    obtain ⟨x4, e4, _, w4⟩ := DataW.trod_int Tryd.underlying2 h4
    obtain ⟨x5, e5, _, w5⟩ := DataW.trod_int Tryd.underlying24 h5
    simp only [List.cons.injEq, and_true] at e0 e1 e2 e3 e4 e5
    subst e0 e1 e2 e3 e4 e5
    have b0 := bounds_u32 w0
    have b1 := bounds_u32 w1
    have b2 := bounds_u16 w2
    have b3 := bounds_u8 w3
    have b4 := bounds_i64 w4
    have b5 := bounds_u64 w5
    obtain ⟨p, rfl⟩ : ∃ p : Nat, x0 = (p : Int) := ⟨x0.toNat, by omega⟩
    obtain ⟨m', rfl⟩ : ∃ p : Nat, x1 = (p : Int) := ⟨x1.toNat, by omega⟩
    obtain ⟨i, rfl⟩ : ∃ p : Nat, x2 = (p : Int) := ⟨x2.toNat, by omega⟩
    obtain ⟨s, rfl⟩ : ∃ p : Nat, x3 = (p : Int) := ⟨x3.toNat, by omega⟩
    obtain ⟨n, rfl⟩ : ∃ p : Nat, x5 = (p : Int) := ⟨x5.toNat, by omega⟩
    exact ⟨p, m', i, s, x4, n, rfl, by omega, by omega, by omega, by omega, by omega, by omega⟩

set_option maxHeartbeats 4000000 in
theorem pseals_walk (A : Option Addr) (c : Nat) (key : List UInt8) (a : Nat) (b : Int) (d : Nat) (p m i s : Nat) (e : Int) (n : Nat) (w : World) (hs : Sh w) (hk : Bs w w.heap.size (.slice A key.length c) key) (hkl : key.length ≤ 9223372036854775807) (ht : BdT a b d) (ho : BdK p m i s e n) :
    Calls Tryd.prog 3 #[.slice A key.length c, tickV a b d, tokV p m i s e n] w fun r w' => r = .returned (.bool true) ∧ Below w.heap.size w w' := by
  obtain ⟨w0, hw0⟩ : ∃ w0, w0 = (w.alloc (.cells #[.int .u32 (a : Int), .int .i64 b, .int .u64 (d : Int)] 26)).alloc (.cells #[.int .u32 (p : Int), .int .u32 (m : Int), .int .u16 (i : Int), .int .u8 (s : Int), .int .i64 e, .int .u64 (n : Int)] 29) := ⟨_, rfl⟩
  have hb0 : Below w.heap.size w w0 := by rw [hw0]; exact ((Below.refl _ _).alloc (Nat.le_refl _) _).alloc (by simp) _
  have hp1 : w0.heap[w.heap.size]? = some (.cells #[.int .u32 (a : Int), .int .i64 b, .int .u64 (d : Int)] 26 (0, 0)) := by
    rw [hw0]; exact (Below.heap_alloc _ _ _ (by simp)).trans (heap_alloc_new w _)
  have hp2 : w0.heap[w.heap.size + 1]? = some (.cells #[.int .u32 (p : Int), .int .u32 (m : Int), .int .u16 (i : Int), .int .u8 (s : Int), .int .i64 e, .int .u64 (n : Int)] 29 (0, 0)) := by
    have := heap_alloc_new (w.alloc (.cells #[.int .u32 (a : Int), .int .i64 b, .int .u64 (d : Int)] 26)) (.cells #[.int .u32 (p : Int), .int .u32 (m : Int), .int .u16 (i : Int), .int .u8 (s : Int), .int .i64 e, .int .u64 (n : Int)] 29)
    rw [hw0]
    rwa [World.size_alloc] at this
  have H0 := Lib.hid hw0
  have HB0 := Lib.hid hb0
  have HP1 := Lib.hid hp1
  have HP2 := Lib.hid hp2
  have HS := Lib.hid hs
  obtain ⟨k, hkn⟩ : ∃ k, k = key.length := ⟨_, rfl⟩
  rw [← hkn] at hk hkl ⊢
  by_cases hbig : 200 < k
  · have t : decide ((k : Int) > 200) = true := by rw [decide_eq_true_iff]; omega
    clear hw0 hb0 hp1 hp2 hs hk hkn
    go_enter Tryd.func3, Tryd.ntmps3
    go_upto_region 1 with (fail)
    rw [← H0.out]
    go_wp2
    go_ret
    exact ⟨rfl, HB0.out⟩
  · have t : decide ((k : Int) > 200) = false := by rw [decide_eq_false_iff_not]; omega
    have hmk := make_o (.slice A k c) key w0 (bs_up (hk.below hb0 (Nat.le_refl _)) hb0.size) (hs.below hb0) (by omega)
    have HMK := Lib.hid hmk
    obtain ⟨q1, hq1⟩ : ∃ q : ByteArray, q = ⟨(sealT (some (Sha.blockP key)) a b d).toArray⟩ := ⟨_, rfl⟩
    obtain ⟨q2, hq2⟩ : ∃ q : ByteArray, q = ⟨(sealK (some (Sha.blockP key)) p m i s e n).toArray⟩ := ⟨_, rfl⟩
    have hkl2 : key.length ≤ 900000 := by omega
    have HR1 : Hid (∀ W, Below w.heap.size w W → Calls Tryd.prog 13 #[.slice A k c, tickV a b d] W fun r w' => r = .returned (.string q1) ∧ Below W.heap.size W w') := fun W hW => by
      rw [hq1]
      exact rtseal_any _ key a b d W (bs_up (hk.below hW (Nat.le_refl _)) hW.size) hkl2 ht.1 ht.2.2
    have HR2 : Hid (∀ W, Below w.heap.size w W → Calls Tryd.prog 16 #[.slice A k c, tokV p m i s e n] W fun r w' => r = .returned (.string q2) ∧ Below W.heap.size W w') := fun W hW => by
      rw [hq2]
      exact rkseal_any _ key p m i s e n W (bs_up (hk.below hW (Nat.le_refl _)) hW.size) hkl2 ho.1 ho.2.1 ho.2.2.1 ho.2.2.2.1 ho.2.2.2.2.2
    have HT1 : Hid (∀ kv W, KeyAt W kv (some (Sha.blockP key)) → Sh W → Calls Tryd.prog 12 #[tickV a b d, kv] W fun r w' => r = .returned (.string q1) ∧ Below W.heap.size W w') := fun kv W hK hS => by
      rw [hq1]
      exact tseal_any _ kv a b d W hK hS ht.1 ht.2.2
    have HT2 : Hid (∀ kv W, KeyAt W kv (some (Sha.blockP key)) → Sh W → Calls Tryd.prog 15 #[tokV p m i s e n, kv] W fun r w' => r = .returned (.string q2) ∧ Below W.heap.size W w') := fun kv W hK hS => by
      rw [hq2]
      exact kseal_any _ kv p m i s e n W hK hS ho.1 ho.2.1 ho.2.2.1 ho.2.2.2.1 ho.2.2.2.2.2
    have z1 : (q1.toList == q1.toList) = true := beq_self_eq_true _
    have z2 : (q2.toList == q2.toList) = true := beq_self_eq_true _
    clear hw0 hb0 hp1 hp2 hs hk hmk hq1 hq2 ht ho hkn
    go_enter Tryd.func3, Tryd.ntmps3
    go_upto_region 1 with (fail)
    rw [← H0.out]
    go_wp2_with fail
    refine HMK.out.mono ?_
    rintro x w1 ⟨kv, rfl, hK, hb1⟩
    have HK := Lib.hid hK
    have HB1 := Lib.hid (HB0.out.trans (hb1.mono HB0.out.size))
    have HCELL : Hid (∀ W, Below w1.heap.size w1 W → W.cell? ⟨w.heap.size, 0, none⟩ = some (.int .u32 (a : Int)) ∧ W.cell? ⟨w.heap.size, 1, none⟩ = some (.int .i64 b) ∧ W.cell? ⟨w.heap.size, 2, none⟩ = some (.int .u64 (d : Int)) ∧
        W.cell? ⟨w.heap.size + 1, 0, none⟩ = some (.int .u32 (p : Int)) ∧ W.cell? ⟨w.heap.size + 1, 1, none⟩ = some (.int .u32 (m : Int)) ∧ W.cell? ⟨w.heap.size + 1, 2, none⟩ = some (.int .u16 (i : Int)) ∧ W.cell? ⟨w.heap.size + 1, 3, none⟩ = some (.int .u8 (s : Int)) ∧ W.cell? ⟨w.heap.size + 1, 4, none⟩ = some (.int .i64 e) ∧ W.cell? ⟨w.heap.size + 1, 5, none⟩ = some (.int .u64 (n : Int))) := fun W hW => by
      have e1 := (hW.block w.heap.size (Nat.lt_of_lt_of_le (lt_of_block HP1.out) hb1.size)).trans ((hb1.block w.heap.size (lt_of_block HP1.out)).trans HP1.out)
      have e2 := (hW.block (w.heap.size + 1) (Nat.lt_of_lt_of_le (lt_of_block HP2.out) hb1.size)).trans ((hb1.block (w.heap.size + 1) (lt_of_block HP2.out)).trans HP2.out)
      exact ⟨cell_of_row W _ 0 _ _ _ e1, cell_of_row W _ 1 _ _ _ e1, cell_of_row W _ 2 _ _ _ e1, cell_of_row W _ 0 _ _ _ e2, cell_of_row W _ 1 _ _ _ e2, cell_of_row W _ 2 _ _ _ e2, cell_of_row W _ 3 _ _ _ e2, cell_of_row W _ 4 _ _ _ e2, cell_of_row W _ 5 _ _ _ e2⟩
    have HD : Hid (Below w1.heap.size w1 w1.drew) := (Below.refl _ _).drew
    have HKB : Hid (∀ W, Below w1.heap.size w1 W → KeyAt W kv (some (Sha.blockP key)) ∧ Sh W ∧ Below w.heap.size w W) := fun W hW => ⟨HK.out.below hW, (HS.out.below HB1.out).below hW, HB1.out.trans (hW.mono HB1.out.size)⟩
    clear hK hb1
    go_upto_region 4 with (fail)
    go_region_held3 (fun W => W.cell? ⟨w.heap.size, 0, none⟩ = some (.int .u32 (a : Int)) ∧ W.cell? ⟨w.heap.size, 1, none⟩ = some (.int .i64 b) ∧ W.cell? ⟨w.heap.size, 2, none⟩ = some (.int .u64 (d : Int)) ∧
        W.cell? ⟨w.heap.size + 1, 0, none⟩ = some (.int .u32 (p : Int)) ∧ W.cell? ⟨w.heap.size + 1, 1, none⟩ = some (.int .u32 (m : Int)) ∧ W.cell? ⟨w.heap.size + 1, 2, none⟩ = some (.int .u16 (i : Int)) ∧ W.cell? ⟨w.heap.size + 1, 3, none⟩ = some (.int .u8 (s : Int)) ∧ W.cell? ⟨w.heap.size + 1, 4, none⟩ = some (.int .i64 e) ∧ W.cell? ⟨w.heap.size + 1, 5, none⟩ = some (.int .u64 (n : Int)))
      (first | exact HCELL.out _ hc7 | exact HCELL.out _ hc6 | exact HCELL.out _ hc5 | exact HCELL.out _ hc4 | exact HCELL.out _ hc3 | exact HCELL.out _ hc2 | exact HCELL.out _ hc1 | exact HCELL.out _ HD.out | go_keep)
      (first
        | (go_at_call 11; refine (ticket_any a b d w1.drew).mono ?_; rintro x wA ⟨rfl, hbA⟩; have hc1 := HD.out.trans hbA)
        | (go_at_call 12; refine (HT1.out kv wA (HKB.out wA hc1).1 (HKB.out wA hc1).2.1).mono ?_; rintro x wB ⟨rfl, hbB⟩; have hc2 := hc1.trans (hbB.mono hc1.size))
        | (go_at_call 13; refine (HR1.out wB (HKB.out wB hc2).2.2).mono ?_; rintro x wC ⟨rfl, hbC⟩; have hc3 := hc2.trans (hbC.mono hc2.size))
        | (go_at_call 14; refine (token_any p m i s e n wC).mono ?_; rintro x wD ⟨rfl, hbD⟩; have hc4 := hc3.trans (hbD.mono hc3.size))
        | (go_at_call 15; refine (HT2.out kv wD (HKB.out wD hc4).1 (HKB.out wD hc4).2.1).mono ?_; rintro x wE ⟨rfl, hbE⟩; have hc5 := hc4.trans (hbE.mono hc4.size))
        | (go_at_call 16; refine (HR2.out wE (HKB.out wE hc5).2.2).mono ?_; rintro x wF ⟨rfl, hbF⟩; have hc6 := hc5.trans (hbF.mono hc5.size))
        | (go_at_call 17; refine (pawake wF (HKB.out wF hc6).2.1).mono ?_; rintro x wG ⟨rfl, hbG⟩; have hc7 := hc6.trans (hbG.mono hc6.size))
        | fail)
    go_wp2
    go_ret
    exact ⟨rfl, (HKB.out _ hc7).2.2⟩
end Go.Proofs.YtaefgieodehceaaDoor
