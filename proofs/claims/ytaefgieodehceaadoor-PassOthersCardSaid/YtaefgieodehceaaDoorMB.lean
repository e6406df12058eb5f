/- HMAC: the reference's tag. -/
import Derived.Test.YtaefgieodehceaaDoorM8
namespace Go.Proofs.YtaefgieodehceaaDoor.Sha
set_option maxRecDepth 4000
open Go.RowKit

theorem own_apart {w : World} {B : Nat} {v u : Value} {X Y : List UInt8} {x y : UInt8} (hx : w.ownsRow B 5 1 v X.length (bv X)) (hy : w.ownsRow B 5 1 u Y.length (bv Y)) (hX : X[0]? = some x) (hY : Y[0]? = some y) (hne : x ≠ y) : v.ownBlock ≠ u.ownBlock := by
  intro e
  obtain ⟨g, cap, rfl⟩ := own_some hx (List.getElem?_eq_some_iff.1 hX).1
  have h1 := hx.cells (g := g) rfl 0 (.int .u8 (x.toNat : Int)) (by simp [bv, hX])
  have h2 := hy.cells (g := g) (by rw [← e]; rfl) 0 (.int .u8 (y.toNat : Int)) (by simp [bv, hY])
  rw [h1] at h2
  injection h2 with h2
  injection h2 with _ h2
  exact hne (UInt8.toNat_inj.1 (by omega))
theorem own_is {w : World} {B : Nat} {v : Value} {n : Nat} {xs : List Value} (h : w.ownsRow B 5 1 v n xs) (hn : 0 < n) : v.ownBlock ≠ Option.none := by
  obtain ⟨g, cap, rfl⟩ := own_some h hn
  intro e
  cases e
theorem mix_take (c : UInt8) (bl : List UInt8) (k : Nat) (hk : k < bl.length) : (mixP c bl).take (k + 1) = (mixP c bl).take k ++ [bl.getD k 0 ^^^ c] := by
  rw [List.take_succ_eq_append_getElem (by rw [mixP_length]; exact hk)]
  simp [mixP, List.getD, hk]
theorem mix_first (c : UInt8) (bl : List UInt8) (k : Nat) (hk : 0 < k) (hb : 0 < bl.length) : ((mixP c bl).take k)[0]? = some (bl.getD 0 0 ^^^ c) := by
  rw [List.getElem?_take, if_pos hk]
  simp [mixP, List.getD, hb]
theorem xor_other (x : UInt8) : x ^^^ 54 ≠ x ^^^ 92 := by
  intro e
  have h : x ^^^ (x ^^^ 54) = x ^^^ (x ^^^ 92) := by rw [e]
  rw [← UInt8.xor_assoc, ← UInt8.xor_assoc, UInt8.xor_self, UInt8.zero_xor, UInt8.zero_xor] at h
  exact absurd h (by decide)
/-- What an append on the first of two own rows leaves. -/
theorem two_own {W w w' : World} {x y : Value} {L1 L2 : List UInt8} (hx : w.ownsRow W.heap.size 5 1 x L1.length (bv L1)) (hy : w.ownsRow W.heap.size 5 1 y L2.length (bv L2)) (hd : y.ownBlock = none ∨ y.ownBlock ≠ x.ownBlock)
    (hb : Below W.heap.size W w) (hg : w.grownBy w' x.ownBlock) : w'.ownsRow W.heap.size 5 1 y L2.length (bv L2) ∧ Below W.heap.size W w' :=
  ⟨hy.kept hg hd, hb.grown hg hb.size (fun g h => (hx.lt g h).1)⟩
theorem block_get (key : List UInt8) (k : Nat) (hk : (coreP key).length ≤ k) : (blockP key).getD k 0 = 0 := by
  rw [blockP_core]
  simp only [List.getD]
  rw [List.getElem?_append_right hk, List.getElem?_replicate]
  split <;> rfl
theorem block_get' (key : List UInt8) (k : Nat) (hk : k < (coreP key).length) : (blockP key).getD k 0 = (coreP key).getD k 0 := by
  rw [blockP_core]
  simp only [List.getD]
  rw [List.getElem?_append_left hk]

set_option linter.unusedSimpArgs false in
set_option maxHeartbeats 4000000 in
set_option maxRecDepth 4000 in
theorem rtag_any (v u : Value) (key l : List UInt8) (w : World) (hv : Pb w v key) (hp : Pb w u l) (hkl : key.length ≤ 900000) (hl : l.length ≤ 800000) :
    Calls Tryd.prog 22 #[v, u] w (SumPost w (tagP key l)) := by
  obtain ⟨A, c, rfl, _, _⟩ := id hv
  obtain ⟨A2, c2, rfl, _, _⟩ := id hp
  obtain ⟨n, hn⟩ : ∃ n, n = key.length := ⟨_, rfl⟩
  obtain ⟨m, hm⟩ : ∃ m, m = l.length := ⟨_, rfl⟩
  rw [← hn] at hv ⊢
  rw [← hm] at hp ⊢
  have HN := Lib.hid hn
  have HM := Lib.hid hm
  have HV := Lib.hid hv
  have HP := Lib.hid hp
  have HKL := Lib.hid hkl
  have HLL := Lib.hid hl
  clear hv hp hn hm hkl hl
  go_enter Tryd.func22, Tryd.ntmps22
  go_upto_region 1 with (fail)
  rw [z32_lit]
  obtain ⟨w1, hw1⟩ : ∃ w1, w1 = w.alloc (.cells z32 57) := ⟨_, rfl⟩
  rw [← hw1]
  obtain ⟨R, hR⟩ : ∃ R, R = w.heap.size := ⟨_, rfl⟩
  have hr1 : w1.heap[R]? = some (.cells z32 57 (0, 0)) := by rw [hw1, hR]; exact heap_alloc_new w _
  have hb1 : Below w.heap.size w w1 := by rw [hw1]; exact (Below.refl _ _).alloc (Nat.le_refl _) _
  rw [← hR]
  have HRE := Lib.hid hR
  have HR1 := Lib.hid hr1
  have HB1 := Lib.hid hb1
  clear hr1 hb1 hw1 hR
  go_upto_if 15 with (fail)
  go_cut [5] (fun x wx => ∃ (A6 : Option Addr) (n6 c6 : Nat), x = .slice A6 n6 c6 ∧ Hid (n6 = (coreP key).length ∧ Pb wx (.slice A6 n6 c6) (coreP key) ∧ Below w.heap.size w wx ∧ wx.heap[R]? = some (.cells z32 57 (0, 0))))
  case first =>
    by_cases h64 : 64 < n
    · have t3 : decide ((n : Int) > 64) = true := by rw [decide_eq_true_iff]; omega
      obtain ⟨S, hS⟩ : ∃ S, S = sumP key := ⟨_, rfl⟩
      have hSl : S.length = 32 := by rw [hS, sumP_length]
      have hm := rsum_any _ key w1 (HV.out.below HB1.out) HKL.out
      rw [← hS] at hm
      have I30 := Lib.hid (show (Tryd.prog.info? 57).map (·.size) = some ((bv S).toArray.size) by
        rw [Tryd.size57]
        simp [bv, hSl])
      have S30 := Lib.hid (show z32.size = (bv S).toArray.size by
        simp only [bv, List.size_toArray, List.length_map, hSl]
        rfl)
      have HMM := Lib.hid hm
      have HS := Lib.hid hS
      have HSL := Lib.hid hSl
      clear hm hS hSl
      go_wp2_with fail
      refine HMM.out.mono ?_
      rintro e w3 ⟨rfl, hb3⟩
      have HB3 := Lib.hid (HB1.out.trans (hb3.mono HB1.out.size))
      have HR3 := Lib.hid ((hb3.block R (lt_of_block' HR1.out)).trans HR1.out)
      clear hb3 HMM HB1 HR1
      go_upto_region 4 with (refine wpList_store_row rfl 57 (.tmp 6) (.tmp 17) rfl w3.heap.size (bv S).toArray rfl rfl 57 z32 (heap_alloc_new w3 _) I30.out S30.out (bv_one _) ?_; rw [World.setRow_alloc_new])
      obtain ⟨w4, hw4⟩ : ∃ w4, w4 = w3.alloc (.cells (bv S).toArray 57) := ⟨_, rfl⟩
      rw [← hw4]
      have hs4 : w4.heap[w3.heap.size]? = some (.cells (bv S).toArray 57 (0, 0)) := by rw [hw4]; exact heap_alloc_new w3 _
      have hb4 : Below w.heap.size w w4 := by rw [hw4]; exact HB3.out.alloc HB3.out.size _
      have hr4 : w4.heap[R]? = some (.cells z32 57 (0, 0)) := by rw [hw4]; exact (Below.heap_alloc w3 _ _ (lt_of_block' HR3.out)).trans HR3.out
      have hp4 : Pb w4 (.slice (some ⟨w3.heap.size, 0, none⟩) 32 32) S := by
        refine ⟨_, 32, by rw [HSL.out], by rw [HSL.out]; omega, fun _ => ⟨w3.heap.size, 0, rfl, lt_of_block' hs4, fun j u hu => ?_⟩⟩
        rw [cell_of_row _ _ (0 + j) _ _ _ hs4, Nat.zero_add, List.getElem?_toArray, hu]
      have HP4 := Lib.hid hp4
      have HB4 := Lib.hid hb4
      have HR4 := Lib.hid hr4
      clear hs4 hb4 hp4 hw4 HB3 HR3 hr4
      go_wp2_with fail
      go_meet
      have hco : coreP key = S := by unfold coreP; rw [if_pos (by rw [← HN.out]; exact h64), HS.out]
      exact ⟨_, 32, 32, rfl, Lib.hid ⟨by rw [hco, HSL.out], by rw [hco]; exact HP4.out, HB4.out, HR4.out⟩⟩
    · have t3 : decide ((n : Int) > 64) = false := by rw [decide_eq_false_iff_not]; omega
      go_wp2_with fail
      go_meet
      have hco : coreP key = key := by unfold coreP; rw [if_neg (by rw [← HN.out]; exact h64)]
      exact ⟨A, n, c, rfl, Lib.hid ⟨by rw [hco, HN.out], by rw [hco]; exact HV.out.below HB1.out, HB1.out, HR1.out⟩⟩
  case rest =>
    obtain ⟨A6, n6, c6, rfl, hc⟩ := hcut
    clear HB1 HR1
    obtain ⟨C, hC⟩ : ∃ C, C = coreP key := ⟨_, rfl⟩
    obtain ⟨bl, hbl⟩ : ∃ bl, bl = blockP key := ⟨_, rfl⟩
    have hbl64 : bl.length = 64 := by rw [hbl, blockP_length]
    have hg1 : ∀ k, C.length ≤ k → bl.getD k 0 = 0 := by rw [hC, hbl]; exact block_get key
    have hg2 : ∀ k, k < C.length → bl.getD k 0 = C.getD k 0 := by rw [hC, hbl]; exact block_get' key
    rw [← hC] at hc
    have HBL := Lib.hid hbl
    have H64 := Lib.hid hbl64
    have HG1 := Lib.hid hg1
    have HG2 := Lib.hid hg2
    have HC1 := Lib.hid hc.out.1
    have HC2 := Lib.hid hc.out.2.1
    have HI := Lib.hid hc.out.2.2
    obtain ⟨B, hB⟩ : ∃ B, B = wc.heap.size := ⟨_, rfl⟩
    have HBB := Lib.hid hB
    clear hC hbl hbl64 hg1 hg2 hc hB
    go_wp2_with fail
    go_loopw [7, 8, 9] (fun x y i wr => ∃ k : Nat, k ≤ 64 ∧ i = .int .i64 k ∧ Hid (wr.ownsRow B 5 1 x ((mixP 54 bl).take k).length (bv ((mixP 54 bl).take k))) ∧ Hid (wr.ownsRow B 5 1 y ((mixP 92 bl).take k).length (bv ((mixP 92 bl).take k))) ∧ Hid (k = 0 → x = .slice none 0 0 ∧ y = .slice none 0 0) ∧ Hid (Below wc.heap.size wc wr)) (fun _ _ i _ => 64 - (intOf i).toNat)
    case atStart =>
      refine ⟨0, by omega, rfl, ?_, ?_, fun _ => ⟨rfl, rfl⟩, Lib.hid (Below.refl _ _)⟩
      · exact World.ownsRow_nil wc B 5 1
      · exact World.ownsRow_nil wc B 5 1
    case round =>
      obtain ⟨k, hk, rfl, hox, hoy, hz, hwc⟩ := hrel
      have hsz : B ≤ wr.heap.size := by rw [HBB.out]; exact hwc.out.size
      by_cases hlt : k < 64
      · go_upto_if 26 with (fail)
        go_cut [10] (fun x wx => ∃ y : UInt8, x = .int .u8 (y.toNat : Int) ∧ Hid (y = bl.getD k 0) ∧ wr = wx)
        case first =>
          by_cases hkn : k < n6
          · have hkC : k < C.length := by rw [← HC1.out]; exact hkn
            obtain ⟨b, o, hA, hb, hcl⟩ : ∃ b o, A6 = some ⟨b, o, none⟩ ∧ b < wc.heap.size ∧ ∀ j u, (bv C)[j]? = some u → wc.cell? ⟨b, o + j, none⟩ = some u := by
              obtain ⟨A', c', e, _, hr⟩ := HC2.out
              injection e with e1 _ _
              subst e1
              obtain ⟨b, o, e3, e4, e5⟩ := hr (by omega)
              exact ⟨b, o, e3, e4, e5⟩
            subst hA
            obtain ⟨y, hy⟩ : ∃ y : UInt8, y = C.getD k 0 := ⟨_, rfl⟩
            have hcell : wr.cell? ⟨b, o + k, none⟩ = some (.int .u8 (y.toNat : Int)) := (hwc.out.cell (p := ⟨b, o + k, none⟩) hb).trans (hcl k _ (by rw [hy]; simp [bv, List.getD, hkC]))
            have HY := Lib.hid (show y = bl.getD k 0 by rw [hy, HG2.out k hkC])
            clear hy hcl
            go_wp2_with fail
            go_meet
            exact ⟨y, rfl, HY, rfl⟩
          · go_wp2_with fail
            go_meet
            exact ⟨0, rfl, Lib.hid (HG1.out k (by rw [← HC1.out]; omega)).symm, rfl⟩
        case rest =>
          obtain ⟨y, rfl, hy, rfl⟩ := hcut
          obtain ⟨z1, hz1⟩ : ∃ z, z = y ^^^ 54 := ⟨_, rfl⟩
          obtain ⟨z2, hz2⟩ : ∃ z, z = y ^^^ 92 := ⟨_, rfl⟩
          have e1 : bits .xor .u8 (y.toNat : Int) 54 = (z1.toNat : Int) := by rw [hz1]; exact xor_bytes y 54
          have e2 : bits .xor .u8 (y.toNat : Int) 92 = (z2.toNat : Int) := by rw [hz2]; exact xor_bytes y 92
          obtain ⟨L1, hL1⟩ : ∃ L, L = (mixP 54 bl).take k := ⟨_, rfl⟩
          obtain ⟨L2, hL2⟩ : ∃ L, L = (mixP 92 bl).take k := ⟨_, rfl⟩
          have hn1 : (mixP 54 bl).take (k + 1) = L1 ++ [z1] := by rw [mix_take 54 bl k (by rw [H64.out]; exact hlt), hL1, hz1, hy.out]
          have hn2 : (mixP 92 bl).take (k + 1) = L2 ++ [z2] := by rw [mix_take 92 bl k (by rw [H64.out]; exact hlt), hL2, hz2, hy.out]
          have hl1 : L1.length = k := by rw [hL1, List.length_take, mixP_length, H64.out]; omega
          have hl2 : L2.length = k := by rw [hL2, List.length_take, mixP_length, H64.out]; omega
          have hf1 : 0 < k → L1[0]? = some (bl.getD 0 0 ^^^ 54) := by
            intro h
            rw [hL1]
            exact mix_first 54 bl k h (by rw [H64.out]; omega)
          have hf2 : 0 < k → L2[0]? = some (bl.getD 0 0 ^^^ 92) := by
            intro h
            rw [hL2]
            exact mix_first 92 bl k h (by rw [H64.out]; omega)
          rw [← hL1] at hox
          rw [← hL2] at hoy
          have hd1 : u8.ownBlock = none ∨ u8.ownBlock ≠ u7.ownBlock := by
            rcases Nat.eq_zero_or_pos k with h0 | h0
            · exact .inl (by rw [(hz.out h0).2]; rfl)
            · exact .inr (fun e => own_apart hox.out hoy.out (hf1 h0) (hf2 h0) (xor_other _) e.symm)
          have hd2 : ∀ (w3 : World) (v3 : Value), w3.ownsRow B 5 1 v3 (L1 ++ [z1]).length (bv (L1 ++ [z1])) → w3.ownsRow B 5 1 u8 L2.length (bv L2) → v3.ownBlock = none ∨ v3.ownBlock ≠ u8.ownBlock := by
            intro w3 v3 h1 h2
            rcases Nat.eq_zero_or_pos k with h0 | h0
            · exact .inr (by rw [(hz.out h0).2]; exact own_is h1 (by simp))
            · exact .inr (own_apart h1 h2 (by rw [List.getElem?_append_left (by omega)]; exact hf1 h0) (hf2 h0) (xor_other _))
          have HE1 := Lib.hid hn1
          have HE2 := Lib.hid hn2
          have HL1 := Lib.hid hl1
          have HL2 := Lib.hid hl2
          have HD1 := Lib.hid hd1
          have HD2 := Lib.hid hd2
          have HOX := Lib.hid (hox.out.alloc (.cells #[.int .u8 (z1.toNat : Int)] 5))
          have HOY := Lib.hid (hoy.out.alloc (.cells #[.int .u8 (z1.toNat : Int)] 5))
          have HBC := Lib.hid (hwc.out.alloc hwc.out.size (.cells #[.int .u8 (z1.toNat : Int)] 5))
          have HSZ := Lib.hid (show B ≤ (wr.alloc (.cells #[.int .u8 (z1.toNat : Int)] 5)).heap.size by simp; omega)
          clear hn1 hn2 hl1 hl2 hf1 hf2 hd1 hd2 hL1 hL2 hz1 hz2 hox hoy hwc hsz hz
          go_wp2_with (first
            | (at_builtin; refine wpList_append_bytes rfl (.tmp 31) (.tmp 34) rfl B u7 (.slice (some ⟨wr.heap.size, 0, none⟩) 1 1) L1 [z1] rfl rfl HOX.out (pb_byte rfl) (by rw [HL1.out]; simp; omega) HSZ.out ?_; intro v3 w3 hown3 hg3; have HW3 : Hid (w3.ownsRow B 5 1 v3 (L1 ++ [z1]).length (bv (L1 ++ [z1])) ∧ w3.ownsRow B 5 1 u8 L2.length (bv L2) ∧ Below wc.heap.size wc w3) := ⟨hown3, by rw [HBB.out] at HOX HOY ⊢; exact two_own HOX.out HOY.out HD1.out HBC.out hg3⟩; clear hown3 hg3; obtain ⟨A3, n3, c3, rfl⟩ := own_form HW3.out.1)
            | (at_builtin; refine wpList_append_bytes rfl (.tmp 36) (.tmp 39) rfl B u8 (.slice (some ⟨w3.heap.size, 0, none⟩) 1 1) L2 [z2] rfl rfl (HW3.out.2.1.alloc _) (pb_byte rfl) (by rw [HL2.out]; simp; omega) (Nat.le_trans (by rw [HBB.out]; exact HW3.out.2.2.size) (show w3.heap.size ≤ _ by simp)) ?_; intro v4 w4 hown4 hg4))
          go_roundw
          case rel =>
            refine ⟨k + 1, by omega, by go_num, ?_, ?_, Lib.hid (fun e => absurd e (by omega)), ?_⟩
            · rw [HE1.out]
              have h := two_own (W := wc) (by rw [← HBB.out]; exact HW3.out.2.1.alloc _) (by rw [← HBB.out]; exact HW3.out.1.alloc _) (HD2.out _ _ HW3.out.1 HW3.out.2.1) (HW3.out.2.2.alloc HW3.out.2.2.size _) hg4
              rw [← HBB.out] at h
              exact Lib.hid h.1
            · rw [HE2.out]
              exact Lib.hid hown4
            · have h := two_own (W := wc) (by rw [← HBB.out]; exact HW3.out.2.1.alloc _) (by rw [← HBB.out]; exact HW3.out.1.alloc _) (HD2.out _ _ HW3.out.1 HW3.out.2.1) (HW3.out.2.2.alloc HW3.out.2.2.size _) hg4
              exact Lib.hid h.2
          case measure => simp [intOf] <;> omega
      · obtain rfl : k = 64 := by omega
        obtain ⟨L1, hL1⟩ : ∃ L, L = mixP 54 bl := ⟨_, rfl⟩
        obtain ⟨L2, hL2⟩ : ∃ L, L = mixP 92 bl := ⟨_, rfl⟩
        have hl1 : L1.length = 64 := by rw [hL1, mixP_length]; exact H64.out
        have hl2 : L2.length = 64 := by rw [hL2, mixP_length]; exact H64.out
        have hf1 : L1[0]? = some (bl.getD 0 0 ^^^ 54) := by
          have h := mix_first 54 bl 64 (by omega) (by rw [H64.out]; omega)
          rwa [List.take_of_length_le (by rw [mixP_length, H64.out]; omega), ← hL1] at h
        have hf2 : L2[0]? = some (bl.getD 0 0 ^^^ 92) := by
          have h := mix_first 92 bl 64 (by omega) (by rw [H64.out]; omega)
          rwa [List.take_of_length_le (by rw [mixP_length, H64.out]; omega), ← hL2] at h
        rw [List.take_of_length_le (by rw [mixP_length, H64.out]; omega), ← hL1] at hox
        rw [List.take_of_length_le (by rw [mixP_length, H64.out]; omega), ← hL2] at hoy
        have hd := own_apart hox.out hoy.out hf1 hf2 (xor_other _)
        obtain ⟨A7, n7, c7, rfl⟩ := own_form hox.out
        obtain ⟨A8, n8, c8, rfl⟩ := own_form hoy.out
        have hbw : Below w.heap.size w wr := HI.out.1.trans (hwc.out.mono HI.out.1.size)
        have HPW := Lib.hid (HP.out.below hbw)
        have HBW := Lib.hid hbw
        have HR := Lib.hid ((hwc.out.block R (lt_of_block' HI.out.2)).trans HI.out.2)
        have HD := Lib.hid hd
        have HL1 := Lib.hid hl1
        have HL2 := Lib.hid hl2
        have HE1 := Lib.hid hL1
        have HE2 := Lib.hid hL2
        have HRB := Lib.hid (show R < B by rw [HBB.out]; exact lt_of_block' HI.out.2)
        have HWB := Lib.hid (show w.heap.size ≤ B by rw [HBB.out]; exact HI.out.1.size)
        clear hl1 hl2 hf1 hf2 hd hL1 hL2 hbw hz
        go_wp2_with (at_builtin; refine wpList_append_bytes rfl (.tmp 41) (.tmp 42) rfl B (.slice A7 n7 c7) (.slice A2 m c2) L1 l rfl rfl hox.out HPW.out (by have := HL1.out; have := HLL.out; omega) hsz ?_; intro v9 w9 hown9 hg9; have HW9 : Hid (w9.ownsRow B 5 1 v9 (L1 ++ l).length (bv (L1 ++ l)) ∧ w9.ownsRow B 5 1 (.slice A8 n8 c8) L2.length (bv L2) ∧ Below w.heap.size w w9 ∧ w9.heap[R]? = some (.cells z32 57 (0, 0)) ∧ B ≤ w9.heap.size) := ⟨hown9, hoy.out.kept hg9 (.inr (fun e => HD.out e.symm)), HBW.out.grown hg9 HBW.out.size (fun g h => Nat.le_trans HWB.out (hox.out.lt g h).1), by rw [hg9.block R (lt_of_block' HR.out) (fun e => by have := (hox.out.lt R e.symm).1; have := HRB.out; omega)]; exact HR.out, Nat.le_trans hsz hg9.size⟩; clear hown9 hg9; obtain ⟨A9, n9, c9, rfl⟩ := own_form HW9.out.1)
        have hm := rsum_any _ (L1 ++ l) w9 (own_pb HW9.out.1) (by rw [List.length_append, HL1.out]; have := HLL.out; omega)
        obtain ⟨S, hS⟩ : ∃ S, S = sumP (L1 ++ l) := ⟨_, rfl⟩
        have hSl : S.length = 32 := by rw [hS, sumP_length]
        rw [← hS] at hm
        have I30 := Lib.hid (show (Tryd.prog.info? 57).map (·.size) = some ((bv S).toArray.size) by
          rw [Tryd.size57]
          simp [bv, hSl])
        have S30 := Lib.hid (show z32.size = (bv S).toArray.size by
          simp only [bv, List.size_toArray, List.length_map, hSl]
          rfl)
        have HS := Lib.hid hS
        have HSL := Lib.hid hSl
        refine hm.mono ?_
        clear hm hS hSl hox hoy hwc hsz HPW HBW HR
        rintro e w10 ⟨rfl, hb10⟩
        have HW10 := Lib.hid (show w10.ownsRow B 5 1 (.slice A8 n8 c8) L2.length (bv L2) ∧ Below w.heap.size w w10 ∧ w10.heap[R]? = some (.cells z32 57 (0, 0)) ∧ B ≤ w10.heap.size from ⟨own_below HW9.out.2.1 hb10, HW9.out.2.2.1.trans (hb10.mono HW9.out.2.2.1.size), (hb10.block R (lt_of_block' HW9.out.2.2.2.1)).trans HW9.out.2.2.2.1, Nat.le_trans HW9.out.2.2.2.2 hb10.size⟩)
        clear hb10 HW9
        go_upto_region 15 with (refine wpList_store_row rfl 57 (.tmp 11) (.tmp 44) rfl w10.heap.size (bv S).toArray rfl rfl 57 z32 (heap_alloc_new w10 _) I30.out S30.out (bv_one _) ?_; rw [World.setRow_alloc_new])
        obtain ⟨w11, hw11⟩ : ∃ w11, w11 = w10.alloc (.cells (bv S).toArray 57) := ⟨_, rfl⟩
        rw [← hw11]
        have hs11 : w11.heap[w10.heap.size]? = some (.cells (bv S).toArray 57 (0, 0)) := by rw [hw11]; exact heap_alloc_new w10 _
        have hp11 : Pb w11 (.slice (some ⟨w10.heap.size, 0, none⟩) 32 32) S := by
          refine ⟨_, 32, by rw [HSL.out], by rw [HSL.out]; omega, fun _ => ⟨w10.heap.size, 0, rfl, lt_of_block' hs11, fun j u hu => ?_⟩⟩
          rw [cell_of_row _ _ (0 + j) _ _ _ hs11, Nat.zero_add, List.getElem?_toArray, hu]
        have HP11 := Lib.hid hp11
        have HW11 := Lib.hid (show w11.ownsRow B 5 1 (.slice A8 n8 c8) L2.length (bv L2) ∧ Below w.heap.size w w11 ∧ w11.heap[R]? = some (.cells z32 57 (0, 0)) ∧ B ≤ w11.heap.size from by
          rw [hw11]
          exact ⟨HW10.out.1.alloc _, HW10.out.2.1.alloc HW10.out.2.1.size _, (Below.heap_alloc w10 _ _ (lt_of_block' HW10.out.2.2.1)).trans HW10.out.2.2.1, Nat.le_trans HW10.out.2.2.2 (by simp)⟩)
        clear hs11 hp11 hw11 HW10
        go_wp2_with (at_builtin; refine wpList_append_bytes rfl (.tmp 45) (.tmp 46) rfl B (.slice A8 n8 c8) (.slice (some ⟨w10.heap.size, 0, none⟩) 32 32) L2 S rfl rfl HW11.out.1 HP11.out (by have := HL2.out; have := HSL.out; omega) HW11.out.2.2.2 ?_; intro v12 w12 hown12 hg12; have HW12 : Hid (w12.ownsRow B 5 1 v12 (L2 ++ S).length (bv (L2 ++ S)) ∧ Below w.heap.size w w12 ∧ w12.heap[R]? = some (.cells z32 57 (0, 0))) := ⟨hown12, HW11.out.2.1.grown hg12 HW11.out.2.1.size (fun g h => Nat.le_trans HWB.out (HW11.out.1.lt g h).1), by rw [hg12.block R (lt_of_block' HW11.out.2.2.1) (fun e => by have := (HW11.out.1.lt R e.symm).1; have := HRB.out; omega)]; exact HW11.out.2.2.1⟩; clear hown12 hg12; obtain ⟨A12, n12, c12, rfl⟩ := own_form HW12.out.1)
        have hm := rsum_any _ (L2 ++ S) w12 (own_pb HW12.out.1) (by rw [List.length_append, HL2.out, HSL.out]; omega)
        obtain ⟨T, hT⟩ : ∃ T, T = sumP (L2 ++ S) := ⟨_, rfl⟩
        have hTl : T.length = 32 := by rw [hT, sumP_length]
        have hTe : tagP key l = T := by rw [hT, HS.out, HE1.out, HE2.out, HBL.out]; rfl
        rw [← hT] at hm
        have HTE := Lib.hid hTe
        have J30 := Lib.hid (show (Tryd.prog.info? 57).map (·.size) = some ((bv T).toArray.size) by
          rw [Tryd.size57]
          simp [bv, hTl])
        have K30 := Lib.hid (show z32.size = (bv T).toArray.size by
          simp only [bv, List.size_toArray, List.length_map, hTl]
          rfl)
        refine hm.mono ?_
        clear hm hT hTl hTe
        rintro e w13 ⟨rfl, hb13⟩
        have HB13 := Lib.hid (HW12.out.2.1.trans (hb13.mono HW12.out.2.1.size))
        have HR13 := Lib.hid ((hb13.block R (lt_of_block' HW12.out.2.2)).trans HW12.out.2.2)
        clear hb13 HW12 HW11 HP11
        go_wp2_with (refine wpList_store_row rfl 57 (.tmp 4) (.tmp 48) rfl R (bv T).toArray rfl rfl 57 z32 HR13.out J30.out K30.out (bv_one _) ?_)
        refine bodyPost_ret (v := .agg (bv T).toArray) ?_ rfl ⟨by rw [HTE.out], below_setRow HB13.out (by rw [HRE.out]; exact Nat.le_refl _) _⟩
        exact results_cell_row Tryd.results22 _ _ R 57 _ (0, 0) _ rfl (setRow_heap w13 _ _ _ _ _ HR13.out) Tryd.underlying57 rfl J30.out
end Go.Proofs.YtaefgieodehceaaDoor.Sha
