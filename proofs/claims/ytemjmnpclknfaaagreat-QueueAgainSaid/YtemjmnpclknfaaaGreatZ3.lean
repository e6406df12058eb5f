/- Sort at uint32: reverseRange, heapSort. -/
import Derived.Test.YtemjmnpclknfaaaGreatZ2
namespace Go.Proofs.YtemjmnpclknfaaaGreat.Z
open Go.RowKit
set_option maxRecDepth 20000
set_option linter.unusedVariables false

set_option maxHeartbeats 4000000 in
theorem rev_any (a b g o n cap : Nat) (pre post : List Value) (d : Array Nat) (w0 w : World) (h : Sr w0 g pre post d w) (ho : o = pre.length) (hn : n = d.size) (hab : a < b) (hb : b ≤ n) (hsz : n < 1000000000) :
    Calls Tryz.prog 103 #[.slice (some ⟨g, o, none⟩) n cap, .int .i64 (a : Int), .int .i64 (b : Int)] w (SrPost w0 g pre post (Sort.reverseRange d a b)) := by
  have HN := Lib.hid h
  have HO := Lib.hid ho
  have HD := Lib.hid hn
  obtain ⟨T, hT⟩ : ∃ T, T = Sort.reverseRange d a b := ⟨_, rfl⟩
  rw [← hT]
  have HT : Hid (Sort.reverseLoop a (b - 1) d = T) := by rw [hT]; rfl
  clear h ho hn hT
  obtain ⟨b1, hb1⟩ : ∃ b1, b1 = b - 1 := ⟨_, rfl⟩
  have e1 : (b : Int) - 1 = (b1 : Int) := by omega
  rw [← hb1] at HT
  have hbb : b1 < n := by omega
  clear hb1
  go_enter Tryz.func103, Tryz.ntmps103
  go_wp2
  go_loopw [6, 7] (fun vi vj wr => ∃ (i j : Nat) (cur : Array Nat), vi = .int .i64 (i : Int) ∧ vj = .int .i64 (j : Int) ∧ i ≤ n ∧ j < n ∧ Hid (cur.size = n ∧ Sort.reverseLoop i j cur = T ∧ Sr w0 g pre post cur wr)) (fun _ vj _ => (intOf vj).toNat)
  case atStart => exact ⟨a, b1, d, rfl, rfl, by omega, hbb, HD.out.symm, HT.out, HN.out⟩
  case round =>
    obtain ⟨i, j, cur, rfl, rfl, hib, hjn, HV⟩ := hrel
    obtain ⟨G, hG⟩ : ∃ G : Nat → Int, G = fun t => ((cur[t]! : Nat) : Int) := ⟨_, rfl⟩
    have hcw : ∀ t, t < n → wr.cell? ⟨g, o + t, none⟩ = some (.int .u32 (G t)) := fun t ht => by rw [hG]; exact HV.out.2.2.read HO.out t (by rw [HV.out.1]; exact ht)
    have hfw : ∀ t, t < n → wr.frozen? ⟨g, o + t, none⟩ = false := fun t _ => HV.out.2.2.free _
    have HGE := Lib.hid hG
    clear hG
    go_wp2
    · have hij : i < j := by assumption
      have HSW : Hid (Sort.reverseLoop (i + 1) (j - 1) (Sort.swp cur i j) = T) := by
        have e := HV.out.2.1
        rw [Sort.reverseLoop, if_pos hij] at e
        exact e
      go_region
      all_goals go_wp2
      go_roundw
      case rel => exact ⟨i + 1, j - 1, Sort.swp cur i j, by go_num, by congr 1; omega, by omega, by omega, by rw [swp_size]; exact HV.out.1, HSW.out, (HV.out.2.2.drewN _).swap HO.out i j (by rw [HV.out.1]; omega) (by rw [HV.out.1]; omega) _ _ (by rw [HGE.out]) (by rw [HGE.out])⟩
      case measure => simp [intOf]; omega
    · have HE : Hid (cur = T) := by
        have e := HV.out.2.1
        rw [Sort.reverseLoop, if_neg (by omega)] at e
        exact e
      go_end0
      exact ⟨rfl, by rw [← HE.out]; exact HV.out.2.2⟩

theorem size_sift' (hi f : Nat) : ∀ (q r : Nat) (d : Array Nat), hi - r ≤ q → (Sort.siftDown ltN hi f r d).size = d.size := by
  intro q
  induction q with
  | zero => intro r d h; rw [sd_end hi f r d (by omega)]
  | succ q ih =>
    intro r d h
    by_cases h1 : hi ≤ 2 * r + 1
    · rw [sd_end hi f r d h1]
    · by_cases h2 : 2 * r + 2 < hi ∧ ltN d[f + (2 * r + 1)]! d[f + (2 * r + 2)]! = true
      · rw [sd_two hi f r d h2.1 h2.2]
        split
        · rw [ih _ _ (by omega), swp_size]
        · rfl
      · rw [sd_one hi f r d (by omega) h2]
        split
        · rw [ih _ _ (by omega), swp_size]
        · rfl
theorem size_sift (hi f r : Nat) (d : Array Nat) : (Sort.siftDown ltN hi f r d).size = d.size := size_sift' hi f _ r d (Nat.le_refl _)

set_option maxHeartbeats 8000000 in
theorem heap_any (a b g o n cap : Nat) (pre post : List Value) (d : Array Nat) (w0 w : World) (h : Sr w0 g pre post d w) (ho : o = pre.length) (hn : n = d.size) (hab : a < b) (hb : b ≤ n) (hsz : n < 1000000000) :
    Calls Tryz.prog 100 #[.slice (some ⟨g, o, none⟩) n cap, .int .i64 (a : Int), .int .i64 (b : Int)] w (SrPost w0 g pre post (Sort.heapSort ltN d a b)) := by
  have HN := Lib.hid h
  have HO := Lib.hid ho
  have HD := Lib.hid hn
  obtain ⟨T, hT⟩ : ∃ T, T = Sort.heapSort ltN d a b := ⟨_, rfl⟩
  rw [← hT]
  obtain ⟨m, hm⟩ : ∃ m, m = b - a := ⟨_, rfl⟩
  obtain ⟨m1, hm1⟩ : ∃ m1, m1 = m - 1 := ⟨_, rfl⟩
  obtain ⟨q, hq⟩ : ∃ q, q = m1 / 2 := ⟨_, rfl⟩
  have HT : Hid (Sort.heapPop ltN a m (Sort.heapBuild ltN m a (q + 1) d) = T) := by rw [hT, hq, hm1, hm]; rfl
  have e1 : (b : Int) - (a : Int) = (m : Int) := by omega
  have e2 : (m : Int) - 1 = (m1 : Int) := by omega
  have e3 : (m1 : Int).tdiv 2 = (q : Int) := by rw [hq]; exact (Int.natCast_ediv m1 2).symm ▸ Int.tdiv_eq_ediv_of_nonneg (by omega)
  have hmb : a + m ≤ n := by omega
  have hm0 : 0 < m := by omega
  have hqm : q ≤ m := by omega
  clear h ho hn hT hm hm1 hq
  go_enter Tryz.func100, Tryz.ntmps100
  go_wp2
  go_loopw [9] (fun vi wr => ∃ (k : Nat) (z : Int) (cur : Array Nat), vi = .int .i64 z ∧ z = (k : Int) - 1 ∧ k ≤ q + 1 ∧ Hid (cur.size = n ∧ Sort.heapPop ltN a m (Sort.heapBuild ltN m a k cur) = T ∧ Sr w0 g pre post cur wr)) (fun vi _ => (intOf vi + 1).toNat)
  case atStart => exact ⟨q + 1, (q : Int), d, rfl, by omega, Nat.le_refl _, HD.out.symm, HT.out, HN.out⟩
  case round =>
    obtain ⟨k, z, cur, rfl, hz, hk, HV⟩ := hrel
    rcases k with _ | k
    · obtain rfl : z = -1 := by omega
      clear hz
      have HB : Hid (Sort.heapPop ltN a m cur = T) := HV.out.2.1
      go_wp2
      go_loopw [10] (fun vi wr2 => ∃ (k : Nat) (z : Int) (cu2 : Array Nat), vi = .int .i64 z ∧ z = (k : Int) - 1 ∧ k ≤ m ∧ Hid (cu2.size = n ∧ Sort.heapPop ltN a k cu2 = T ∧ Sr w0 g pre post cu2 wr2)) (fun vi _ => (intOf vi + 1).toNat)
      case atStart => exact ⟨m, (m1 : Int), cur, rfl, by omega, Nat.le_refl _, HV.out.1, HB.out, HV.out.2.2⟩
      case round =>
        obtain ⟨k, z, cu2, rfl, hz, hk, HU⟩ := hrel
        rcases k with _ | k
        · obtain rfl : z = -1 := by omega
          clear hz
          have HE : Hid (cu2 = T) := HU.out.2.1
          go_wp2
          go_end0
          exact ⟨rfl, by rw [← HE.out]; exact HU.out.2.2⟩
        · obtain rfl : z = (k : Int) := by omega
          clear hz
          have HB2 : Hid (Sort.heapPop ltN a k (Sort.siftDown ltN k a 0 (Sort.swp cu2 a (a + k))) = T) := HU.out.2.1
          obtain ⟨G, hG⟩ : ∃ G : Nat → Int, G = fun t => ((cu2[t]! : Nat) : Int) := ⟨_, rfl⟩
          have hcw : ∀ t, t < n → wr.cell? ⟨g, o + t, none⟩ = some (.int .u32 (G t)) := fun t ht => by rw [hG]; exact HU.out.2.2.read HO.out t (by rw [HU.out.1]; exact ht)
          have hfw : ∀ t, t < n → wr.frozen? ⟨g, o + t, none⟩ = false := fun t _ => HU.out.2.2.free _
          have HGE := Lib.hid hG
          clear hG
          obtain ⟨xk, hxk⟩ : ∃ x, x = a + k := ⟨_, rfl⟩
          rw [← hxk] at HB2
          have i1 : (a : Int) + (k : Int) = (xk : Int) := by omega
          have b1 : xk < n := by omega
          have b2 : a < n := by omega
          have hxx : a + k ≤ n := by omega
          have hax : a ≤ xk := by omega
          clear hxk
          go_wp2
          rcases Nat.eq_or_lt_of_le hax with hax | hax
          · subst hax
            obtain rfl : k = 0 := by omega
            clear i1
            go_region
            have HS3 := Lib.hid (HU.out.2.2.drew.swap HO.out a a (by rw [HU.out.1]; omega) (by rw [HU.out.1]; omega) (G a) (G a) (by rw [HGE.out]) (by rw [HGE.out]))
            go_wp2_with (go_at_call 110; refine (sift_any 0 0 a g o n cap pre post _ w0 _ HS3.out HO.out (by rw [swp_size]; exact HU.out.1.symm) hxx (by omega) (by omega)).mono ?_; rintro e w' ⟨rfl, hS⟩; have HS := Lib.hid hS; clear hS)
            go_roundw
            case rel => exact ⟨0, (-1 : Int), _, by congr 1, rfl, by omega, by rw [size_sift, swp_size]; exact HU.out.1, HB2.out, HS.out⟩
            case measure => simp [intOf]
          · go_region
            have HS3 := Lib.hid (HU.out.2.2.drew.swap HO.out a xk (by rw [HU.out.1]; omega) (by rw [HU.out.1]; omega) (G xk) (G a) (by rw [HGE.out]) (by rw [HGE.out]))
            go_wp2_with (go_at_call 110; refine (sift_any 0 k a g o n cap pre post _ w0 _ HS3.out HO.out (by rw [swp_size]; exact HU.out.1.symm) hxx (by omega) (by omega)).mono ?_; rintro e w' ⟨rfl, hS⟩; have HS := Lib.hid hS; clear hS)
            go_roundw
            case rel => exact ⟨k, (k : Int) - 1, _, by congr 1, rfl, by omega, by rw [size_sift, swp_size]; exact HU.out.1, HB2.out, HS.out⟩
            case measure => simp [intOf]
    · obtain rfl : z = (k : Int) := by omega
      clear hz
      have HB2 : Hid (Sort.heapPop ltN a m (Sort.heapBuild ltN m a k (Sort.siftDown ltN m a k cur)) = T) := HV.out.2.1
      go_wp2_with (go_at_call 110; refine (sift_any k m a g o n cap pre post _ w0 _ HV.out.2.2 HO.out HV.out.1.symm hmb (by omega) (by omega)).mono ?_; rintro e w' ⟨rfl, hS⟩; have HS := Lib.hid hS; clear hS)
      go_roundw
      case rel => exact ⟨k, (k : Int) - 1, _, by congr 1, rfl, by omega, by rw [size_sift]; exact HV.out.1, HB2.out, HS.out⟩
      case measure => simp [intOf]
end Go.Proofs.YtemjmnpclknfaaaGreat.Z
