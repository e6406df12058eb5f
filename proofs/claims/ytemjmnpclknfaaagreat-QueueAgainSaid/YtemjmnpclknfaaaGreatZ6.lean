/- Sort at uint32: partialInsertionSort. -/
import Derived.Test.YtemjmnpclknfaaaGreatZ5
namespace Go.Proofs.YtemjmnpclknfaaaGreat.Z
open Go.RowKit
set_option maxRecDepth 20000
set_option linter.unusedVariables false

theorem scanSorted_go (d : Array Nat) (b i : Nat) (h : i < b) (hp : ltN d[i]! d[i - 1]! = false) : Sort.scanSorted ltN d b i = Sort.scanSorted ltN d b (i + 1) := by
  conv => lhs; rw [Sort.scanSorted]
  simp [h, hp]
theorem scanSorted_end (d : Array Nat) (b i : Nat) (h : ¬ i < b ∨ ltN d[i]! d[i - 1]! = true) : Sort.scanSorted ltN d b i = i := by
  rw [Sort.scanSorted]
  rcases h with h | h
  · simp [h]
  · simp [h]
theorem scanSorted_bounds (d : Array Nat) (b : Nat) : ∀ (q i : Nat), b - i ≤ q → i ≤ b → i ≤ Sort.scanSorted ltN d b i ∧ Sort.scanSorted ltN d b i ≤ b := by
  intro q
  induction q with
  | zero => intro i h1 h2; rw [scanSorted_end d b i (Or.inl (by omega))]; exact ⟨Nat.le_refl _, h2⟩
  | succ q ih =>
    intro i h1 h2
    by_cases h : i < b
    · cases hp : ltN d[i]! d[i - 1]! with
      | true => rw [scanSorted_end d b i (Or.inr hp)]; exact ⟨Nat.le_refl _, h2⟩
      | false =>
        rw [scanSorted_go d b i h hp]
        have := ih (i + 1) (by omega) (by omega)
        exact ⟨by omega, this.2⟩
    · rw [scanSorted_end d b i (Or.inl h)]; exact ⟨Nat.le_refl _, h2⟩
theorem shiftDown_end (j : Nat) (d : Array Nat) (h : j = 0 ∨ ltN d[j]! d[j - 1]! = false) : Sort.shiftDown ltN j d = d := by
  cases j with
  | zero => rfl
  | succ k =>
    rw [Sort.shiftDown]
    rcases h with h | h
    · omega
    · simp only [Nat.add_sub_cancel] at h
      simp [h]
theorem shiftDown_go (j : Nat) (d : Array Nat) (h0 : 0 < j) (h : ltN d[j]! d[j - 1]! = true) : Sort.shiftDown ltN j d = Sort.shiftDown ltN (j - 1) (Sort.swp d j (j - 1)) := by
  cases j with
  | zero => omega
  | succ k =>
    simp only [Nat.add_sub_cancel] at h
    simp [Sort.shiftDown, h]
theorem shiftUp_end (b j : Nat) (d : Array Nat) (h : ¬ j < b ∨ ltN d[j]! d[j - 1]! = false) : Sort.shiftUp ltN b j d = d := by
  rw [Sort.shiftUp]
  rcases h with h | h
  · simp [h]
  · simp [h]
theorem shiftUp_go (b j : Nat) (d : Array Nat) (h0 : j < b) (h : ltN d[j]! d[j - 1]! = true) : Sort.shiftUp ltN b j d = Sort.shiftUp ltN b (j + 1) (Sort.swp d j (j - 1)) := by
  conv => lhs; rw [Sort.shiftUp]
  simp [h0, h]
/-- The row behind one step. -/
def stepRow (a b i : Nat) (d : Array Nat) : Array Nat := if b - i ≥ 2 then Sort.shiftUp ltN b (i + 1) (if i - a ≥ 2 then Sort.shiftDown ltN (i - 1) (Sort.swp d i (i - 1)) else Sort.swp d i (i - 1)) else (if i - a ≥ 2 then Sort.shiftDown ltN (i - 1) (Sort.swp d i (i - 1)) else Sort.swp d i (i - 1))
theorem partialIns_step (a b s i : Nat) (d : Array Nat) : Sort.partialIns ltN a b (s + 1) i d = if Sort.scanSorted ltN d b i = b then (d, true) else if b - a < 50 then (d, false) else Sort.partialIns ltN a b s (Sort.scanSorted ltN d b i) (stepRow a b (Sort.scanSorted ltN d b i) d) := by
  rw [Sort.partialIns]
  rfl

/-- What partialInsertionSort leaves. -/
def PiPost (w0 : World) (g : Nat) (pre post : List Value) (T : Array Nat × Bool) (r : Ending) (w' : World) : Prop := r = .returned (.bool T.2) ∧ Sr w0 g pre post T.1 w'

set_option maxHeartbeats 16000000 in
theorem pi_any (a b g o n cap : Nat) (pre post : List Value) (d : Array Nat) (w0 w : World) (h : Sr w0 g pre post d w) (ho : o = pre.length) (hn : n = d.size) (hab : a < b) (hb : b ≤ n) (hsz : n < 1000000000) :
    Calls Tryz.prog 104 #[.slice (some ⟨g, o, none⟩) n cap, .int .i64 (a : Int), .int .i64 (b : Int)] w (PiPost w0 g pre post (Sort.partialInsertionSort ltN d a b)) := by
  have HN := Lib.hid h
  have HO := Lib.hid ho
  have HD := Lib.hid hn
  obtain ⟨T, hT⟩ : ∃ T, T = Sort.partialInsertionSort ltN d a b := ⟨_, rfl⟩
  rw [← hT]
  have HT : Hid (Sort.partialIns ltN a b 5 (a + 1) d = T) := by rw [hT]; rfl
  obtain ⟨m, hm⟩ : ∃ m, m = b - a := ⟨_, rfl⟩
  have e0 : (b : Int) - (a : Int) = (m : Int) := by omega
  have HM : Hid (m = b - a) := hm
  clear h ho hn hT hm
  go_enter Tryz.func104, Tryz.ntmps104
  go_wp2
  go_loopw [7, 8] (fun vi vj wr => ∃ (i s : Nat) (z : Int) (cur : Array Nat), vi = .int .i64 (i : Int) ∧ vj = .int .i64 z ∧ z = 5 - (s : Int) ∧ s ≤ 5 ∧ a < i ∧ i ≤ b ∧ Hid (cur.size = n ∧ Sort.partialIns ltN a b s i cur = T ∧ Sr w0 g pre post cur wr)) (fun _ vj _ => (5 - intOf vj).toNat)
  case atStart => exact ⟨a + 1, 5, 0, d, by go_num, rfl, by omega, by omega, by omega, by omega, HD.out.symm, HT.out, HN.out⟩
  case round =>
    obtain ⟨i, s, z, cur, rfl, rfl, hz, hs, hai, hib, HV⟩ := hrel
    rcases s with _ | s
    · obtain rfl : z = 5 := by omega
      clear hz
      have HE : Hid ((cur, false) = T) := HV.out.2.1
      go_wp2
      go_ret
      exact ⟨by rw [← HE.out]; rfl, by rw [← HE.out]; exact HV.out.2.2⟩
    · have hz5 : z < 5 := by omega
      have hz0 : 0 ≤ z := by omega
      have HZ := Lib.hid hz
      clear hz
      obtain ⟨G, hG⟩ : ∃ G : Nat → Int, G = fun t => ((cur[t]! : Nat) : Int) := ⟨_, rfl⟩
      obtain ⟨i2, hi2⟩ : ∃ i2, i2 = Sort.scanSorted ltN cur b i := ⟨_, rfl⟩
      have HSTEP : Hid ((i2 = b → (cur, true) = T) ∧ (i2 ≠ b → m < 50 → (cur, false) = T) ∧ (i2 ≠ b → ¬ m < 50 → Sort.partialIns ltN a b s i2 (stepRow a b i2 cur) = T)) := by
        have e := HV.out.2.1
        rw [partialIns_step, ← hi2, ← HM.out] at e
        refine ⟨fun hh => ?_, fun h1 h2 => ?_, fun h1 h2 => ?_⟩
        · rw [if_pos hh] at e; exact e
        · rw [if_neg h1, if_pos h2] at e; exact e
        · rw [if_neg h1, if_neg h2] at e; exact e
      have hi2a : i ≤ i2 := by rw [hi2]; exact (scanSorted_bounds cur b _ i (Nat.le_refl _) hib).1
      have hi2b : i2 ≤ b := by rw [hi2]; exact (scanSorted_bounds cur b _ i (Nat.le_refl _) hib).2
      have HI2 := Lib.hid hi2
      have HGE := Lib.hid hG
      have HSZ := Lib.hid HV.out.1
      clear hG hi2
      go_upto_block 2 with fail
      go_cut [7] (fun vi wx => vi = .int .i64 (i2 : Int) ∧ Hid (Sr w0 g pre post cur wx))
      case first =>
        go_wp2_with fail
        go_loopw [7] (fun vi w1 => ∃ i' : Nat, vi = .int .i64 (i' : Int) ∧ i ≤ i' ∧ i' ≤ b ∧ Hid (Sort.scanSorted ltN cur b i' = i2 ∧ Sr w0 g pre post cur w1)) (fun vi _ => b - (intOf vi).toNat)
        case atStart => exact ⟨i, rfl, Nat.le_refl _, by omega, HI2.out.symm, HV.out.2.2⟩
        case round =>
          obtain ⟨i', rfl, hii, hin, HU⟩ := hrel
          have hcw : ∀ t, t < n → wr.cell? ⟨g, o + t, none⟩ = some (.int .u32 (G t)) := fun t ht => by rw [HGE.out]; exact (HU.out.2).read HO.out t (by rw [HSZ.out]; exact ht)
          have hfw : ∀ t, t < n → wr.frozen? ⟨g, o + t, none⟩ = false := fun t _ => (HU.out.2).free _
          by_cases hle : i' < b
          · go_wp2
            go_quiet (first | (go_at_call 72; refine Calls.quiet_of_same (lessI _ _ _)))
            go_wp2
            · have ht := ‹(!decide (G i' < G (i' - 1))) = true›
              go_roundw
              case rel => exact ⟨i' + 1, by go_num, by omega, by omega, by rw [← scanSorted_go cur b i' hle (by rw [HGE.out] at ht; simpa [ltN] using ht)]; exact HU.out.1, HU.out.2.drewN _⟩
              case measure => simp [intOf]; omega
            · have ht := ‹(!decide (G i' < G (i' - 1))) = false›
              go_meet
              case rel => exact ⟨by rw [← HU.out.1, scanSorted_end cur b i' (Or.inr (by rw [HGE.out] at ht; simpa [ltN] using ht))], HU.out.2.drewN _⟩
          · go_wp2
            go_quiet (first | (go_at_call 72; refine Calls.quiet_of_same (lessI _ _ _)))
            go_wp2
            go_meet
            case rel => exact ⟨by rw [← HU.out.1, scanSorted_end cur b i' (Or.inl hle)], HU.out.2.drewN _⟩
      case rest =>
        obtain ⟨rfl, HSR⟩ := hcut
        have hcw : ∀ t, t < n → wc.cell? ⟨g, o + t, none⟩ = some (.int .u32 (G t)) := fun t ht => by rw [HGE.out]; exact (HSR.out).read HO.out t (by rw [HSZ.out]; exact ht)
        have hfw : ∀ t, t < n → wc.frozen? ⟨g, o + t, none⟩ = false := fun t _ => (HSR.out).free _
        by_cases hgt : i2 = b
        · have hgi : (i2 : Int) = (b : Int) := by omega
          go_wp2
          have HE := Lib.hid (HSTEP.out.1 hgt)
          go_ret
          exact ⟨by rw [← HE.out]; rfl, by rw [← HE.out]; exact HSR.out⟩
        by_cases hlt : m < 50
        · have HE := Lib.hid (HSTEP.out.2.1 hgt hlt)
          have hgi : ¬ (i2 : Int) = (b : Int) := by omega
          go_wp2
          go_ret
          exact ⟨by rw [← HE.out]; rfl, by rw [← HE.out]; exact HSR.out⟩
        · have HE := Lib.hid (HSTEP.out.2.2 hgt hlt)
          have hgi : ¬ (i2 : Int) = (b : Int) := by omega
          go_wp2
          go_region
          obtain ⟨C1, hC1⟩ : ∃ C1, C1 = Sort.swp cur i2 (i2 - 1) := ⟨_, rfl⟩
          obtain ⟨C2, hC2⟩ : ∃ C2, C2 = if i2 - a ≥ 2 then Sort.shiftDown ltN (i2 - 1) C1 else C1 := ⟨_, rfl⟩
          obtain ⟨C3, hC3⟩ : ∃ C3, C3 = if b - i2 ≥ 2 then Sort.shiftUp ltN b (i2 + 1) C2 else C2 := ⟨_, rfl⟩
          have HE3 : Hid (Sort.partialIns ltN a b s i2 C3 = T) := by rw [hC3, hC2, hC1]; exact HE.out
          obtain ⟨wq, hwq⟩ : ∃ wq, wq = ((wc.setCell ⟨g, o + i2, none⟩ (.int .u32 (G (i2 - 1)))).setCell ⟨g, o + (i2 - 1), none⟩ (.int .u32 (G i2))).drew := ⟨_, rfl⟩
          rw [← hwq]
          have HC1 : Hid (C1.size = n ∧ Sr w0 g pre post C1 wq) := by
            rw [hwq, hC1]
            exact ⟨by rw [swp_size]; exact HSZ.out, HSR.out.drew.swap HO.out i2 (i2 - 1) (by rw [HSZ.out]; omega) (by rw [HSZ.out]; omega) _ _ (by rw [HGE.out]) (by rw [HGE.out])⟩
          have HC2E := Lib.hid hC2
          have HC3E := Lib.hid hC3
          clear hcw hfw hC1 hC2 hC3 hwq
          obtain ⟨k1, hk1⟩ : ∃ k1, k1 = i2 - a := ⟨_, rfl⟩
          obtain ⟨k2, hk2⟩ : ∃ k2, k2 = b - i2 := ⟨_, rfl⟩
          have q1 : (i2 : Int) - (a : Int) = (k1 : Int) := by omega
          have q2 : (b : Int) - (i2 : Int) = (k2 : Int) := by omega
          rw [← hk1] at HC2E
          rw [← hk2] at HC3E
          have hka : k1 + a = i2 := by omega
          have hkb : k2 + i2 = b := by omega
          clear hk1 hk2
          go_upto_if 61 with fail
          go_cut [] (fun wx => Hid (C2.size = n ∧ Sr w0 g pre post C2 wx))
          case first =>
            by_cases hk : 2 ≤ k1
            · have HDD : Hid (Sort.shiftDown ltN (i2 - 1) C1 = C2) := by rw [HC2E.out, if_pos hk]; exact Lib.hid rfl
              go_wp2_with fail
              go_loopw [9] (fun vj w1 => ∃ (jj : Nat) (cu2 : Array Nat), vj = .int .i64 (jj : Int) ∧ jj ≤ i2 ∧ Hid (cu2.size = n ∧ Sort.shiftDown ltN jj cu2 = C2 ∧ Sr w0 g pre post cu2 w1)) (fun vj _ => (intOf vj).toNat)
              case atStart => exact ⟨i2 - 1, C1, by first | go_num | (congr 1; omega), by omega, HC1.out.1, HDD.out, HC1.out.2⟩
              case round =>
                obtain ⟨jj, cu2, rfl, hjb, HU⟩ := hrel
                obtain ⟨G2, hG2⟩ : ∃ G : Nat → Int, G = fun t => ((cu2[t]! : Nat) : Int) := ⟨_, rfl⟩
                have HGE2 := Lib.hid hG2
                clear hG2
                have HSZ2 := Lib.hid HU.out.1
                have hcw : ∀ t, t < n → wr.cell? ⟨g, o + t, none⟩ = some (.int .u32 (G2 t)) := fun t ht => by rw [HGE2.out]; exact (HU.out.2.2).read HO.out t (by rw [HSZ2.out]; exact ht)
                have hfw : ∀ t, t < n → wr.frozen? ⟨g, o + t, none⟩ = false := fun t _ => (HU.out.2.2).free _
                by_cases hc : 1 ≤ jj
                · go_wp2_with fail
                  go_quiet (first | (go_at_call 72; refine Calls.quiet_of_same (lessI _ _ _)))
                  go_wp2_with fail
                  · have ht := ‹(!decide (G2 jj < G2 (jj - 1))) = true›
                    go_meet
                    case rel => exact ⟨by rw [← HU.out.2.1, shiftDown_end jj cu2 (Or.inr (by rw [HGE2.out] at ht; simpa [ltN] using ht))]; exact HU.out.1, by rw [← HU.out.2.1, shiftDown_end jj cu2 (Or.inr (by rw [HGE2.out] at ht; simpa [ltN] using ht))]; exact HU.out.2.2.drewN _⟩
                  · have ht := ‹(!decide (G2 jj < G2 (jj - 1))) = false›
                    have HSW : Hid (Sort.shiftDown ltN (jj - 1) (Sort.swp cu2 jj (jj - 1)) = C2) := by
                      rw [← HU.out.2.1, shiftDown_go jj cu2 (by omega) (by rw [HGE2.out] at ht; simpa [ltN] using ht)]; exact Lib.hid rfl
                    go_region
                    all_goals go_wp2_with fail
                    go_roundw
                    case rel => exact ⟨jj - 1, Sort.swp cu2 jj (jj - 1), by congr 1; omega, by omega, by rw [swp_size]; exact HU.out.1, HSW.out, (HU.out.2.2.drewN _).swap HO.out jj (jj - 1) (by rw [HU.out.1]; omega) (by rw [HU.out.1]; omega) _ _ (by rw [HGE2.out]) (by rw [HGE2.out])⟩
                    case measure => simp [intOf]; omega
                · go_wp2_with fail
                  go_meet
                  case rel => exact ⟨by rw [← HU.out.2.1, shiftDown_end jj cu2 (Or.inl (by omega))]; exact HU.out.1, by rw [← HU.out.2.1, shiftDown_end jj cu2 (Or.inl (by omega))]; exact HU.out.2.2⟩
            · have HDD : Hid (C1 = C2) := by rw [HC2E.out, if_neg hk]; exact Lib.hid rfl
              go_wp2_with fail
              go_meet
              case rel => rw [← HDD.out]; exact HC1.out
          case rest =>
            have HC2 := hcut
            clear hcut
            by_cases hk : 2 ≤ k2
            · have HDD : Hid (Sort.shiftUp ltN b (i2 + 1) C2 = C3) := by rw [HC3E.out, if_pos hk]; exact Lib.hid rfl
              go_wp2_with fail
              go_loopw [10] (fun vj w1 => ∃ (jj : Nat) (cu2 : Array Nat), vj = .int .i64 (jj : Int) ∧ i2 < jj ∧ jj ≤ b ∧ Hid (cu2.size = n ∧ Sort.shiftUp ltN b jj cu2 = C3 ∧ Sr w0 g pre post cu2 w1)) (fun vj _ => b - (intOf vj).toNat)
              case atStart => exact ⟨i2 + 1, C2, by first | go_num | (congr 1; omega), by omega, by omega, HC2.out.1, HDD.out, HC2.out.2⟩
              case round =>
                obtain ⟨jj, cu2, rfl, hij, hjb, HU⟩ := hrel
                obtain ⟨G2, hG2⟩ : ∃ G : Nat → Int, G = fun t => ((cu2[t]! : Nat) : Int) := ⟨_, rfl⟩
                have HGE2 := Lib.hid hG2
                clear hG2
                have HSZ2 := Lib.hid HU.out.1
                have hcw : ∀ t, t < n → wr.cell? ⟨g, o + t, none⟩ = some (.int .u32 (G2 t)) := fun t ht => by rw [HGE2.out]; exact (HU.out.2.2).read HO.out t (by rw [HSZ2.out]; exact ht)
                have hfw : ∀ t, t < n → wr.frozen? ⟨g, o + t, none⟩ = false := fun t _ => (HU.out.2.2).free _
                by_cases hc : jj < b
                · go_wp2_with fail
                  go_quiet (first | (go_at_call 72; refine Calls.quiet_of_same (lessI _ _ _)))
                  go_wp2_with fail
                  · have ht := ‹(!decide (G2 jj < G2 (jj - 1))) = true›
                    go_wp2_with fail
                    go_roundw
                    case rel => exact ⟨i2, s, z + 1, C3, rfl, by go_num, by have := HZ.out; omega, by omega, by omega, by omega, by rw [← HU.out.2.1, shiftUp_end b jj cu2 (Or.inr (by rw [HGE2.out] at ht; simpa [ltN] using ht))]; exact HU.out.1, HE3.out, by rw [← HU.out.2.1, shiftUp_end b jj cu2 (Or.inr (by rw [HGE2.out] at ht; simpa [ltN] using ht))]; exact HU.out.2.2.drewN _⟩
                    case measure => simp [intOf]; omega
                  · have ht := ‹(!decide (G2 jj < G2 (jj - 1))) = false›
                    have HSW : Hid (Sort.shiftUp ltN b (jj + 1) (Sort.swp cu2 jj (jj - 1)) = C3) := by
                      rw [← HU.out.2.1, shiftUp_go b jj cu2 (by omega) (by rw [HGE2.out] at ht; simpa [ltN] using ht)]; exact Lib.hid rfl
                    go_region
                    all_goals go_wp2_with fail
                    go_roundw
                    case rel => exact ⟨jj + 1, Sort.swp cu2 jj (jj - 1), by go_num, by omega, by omega, by rw [swp_size]; exact HU.out.1, HSW.out, (HU.out.2.2.drewN _).swap HO.out jj (jj - 1) (by rw [HU.out.1]; omega) (by rw [HU.out.1]; omega) _ _ (by rw [HGE2.out]) (by rw [HGE2.out])⟩
                    case measure => simp [intOf]; omega
                · go_wp2_with fail
                  go_wp2_with fail
                  go_roundw
                  case rel => exact ⟨i2, s, z + 1, C3, rfl, by go_num, by have := HZ.out; omega, by omega, by omega, by omega, by rw [← HU.out.2.1, shiftUp_end b jj cu2 (Or.inl hc)]; exact HU.out.1, HE3.out, by rw [← HU.out.2.1, shiftUp_end b jj cu2 (Or.inl hc)]; exact HU.out.2.2⟩
                  case measure => simp [intOf]; omega
            · have HDD : Hid (C2 = C3) := by rw [HC3E.out, if_neg hk]; exact Lib.hid rfl
              go_wp2_with fail
              go_roundw
              case rel => exact ⟨i2, s, z + 1, C3, rfl, by go_num, by have := HZ.out; omega, by omega, by omega, by omega, by rw [← HDD.out]; exact HC2.out.1, HE3.out, by rw [← HDD.out]; exact HC2.out.2⟩
              case measure => simp [intOf]; omega
end Go.Proofs.YtemjmnpclknfaaaGreat.Z
