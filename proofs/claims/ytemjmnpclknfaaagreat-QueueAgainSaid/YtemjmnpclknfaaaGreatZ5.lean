/- Sort at uint32: partition. -/
import Derived.Test.YtemjmnpclknfaaaGreatZ4
namespace Go.Proofs.YtemjmnpclknfaaaGreat.Z
open Go.RowKit
set_option maxRecDepth 20000
set_option linter.unusedVariables false

/-- What partition leaves. -/
def PaPost (w0 : World) (g : Nat) (pre post : List Value) (T : Nat × Bool × Array Nat) (r : Ending) (w' : World) : Prop := r = .returned (.tuple #[.int .i64 (T.1 : Int), .bool T.2.1]) ∧ Sr w0 g pre post T.2.2 w'

set_option maxHeartbeats 16000000 in
theorem pa_any (a b p g o n cap : Nat) (pre post : List Value) (d : Array Nat) (w0 w : World) (h : Sr w0 g pre post d w) (ho : o = pre.length) (hn : n = d.size) (hap : a ≤ p) (hpb : p < b) (hb : b ≤ n) (hsz : n < 1000000000) :
    Calls Tryz.prog 106 #[.slice (some ⟨g, o, none⟩) n cap, .int .i64 (a : Int), .int .i64 (b : Int), .int .i64 (p : Int)] w (PaPost w0 g pre post (Sort.partition ltN d a b p)) := by
  have HN := Lib.hid h
  have HO := Lib.hid ho
  have HD := Lib.hid hn
  obtain ⟨T, hT⟩ : ∃ T, T = Sort.partition ltN d a b p := ⟨_, rfl⟩
  rw [← hT]
  obtain ⟨i, hi⟩ : ∃ i, i = a + 1 := ⟨_, rfl⟩
  obtain ⟨j, hj⟩ : ∃ j, j = b - 1 := ⟨_, rfl⟩
  have HT : Hid (Sort.partition ltN d a b p = T) := hT.symm
  have HIJ : Hid (i = a + 1 ∧ j = b - 1) := ⟨hi, hj⟩
  have e0 : (a : Int) + 1 = (i : Int) := by omega
  have e1 : (b : Int) - 1 = (j : Int) := by omega
  have hai : a < i := by omega
  have hin0 : i ≤ n := by omega
  have hjn : j < n := by omega
  have hpn : p < n := by omega
  have han : a < n := by omega
  clear h ho hn hT hi hj
  obtain ⟨G0, hG0⟩ : ∃ G : Nat → Int, G = fun t => ((d[t]! : Nat) : Int) := ⟨_, rfl⟩
  have hca : w.cell? ⟨g, o + a, none⟩ = some (.int .u32 (G0 a)) := by rw [hG0]; exact HN.out.read HO.out a (by rw [← HD.out]; exact han)
  have hcp : w.cell? ⟨g, o + p, none⟩ = some (.int .u32 (G0 p)) := by rw [hG0]; exact HN.out.read HO.out p (by rw [← HD.out]; exact hpn)
  have hfa : w.frozen? ⟨g, o + a, none⟩ = false := HN.out.free _
  have hfp : w.frozen? ⟨g, o + p, none⟩ = false := HN.out.free _
  have HG0 := Lib.hid hG0
  clear hG0
  obtain ⟨v', hy'⟩ := cell?_setCell_some (w := w) (p := ⟨g, o + a, none⟩) (x := .int .u32 (G0 p)) (q := ⟨g, o + p, none⟩) hcp
  go_enter Tryz.func106, Tryz.ntmps106
  go_wp2
  go_region
  obtain ⟨cur, hcur⟩ : ∃ cur, cur = Sort.swp d a p := ⟨_, rfl⟩
  obtain ⟨wq, hwq⟩ : ∃ wq, wq = ((w.setCell ⟨g, o + a, none⟩ (.int .u32 (G0 p))).setCell ⟨g, o + p, none⟩ (.int .u32 (G0 a))).drew := ⟨_, rfl⟩
  rw [← hwq]
  have HCU := Lib.hid hcur
  have HSZ : Hid (cur.size = n) := by rw [hcur, swp_size]; exact HD.out.symm
  have HSR : Hid (Sr w0 g pre post cur wq) := by
    rw [hwq, hcur]
    exact HN.out.drew.swap HO.out a p (by rw [← HD.out]; exact han) (by rw [← HD.out]; exact hpn) _ _ (by rw [HG0.out]) (by rw [HG0.out])
  clear hca hcp hfa hfp hy' HG0 hwq hcur
  obtain ⟨G, hG⟩ : ∃ G : Nat → Int, G = fun t => ((cur[t]! : Nat) : Int) := ⟨_, rfl⟩
  obtain ⟨pu, hpu⟩ : ∃ pu : Nat → Bool, pu = fun x => ltN x cur[a]! := ⟨_, rfl⟩
  obtain ⟨pd, hpd⟩ : ∃ pd : Nat → Bool, pd = fun x => !ltN x cur[a]! := ⟨_, rfl⟩
  obtain ⟨i2, hi2⟩ : ∃ i2, i2 = Sort.scanUp pu cur j i := ⟨_, rfl⟩
  obtain ⟨j2, hj2⟩ : ∃ j2, j2 = Sort.scanDown pd cur i2 j := ⟨_, rfl⟩
  have HSTEP : Hid ((i2 > j2 → (j2, true, Sort.swp cur j2 a) = T) ∧ (¬ i2 > j2 → ((Sort.partLoop ltN a (i2 + 1) (j2 - 1) (Sort.swp cur i2 j2)).1, false, Sort.swp (Sort.partLoop ltN a (i2 + 1) (j2 - 1) (Sort.swp cur i2 j2)).2 (Sort.partLoop ltN a (i2 + 1) (j2 - 1) (Sort.swp cur i2 j2)).1 a) = T)) := by
    have e := HT.out
    subst hpu hpd
    rw [Sort.partition] at e
    simp only at e
    rw [← HCU.out, ← HIJ.out.1, ← HIJ.out.2, ← hi2, ← hj2] at e
    refine ⟨fun hh => ?_, fun hh => ?_⟩
    · rw [if_pos hh] at e; exact e
    · rw [if_neg hh] at e; exact e
  have HPU : Hid (∀ t, pu cur[t]! = decide (G t < G a)) := fun t => by rw [hpu, hG]; simp [ltN]
  have HPD : Hid (∀ t, pd cur[t]! = !decide (G t < G a)) := fun t => by rw [hpd, hG]; simp [ltN]
  have hi2a : i ≤ i2 := by rw [hi2]; exact Sort.scanUp_ge _ _ _ _
  have HI2 := Lib.hid hi2
  have HJ2 := Lib.hid hj2
  have HGE := Lib.hid hG
  clear hG hpu hpd hi2 hj2
  go_upto_block 0 with fail
  go_cut [10] (fun vi wx => vi = .int .i64 (i2 : Int) ∧ i2 ≤ n ∧ Hid (Sr w0 g pre post cur wx))
  case first =>
    go_wp2_with fail
    go_loopw [10] (fun vi w1 => ∃ i' : Nat, vi = .int .i64 (i' : Int) ∧ i ≤ i' ∧ i' ≤ n ∧ Hid (Sort.scanUp pu cur j i' = i2 ∧ Sr w0 g pre post cur w1)) (fun vi _ => n + 1 - (intOf vi).toNat)
    case atStart => exact ⟨i, rfl, Nat.le_refl _, by omega, HI2.out.symm, HSR.out⟩
    case round =>
      obtain ⟨i', rfl, hii, hin, HU⟩ := hrel
      have HPU2 := Lib.hid (HPU.out i')
      have hcw : ∀ t, t < n → wr.cell? ⟨g, o + t, none⟩ = some (.int .u32 (G t)) := fun t ht => by rw [HGE.out]; exact (HU.out.2).read HO.out t (by rw [HSZ.out]; exact ht)
      have hfw : ∀ t, t < n → wr.frozen? ⟨g, o + t, none⟩ = false := fun t _ => (HU.out.2).free _
      by_cases hle : i' ≤ j
      · go_wp2
        go_quiet (first | (go_at_call 72; refine Calls.quiet_of_same (lessI _ _ _)))
        go_wp2
        · have ht := (by first | exact ‹(decide (G i' < G a)) = true› | (simp only [decide_eq_true_eq]; omega) : (decide (G i' < G a)) = true)
          go_roundw
          case rel => exact ⟨i' + 1, by go_num, by omega, by omega, by rw [← scanUp_go pu cur j i' hle (by rw [HPU2.out]; exact ht)]; exact HU.out.1, HU.out.2.drewN _⟩
          case measure => simp [intOf]; omega
        · have ht := (by first | exact ‹(decide (G i' < G a)) = false› | (simp only [decide_eq_false_iff_not]; omega) : (decide (G i' < G a)) = false)
          go_meet
          case rel => exact ⟨by rw [← HU.out.1, scanUp_end pu cur j i' (Or.inr (by rw [HPU2.out]; exact ht))], by rw [← HU.out.1, scanUp_end pu cur j i' (Or.inr (by rw [HPU2.out]; exact ht))]; omega, HU.out.2.drewN _⟩
      · go_wp2
        go_quiet (first | (go_at_call 72; refine Calls.quiet_of_same (lessI _ _ _)))
        go_wp2
        go_meet
        case rel => exact ⟨by rw [← HU.out.1, scanUp_end pu cur j i' (Or.inl hle)], by rw [← HU.out.1, scanUp_end pu cur j i' (Or.inl hle)]; omega, HU.out.2.drewN _⟩
  case rest =>
    obtain ⟨rfl, hi2n, HSR⟩ := hcut
    go_upto_block 2 with fail
    go_cut [11] (fun vj wx => vj = .int .i64 (j2 : Int) ∧ j2 ≤ j ∧ Hid (Sr w0 g pre post cur wx))
    case first =>
      go_wp2_with fail
      go_loopw [11] (fun vj w1 => ∃ j' : Nat, vj = .int .i64 (j' : Int) ∧ j' ≤ j ∧ Hid (Sort.scanDown pd cur i2 j' = j2 ∧ Sr w0 g pre post cur w1)) (fun vj _ => (intOf vj).toNat)
      case atStart => exact ⟨j, rfl, Nat.le_refl _, HJ2.out.symm, HSR.out⟩
      case round =>
        obtain ⟨j', rfl, hjj, HU⟩ := hrel
        have HPD2 := Lib.hid (HPD.out j')
        have hcw : ∀ t, t < n → wr.cell? ⟨g, o + t, none⟩ = some (.int .u32 (G t)) := fun t ht => by rw [HGE.out]; exact (HU.out.2).read HO.out t (by rw [HSZ.out]; exact ht)
        have hfw : ∀ t, t < n → wr.frozen? ⟨g, o + t, none⟩ = false := fun t _ => (HU.out.2).free _
        by_cases hle : i2 ≤ j'
        · go_wp2
          go_quiet (first | (go_at_call 72; refine Calls.quiet_of_same (lessI _ _ _)))
          go_wp2
          · have ht : (!decide (G j' < G a)) = true := by first | exact ‹(!decide (G j' < G a)) = true› | (simp only [decide_eq_true_eq]; omega)
            go_roundw
            case rel => exact ⟨j' - 1, by congr 1; omega, by omega, by rw [← scanDown_go pd cur i2 j' hle (by omega) (by rw [HPD2.out]; exact ht)]; exact HU.out.1, HU.out.2.drewN _⟩
            case measure => simp [intOf]; omega
          · have ht : (!decide (G j' < G a)) = false := by first | exact ‹(!decide (G j' < G a)) = false› | (simp only [decide_eq_false_iff_not]; omega)
            go_meet
            case rel => exact ⟨by rw [← HU.out.1, scanDown_end pd cur i2 j' (Or.inr (by rw [HPD2.out]; exact ht))], by rw [← HU.out.1, scanDown_end pd cur i2 j' (Or.inr (by rw [HPD2.out]; exact ht))]; omega, HU.out.2.drewN _⟩
        · go_wp2
          go_quiet (first | (go_at_call 72; refine Calls.quiet_of_same (lessI _ _ _)))
          go_wp2
          go_meet
          case rel => exact ⟨by rw [← HU.out.1, scanDown_end pd cur i2 j' (Or.inl hle)], by rw [← HU.out.1, scanDown_end pd cur i2 j' (Or.inl hle)]; omega, HU.out.2.drewN _⟩
    case rest =>
      obtain ⟨rfl, hj2j, HSR⟩ := hcut
      have hcw : ∀ t, t < n → wc.cell? ⟨g, o + t, none⟩ = some (.int .u32 (G t)) := fun t ht => by rw [HGE.out]; exact (HSR.out).read HO.out t (by rw [HSZ.out]; exact ht)
      have hfw : ∀ t, t < n → wc.frozen? ⟨g, o + t, none⟩ = false := fun t _ => (HSR.out).free _
      go_wp2
      · have hgt : i2 > j2 := by assumption
        have HE := Lib.hid (HSTEP.out.1 hgt)
        obtain ⟨v', hy'⟩ := cell?_setCell_some (w := wc) (p := ⟨g, o + j2, none⟩) (x := .int .u32 (G a)) (q := ⟨g, o + a, none⟩) (hcw a (by omega))
        go_region
        go_wp2
        go_ret2
        exact ⟨by rw [← HE.out]; rfl, by rw [← HE.out]; exact HSR.out.drew.swap HO.out j2 a (by rw [HSZ.out]; omega) (by rw [HSZ.out]; omega) _ _ (by rw [HGE.out]) (by rw [HGE.out])⟩
      · have hgt : ¬ i2 > j2 := by omega
        obtain ⟨R, hR⟩ : ∃ R, R = Sort.partLoop ltN a (i2 + 1) (j2 - 1) (Sort.swp cur i2 j2) := ⟨_, rfl⟩
        have HTR : Hid ((R.1, false, Sort.swp R.2 R.1 a) = T) := by rw [hR]; exact HSTEP.out.2 hgt
        have HR := Lib.hid hR
        clear hR
        obtain ⟨v', hy'⟩ := cell?_setCell_some (w := wc) (p := ⟨g, o + i2, none⟩) (x := .int .u32 (G j2)) (q := ⟨g, o + j2, none⟩) (hcw j2 (by omega))
        go_region
        go_wp2
        go_loopw [10, 11] (fun vi vj wr => ∃ (i j : Nat) (cur : Array Nat), vi = .int .i64 (i : Int) ∧ vj = .int .i64 (j : Int) ∧ a < i ∧ i ≤ n ∧ j < n ∧ Hid (cur.size = n ∧ Sort.partLoop ltN a i j cur = R ∧ Sr w0 g pre post cur wr)) (fun vi vj _ => (intOf vj).toNat + 1 - (intOf vi).toNat)
        case atStart => exact ⟨i2 + 1, j2 - 1, Sort.swp cur i2 j2, by go_num, by congr 1; omega, by omega, by omega, by omega, by rw [swp_size]; exact HSZ.out, HR.out.symm, HSR.out.drew.swap HO.out i2 j2 (by rw [HSZ.out]; omega) (by rw [HSZ.out]; omega) _ _ (by rw [HGE.out]) (by rw [HGE.out])⟩
        case round =>
          clear hcw hfw hy' HSR HSTEP HPU HPD HI2 HJ2 HGE HSZ HR HCU hi2a hi2n hj2j hgt
          obtain ⟨i, j, cur, rfl, rfl, hai, hin0, hjn, HV⟩ := hrel
          have HSZ := Lib.hid HV.out.1
          have HSR := Lib.hid HV.out.2.2
          obtain ⟨G, hG⟩ : ∃ G : Nat → Int, G = fun t => ((cur[t]! : Nat) : Int) := ⟨_, rfl⟩
          obtain ⟨pu, hpu⟩ : ∃ pu : Nat → Bool, pu = fun x => ltN x cur[a]! := ⟨_, rfl⟩
          obtain ⟨pd, hpd⟩ : ∃ pd : Nat → Bool, pd = fun x => !ltN x cur[a]! := ⟨_, rfl⟩
          obtain ⟨i2, hi2⟩ : ∃ i2, i2 = Sort.scanUp pu cur j i := ⟨_, rfl⟩
          obtain ⟨j2, hj2⟩ : ∃ j2, j2 = Sort.scanDown pd cur i2 j := ⟨_, rfl⟩
          have HSTEP : Hid ((i2 > j2 → (j2, cur) = R) ∧ (¬ i2 > j2 → Sort.partLoop ltN a (i2 + 1) (j2 - 1) (Sort.swp cur i2 j2) = R)) := by
            have e := HV.out.2.1
            rw [Sort.partLoop_eq] at e
            subst hpu hpd
            rw [← hi2, ← hj2] at e
            refine ⟨fun hh => ?_, fun hh => ?_⟩
            · rw [if_pos hh] at e; exact e
            · rw [if_neg hh] at e; exact e
          have HPU : Hid (∀ t, pu cur[t]! = decide (G t < G a)) := fun t => by rw [hpu, hG]; simp [ltN]
          have HPD : Hid (∀ t, pd cur[t]! = !decide (G t < G a)) := fun t => by rw [hpd, hG]; simp [ltN]
          have hi2a : i ≤ i2 := by rw [hi2]; exact Sort.scanUp_ge _ _ _ _
          have HI2 := Lib.hid hi2
          have HJ2 := Lib.hid hj2
          have HGE := Lib.hid hG
          clear hG hpu hpd hi2 hj2
          go_upto_block 6 with fail
          go_cut [10] (fun vi wx => vi = .int .i64 (i2 : Int) ∧ i2 ≤ n ∧ Hid (Sr w0 g pre post cur wx))
          case first =>
            go_wp2_with fail
            go_loopw [10] (fun vi w1 => ∃ i' : Nat, vi = .int .i64 (i' : Int) ∧ i ≤ i' ∧ i' ≤ n ∧ Hid (Sort.scanUp pu cur j i' = i2 ∧ Sr w0 g pre post cur w1)) (fun vi _ => n + 1 - (intOf vi).toNat)
            case atStart => exact ⟨i, rfl, Nat.le_refl _, by omega, HI2.out.symm, HSR.out⟩
            case round =>
              obtain ⟨i', rfl, hii, hin, HU⟩ := hrel
              have HPU2 := Lib.hid (HPU.out i')
              have hcw : ∀ t, t < n → wr.cell? ⟨g, o + t, none⟩ = some (.int .u32 (G t)) := fun t ht => by rw [HGE.out]; exact (HU.out.2).read HO.out t (by rw [HSZ.out]; exact ht)
              have hfw : ∀ t, t < n → wr.frozen? ⟨g, o + t, none⟩ = false := fun t _ => (HU.out.2).free _
              by_cases hle : i' ≤ j
              · go_wp2
                go_quiet (first | (go_at_call 72; refine Calls.quiet_of_same (lessI _ _ _)))
                go_wp2
                · have ht := (by first | exact ‹(decide (G i' < G a)) = true› | (simp only [decide_eq_true_eq]; omega) : (decide (G i' < G a)) = true)
                  go_roundw
                  case rel => exact ⟨i' + 1, by go_num, by omega, by omega, by rw [← scanUp_go pu cur j i' hle (by rw [HPU2.out]; exact ht)]; exact HU.out.1, HU.out.2.drewN _⟩
                  case measure => simp [intOf]; omega
                · have ht := (by first | exact ‹(decide (G i' < G a)) = false› | (simp only [decide_eq_false_iff_not]; omega) : (decide (G i' < G a)) = false)
                  go_meet
                  case rel => exact ⟨by rw [← HU.out.1, scanUp_end pu cur j i' (Or.inr (by rw [HPU2.out]; exact ht))], by rw [← HU.out.1, scanUp_end pu cur j i' (Or.inr (by rw [HPU2.out]; exact ht))]; omega, HU.out.2.drewN _⟩
              · go_wp2
                go_quiet (first | (go_at_call 72; refine Calls.quiet_of_same (lessI _ _ _)))
                go_wp2
                go_meet
                case rel => exact ⟨by rw [← HU.out.1, scanUp_end pu cur j i' (Or.inl hle)], by rw [← HU.out.1, scanUp_end pu cur j i' (Or.inl hle)]; omega, HU.out.2.drewN _⟩
          case rest =>
            obtain ⟨rfl, hi2n, HSR⟩ := hcut
            go_upto_block 8 with fail
            go_cut [11] (fun vj wx => vj = .int .i64 (j2 : Int) ∧ j2 ≤ j ∧ Hid (Sr w0 g pre post cur wx))
            case first =>
              go_wp2_with fail
              go_loopw [11] (fun vj w1 => ∃ j' : Nat, vj = .int .i64 (j' : Int) ∧ j' ≤ j ∧ Hid (Sort.scanDown pd cur i2 j' = j2 ∧ Sr w0 g pre post cur w1)) (fun vj _ => (intOf vj).toNat)
              case atStart => exact ⟨j, rfl, Nat.le_refl _, HJ2.out.symm, HSR.out⟩
              case round =>
                obtain ⟨j', rfl, hjj, HU⟩ := hrel
                have HPD2 := Lib.hid (HPD.out j')
                have hcw : ∀ t, t < n → wr.cell? ⟨g, o + t, none⟩ = some (.int .u32 (G t)) := fun t ht => by rw [HGE.out]; exact (HU.out.2).read HO.out t (by rw [HSZ.out]; exact ht)
                have hfw : ∀ t, t < n → wr.frozen? ⟨g, o + t, none⟩ = false := fun t _ => (HU.out.2).free _
                by_cases hle : i2 ≤ j'
                · go_wp2
                  go_quiet (first | (go_at_call 72; refine Calls.quiet_of_same (lessI _ _ _)))
                  go_wp2
                  · have ht : (!decide (G j' < G a)) = true := by first | exact ‹(!decide (G j' < G a)) = true› | (simp only [decide_eq_true_eq]; omega)
                    go_roundw
                    case rel => exact ⟨j' - 1, by congr 1; omega, by omega, by rw [← scanDown_go pd cur i2 j' hle (by omega) (by rw [HPD2.out]; exact ht)]; exact HU.out.1, HU.out.2.drewN _⟩
                    case measure => simp [intOf]; omega
                  · have ht : (!decide (G j' < G a)) = false := by first | exact ‹(!decide (G j' < G a)) = false› | (simp only [decide_eq_false_iff_not]; omega)
                    go_meet
                    case rel => exact ⟨by rw [← HU.out.1, scanDown_end pd cur i2 j' (Or.inr (by rw [HPD2.out]; exact ht))], by rw [← HU.out.1, scanDown_end pd cur i2 j' (Or.inr (by rw [HPD2.out]; exact ht))]; omega, HU.out.2.drewN _⟩
                · go_wp2
                  go_quiet (first | (go_at_call 72; refine Calls.quiet_of_same (lessI _ _ _)))
                  go_wp2
                  go_meet
                  case rel => exact ⟨by rw [← HU.out.1, scanDown_end pd cur i2 j' (Or.inl hle)], by rw [← HU.out.1, scanDown_end pd cur i2 j' (Or.inl hle)]; omega, HU.out.2.drewN _⟩
            case rest =>
              obtain ⟨rfl, hj2j, HSR⟩ := hcut
              have hcw : ∀ t, t < n → wc.cell? ⟨g, o + t, none⟩ = some (.int .u32 (G t)) := fun t ht => by rw [HGE.out]; exact (HSR.out).read HO.out t (by rw [HSZ.out]; exact ht)
              have hfw : ∀ t, t < n → wc.frozen? ⟨g, o + t, none⟩ = false := fun t _ => (HSR.out).free _
              go_wp2
              · have hgt : i2 > j2 := by assumption
                have HE := Lib.hid (HSTEP.out.1 hgt)
                obtain ⟨v', hy'⟩ := cell?_setCell_some (w := wc) (p := ⟨g, o + j2, none⟩) (x := .int .u32 (G a)) (q := ⟨g, o + a, none⟩) (hcw a (by omega))
                go_region
                go_wp2
                go_ret2
                have e9 := HTR.out
                rw [← HE.out] at e9
                exact ⟨by rw [← e9]; rfl, by rw [← e9]; exact HSR.out.drew.swap HO.out j2 a (by rw [HSZ.out]; omega) (by rw [HSZ.out]; omega) _ _ (by rw [HGE.out]) (by rw [HGE.out])⟩
              · have hgt : ¬ i2 > j2 := by omega
                have HSW := Lib.hid (HSTEP.out.2 hgt)
                obtain ⟨v', hy'⟩ := cell?_setCell_some (w := wc) (p := ⟨g, o + i2, none⟩) (x := .int .u32 (G j2)) (q := ⟨g, o + j2, none⟩) (hcw j2 (by omega))
                go_region
                go_wp2
                go_roundw
                case rel => exact ⟨i2 + 1, j2 - 1, Sort.swp cur i2 j2, by go_num, by congr 1; omega, by omega, by omega, by omega, by rw [swp_size]; exact HSZ.out, HSW.out, HSR.out.drew.swap HO.out i2 j2 (by rw [HSZ.out]; omega) (by rw [HSZ.out]; omega) _ _ (by rw [HGE.out]) (by rw [HGE.out])⟩
                case measure => simp [intOf]; omega
end Go.Proofs.YtemjmnpclknfaaaGreat.Z
