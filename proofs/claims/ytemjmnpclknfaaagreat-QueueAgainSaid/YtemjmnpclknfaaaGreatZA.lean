/- Sort at uint32: pdqsort. -/
import Derived.Test.YtemjmnpclknfaaaGreatZ9
import Derived.Sort.AssemblyPlain
namespace Go.Proofs.YtemjmnpclknfaaaGreat.Z
open Go.RowKit
set_option maxRecDepth 20000
set_option linter.unusedVariables false

theorem swo_ltN : Sort.SWO ltN where
  irrefl := fun x => by simp [ltN]
  trans := fun x y z h1 h2 => by simp [ltN] at *; omega
  ntrans := fun x y z h1 h2 => by simp [ltN] at *; omega

/-- What pdqsort leaves. -/
def PdPost (w0 : World) (g : Nat) (pre post : List Value) (d : Array Nat) (a b : Nat) (r : Ending) (w' : World) : Prop := r = .returned (.tuple #[]) ∧ ∃ d' : Array Nat, Sort.PermIn a b d d' ∧ Sort.SortedIn ltN a b d' ∧ Sr w0 g pre post d' w'
/-- What is to be sorted still. -/
def Rest (n a0 b0 : Nat) (d : Array Nat) (a b : Nat) (cur : Array Nat) : Prop := cur.size = n ∧ Sort.Below ltN a b cur ∧ ∀ R, Sort.PermIn a b cur R → Sort.SortedIn ltN a b R → Sort.PermIn a0 b0 d R ∧ Sort.SortedIn ltN a0 b0 R
theorem Rest.perm {n a0 b0 a b : Nat} {d cur c2 : Array Nat} (h : Rest n a0 b0 d a b cur) (hb : b ≤ n) (hp : Sort.PermIn a b cur c2) : Rest n a0 b0 d a b c2 :=
  ⟨hp.1.trans h.1, h.2.1.perm (by rw [h.1]; exact hb) hp, fun R h1 h2 => h.2.2 R (Sort.permIn_trans cur c2 R a b hp h1) h2⟩

set_option maxHeartbeats 32000000 in
theorem pd_any (g o n cap : Nat) (pre post : List Value) (w0 : World) (ho : o = pre.length) (hsz : n < 1000000000) : ∀ (m a0 b0 lim0 : Nat) (d : Array Nat) (w : World), b0 - a0 ≤ m → Sr w0 g pre post d w → n = d.size → a0 ≤ b0 → b0 ≤ n → lim0 < 1000000 → Sort.Below ltN a0 b0 d →
    Calls Tryz.prog 89 #[.slice (some ⟨g, o, none⟩) n cap, .int .i64 (a0 : Int), .int .i64 (b0 : Int), .int .i64 (lim0 : Int)] w (PdPost w0 g pre post d a0 b0) := by
  have HO := Lib.hid ho
  clear ho
  intro m
  induction m using Nat.strongRecOn with
  | _ m ih =>
  intro a0 b0 lim0 d w hm h hn hab hb hlim hB
  have IH := Lib.hid ih
  have HN := Lib.hid h
  have HR0 : Hid (Rest n a0 b0 d a0 b0 d) := ⟨hn.symm, hB, fun R h1 h2 => ⟨h1, h2⟩⟩
  clear ih h hn hB
  go_enter Tryz.func89, Tryz.ntmps89
  go_wp2
  go_loopw [1, 2, 3, 8, 9] (fun va vb vl vwb vwp wr => ∃ (a b lim : Nat) (wb wp : Bool) (cur : Array Nat), va = .int .i64 (a : Int) ∧ vb = .int .i64 (b : Int) ∧ vl = .int .i64 (lim : Int) ∧ vwb = .bool wb ∧ vwp = .bool wp ∧ a ≤ b ∧ b ≤ n ∧ b - a ≤ m ∧ lim < 1000000 ∧ Hid (Rest n a0 b0 d a b cur ∧ Sr w0 g pre post cur wr)) (fun va vb _ _ _ _ => (intOf vb - intOf va).toNat)
  case atStart => exact ⟨a0, b0, lim0, true, true, d, rfl, rfl, rfl, rfl, rfl, hab, hb, hm, hlim, HR0.out, HN.out⟩
  case round =>
    obtain ⟨a, b, lim, wb, wp, cur, rfl, rfl, rfl, rfl, rfl, hab1, hb1, hm1, hlim1, HV⟩ := hrel
    obtain ⟨l, hl⟩ : ∃ l, l = b - a := ⟨_, rfl⟩
    have e1 : (b : Int) - (a : Int) = (l : Int) := by omega
    have hln : l ≤ n := by omega
    have hal : a + l = b := by omega
    clear hl
    by_cases h12 : l ≤ 12
    · have c1 := ins_any a b g o n cap pre post cur w0 wr HV.out.2 HO.out HV.out.1.1.symm hab1 hb1 (by omega)
      have C1 := Lib.hid c1
      clear c1
      go_wp2_with (go_at_call 99; refine C1.out.mono ?_; rintro e w' ⟨rfl, hS⟩; have HS := Lib.hid hS; clear hS)
      have hi := Sort.insertionSort_holds swo_ltN cur a b hab1 (by rw [HV.out.1.1]; exact hb1)
      have hr := HV.out.1.2.2 _ hi.1 hi.2
      exact bodyPost_ret (v := .tuple #[]) (by simp [results, Tryz.results89, go_sem]) rfl ⟨rfl, _, hr.1, hr.2, HS.out⟩
    by_cases hlim0 : lim = 0
    · subst hlim0
      have c1 := heap_any a b g o n cap pre post cur w0 wr HV.out.2 HO.out HV.out.1.1.symm (by omega) hb1 (by omega)
      have C1 := Lib.hid c1
      clear c1
      go_wp2_with (go_at_call 100; refine C1.out.mono ?_; rintro e w' ⟨rfl, hS⟩; have HS := Lib.hid hS; clear hS)
      have hi := Sort.heapSort_holds swo_ltN cur a b hab1 (by rw [HV.out.1.1]; exact hb1)
      have hr := HV.out.1.2.2 _ hi.1 hi.2
      exact bodyPost_ret (v := .tuple #[]) (by simp [results, Tryz.results89, go_sem]) rfl ⟨rfl, _, hr.1, hr.2, HS.out⟩
    have hlimI : ¬ (lim : Int) = 0 := by omega
    have hablt : a < b := by omega
    have hab12 : a + 12 < b := by omega
    have hab8 : a + 8 ≤ b := by omega
    go_upto_if 35 with fail
    go_cut [3] (fun vl wx => ∃ (lim1 : Nat) (d1 : Array Nat), vl = .int .i64 (lim1 : Int) ∧ lim1 < 1000000 ∧ Hid (Rest n a0 b0 d a b d1 ∧ Sr w0 g pre post d1 wx))
    case first =>
      have C1 := Lib.hid (bp_any a b g o n cap pre post cur w0 wr HV.out.2 HO.out HV.out.1.1.symm hab12 hb1 hsz)
      cases wb with
      | false =>
        go_wp2_with (go_at_call 101; refine C1.out.mono ?_; rintro e w' ⟨rfl, d1, hsz1, hp1, hS⟩; have HS := Lib.hid hS; have HP := Lib.hid hp1; clear hS hp1 hsz1)
        go_meet
        case rel => exact ⟨lim - 1, d1, by congr 1; omega, by omega, HV.out.1.perm hb1 HP.out, HS.out⟩
      | true =>
        go_wp2_with fail
        go_meet
        case rel => exact ⟨lim, cur, rfl, hlim1, HV.out⟩
    case rest =>
      obtain ⟨lim1, d1, rfl, hlim2, H1⟩ := hcut
      have C2 := Lib.hid (cp_any a b g o n cap pre post d1 w0 wc H1.out.2 HO.out H1.out.1.1.symm hab8 hb1 hsz)
      go_upto_region 11 with (go_at_call 102; refine C2.out.mono ?_; rintro e w2 ⟨x, z, rfl, hx1, hx2, hS⟩; have HS2 := Lib.hid hS; clear hS)
      clear C2
      go_upto_if 50 with fail
      go_cut [11, 12] (fun vp vh wx => ∃ (p : Nat) (zh : Int) (d2 : Array Nat), vp = .int .i64 (p : Int) ∧ vh = .int .i64 zh ∧ a ≤ p ∧ p < b ∧ Hid (Rest n a0 b0 d a b d2 ∧ Sr w0 g pre post d2 wx))
      case first =>
        have C3 := Lib.hid (rev_any a b g o n cap pre post d1 w0 w2 HS2.out HO.out H1.out.1.1.symm hablt hb1 hsz)
        by_cases hz : z = 2
        · subst hz
          obtain ⟨b1, hb1e⟩ : ∃ x, x = b - 1 := ⟨_, rfl⟩
          obtain ⟨k, hke⟩ : ∃ k, k = x - a := ⟨_, rfl⟩
          obtain ⟨p, hpe⟩ : ∃ p, p = b1 - k := ⟨_, rfl⟩
          have q1 : (b : Int) - 1 = (b1 : Int) := by omega
          have q2 : (x : Int) - (a : Int) = (k : Int) := by omega
          have q3 : (b1 : Int) - (k : Int) = (p : Int) := by omega
          have q4 : b1 ≤ n := by omega
          have q5 : k ≤ n := by omega
          have q6 : p ≤ n := by omega
          have q7 : a ≤ p := by omega
          have q8 : p < b := by omega
          clear hb1e hke hpe
          go_wp2_with (go_at_call 103; refine C3.out.mono ?_; rintro e w' ⟨rfl, hS⟩; have HS := Lib.hid hS; clear hS)
          go_meet
          case rel => exact ⟨p, 1, _, rfl, rfl, q7, q8, H1.out.1.perm hb1 (Sort.reverseRange_holds d1 a b hab1 (by rw [H1.out.1.1]; exact hb1)), HS.out⟩
        · go_wp2_with fail
          go_meet
          case rel => exact ⟨x, z, d1, rfl, rfl, hx1, hx2, H1.out.1, HS2.out⟩
      case rest =>
        obtain ⟨p, zh, d2, rfl, rfl, hp1, hp2, H2⟩ := hcut
        rename World => w3
        go_upto_region 15 with fail
        go_cut [68] (fun v wx => ∃ c : Bool, v = .bool c ∧ wx = w3)
        case first =>
          cases wb <;> cases wp <;> (by_cases hz1 : zh = 1)
          all_goals go_wp2_with fail
          all_goals go_meet
          all_goals exact ⟨_, rfl, rfl⟩
        case rest =>
          obtain ⟨c, rfl, rfl⟩ := hcut
          rename World => w3
          go_upto_if 68 with fail
          go_cut [] (fun wx => ∃ d3 : Array Nat, Hid (Rest n a0 b0 d a b d3 ∧ Sr w0 g pre post d3 wx))
          case first =>
            cases c with
            | false =>
              go_wp2_with fail
              go_meet
              case rel => exact ⟨d2, H2.out⟩
            | true =>
              have c4 := pi_any a b g o n cap pre post d2 w0 w3 H2.out.2 HO.out H2.out.1.1.symm hablt hb1 hsz
              have hpi := Sort.partialInsertionSort_holds swo_ltN d2 a b hablt (by rw [H2.out.1.1]; exact hb1) H2.out.1.2.1
              obtain ⟨T, hT⟩ : ∃ T, T = Sort.partialInsertionSort ltN d2 a b := ⟨_, rfl⟩
              rw [← hT] at c4 hpi
              clear hT
              obtain ⟨d3, bb⟩ := T
              have C4 := Lib.hid c4
              have HPI := Lib.hid hpi
              clear c4 hpi
              cases bb with
              | true =>
                go_wp2_with (go_at_call 104; refine C4.out.mono ?_; rintro e w' ⟨rfl, hS⟩; have HS := Lib.hid hS; clear hS)
                have hr := H2.out.1.2.2 _ HPI.out.1 (by first | exact HPI.out.2 trivial | exact HPI.out.2 rfl)
                exact bodyPost_ret (v := .tuple #[]) (by simp [results, Tryz.results89, go_sem]) rfl ⟨rfl, _, hr.1, hr.2, HS.out⟩
              | false =>
                go_wp2_with (go_at_call 104; refine C4.out.mono ?_; rintro e w' ⟨rfl, hS⟩; have HS := Lib.hid hS; clear hS)
                go_meet
                case rel => exact ⟨d3, H2.out.1.perm hb1 HPI.out.1, HS.out⟩
          case rest =>
            obtain ⟨d3, H3⟩ := hcut
            rename World => w4
            obtain ⟨F, hF⟩ : ∃ G : Nat → Int, G = fun t => ((d3[t]! : Nat) : Int) := ⟨_, rfl⟩
            have hcw : ∀ t, t < n → w4.cell? ⟨g, o + t, none⟩ = some (.int .u32 (F t)) := fun t ht => by rw [hF]; exact H3.out.2.read HO.out t (by rw [H3.out.1.1]; exact ht)
            have HF := Lib.hid hF
            clear hF
            go_upto_region 17 with fail
            go_cut [87] (fun v wx => ∃ c : Bool, v = .bool c ∧ (c = true → 0 < a ∧ ltN d3[a - 1]! d3[p]! = false) ∧ Hid (Sr w0 g pre post d3 wx))
            case first =>
              rename_i J1 K1 hJ1 hK1
              by_cases ha0 : 0 < a
              · have hai : (0 : Int) < (a : Int) := by omega
                go_quiet (first | (go_at_call 72; refine Calls.quiet_of_same (lessI _ _ _)))
                first | (refine Met.intro ?_; refine hJ1 _ _ ?_; (repeat apply Exists.intro); refine ⟨?rel, rfl⟩) | (refine hK1 _ _ ?_; refine Met.intro ?_; refine hJ1 _ _ ?_; (repeat apply Exists.intro); refine ⟨?rel, rfl⟩)
                case rel => exact ⟨_, rfl, fun hh => ⟨ha0, by rw [HF.out] at hh; simpa [ltN] using hh⟩, H3.out.2.drewN _⟩
              · have hai : ¬ (0 : Int) < (a : Int) := by omega
                go_quiet (first | (go_at_call 72; refine Calls.quiet_of_same (lessI _ _ _)))
                first | (refine Met.intro ?_; refine hJ1 _ _ ?_; (repeat apply Exists.intro); refine ⟨?rel, rfl⟩) | (refine hK1 _ _ ?_; refine Met.intro ?_; refine hJ1 _ _ ?_; (repeat apply Exists.intro); refine ⟨?rel, rfl⟩)
                case rel => exact ⟨_, rfl, fun hh => by simp at hh, H3.out.2.drewN _⟩
            case rest =>
              obtain ⟨c, rfl, hc, H4⟩ := hcut
              rename World => w5
              clear hcw
              cases c with
              | true =>
                obtain ⟨ha0, hlt⟩ := hc rfl
                have c5 := pe_any a b p g o n cap pre post d3 w0 w5 H4.out HO.out H3.out.1.1.symm hp1 hp2 hb1 hsz
                obtain ⟨T, hT⟩ : ∃ T, T = Sort.partitionEqual ltN d3 a b p := ⟨_, rfl⟩
                rw [← hT] at c5
                obtain ⟨mid, d4⟩ := T
                obtain ⟨k1, k2, k3, k4, k5⟩ := Sort.round_eq swo_ltN (Sort.partitionEqual_holds ltN) ha0 hp1 hp2 (by rw [H3.out.1.1]; exact hb1) H3.out.1.2.1 hlt hT.symm
                have C5 := Lib.hid c5
                have HRN : Hid (Rest n a0 b0 d mid b d4) := ⟨k3.trans H3.out.1.1, k4, fun R h1 h2 => (H3.out.1.2.2 R (k5 R h1 h2).1 (k5 R h1 h2).2)⟩
                clear c5 hT k3 k4 k5 hlt hc
                go_wp2_with (go_at_call 105; refine C5.out.mono ?_; rintro e w' ⟨rfl, hS⟩; have HS := Lib.hid hS; clear hS)
                go_roundw
                case rel => exact ⟨mid, b, lim1, wb, wp, d4, rfl, rfl, rfl, rfl, rfl, k2, hb1, by omega, hlim2, HRN.out, HS.out⟩
                case measure => simp [intOf]; omega
              | false =>
                have c6 := pa_any a b p g o n cap pre post d3 w0 w5 H4.out HO.out H3.out.1.1.symm hp1 hp2 hb1 hsz
                obtain ⟨T, hT⟩ : ∃ T, T = Sort.partition ltN d3 a b p := ⟨_, rfl⟩
                rw [← hT] at c6
                obtain ⟨mid, ap, d4⟩ := T
                obtain ⟨k1, k2, k3, k4, k5, k6, k7⟩ := Sort.round_part swo_ltN (Sort.partition_holds ltN) hp1 hp2 (by rw [H3.out.1.1]; exact hb1) H3.out.1.2.1 hT.symm
                have C6 := Lib.hid c6
                have K6 := Lib.hid k6
                have K7 := Lib.hid k7
                have HS4 : Hid (d4.size = n) := k3.trans H3.out.1.1
                obtain ⟨md, hmd⟩ : ∃ x, x = mid + 1 := ⟨_, rfl⟩
                obtain ⟨l1, hl1⟩ : ∃ x, x = mid - a := ⟨_, rfl⟩
                obtain ⟨l2, hl2⟩ : ∃ x, x = b - mid := ⟨_, rfl⟩
                obtain ⟨th, hth⟩ : ∃ x, x = l / 8 := ⟨_, rfl⟩
                have HL : Hid (∀ W, Sr w0 g pre post d4 W → Calls Tryz.prog 89 #[.slice (some ⟨g, o, none⟩) n cap, .int .i64 (a : Int), .int .i64 (mid : Int), .int .i64 (lim1 : Int)] W (PdPost w0 g pre post d4 a mid)) := fun W hW => IH.out (mid - a) (by omega) a mid lim1 d4 W (Nat.le_refl _) hW HS4.out.symm k1 (by omega) hlim2 k4
                have HRr : Hid (∀ W, Sr w0 g pre post d4 W → Calls Tryz.prog 89 #[.slice (some ⟨g, o, none⟩) n cap, .int .i64 (md : Int), .int .i64 (b : Int), .int .i64 (lim1 : Int)] W (PdPost w0 g pre post d4 md b)) := fun W hW => IH.out (b - md) (by omega) md b lim1 d4 W (Nat.le_refl _) hW HS4.out.symm (by omega) hb1 hlim2 (by rw [hmd]; exact k5)
                rw [← hmd] at K6 K7
                have f1 : (mid : Int) + 1 = (md : Int) := by omega
                have f2 : (mid : Int) - (a : Int) = (l1 : Int) := by omega
                have f3 : (b : Int) - (mid : Int) = (l2 : Int) := by omega
                have f4 : (l : Int).tdiv 8 = (th : Int) := by rw [hth]; exact (Int.natCast_ediv l 8).symm ▸ Int.tdiv_eq_ediv_of_nonneg (by omega)
                have f5 : l1 ≤ n := by omega
                have f6 : l2 ≤ n := by omega
                have f7 : th ≤ n := by omega
                have f8 : md ≤ b := by omega
                have f9 : mid < md := by omega
                clear c6 hT k3 k4 k5 k6 k7 hc hmd hl1 hl2 hth
                by_cases hlr : l1 < l2
                · go_upto_region 24 with (go_at_call 106; refine C6.out.mono ?_; rintro e w6 ⟨rfl, hS⟩; have HS := Lib.hid hS; clear hS)
                  clear C6
                  go_wp2_with (go_at_call 89; refine (HL.out _ HS.out).mono ?_; rintro e w7 ⟨rfl, L, hL1, hL2, hS⟩; have HL1 := Lib.hid hL1; have HL2 := Lib.hid hL2; have HSL := Lib.hid hS; clear hS hL1 hL2)
                  go_roundw
                  case rel => exact ⟨md, b, lim1, _, ap, L, rfl, rfl, rfl, rfl, rfl, f8, hb1, by omega, hlim2, ⟨HL1.out.1.trans HS4.out, (K6.out L HL1.out HL2.out).1, fun R h1 h2 => H3.out.1.2.2 R ((K6.out L HL1.out HL2.out).2 R h1 h2).1 ((K6.out L HL1.out HL2.out).2 R h1 h2).2⟩, HSL.out⟩
                  case measure => simp [intOf]; omega
                · go_upto_region 24 with (go_at_call 106; refine C6.out.mono ?_; rintro e w6 ⟨rfl, hS⟩; have HS := Lib.hid hS; clear hS)
                  clear C6
                  go_wp2_with (go_at_call 89; refine (HRr.out _ HS.out).mono ?_; rintro e w7 ⟨rfl, L, hL1, hL2, hS⟩; have HL1 := Lib.hid hL1; have HL2 := Lib.hid hL2; have HSL := Lib.hid hS; clear hS hL1 hL2)
                  go_roundw
                  case rel => exact ⟨a, mid, lim1, _, ap, L, rfl, rfl, rfl, rfl, rfl, k1, by omega, by omega, hlim2, ⟨HL1.out.1.trans HS4.out, (K7.out L HL1.out HL2.out).1, fun R h1 h2 => H3.out.1.2.2 R ((K7.out L HL1.out HL2.out).2 R h1 h2).1 ((K7.out L HL1.out HL2.out).2 R h1 h2).2⟩, HSL.out⟩
                  case measure => simp [intOf]; omega
end Go.Proofs.YtemjmnpclknfaaaGreat.Z
