/- Sort at uint32: siftDown, heapSort, reverseRange. -/
import Derived.Test.YtemjmnpclknfaaaGreatZ1
namespace Go.Proofs.YtemjmnpclknfaaaGreat.Z
open Go.RowKit
set_option maxRecDepth 20000
set_option linter.unusedVariables false

theorem sd_end (hi f r : Nat) (d : Array Nat) (h : hi ≤ 2 * r + 1) : Sort.siftDown ltN hi f r d = d := by rw [Sort.siftDown, dif_pos h]
theorem sd_two (hi f r : Nat) (d : Array Nat) (h : 2 * r + 2 < hi) (hl : ltN d[f + (2 * r + 1)]! d[f + (2 * r + 2)]! = true) :
    Sort.siftDown ltN hi f r d = if ltN d[f + r]! d[f + (2 * r + 2)]! = true then Sort.siftDown ltN hi f (2 * r + 2) (Sort.swp d (f + r) (f + (2 * r + 2))) else d := by
  rw [Sort.siftDown, dif_neg (by omega), if_pos (by simp only [Bool.and_eq_true, decide_eq_true_eq]; exact ⟨by omega, hl⟩)]
  cases h9 : ltN d[f + r]! d[f + (2 * r + 2)]! with
  | true => simp [h]
  | false => simp
theorem sd_one (hi f r : Nat) (d : Array Nat) (h : 2 * r + 1 < hi) (hl : ¬ (2 * r + 2 < hi ∧ ltN d[f + (2 * r + 1)]! d[f + (2 * r + 2)]! = true)) :
    Sort.siftDown ltN hi f r d = if ltN d[f + r]! d[f + (2 * r + 1)]! = true then Sort.siftDown ltN hi f (2 * r + 1) (Sort.swp d (f + r) (f + (2 * r + 1))) else d := by
  rw [Sort.siftDown, dif_neg (by omega), if_neg (by simp only [Bool.and_eq_true, decide_eq_true_eq]; exact fun hh => hl ⟨by omega, hh.2⟩)]
  cases h9 : ltN d[f + r]! d[f + (2 * r + 1)]! with
  | true => simp
  | false => simp

set_option maxHeartbeats 8000000 in
theorem sift_any (lo hi f g o n cap : Nat) (pre post : List Value) (d : Array Nat) (w0 w : World) (h : Sr w0 g pre post d w) (ho : o = pre.length) (hn : n = d.size) (hf : f + hi ≤ n) (hsz : n < 1000000000) (hlo : lo < 1000000000) :
    Calls Tryz.prog 110 #[.slice (some ⟨g, o, none⟩) n cap, .int .i64 (lo : Int), .int .i64 (hi : Int), .int .i64 (f : Int)] w (SrPost w0 g pre post (Sort.siftDown ltN hi f lo d)) := by
  have HN := Lib.hid h
  have HO := Lib.hid ho
  have HD := Lib.hid hn
  obtain ⟨T, hT⟩ : ∃ T, T = Sort.siftDown ltN hi f lo d := ⟨_, rfl⟩
  rw [← hT]
  have HT : Hid (Sort.siftDown ltN hi f lo d = T) := hT.symm
  clear h ho hn hT
  go_enter Tryz.func110, Tryz.ntmps110
  go_wp2
  go_loopw [8] (fun vi wr => ∃ (r : Nat) (cur : Array Nat), vi = .int .i64 (r : Int) ∧ r < 1000000000 ∧ Hid (cur.size = n ∧ Sort.siftDown ltN hi f r cur = T ∧ Sr w0 g pre post cur wr)) (fun vi _ => 2000000000 - (intOf vi).toNat)
  case atStart => exact ⟨lo, d, rfl, hlo, HD.out.symm, HT.out, HN.out⟩
  case round =>
    obtain ⟨r, cur, rfl, hr, HV⟩ := hrel
    by_cases hc : hi ≤ 2 * r + 1
    · have HE : Hid (cur = T) := by rw [← sd_end hi f r cur hc]; exact HV.out.2.1
      go_wp2
      exact bodyPost_ret (v := .tuple #[]) (by simp [results, Tryz.results110, go_sem]) rfl ⟨rfl, by rw [← HE.out]; exact HV.out.2.2⟩
    · have hc1 : 2 * r + 1 < hi := by omega
      obtain ⟨c, hcc⟩ : ∃ c, c = 2 * r + 1 := ⟨_, rfl⟩
      have hcb : c < hi := by omega
      have hrc : r < c := by omega
      have hcw2 : (2 : Int) * (r : Int) + 1 = (c : Int) := by omega
      obtain ⟨G, hG⟩ : ∃ G : Nat → Int, G = fun t => ((cur[t]! : Nat) : Int) := ⟨_, rfl⟩
      have hcw : ∀ t, t < n → wr.cell? ⟨g, o + t, none⟩ = some (.int .u32 (G t)) := fun t ht => by rw [hG]; exact HV.out.2.2.read HO.out t (by rw [HV.out.1]; exact ht)
      have hfw : ∀ t, t < n → wr.frozen? ⟨g, o + t, none⟩ = false := fun t _ => HV.out.2.2.free _
      have HGE := Lib.hid hG
      have HCC := Lib.hid hcc
      clear hG hcc
      obtain ⟨xr, hxr⟩ : ∃ x, x = f + r := ⟨_, rfl⟩
      obtain ⟨xc, hxc⟩ : ∃ x, x = f + c := ⟨_, rfl⟩
      obtain ⟨xd, hxd⟩ : ∃ x, x = f + (c + 1) := ⟨_, rfl⟩
      have i1 : (f : Int) + (r : Int) = (xr : Int) := by omega
      have i2 : (f : Int) + (c : Int) = (xc : Int) := by omega
      have i3 : (xc : Int) + 1 = (xd : Int) := by omega
      have i4 : (f : Int) + ((c : Int) + 1) = (xd : Int) := by omega
      have b1 : xr < n := by omega
      have b2 : xc < n := by omega
      have b3 : c + 1 < hi → xd < n := by omega
      have HX : Hid (xr = f + r ∧ xc = f + c ∧ xd = f + (c + 1)) := ⟨hxr, hxc, hxd⟩
      clear hxr hxc hxd
      have HTWO : Hid (c + 1 < hi → G xc < G xd → (G xr < G xd → Sort.siftDown ltN hi f (c + 1) (Sort.swp cur xr xd) = T) ∧ (¬ G xr < G xd → cur = T)) := fun h1 h2 => by
        obtain ⟨e1, e2, e3⟩ := HX.out
        have hcc2 : 2 * r + 2 = c + 1 := by have := HCC.out; omega
        have hl : ltN cur[f + (2 * r + 1)]! cur[f + (2 * r + 2)]! = true := by
          rw [hcc2, ← HCC.out, ← e2, ← e3]
          rw [HGE.out] at h2
          simpa [ltN] using h2
        have e := HV.out.2.1
        rw [sd_two hi f r cur (by have := HCC.out; omega) hl, hcc2, ← e1, ← e3] at e
        refine ⟨fun h3 => ?_, fun h3 => ?_⟩
        · rw [if_pos (by rw [HGE.out] at h3; simpa [ltN] using h3)] at e
          exact e
        · rw [if_neg (by rw [HGE.out] at h3; simpa [ltN] using h3)] at e
          exact e
      have HONE : Hid (¬ (c + 1 < hi ∧ G xc < G xd) → (G xr < G xc → Sort.siftDown ltN hi f c (Sort.swp cur xr xc) = T) ∧ (¬ G xr < G xc → cur = T)) := fun h1 => by
        obtain ⟨e1, e2, e3⟩ := HX.out
        have e := HV.out.2.1
        have hcc2 : 2 * r + 2 = c + 1 := by have := HCC.out; omega
        rw [sd_one hi f r cur (by have := HCC.out; omega) (fun hh => h1 ⟨by omega, by
          have h9 := hh.2
          rw [hcc2, ← HCC.out, ← e2, ← e3] at h9
          rw [HGE.out]
          simpa [ltN] using h9⟩), ← HCC.out, ← e1, ← e2] at e
        refine ⟨fun h3 => ?_, fun h3 => ?_⟩
        · rw [if_pos (by rw [HGE.out] at h3; simpa [ltN] using h3)] at e
          exact e
        · rw [if_neg (by rw [HGE.out] at h3; simpa [ltN] using h3)] at e
          exact e
      by_cases h2 : c + 1 < hi
      · have h2i : (c : Int) + 1 < (hi : Int) := by omega
        have b4 := b3 h2
        go_wp2
        go_quiet (first | (go_at_call 72; refine Calls.quiet_of_same (lessI _ _ _)))
        go_wp2
        · have hl : G xc < G xd := by assumption
          have hT := HTWO.out h2 hl
          have HT1 := Lib.hid hT.1
          have HT2 := Lib.hid hT.2
          clear hT
          clear hcw hfw
          obtain ⟨wv, hwv⟩ : ∃ wv, wv = wr.drewN nq := ⟨_, rfl⟩
          have hcw : ∀ t, t < n → wv.cell? ⟨g, o + t, none⟩ = some (.int .u32 (G t)) := fun t ht => by rw [hwv, HGE.out]; exact (HV.out.2.2.drewN nq).read HO.out t (by rw [HV.out.1]; exact ht)
          have hfw : ∀ t, t < n → wv.frozen? ⟨g, o + t, none⟩ = false := fun t _ => by rw [hwv]; exact (HV.out.2.2.drewN nq).free _
          have HSV : Hid (Sr w0 g pre post cur wv) := by rw [hwv]; exact HV.out.2.2.drewN nq
          rw [← hwv]
          clear hwv
          go_wp2
          go_quiet (first | (go_at_call 72; refine Calls.quiet_of_same (lessI _ _ _)))
          go_wp2
          · have hl2 := ‹(!decide (G xr < G xd)) = true›
            have HE := Lib.hid (HT2.out (by simpa using hl2))
            exact bodyPost_ret (v := .tuple #[]) (by simp [results, Tryz.results110, go_sem]) rfl ⟨rfl, by rw [← HE.out]; exact HSV.out.drewN _⟩
          · have hl2 : G xr < G xd := by simpa using ‹(!decide (G xr < G xd)) = false›
            have HSW := Lib.hid (HT1.out hl2)
            go_region
            all_goals go_wp2
            go_roundw
            case rel => exact ⟨(c + 1), Sort.swp cur xr xd, by go_num, by omega, by rw [swp_size]; exact HV.out.1, HSW.out, (HSV.out.drewN _).swap HO.out xr xd (by rw [HV.out.1]; omega) (by rw [HV.out.1]; omega) _ _ (by rw [HGE.out]) (by rw [HGE.out])⟩
            case measure => simp [intOf]; omega
        · have hl : ¬ G xc < G xd := by first | assumption | omega
          have hT := HONE.out (fun hh => hl hh.2)
          have HT1 := Lib.hid hT.1
          have HT2 := Lib.hid hT.2
          clear hT
          clear hcw hfw
          obtain ⟨wv, hwv⟩ : ∃ wv, wv = wr.drewN nq := ⟨_, rfl⟩
          have hcw : ∀ t, t < n → wv.cell? ⟨g, o + t, none⟩ = some (.int .u32 (G t)) := fun t ht => by rw [hwv, HGE.out]; exact (HV.out.2.2.drewN nq).read HO.out t (by rw [HV.out.1]; exact ht)
          have hfw : ∀ t, t < n → wv.frozen? ⟨g, o + t, none⟩ = false := fun t _ => by rw [hwv]; exact (HV.out.2.2.drewN nq).free _
          have HSV : Hid (Sr w0 g pre post cur wv) := by rw [hwv]; exact HV.out.2.2.drewN nq
          rw [← hwv]
          clear hwv
          go_wp2
          go_quiet (first | (go_at_call 72; refine Calls.quiet_of_same (lessI _ _ _)))
          go_wp2
          · have hl2 := ‹(!decide (G xr < G xc)) = true›
            have HE := Lib.hid (HT2.out (by simpa using hl2))
            exact bodyPost_ret (v := .tuple #[]) (by simp [results, Tryz.results110, go_sem]) rfl ⟨rfl, by rw [← HE.out]; exact HSV.out.drewN _⟩
          · have hl2 : G xr < G xc := by simpa using ‹(!decide (G xr < G xc)) = false›
            have HSW := Lib.hid (HT1.out hl2)
            go_region
            all_goals go_wp2
            go_roundw
            case rel => exact ⟨c, Sort.swp cur xr xc, by go_num, by omega, by rw [swp_size]; exact HV.out.1, HSW.out, (HSV.out.drewN _).swap HO.out xr xc (by rw [HV.out.1]; omega) (by rw [HV.out.1]; omega) _ _ (by rw [HGE.out]) (by rw [HGE.out])⟩
            case measure => simp [intOf]; omega
      · go_wp2
        have h2i : ¬ (c : Int) + 1 < (hi : Int) := by omega
        go_quiet (first | (go_at_call 72; refine Calls.quiet_of_same (lessI _ _ _)))
        have hT := HONE.out (fun hh => h2 hh.1)
        have HT1 := Lib.hid hT.1
        have HT2 := Lib.hid hT.2
        clear hT
        clear hcw hfw
        obtain ⟨wv, hwv⟩ : ∃ wv, wv = wr.drewN nq := ⟨_, rfl⟩
        have hcw : ∀ t, t < n → wv.cell? ⟨g, o + t, none⟩ = some (.int .u32 (G t)) := fun t ht => by rw [hwv, HGE.out]; exact (HV.out.2.2.drewN nq).read HO.out t (by rw [HV.out.1]; exact ht)
        have hfw : ∀ t, t < n → wv.frozen? ⟨g, o + t, none⟩ = false := fun t _ => by rw [hwv]; exact (HV.out.2.2.drewN nq).free _
        have HSV : Hid (Sr w0 g pre post cur wv) := by rw [hwv]; exact HV.out.2.2.drewN nq
        rw [← hwv]
        clear hwv
        go_wp2
        go_quiet (first | (go_at_call 72; refine Calls.quiet_of_same (lessI _ _ _)))
        go_wp2
        · have hl2 := ‹(!decide (G xr < G xc)) = true›
          have HE := Lib.hid (HT2.out (by simpa using hl2))
          exact bodyPost_ret (v := .tuple #[]) (by simp [results, Tryz.results110, go_sem]) rfl ⟨rfl, by rw [← HE.out]; exact HSV.out.drewN _⟩
        · have hl2 : G xr < G xc := by simpa using ‹(!decide (G xr < G xc)) = false›
          have HSW := Lib.hid (HT1.out hl2)
          go_region
          all_goals go_wp2
          go_roundw
          case rel => exact ⟨c, Sort.swp cur xr xc, by go_num, by omega, by rw [swp_size]; exact HV.out.1, HSW.out, (HSV.out.drewN _).swap HO.out xr xc (by rw [HV.out.1]; omega) (by rw [HV.out.1]; omega) _ _ (by rw [HGE.out]) (by rw [HGE.out])⟩
          case measure => simp [intOf]; omega
end Go.Proofs.YtemjmnpclknfaaaGreat.Z
