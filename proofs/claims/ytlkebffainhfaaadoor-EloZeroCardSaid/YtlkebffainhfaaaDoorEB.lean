/- Elo: the document's Update. -/
import Derived.Test.YtlkebffainhfaaaDoorEA
namespace Go.Proofs.YtlkebffainhfaaaDoor
open Go.RowKit
set_option maxRecDepth 20000

theorem shr_neg (p m k : Int) : shr (-p) m k = -shr p m k := by
  unfold shr
  by_cases h : p < 0
  · rw [if_neg (by omega), if_pos h]; omega
  · by_cases h0 : p = 0
    · subst h0
      have e : shp 0 m k = 0 := by
        unfold shp
        by_cases hk : k < 0 ∨ m ≤ k
        · rw [if_pos hk]
        · rw [if_neg hk, if_neg (by simp; omega)]; simp
      simp [e]
    · rw [if_pos (by omega), if_neg h, Int.neg_neg]
theorem bhd_next (p : Int) (l : List Int) (k : Nat) (hk : k < l.length) (x z : Int) (hx : x = l[k]) (hz : z = shr p l.length k) : (bhd p l).take k ++ [rt (x + z)] = (bhd p l).take (k + 1) := by
  have h := List.take_succ_eq_append_getElem (l := bhd p l) (i := k) (by rw [bhd_length]; exact hk)
  rw [bhd_get _ _ _ hk] at h
  rw [h, hx, hz]
theorem bhd_nextn (p : Int) (l : List Int) (k : Nat) (hk : k < l.length) (x z : Int) (hx : x = l[k]) (hz : z = shr p l.length k) : (bhd (-p) l).take k ++ [rt (x - z)] = (bhd (-p) l).take (k + 1) := by
  rw [Int.sub_eq_add_neg]
  exact bhd_next (-p) l k hk x (-z) hx (by rw [shr_neg, hz])
set_option maxHeartbeats 400000 in
theorem rupd_size (Aa Ab : Option Addr) (na nb ca cb : Nat) (r : Int) (w : World) (h : ¬ (tm na = true ∧ tm nb = true)) (ha : na ≤ 1000) (hb : nb ≤ 1000) :
    Calls Tryd.prog 20 #[.slice Aa na ca, .slice Ab nb cb, .int .i64 r] w fun e w' => e = .returned (.tuple #[.slice none 0 0, .slice none 0 0, .int .i64 21]) ∧ Below w.heap.size w w' := by
  rw [tm_iff, tm_iff] at h
  have h' : ((na : Int) < 1) ∨ (¬ (na : Int) < 1 ∧ 4 < (na : Int)) ∨ (¬ (na : Int) < 1 ∧ ¬ 4 < (na : Int) ∧ (nb : Int) < 1) ∨ (¬ (na : Int) < 1 ∧ ¬ 4 < (na : Int) ∧ ¬ (nb : Int) < 1 ∧ 4 < (nb : Int)) := by omega
  clear h
  rcases h' with h | ⟨h1, h2⟩ | ⟨h1, h2, h3⟩ | ⟨h1, h2, h3, h4⟩ <;>
  (go_enter Tryd.func20, Tryd.ntmps20
   go_wp2_with fail
   go_ret3
   exact ⟨rfl, Below.refl _ _⟩)

/-- Where all sizes are right. -/
def RupdPost (w : World) (a b : List Int) (r : Int) (e : Ending) (w' : World) : Prop :=
  ∃ vx vy, e = .returned (.tuple #[vx, vy, .int .i64 (if (isr r && okr a && okr b) = true then 0 else 2)]) ∧ Zs w' vx (if (isr r && okr a && okr b) = true then bhd (updS a b r) a else []) ∧ Zs w' vy (if (isr r && okr a && okr b) = true then bhd (-updS a b r) b else []) ∧ Below w.heap.size w w'

set_option linter.unusedSimpArgs false in
set_option maxHeartbeats 4000000 in
theorem rupd_x (va vb : Value) (a b : List Int) (r : Int) (w : World) (ha : Zs w va a) (hb : Zs w vb b) (hta : 1 ≤ a.length ∧ a.length ≤ 4) (htb : 1 ≤ b.length ∧ b.length ≤ 4) :
    Calls Tryd.prog 20 #[va, vb, .int .i64 r] w (RupdPost w a b r) := by
  have HZA := Lib.hid ha
  have HZB := Lib.hid hb
  obtain ⟨Aa, ca, rfl, hca, hra⟩ := ha
  obtain ⟨Ab, cb, rfl, hcb, hrb⟩ := hb
  have hpa : 0 < a.length := by omega
  have hpb : 0 < b.length := by omega
  obtain ⟨b1, o1, rfl, hb1, hc1⟩ := hra hpa
  obtain ⟨b2, o2, rfl, hb2, hc2⟩ := hrb hpb
  have HC1 := Lib.hid hc1
  have HC2 := Lib.hid hc2
  have HBL1 := Lib.hid hb1
  have HBL2 := Lib.hid hb2
  have g1 : ¬ (a.length : Int) < 1 := by omega
  have g2 : ¬ 4 < (a.length : Int) := by omega
  have g3 : ¬ (b.length : Int) < 1 := by omega
  have g4 : ¬ 4 < (b.length : Int) := by omega
  have hown0 : Hid ((w.alloc (.cells #[] 3)).ownsRow w.heap.size 3 1 (.slice (some ⟨w.heap.size, 0, none⟩) 0 0) ([] : List Int).length (zv [])) := World.ownsRow_made w #[] 0 (Nat.le_refl _) (by decide) rfl
  have hbel1 : Hid (Below w.heap.size w (w.alloc (.cells #[] 3))) := (Below.refl _ _).alloc (Nat.le_refl _) _
  have HZA1 : Hid (Zs (w.alloc (.cells #[] 3)) (.slice (some ⟨b1, o1, none⟩) a.length ca) a) := HZA.out.below hbel1.out (Nat.le_refl _)
  have HZB1 : Hid (Zs (w.alloc (.cells #[] 3)) (.slice (some ⟨b2, o2, none⟩) b.length cb) b) := HZB.out.below hbel1.out (Nat.le_refl _)
  clear hra hrb hc1 hc2 hb1 hb2
  go_enter Tryd.func20, Tryd.ntmps20
  go_wp2_with (first
    | (at_builtin; refine wpList_append_zs rfl (.tmp 35) (.tmp 36) rfl w.heap.size _ _ [] a rfl rfl hown0.out HZA1.out (by simp only [List.length_nil]; omega) hbel1.out.size ?_; intro v1 w1 hown1 hgr1; have HB1 : Hid (Below w.heap.size w w1) := hbel1.out.grown hgr1 hbel1.out.size (fun g hg => (hown0.out.lt g hg).1); have HO1 := Lib.hid hown1; have HZB2 : Hid (Zs w1 (.slice (some ⟨b2, o2, none⟩) b.length cb) b) := HZB.out.below HB1.out (Nat.le_refl _); clear hown1 hgr1)
    | (at_builtin; refine wpList_append_zs rfl (.tmp 37) (.tmp 38) rfl w.heap.size _ _ ([] ++ a) b rfl rfl HO1.out HZB2.out (by simp only [List.nil_append]; omega) HB1.out.size ?_; intro v2 w2 hown2 hgr2; have HB2 : Hid (Below w.heap.size w w2) := HB1.out.grown hgr2 HB1.out.size (fun g hg => (HO1.out.lt g hg).1); have HO2 := Lib.hid hown2; clear hown2 hgr2; obtain ⟨A2, c2, hv2⟩ := zs_form (own_zs HO2.out); subst hv2))
  obtain ⟨L, hL⟩ : ∃ L, L = a ++ b := ⟨_, rfl⟩
  have hLn : L.length = a.length + b.length := by rw [hL, List.length_append]
  have hz2 : Zs w2 (.slice A2 (a.length + b.length) c2) L := by
    have := own_zs HO2.out
    rw [List.nil_append, ← hL] at this
    rw [← hLn]
    exact this
  obtain ⟨A9, c9, e9, -, hr9⟩ := hz2
  injection e9 with e91 e92 e93
  subst e91 e93
  obtain ⟨b9, o9, rfl, hb9, hc9⟩ := hr9 (by omega)
  have HC9 := Lib.hid hc9
  have hok : okr L = (okr a && okr b) := by rw [hL]; simp [okr]
  have HOK := Lib.hid hok
  obtain ⟨n, hn⟩ : ∃ n, n = a.length + b.length := ⟨_, rfl⟩
  have HLN : Hid (L.length = n) := by rw [hn]; exact hLn
  rw [← hn]
  have hn1 : 1 ≤ n := by omega
  have hn8 : n ≤ 8 := by omega
  have HN := Lib.hid hn
  clear hr9 hc9 hok hn hLn e92 HO2 hL
  go_loop [10] (fun i => ∃ k : Nat, k ≤ n ∧ i = .int .i64 k ∧ Hid (∀ j (hj : j < L.length), j < k → 0 ≤ L[j] ∧ L[j] ≤ 10000)) (fun i => n - (intOf i).toNat)
  case atStart => exact ⟨0, Nat.zero_le _, rfl, fun j _ h => absurd h (Nat.not_lt_zero _)⟩
  case round =>
    obtain ⟨k, hk, rfl, HA⟩ := hrel
    by_cases hlt : k < n
    · have hkL : k < L.length := by rw [HLN.out]; exact hlt
      have hcell := HC9.out k hkL
      by_cases hg : 0 ≤ L[k] ∧ L[k] ≤ 10000
      · have HA' : Hid (∀ j (hj : j < L.length), j < k + 1 → 0 ≤ L[j] ∧ L[j] ≤ 10000) := fun j hj h => by
          rcases (by omega : j < k ∨ j = k) with h | rfl
          · exact HA.out j hj h
          · exact hg
        obtain ⟨x, hx⟩ : ∃ x, x = L[k] := ⟨_, rfl⟩
        rw [← hx] at hcell hg
        have q1 : ¬ x < 0 := by omega
        have q2 : ¬ 10000 < x := by omega
        clear hg hx
        go_wp2_with fail
        go_round
        case rel => exact ⟨k + 1, by omega, by go_num, HA'⟩
        case measure => simp [intOf]; omega
      · have hf := okr_bad hkL hg
        rw [HOK.out] at hf
        have hgd : ¬ ((isr r && okr a && okr b) = true) := by
          rw [Bool.and_assoc, hf]; simp
        have HGD := Lib.hid hgd
        obtain ⟨x, hx⟩ : ∃ x, x = L[k] := ⟨_, rfl⟩
        rw [← hx] at hcell hg
        unfold RupdPost
        simp only [if_neg HGD.out]
        clear hx hf hgd
        by_cases q1 : x < 0
        · clear hg
          go_wp2_with fail
          go_ret3
          exact ⟨_, _, rfl, zs_nil _, zs_nil _, HB2.out⟩
        · have q2 : 10000 < x := by omega
          clear hg
          go_wp2_with fail
          go_ret3
          exact ⟨_, _, rfl, zs_nil _, zs_nil _, HB2.out⟩
    · obtain rfl : k = n := by omega
      have hf : okr L = true := (okr_iff L).2 fun j hj => HA.out j hj (by rw [← HLN.out]; exact hj)
      rw [HOK.out] at hf
      obtain ⟨hka, hkb⟩ := Bool.and_eq_true_iff.1 hf
      have HIA : Hid (∀ k (hk : k < a.length), 0 ≤ a[k] ∧ a[k] ≤ 10000) := (okr_iff a).1 hka
      have HIB : Hid (∀ k (hk : k < b.length), 0 ≤ b[k] ∧ b[k] ≤ 10000) := (okr_iff b).1 hkb
      rcases isr_cases r with ⟨hi, hr⟩ | ⟨hi, hr1, hr2, hr3⟩
      · have HGD : Hid ((isr r && okr a && okr b) = true) := by show _ = _; rw [hi, hka, hkb]; rfl
        have q1 : ¬ r < 0 := by omega
        have q2 : ¬ 2 < r := by omega
        obtain ⟨s, hs⟩ : ∃ s, s = updS a b r := ⟨_, rfl⟩
        have hsb := stk_bd (meanR a) (meanR b) ((min a.length b.length : Nat) : Int) r
        have hs' : s = stk (meanR a) (meanR b) ((min a.length b.length : Nat) : Int) r := hs
        rw [← hs'] at hsb
        have HS := Lib.hid hs
        have HS2 := Lib.hid hs'
        have HMA : Hid (∀ W, Below w.heap.size w W → Calls Tryd.prog 13 #[.slice (some ⟨b1, o1, none⟩) a.length ca] W fun e w' => e = .returned (.int .i64 (meanR a)) ∧ w' = W) := fun W hB => rmean_any _ a W (HZA.out.below hB (Nat.le_refl _)) (by omega)
        have HMB : Hid (∀ W, Below w.heap.size w W → Calls Tryd.prog 13 #[.slice (some ⟨b2, o2, none⟩) b.length cb] W fun e w' => e = .returned (.int .i64 (meanR b)) ∧ w' = W) := fun W hB => rmean_any _ b W (HZB.out.below hB (Nat.le_refl _)) (by omega)
        clear hs hs' hf hka hkb hi hr hca hcb HZA1 HZB1 HZB2 HO1
        unfold RupdPost
        simp only [if_pos HGD.out]
        by_cases hlt2 : (b.length : Int) < (a.length : Int)
        · have HSM : Hid (∀ W, Calls Tryd.prog 15 #[.int .i64 (meanR a), .int .i64 (meanR b), .int .i64 (b.length : Int), .int .i64 r] W fun e w' => e = .returned (.int .i64 s) ∧ Below W.heap.size W w') := fun W => by
            have hss : s = stk (meanR a) (meanR b) (b.length : Int) r := by rw [HS2.out]; congr 1; omega
            rw [hss]
            exact rstake_any _ _ _ _ W
          go_wp2_with fail
          refine (HMA.out _ HB2.out).mono ?_
          rintro e w3 ⟨rfl, rfl⟩
          go_wp2_with fail
          refine (HMB.out _ HB2.out).mono ?_
          rintro e w3 ⟨rfl, rfl⟩
          go_wp2_with fail
          refine (HSM.out _).mono ?_
          rintro e w5 ⟨rfl, hb5⟩
          have HB5 : Hid (Below w.heap.size w w5) := HB2.out.trans (hb5.mono HB2.out.size)
          have HCA5 : Hid (∀ j (hj : j < a.length), w5.cell? ⟨b1, o1 + j, none⟩ = some (.int .i64 a[j])) := fun j hj => (HB5.out.cell (p := ⟨b1, o1 + j, none⟩) HBL1.out).trans (HC1.out j hj)
          have HCB5 : Hid (∀ j (hj : j < b.length), w5.cell? ⟨b2, o2 + j, none⟩ = some (.int .i64 b[j])) := fun j hj => (HB5.out.cell (p := ⟨b2, o2 + j, none⟩) HBL2.out).trans (HC2.out j hj)
          have HBB5 : Hid (b1 < w5.heap.size) := Nat.lt_of_lt_of_le HBL1.out HB5.out.size
          have HBB25 : Hid (b2 < w5.heap.size) := Nat.lt_of_lt_of_le HBL2.out HB5.out.size
          clear hb5
          go_wp2_with fail
          go_loopw [13, 15] (fun vx i wr => ∃ k : Nat, k ≤ a.length ∧ i = .int .i64 k ∧ Hid (wr.ownsRow w5.heap.size 3 1 vx ((bhd s a).take k).length (zv ((bhd s a).take k))) ∧ Hid (Below w5.heap.size w5 wr)) (fun _ i _ => a.length - (intOf i).toNat)
          case atStart => exact ⟨0, Nat.zero_le _, rfl, ⟨by simp [zv], .inl ⟨rfl, rfl⟩⟩, Below.refl _ _⟩
          case round =>
            obtain ⟨k, hk, rfl, HOW, HBW⟩ := hrel
            by_cases hlt : k < a.length
            · have HKL : Hid (k < a.length) := hlt
              obtain ⟨x, hx⟩ : ∃ x, x = a[k] := ⟨_, rfl⟩
              have hxb : 0 ≤ x ∧ x ≤ 10000 := by rw [hx]; exact HIA.out k hlt
              have HCK : Hid (∀ W, Below wr.heap.size wr W → W.cell? ⟨b1, o1 + k, none⟩ = some (.int .i64 x)) := fun W hb => by
                rw [hx]
                exact ((HBW.out.trans (hb.mono HBW.out.size)).cell (p := ⟨b1, o1 + k, none⟩) HBB5.out).trans (HCA5.out k hlt)
              obtain ⟨z, hz⟩ : ∃ z, z = shr s a.length k := ⟨_, rfl⟩
              have hzb := shr_bd s a.length k
              rw [← hz] at hzb
              have HSH : Hid (∀ W, Calls Tryd.prog 18 #[.int .i64 s, .int .i64 (a.length : Int), .int .i64 (k : Int)] W fun e w' => e = .returned (.int .i64 z) ∧ Below W.heap.size W w') := fun W => by
                rw [hz]
                exact (rshare_any s a.length k W (by omega) (by omega) (by omega) (by omega)).mono fun e w' h => ⟨h.1, by rw [h.2]; exact Below.refl _ _⟩
              obtain ⟨u, hu⟩ : ∃ u, u = rt (x + z) := ⟨_, rfl⟩
              have HRT : Hid (∀ W, Calls Tryd.prog 24 #[.int .i64 (x + z)] W fun e w' => e = .returned (.int .i64 u) ∧ Below W.heap.size W w') := fun W => by
                rw [hu]
                exact (rating_any _ W).mono fun e w' h => ⟨h.1, by rw [h.2]; exact Below.refl _ _⟩
              have HWR : Hid (IntKind.i64.wrap (x + z) = x + z) := IntWalk.i64_in _ (by omega)
              have HNX : Hid ((bhd s a).take k ++ [u] = (bhd s a).take (k + 1)) := by
                show _ = _
                rw [hu]
                exact bhd_next s a k hlt x z hx hz
              have HX := Lib.hid hx
              have h0k : (0 : Int) ≤ (k : Int) := by omega
              have h1k : (k : Int) < (a.length : Int) := by omega
              clear hz hu hx
              go_wp2_with fail
              have HDp0 : Hid (Below wr.heap.size wr wr.drew) := (Below.refl wr.heap.size wr).drew
              refine wp_region_held_drew (S := fun W : World => W.cell? ⟨b1, o1 + k, none⟩ = some (.int .i64 x)) (by kernel_rfl) ((HCK.out _ (HDp0.out))) (fun hHeld => ?_)
              obtain ⟨Wp00, hW0⟩ : ∃ W0, W0 = wr.drew := ⟨_, rfl⟩
              rw [← hW0] at hHeld HDp0 ⊢
              clear hW0
              refine wpAnyH_take (i := 0) (oi := ?oi0p0) (v := ?v0p0) ?hi0p0 ?hs0p0 ?hf0p0 ?hr0p0 ?hQ0p0 ?hy0p0 ?hS0p0 ?h0p0
              case hi0p0 => exact (by simp only [List.getElem?_toArray, List.getElem?_cons_zero]; rfl)
              case hs0p0 => kernel_rfl
              case hf0p0 => kernel_rfl
              case hr0p0 => kernel_rfl
              case hQ0p0 => exact fun _ _ _ h => h
              case hy0p0 =>
                refine Or.inl ⟨rfl, ?_⟩
                intro W hSw
                have y0 : W.cell? ⟨b1, o1 + k, none⟩ = some (.int .i64 x) := hSw
                clear hSw
                go_simp
                try with_reducible rfl
              case hS0p0 => assumption
              try simp only [Act.put, List.setIfInBounds_toArray, List.set_cons_zero, List.set_cons_succ]
              refine wpAnyH_take (i := 1) (oi := ?oi1p0) (v := ?v1p0) ?hi1p0 ?hs1p0 ?hf1p0 ?hr1p0 ?hQ1p0 ?hy1p0 ?hS1p0 ?h1p0
              case hi1p0 => exact (by simp only [List.getElem?_toArray, List.getElem?_cons_succ, List.getElem?_cons_zero]; rfl)
              case hs1p0 => kernel_rfl
              case hf1p0 => kernel_rfl
              case hr1p0 => kernel_rfl
              case hQ1p0 => exact fun _ _ _ h => h
              case hy1p0 =>
                refine Or.inl ⟨rfl, ?_⟩
                intro W hSw
                have y0 : W.cell? ⟨b1, o1 + k, none⟩ = some (.int .i64 x) := hSw
                clear hSw
                go_simp
                try with_reducible rfl
              case hS1p0 => assumption
              try simp only [Act.put, List.setIfInBounds_toArray, List.set_cons_zero, List.set_cons_succ]
              refine wpAnyH_take (i := 2) (oi := ?oi2p0) (v := ?v2p0) ?hi2p0 ?hs2p0 ?hf2p0 ?hr2p0 ?hQ2p0 ?hy2p0 ?hS2p0 ?h2p0
              case hi2p0 => exact (by simp only [List.getElem?_toArray, List.getElem?_cons_succ, List.getElem?_cons_zero]; rfl)
              case hs2p0 => kernel_rfl
              case hf2p0 => kernel_rfl
              case hr2p0 => kernel_rfl
              case hQ2p0 => exact fun _ _ _ h => h
              case hy2p0 =>
                refine Or.inl ⟨rfl, ?_⟩
                intro W hSw
                have y0 : W.cell? ⟨b1, o1 + k, none⟩ = some (.int .i64 x) := hSw
                clear hSw
                go_simp
                try with_reducible rfl
              case hS2p0 => assumption
              try simp only [Act.put, List.setIfInBounds_toArray, List.set_cons_zero, List.set_cons_succ]
              refine wpAnyH_take (i := 3) (oi := ?oi3p0) (v := ?v3p0) ?hi3p0 ?hs3p0 ?hf3p0 ?hr3p0 ?hQ3p0 ?hy3p0 ?hS3p0 ?h3p0
              case hi3p0 => exact (by simp only [List.getElem?_toArray, List.getElem?_cons_succ, List.getElem?_cons_zero]; rfl)
              case hs3p0 => kernel_rfl
              case hf3p0 => kernel_rfl
              case hr3p0 => kernel_rfl
              case hQ3p0 => exact fun _ _ _ h => h
              case hy3p0 =>
                refine Or.inl ⟨rfl, ?_⟩
                intro W hSw
                have y0 : W.cell? ⟨b1, o1 + k, none⟩ = some (.int .i64 x) := hSw
                clear hSw
                go_simp
                try with_reducible rfl
              case hS3p0 => assumption
              try simp only [Act.put, List.setIfInBounds_toArray, List.set_cons_zero, List.set_cons_succ]
              refine wpAnyH_take (i := 4) (oi := ?oi4p0) (v := ?v4p0) ?hi4p0 ?hs4p0 ?hf4p0 ?hr4p0 ?hQ4p0 ?hy4p0 ?hS4p0 ?h4p0
              case hi4p0 => exact (by simp only [List.getElem?_toArray, List.getElem?_cons_succ, List.getElem?_cons_zero]; rfl)
              case hs4p0 => kernel_rfl
              case hf4p0 => kernel_rfl
              case hr4p0 => kernel_rfl
              case hQ4p0 => exact fun _ _ _ h => h
              case hy4p0 =>
                refine Or.inl ⟨rfl, ?_⟩
                intro W hSw
                have y0 : W.cell? ⟨b1, o1 + k, none⟩ = some (.int .i64 x) := hSw
                clear hSw
                go_simp
                try with_reducible rfl
              case hS4p0 => assumption
              try simp only [Act.put, List.setIfInBounds_toArray, List.set_cons_zero, List.set_cons_succ]
              refine wpAnyH_take (i := 5) (oi := ?oi5p0) (v := ?v5p0) ?hi5p0 ?hs5p0 ?hf5p0 ?hr5p0 ?hQ5p0 ?hy5p0 ?hS5p0 ?h5p0
              case hi5p0 => exact (by simp only [List.getElem?_toArray, List.getElem?_cons_succ, List.getElem?_cons_zero]; rfl)
              case hs5p0 => kernel_rfl
              case hf5p0 => kernel_rfl
              case hr5p0 => kernel_rfl
              case hQ5p0 => exact fun _ _ _ h => h
              case hy5p0 =>
                refine Or.inl ⟨rfl, ?_⟩
                intro W hSw
                have y0 : W.cell? ⟨b1, o1 + k, none⟩ = some (.int .i64 x) := hSw
                clear hSw
                go_simp
                try with_reducible rfl
              case hS5p0 => assumption
              try simp only [Act.put, List.setIfInBounds_toArray, List.set_cons_zero, List.set_cons_succ]
              refine wpAnyH_take (i := 6) (oi := ?oi6p0) (v := ?v6p0) ?hi6p0 ?hs6p0 ?hf6p0 ?hr6p0 ?hQ6p0 ?hy6p0 ?hS6p0 ?h6p0
              case hi6p0 => exact (by simp only [List.getElem?_toArray, List.getElem?_cons_succ, List.getElem?_cons_zero]; rfl)
              case hs6p0 => kernel_rfl
              case hf6p0 => kernel_rfl
              case hr6p0 => kernel_rfl
              case hQ6p0 => exact fun _ _ _ h => h
              case hy6p0 =>
                refine Or.inl ⟨rfl, ?_⟩
                intro W hSw
                have y0 : W.cell? ⟨b1, o1 + k, none⟩ = some (.int .i64 x) := hSw
                clear hSw
                go_simp
                try with_reducible rfl
              case hS6p0 => assumption
              try simp only [Act.put, List.setIfInBounds_toArray, List.set_cons_zero, List.set_cons_succ]
              refine wpAnyH_take (i := 7) (oi := ?oi7p0) (v := ?v7p0) ?hi7p0 ?hs7p0 ?hf7p0 ?hr7p0 ?hQ7p0 ?hy7p0 ?hS7p0 ?h7p0
              case hi7p0 => exact (by simp only [List.getElem?_toArray, List.getElem?_cons_succ, List.getElem?_cons_zero]; rfl)
              case hs7p0 => kernel_rfl
              case hf7p0 => kernel_rfl
              case hr7p0 => kernel_rfl
              case hQ7p0 => exact fun _ _ _ h => h
              case hy7p0 =>
                refine Or.inl ⟨rfl, ?_⟩
                intro W hSw
                have y0 : W.cell? ⟨b1, o1 + k, none⟩ = some (.int .i64 x) := hSw
                clear hSw
                go_simp
                try with_reducible rfl
              case hS7p0 => assumption
              try simp only [Act.put, List.setIfInBounds_toArray, List.set_cons_zero, List.set_cons_succ]
              refine wpAnyH_take (i := 8) (oi := ?oi8p0) (v := ?v8p0) ?hi8p0 ?hs8p0 ?hf8p0 ?hr8p0 ?hQ8p0 ?hy8p0 ?hS8p0 ?h8p0
              case hi8p0 => exact (by simp only [List.getElem?_toArray, List.getElem?_cons_succ, List.getElem?_cons_zero]; rfl)
              case hs8p0 => kernel_rfl
              case hf8p0 => kernel_rfl
              case hr8p0 => kernel_rfl
              case hQ8p0 => exact fun _ _ _ h => h
              case hy8p0 =>
                refine Or.inl ⟨rfl, ?_⟩
                intro W hSw
                have y0 : W.cell? ⟨b1, o1 + k, none⟩ = some (.int .i64 x) := hSw
                clear hSw
                go_simp
                try with_reducible rfl
              case hS8p0 => assumption
              try simp only [Act.put, List.setIfInBounds_toArray, List.set_cons_zero, List.set_cons_succ]
              refine wpAnyH_ready (rs := [9]) (by kernel_rfl) (by simp) ?_
              refine AllReadyH.cons (o := _) rfl (fun K hK => ?_) AllReadyH.nil
              go_simp
              refine (HSH.out Wp00).mono ?_
              rintro r Wp01 ⟨rfl, hbq⟩
              have HBp01 := Lib.hid (HDp0.out.trans (hbq.mono HDp0.out.size))
              clear hbq
              refine hK.out _ _ ((HCK.out _ (HBp01.out))) (fun hHeld => ?_)
              clear hK K
              try simp only [Act.put, List.setIfInBounds_toArray, List.set_cons_zero, List.set_cons_succ]
              refine wpAnyH_take (i := 10) (oi := ?oi10p0) (v := (.int .i64 (x + z))) ?hi10p0 ?hs10p0 ?hf10p0 ?hr10p0 ?hQ10p0 ?hy10p0 ?hS10p0 ?h10p0
              case hi10p0 => exact (by simp only [List.getElem?_toArray, List.getElem?_cons_succ, List.getElem?_cons_zero]; rfl)
              case hs10p0 => kernel_rfl
              case hf10p0 => kernel_rfl
              case hr10p0 => kernel_rfl
              case hQ10p0 => exact fun _ _ _ h => h
              case hy10p0 =>
                refine Or.inl ⟨rfl, ?_⟩
                intro W hSw
                have y0 : W.cell? ⟨b1, o1 + k, none⟩ = some (.int .i64 x) := hSw
                clear hSw
                have hwr := HWR.out
                go_simp
                try with_reducible rfl
              case hS10p0 => assumption
              try simp only [Act.put, List.setIfInBounds_toArray, List.set_cons_zero, List.set_cons_succ]
              refine wpAnyH_ready (rs := [11]) (by kernel_rfl) (by simp) ?_
              refine AllReadyH.cons (o := _) rfl (fun K hK => ?_) AllReadyH.nil
              go_simp
              refine (HRT.out Wp01).mono ?_
              rintro r Wp02 ⟨rfl, hbq⟩
              have HBp02 := Lib.hid (HBp01.out.trans (hbq.mono HBp01.out.size))
              clear hbq
              refine hK.out _ _ ((HCK.out _ (HBp02.out))) (fun hHeld => ?_)
              clear hK K
              try simp only [Act.put, List.setIfInBounds_toArray, List.set_cons_zero, List.set_cons_succ]
              refine wpAnyH_ready (rs := [12]) (by kernel_rfl) (by simp) ?_
              refine AllReadyH.cons (o := _) rfl (fun K hK => ?_) AllReadyH.nil
              go_simp
              refine hK.out _ _ ((HCK.out _ (HBp02.out.alloc HBp02.out.size _))) (fun hHeld => ?_)
              clear hK K
              try simp only [Act.put, List.setIfInBounds_toArray, List.set_cons_zero, List.set_cons_succ]
              have hz3 := zs_one (w := Wp02) u
              obtain ⟨G3, hG3⟩ : ∃ G3, G3 = Wp02.heap.size := ⟨_, rfl⟩
              obtain ⟨Wp03, hW3⟩ : ∃ W3, W3 = Wp02.alloc (.cells #[.int .i64 u] 3) := ⟨_, rfl⟩
              have HBp03 : Hid (Below wr.heap.size wr Wp03) := by rw [hW3]; exact HBp02.out.alloc HBp02.out.size _
              rw [← hW3, ← hG3] at hz3
              rw [← hW3] at hHeld ⊢
              rw [← hG3]
              have HZ3 := Lib.hid hz3
              clear hW3 hG3 hz3
              refine wpAnyH_ready (rs := [13]) (by kernel_rfl) (by simp) ?_
              refine AllReadyH.cons (o := _) rfl (fun K hK => ?_) AllReadyH.nil
              refine step_append_zs rfl _ _ rfl w5.heap.size _ _ ((bhd s a).take k) [u] rfl rfl (own_below HOW.out HBp03.out) HZ3.out (by have := List.length_take_le k (bhd s a); simp only [List.length_singleton]; omega) (Nat.le_trans HBW.out.size HBp03.out.size) ?_
              intro v4 Wp04 hown4 hg4
              have HBp04 : Hid (Below w5.heap.size w5 Wp04) := (HBW.out.trans (HBp03.out.mono HBW.out.size)).grown hg4 (Nat.le_trans HBW.out.size HBp03.out.size) (fun g hg => (HOW.out.lt g hg).1)
              have HO4 := Lib.hid hown4
              have hc4 : Wp04.cell? ⟨b1, o1 + k, none⟩ = some (.int .i64 x) := by
                rw [HX.out]
                exact (HBp04.out.cell (p := ⟨b1, o1 + k, none⟩) HBB5.out).trans (HCA5.out k HKL.out)
              clear hown4 hg4
              refine hK.out _ _ hc4 (fun hHeld => ?_)
              clear hK K hc4
              try simp only [Act.put, List.setIfInBounds_toArray, List.set_cons_zero, List.set_cons_succ]
              refine wpAnyH_take (i := 14) (oi := ?oi14p0) (v := ?v14p0) ?hi14p0 ?hs14p0 ?hf14p0 ?hr14p0 ?hQ14p0 ?hy14p0 ?hS14p0 ?h14p0
              case hi14p0 => exact (by simp only [List.getElem?_toArray, List.getElem?_cons_succ, List.getElem?_cons_zero]; rfl)
              case hs14p0 => kernel_rfl
              case hf14p0 => kernel_rfl
              case hr14p0 => kernel_rfl
              case hQ14p0 => exact fun _ _ _ h => h
              case hy14p0 =>
                refine Or.inl ⟨rfl, ?_⟩
                intro W hSw
                have y0 : W.cell? ⟨b1, o1 + k, none⟩ = some (.int .i64 x) := hSw
                clear hSw
                go_simp
                try with_reducible rfl
              case hS14p0 => assumption
              try simp only [Act.put, List.setIfInBounds_toArray, List.set_cons_zero, List.set_cons_succ]
              refine wpAnyH_done (by kernel_rfl) ?_ _
              go_wp2_with fail
              go_roundw
              case rel =>
                refine ⟨k + 1, by omega, by go_num, ?_, HBp04.out⟩
                have h := HO4.out
                rw [HNX.out] at h
                exact h
              case measure => simp [intOf]; omega
            · obtain rfl : k = a.length := by omega
              obtain ⟨w6, hw6⟩ : ∃ W, W = wr := ⟨_, rfl⟩
              rw [← hw6] at HOW HBW ⊢
              clear hw6
              have HTw6 : Hid ((bhd s a).take a.length = bhd s a) := List.take_of_length_le (by rw [bhd_length]; exact Nat.le_refl _)
              rw [HTw6.out] at HOW
              rw [bhd_length] at HOW
              obtain ⟨Ax, cx, hvx⟩ := zs_form (own_zs (by rw [bhd_length]; exact HOW.out))
              rw [bhd_length] at hvx
              subst hvx
              have HOW6 := HOW
              have HBW6 : Hid (Below w.heap.size w w6) := HB5.out.trans (HBW.out.mono HB5.out.size)
              have HCB6 : Hid (∀ j (hj : j < b.length), w6.cell? ⟨b2, o2 + j, none⟩ = some (.int .i64 b[j])) := fun j hj => (HBW.out.cell (p := ⟨b2, o2 + j, none⟩) HBB25.out).trans (HCB5.out j hj)
              have HBB6 : Hid (b2 < w6.heap.size) := Nat.lt_of_lt_of_le HBB25.out HBW.out.size
              clear HOW
              go_wp2_with fail
              go_loopw [14, 16] (fun vx i wr => ∃ k : Nat, k ≤ b.length ∧ i = .int .i64 k ∧ Hid (wr.ownsRow w6.heap.size 3 1 vx ((bhd (-s) b).take k).length (zv ((bhd (-s) b).take k))) ∧ Hid (Below w6.heap.size w6 wr)) (fun _ i _ => b.length - (intOf i).toNat)
              case atStart => exact ⟨0, Nat.zero_le _, rfl, ⟨by simp [zv], .inl ⟨rfl, rfl⟩⟩, Below.refl _ _⟩
              case round =>
                obtain ⟨k, hk, rfl, HOW, HBW⟩ := hrel
                by_cases hlt : k < b.length
                · have HKL : Hid (k < b.length) := hlt
                  obtain ⟨x, hx⟩ : ∃ x, x = b[k] := ⟨_, rfl⟩
                  have hxb : 0 ≤ x ∧ x ≤ 10000 := by rw [hx]; exact HIB.out k hlt
                  have HCK : Hid (∀ W, Below wr.heap.size wr W → W.cell? ⟨b2, o2 + k, none⟩ = some (.int .i64 x)) := fun W hb => by
                    rw [hx]
                    exact ((HBW.out.trans (hb.mono HBW.out.size)).cell (p := ⟨b2, o2 + k, none⟩) HBB6.out).trans (HCB6.out k hlt)
                  obtain ⟨z, hz⟩ : ∃ z, z = shr s b.length k := ⟨_, rfl⟩
                  have hzb := shr_bd s b.length k
                  rw [← hz] at hzb
                  have HSH : Hid (∀ W, Calls Tryd.prog 18 #[.int .i64 s, .int .i64 (b.length : Int), .int .i64 (k : Int)] W fun e w' => e = .returned (.int .i64 z) ∧ Below W.heap.size W w') := fun W => by
                    rw [hz]
                    exact (rshare_any s b.length k W (by omega) (by omega) (by omega) (by omega)).mono fun e w' h => ⟨h.1, by rw [h.2]; exact Below.refl _ _⟩
                  obtain ⟨u, hu⟩ : ∃ u, u = rt (x - z) := ⟨_, rfl⟩
                  have HRT : Hid (∀ W, Calls Tryd.prog 24 #[.int .i64 (x - z)] W fun e w' => e = .returned (.int .i64 u) ∧ Below W.heap.size W w') := fun W => by
                    rw [hu]
                    exact (rating_any _ W).mono fun e w' h => ⟨h.1, by rw [h.2]; exact Below.refl _ _⟩
                  have HWR : Hid (IntKind.i64.wrap (x - z) = x - z) := IntWalk.i64_in _ (by omega)
                  have HNX : Hid ((bhd (-s) b).take k ++ [u] = (bhd (-s) b).take (k + 1)) := by
                    show _ = _
                    rw [hu]
                    exact bhd_nextn s b k hlt x z hx hz
                  have HX := Lib.hid hx
                  have h0k : (0 : Int) ≤ (k : Int) := by omega
                  have h1k : (k : Int) < (b.length : Int) := by omega
                  clear hz hu hx
                  go_wp2_with fail
                  have HDq0 : Hid (Below wr.heap.size wr wr.drew) := (Below.refl wr.heap.size wr).drew
                  refine wp_region_held_drew (S := fun W : World => W.cell? ⟨b2, o2 + k, none⟩ = some (.int .i64 x)) (by kernel_rfl) ((HCK.out _ (HDq0.out))) (fun hHeld => ?_)
                  obtain ⟨Wq00, hW0⟩ : ∃ W0, W0 = wr.drew := ⟨_, rfl⟩
                  rw [← hW0] at hHeld HDq0 ⊢
                  clear hW0
                  refine wpAnyH_take (i := 0) (oi := ?oi0q0) (v := ?v0q0) ?hi0q0 ?hs0q0 ?hf0q0 ?hr0q0 ?hQ0q0 ?hy0q0 ?hS0q0 ?h0q0
                  case hi0q0 => exact (by simp only [List.getElem?_toArray, List.getElem?_cons_zero]; rfl)
                  case hs0q0 => kernel_rfl
                  case hf0q0 => kernel_rfl
                  case hr0q0 => kernel_rfl
                  case hQ0q0 => exact fun _ _ _ h => h
                  case hy0q0 =>
                    refine Or.inl ⟨rfl, ?_⟩
                    intro W hSw
                    have y0 : W.cell? ⟨b2, o2 + k, none⟩ = some (.int .i64 x) := hSw
                    clear hSw
                    go_simp
                    try with_reducible rfl
                  case hS0q0 => assumption
                  try simp only [Act.put, List.setIfInBounds_toArray, List.set_cons_zero, List.set_cons_succ]
                  refine wpAnyH_take (i := 1) (oi := ?oi1q0) (v := ?v1q0) ?hi1q0 ?hs1q0 ?hf1q0 ?hr1q0 ?hQ1q0 ?hy1q0 ?hS1q0 ?h1q0
                  case hi1q0 => exact (by simp only [List.getElem?_toArray, List.getElem?_cons_succ, List.getElem?_cons_zero]; rfl)
                  case hs1q0 => kernel_rfl
                  case hf1q0 => kernel_rfl
                  case hr1q0 => kernel_rfl
                  case hQ1q0 => exact fun _ _ _ h => h
                  case hy1q0 =>
                    refine Or.inl ⟨rfl, ?_⟩
                    intro W hSw
                    have y0 : W.cell? ⟨b2, o2 + k, none⟩ = some (.int .i64 x) := hSw
                    clear hSw
                    go_simp
                    try with_reducible rfl
                  case hS1q0 => assumption
                  try simp only [Act.put, List.setIfInBounds_toArray, List.set_cons_zero, List.set_cons_succ]
                  refine wpAnyH_take (i := 2) (oi := ?oi2q0) (v := ?v2q0) ?hi2q0 ?hs2q0 ?hf2q0 ?hr2q0 ?hQ2q0 ?hy2q0 ?hS2q0 ?h2q0
                  case hi2q0 => exact (by simp only [List.getElem?_toArray, List.getElem?_cons_succ, List.getElem?_cons_zero]; rfl)
                  case hs2q0 => kernel_rfl
                  case hf2q0 => kernel_rfl
                  case hr2q0 => kernel_rfl
                  case hQ2q0 => exact fun _ _ _ h => h
                  case hy2q0 =>
                    refine Or.inl ⟨rfl, ?_⟩
                    intro W hSw
                    have y0 : W.cell? ⟨b2, o2 + k, none⟩ = some (.int .i64 x) := hSw
                    clear hSw
                    go_simp
                    try with_reducible rfl
                  case hS2q0 => assumption
                  try simp only [Act.put, List.setIfInBounds_toArray, List.set_cons_zero, List.set_cons_succ]
                  refine wpAnyH_take (i := 3) (oi := ?oi3q0) (v := ?v3q0) ?hi3q0 ?hs3q0 ?hf3q0 ?hr3q0 ?hQ3q0 ?hy3q0 ?hS3q0 ?h3q0
                  case hi3q0 => exact (by simp only [List.getElem?_toArray, List.getElem?_cons_succ, List.getElem?_cons_zero]; rfl)
                  case hs3q0 => kernel_rfl
                  case hf3q0 => kernel_rfl
                  case hr3q0 => kernel_rfl
                  case hQ3q0 => exact fun _ _ _ h => h
                  case hy3q0 =>
                    refine Or.inl ⟨rfl, ?_⟩
                    intro W hSw
                    have y0 : W.cell? ⟨b2, o2 + k, none⟩ = some (.int .i64 x) := hSw
                    clear hSw
                    go_simp
                    try with_reducible rfl
                  case hS3q0 => assumption
                  try simp only [Act.put, List.setIfInBounds_toArray, List.set_cons_zero, List.set_cons_succ]
                  refine wpAnyH_take (i := 4) (oi := ?oi4q0) (v := ?v4q0) ?hi4q0 ?hs4q0 ?hf4q0 ?hr4q0 ?hQ4q0 ?hy4q0 ?hS4q0 ?h4q0
                  case hi4q0 => exact (by simp only [List.getElem?_toArray, List.getElem?_cons_succ, List.getElem?_cons_zero]; rfl)
                  case hs4q0 => kernel_rfl
                  case hf4q0 => kernel_rfl
                  case hr4q0 => kernel_rfl
                  case hQ4q0 => exact fun _ _ _ h => h
                  case hy4q0 =>
                    refine Or.inl ⟨rfl, ?_⟩
                    intro W hSw
                    have y0 : W.cell? ⟨b2, o2 + k, none⟩ = some (.int .i64 x) := hSw
                    clear hSw
                    go_simp
                    try with_reducible rfl
                  case hS4q0 => assumption
                  try simp only [Act.put, List.setIfInBounds_toArray, List.set_cons_zero, List.set_cons_succ]
                  refine wpAnyH_take (i := 5) (oi := ?oi5q0) (v := ?v5q0) ?hi5q0 ?hs5q0 ?hf5q0 ?hr5q0 ?hQ5q0 ?hy5q0 ?hS5q0 ?h5q0
                  case hi5q0 => exact (by simp only [List.getElem?_toArray, List.getElem?_cons_succ, List.getElem?_cons_zero]; rfl)
                  case hs5q0 => kernel_rfl
                  case hf5q0 => kernel_rfl
                  case hr5q0 => kernel_rfl
                  case hQ5q0 => exact fun _ _ _ h => h
                  case hy5q0 =>
                    refine Or.inl ⟨rfl, ?_⟩
                    intro W hSw
                    have y0 : W.cell? ⟨b2, o2 + k, none⟩ = some (.int .i64 x) := hSw
                    clear hSw
                    go_simp
                    try with_reducible rfl
                  case hS5q0 => assumption
                  try simp only [Act.put, List.setIfInBounds_toArray, List.set_cons_zero, List.set_cons_succ]
                  refine wpAnyH_take (i := 6) (oi := ?oi6q0) (v := ?v6q0) ?hi6q0 ?hs6q0 ?hf6q0 ?hr6q0 ?hQ6q0 ?hy6q0 ?hS6q0 ?h6q0
                  case hi6q0 => exact (by simp only [List.getElem?_toArray, List.getElem?_cons_succ, List.getElem?_cons_zero]; rfl)
                  case hs6q0 => kernel_rfl
                  case hf6q0 => kernel_rfl
                  case hr6q0 => kernel_rfl
                  case hQ6q0 => exact fun _ _ _ h => h
                  case hy6q0 =>
                    refine Or.inl ⟨rfl, ?_⟩
                    intro W hSw
                    have y0 : W.cell? ⟨b2, o2 + k, none⟩ = some (.int .i64 x) := hSw
                    clear hSw
                    go_simp
                    try with_reducible rfl
                  case hS6q0 => assumption
                  try simp only [Act.put, List.setIfInBounds_toArray, List.set_cons_zero, List.set_cons_succ]
                  refine wpAnyH_take (i := 7) (oi := ?oi7q0) (v := ?v7q0) ?hi7q0 ?hs7q0 ?hf7q0 ?hr7q0 ?hQ7q0 ?hy7q0 ?hS7q0 ?h7q0
                  case hi7q0 => exact (by simp only [List.getElem?_toArray, List.getElem?_cons_succ, List.getElem?_cons_zero]; rfl)
                  case hs7q0 => kernel_rfl
                  case hf7q0 => kernel_rfl
                  case hr7q0 => kernel_rfl
                  case hQ7q0 => exact fun _ _ _ h => h
                  case hy7q0 =>
                    refine Or.inl ⟨rfl, ?_⟩
                    intro W hSw
                    have y0 : W.cell? ⟨b2, o2 + k, none⟩ = some (.int .i64 x) := hSw
                    clear hSw
                    go_simp
                    try with_reducible rfl
                  case hS7q0 => assumption
                  try simp only [Act.put, List.setIfInBounds_toArray, List.set_cons_zero, List.set_cons_succ]
                  refine wpAnyH_take (i := 8) (oi := ?oi8q0) (v := ?v8q0) ?hi8q0 ?hs8q0 ?hf8q0 ?hr8q0 ?hQ8q0 ?hy8q0 ?hS8q0 ?h8q0
                  case hi8q0 => exact (by simp only [List.getElem?_toArray, List.getElem?_cons_succ, List.getElem?_cons_zero]; rfl)
                  case hs8q0 => kernel_rfl
                  case hf8q0 => kernel_rfl
                  case hr8q0 => kernel_rfl
                  case hQ8q0 => exact fun _ _ _ h => h
                  case hy8q0 =>
                    refine Or.inl ⟨rfl, ?_⟩
                    intro W hSw
                    have y0 : W.cell? ⟨b2, o2 + k, none⟩ = some (.int .i64 x) := hSw
                    clear hSw
                    go_simp
                    try with_reducible rfl
                  case hS8q0 => assumption
                  try simp only [Act.put, List.setIfInBounds_toArray, List.set_cons_zero, List.set_cons_succ]
                  refine wpAnyH_ready (rs := [9]) (by kernel_rfl) (by simp) ?_
                  refine AllReadyH.cons (o := _) rfl (fun K hK => ?_) AllReadyH.nil
                  go_simp
                  refine (HSH.out Wq00).mono ?_
                  rintro r Wq01 ⟨rfl, hbq⟩
                  have HBq01 := Lib.hid (HDq0.out.trans (hbq.mono HDq0.out.size))
                  clear hbq
                  refine hK.out _ _ ((HCK.out _ (HBq01.out))) (fun hHeld => ?_)
                  clear hK K
                  try simp only [Act.put, List.setIfInBounds_toArray, List.set_cons_zero, List.set_cons_succ]
                  refine wpAnyH_take (i := 10) (oi := ?oi10q0) (v := (.int .i64 (x - z))) ?hi10q0 ?hs10q0 ?hf10q0 ?hr10q0 ?hQ10q0 ?hy10q0 ?hS10q0 ?h10q0
                  case hi10q0 => exact (by simp only [List.getElem?_toArray, List.getElem?_cons_succ, List.getElem?_cons_zero]; rfl)
                  case hs10q0 => kernel_rfl
                  case hf10q0 => kernel_rfl
                  case hr10q0 => kernel_rfl
                  case hQ10q0 => exact fun _ _ _ h => h
                  case hy10q0 =>
                    refine Or.inl ⟨rfl, ?_⟩
                    intro W hSw
                    have y0 : W.cell? ⟨b2, o2 + k, none⟩ = some (.int .i64 x) := hSw
                    clear hSw
                    have hwr := HWR.out
                    go_simp
                    try with_reducible rfl
                  case hS10q0 => assumption
                  try simp only [Act.put, List.setIfInBounds_toArray, List.set_cons_zero, List.set_cons_succ]
                  refine wpAnyH_ready (rs := [11]) (by kernel_rfl) (by simp) ?_
                  refine AllReadyH.cons (o := _) rfl (fun K hK => ?_) AllReadyH.nil
                  go_simp
                  refine (HRT.out Wq01).mono ?_
                  rintro r Wq02 ⟨rfl, hbq⟩
                  have HBq02 := Lib.hid (HBq01.out.trans (hbq.mono HBq01.out.size))
                  clear hbq
                  refine hK.out _ _ ((HCK.out _ (HBq02.out))) (fun hHeld => ?_)
                  clear hK K
                  try simp only [Act.put, List.setIfInBounds_toArray, List.set_cons_zero, List.set_cons_succ]
                  refine wpAnyH_ready (rs := [12]) (by kernel_rfl) (by simp) ?_
                  refine AllReadyH.cons (o := _) rfl (fun K hK => ?_) AllReadyH.nil
                  go_simp
                  refine hK.out _ _ ((HCK.out _ (HBq02.out.alloc HBq02.out.size _))) (fun hHeld => ?_)
                  clear hK K
                  try simp only [Act.put, List.setIfInBounds_toArray, List.set_cons_zero, List.set_cons_succ]
                  have hz3 := zs_one (w := Wq02) u
                  obtain ⟨G3, hG3⟩ : ∃ G3, G3 = Wq02.heap.size := ⟨_, rfl⟩
                  obtain ⟨Wq03, hW3⟩ : ∃ W3, W3 = Wq02.alloc (.cells #[.int .i64 u] 3) := ⟨_, rfl⟩
                  have HBq03 : Hid (Below wr.heap.size wr Wq03) := by rw [hW3]; exact HBq02.out.alloc HBq02.out.size _
                  rw [← hW3, ← hG3] at hz3
                  rw [← hW3] at hHeld ⊢
                  rw [← hG3]
                  have HZ3 := Lib.hid hz3
                  clear hW3 hG3 hz3
                  refine wpAnyH_ready (rs := [13]) (by kernel_rfl) (by simp) ?_
                  refine AllReadyH.cons (o := _) rfl (fun K hK => ?_) AllReadyH.nil
                  refine step_append_zs rfl _ _ rfl w6.heap.size _ _ ((bhd (-s) b).take k) [u] rfl rfl (own_below HOW.out HBq03.out) HZ3.out (by have := List.length_take_le k (bhd (-s) b); simp only [List.length_singleton]; omega) (Nat.le_trans HBW.out.size HBq03.out.size) ?_
                  intro v4 Wq04 hown4 hg4
                  have HBq04 : Hid (Below w6.heap.size w6 Wq04) := (HBW.out.trans (HBq03.out.mono HBW.out.size)).grown hg4 (Nat.le_trans HBW.out.size HBq03.out.size) (fun g hg => (HOW.out.lt g hg).1)
                  have HO4 := Lib.hid hown4
                  have hc4 : Wq04.cell? ⟨b2, o2 + k, none⟩ = some (.int .i64 x) := by
                    rw [HX.out]
                    exact (HBq04.out.cell (p := ⟨b2, o2 + k, none⟩) HBB6.out).trans (HCB6.out k HKL.out)
                  clear hown4 hg4
                  refine hK.out _ _ hc4 (fun hHeld => ?_)
                  clear hK K hc4
                  try simp only [Act.put, List.setIfInBounds_toArray, List.set_cons_zero, List.set_cons_succ]
                  refine wpAnyH_take (i := 14) (oi := ?oi14q0) (v := ?v14q0) ?hi14q0 ?hs14q0 ?hf14q0 ?hr14q0 ?hQ14q0 ?hy14q0 ?hS14q0 ?h14q0
                  case hi14q0 => exact (by simp only [List.getElem?_toArray, List.getElem?_cons_succ, List.getElem?_cons_zero]; rfl)
                  case hs14q0 => kernel_rfl
                  case hf14q0 => kernel_rfl
                  case hr14q0 => kernel_rfl
                  case hQ14q0 => exact fun _ _ _ h => h
                  case hy14q0 =>
                    refine Or.inl ⟨rfl, ?_⟩
                    intro W hSw
                    have y0 : W.cell? ⟨b2, o2 + k, none⟩ = some (.int .i64 x) := hSw
                    clear hSw
                    go_simp
                    try with_reducible rfl
                  case hS14q0 => assumption
                  try simp only [Act.put, List.setIfInBounds_toArray, List.set_cons_zero, List.set_cons_succ]
                  refine wpAnyH_done (by kernel_rfl) ?_ _
                  go_wp2_with fail
                  go_roundw
                  case rel =>
                    refine ⟨k + 1, by omega, by go_num, ?_, HBq04.out⟩
                    have h := HO4.out
                    rw [HNX.out] at h
                    exact h
                  case measure => simp [intOf]; omega
                · obtain rfl : k = b.length := by omega
                  obtain ⟨w7, hw7⟩ : ∃ W, W = wr := ⟨_, rfl⟩
                  rw [← hw7] at HOW HBW ⊢
                  clear hw7
                  have HTw7 : Hid ((bhd (-s) b).take b.length = bhd (-s) b) := List.take_of_length_le (by rw [bhd_length]; exact Nat.le_refl _)
                  rw [HTw7.out] at HOW
                  rw [bhd_length] at HOW
                  go_wp2_with fail
                  go_ret3
                  try unfold RupdPost
                  try simp only [if_pos HGD.out]
                  refine ⟨_, _, rfl, ?_, ?_, HBW6.out.trans (HBW.out.mono HBW6.out.size)⟩
                  · rw [← HS.out]
                    exact own_zs (by rw [bhd_length]; exact own_below HOW6.out HBW.out)
                  · rw [← HS.out]
                    exact own_zs (by rw [bhd_length]; exact HOW.out)
        · have HSM : Hid (∀ W, Calls Tryd.prog 15 #[.int .i64 (meanR a), .int .i64 (meanR b), .int .i64 (a.length : Int), .int .i64 r] W fun e w' => e = .returned (.int .i64 s) ∧ Below W.heap.size W w') := fun W => by
            have hss : s = stk (meanR a) (meanR b) (a.length : Int) r := by rw [HS2.out]; congr 1; omega
            rw [hss]
            exact rstake_any _ _ _ _ W
          go_wp2_with fail
          refine (HMA.out _ HB2.out).mono ?_
          rintro e w3 ⟨rfl, rfl⟩
          go_wp2_with fail
          refine (HMB.out _ HB2.out).mono ?_
          rintro e w3 ⟨rfl, rfl⟩
          go_wp2_with fail
          refine (HSM.out _).mono ?_
          rintro e w5 ⟨rfl, hb5⟩
          have HB5 : Hid (Below w.heap.size w w5) := HB2.out.trans (hb5.mono HB2.out.size)
          have HCA5 : Hid (∀ j (hj : j < a.length), w5.cell? ⟨b1, o1 + j, none⟩ = some (.int .i64 a[j])) := fun j hj => (HB5.out.cell (p := ⟨b1, o1 + j, none⟩) HBL1.out).trans (HC1.out j hj)
          have HCB5 : Hid (∀ j (hj : j < b.length), w5.cell? ⟨b2, o2 + j, none⟩ = some (.int .i64 b[j])) := fun j hj => (HB5.out.cell (p := ⟨b2, o2 + j, none⟩) HBL2.out).trans (HC2.out j hj)
          have HBB5 : Hid (b1 < w5.heap.size) := Nat.lt_of_lt_of_le HBL1.out HB5.out.size
          have HBB25 : Hid (b2 < w5.heap.size) := Nat.lt_of_lt_of_le HBL2.out HB5.out.size
          clear hb5
          go_wp2_with fail
          go_loopw [13, 15] (fun vx i wr => ∃ k : Nat, k ≤ a.length ∧ i = .int .i64 k ∧ Hid (wr.ownsRow w5.heap.size 3 1 vx ((bhd s a).take k).length (zv ((bhd s a).take k))) ∧ Hid (Below w5.heap.size w5 wr)) (fun _ i _ => a.length - (intOf i).toNat)
          case atStart => exact ⟨0, Nat.zero_le _, rfl, ⟨by simp [zv], .inl ⟨rfl, rfl⟩⟩, Below.refl _ _⟩
          case round =>
            obtain ⟨k, hk, rfl, HOW, HBW⟩ := hrel
            by_cases hlt : k < a.length
            · have HKL : Hid (k < a.length) := hlt
              obtain ⟨x, hx⟩ : ∃ x, x = a[k] := ⟨_, rfl⟩
              have hxb : 0 ≤ x ∧ x ≤ 10000 := by rw [hx]; exact HIA.out k hlt
              have HCK : Hid (∀ W, Below wr.heap.size wr W → W.cell? ⟨b1, o1 + k, none⟩ = some (.int .i64 x)) := fun W hb => by
                rw [hx]
                exact ((HBW.out.trans (hb.mono HBW.out.size)).cell (p := ⟨b1, o1 + k, none⟩) HBB5.out).trans (HCA5.out k hlt)
              obtain ⟨z, hz⟩ : ∃ z, z = shr s a.length k := ⟨_, rfl⟩
              have hzb := shr_bd s a.length k
              rw [← hz] at hzb
              have HSH : Hid (∀ W, Calls Tryd.prog 18 #[.int .i64 s, .int .i64 (a.length : Int), .int .i64 (k : Int)] W fun e w' => e = .returned (.int .i64 z) ∧ Below W.heap.size W w') := fun W => by
                rw [hz]
                exact (rshare_any s a.length k W (by omega) (by omega) (by omega) (by omega)).mono fun e w' h => ⟨h.1, by rw [h.2]; exact Below.refl _ _⟩
              obtain ⟨u, hu⟩ : ∃ u, u = rt (x + z) := ⟨_, rfl⟩
              have HRT : Hid (∀ W, Calls Tryd.prog 24 #[.int .i64 (x + z)] W fun e w' => e = .returned (.int .i64 u) ∧ Below W.heap.size W w') := fun W => by
                rw [hu]
                exact (rating_any _ W).mono fun e w' h => ⟨h.1, by rw [h.2]; exact Below.refl _ _⟩
              have HWR : Hid (IntKind.i64.wrap (x + z) = x + z) := IntWalk.i64_in _ (by omega)
              have HNX : Hid ((bhd s a).take k ++ [u] = (bhd s a).take (k + 1)) := by
                show _ = _
                rw [hu]
                exact bhd_next s a k hlt x z hx hz
              have HX := Lib.hid hx
              have h0k : (0 : Int) ≤ (k : Int) := by omega
              have h1k : (k : Int) < (a.length : Int) := by omega
              clear hz hu hx
              go_wp2_with fail
              have HDp2 : Hid (Below wr.heap.size wr wr.drew) := (Below.refl wr.heap.size wr).drew
              refine wp_region_held_drew (S := fun W : World => W.cell? ⟨b1, o1 + k, none⟩ = some (.int .i64 x)) (by kernel_rfl) ((HCK.out _ (HDp2.out))) (fun hHeld => ?_)
              obtain ⟨Wp20, hW0⟩ : ∃ W0, W0 = wr.drew := ⟨_, rfl⟩
              rw [← hW0] at hHeld HDp2 ⊢
              clear hW0
              refine wpAnyH_take (i := 0) (oi := ?oi0p2) (v := ?v0p2) ?hi0p2 ?hs0p2 ?hf0p2 ?hr0p2 ?hQ0p2 ?hy0p2 ?hS0p2 ?h0p2
              case hi0p2 => exact (by simp only [List.getElem?_toArray, List.getElem?_cons_zero]; rfl)
              case hs0p2 => kernel_rfl
              case hf0p2 => kernel_rfl
              case hr0p2 => kernel_rfl
              case hQ0p2 => exact fun _ _ _ h => h
              case hy0p2 =>
                refine Or.inl ⟨rfl, ?_⟩
                intro W hSw
                have y0 : W.cell? ⟨b1, o1 + k, none⟩ = some (.int .i64 x) := hSw
                clear hSw
                go_simp
                try with_reducible rfl
              case hS0p2 => assumption
              try simp only [Act.put, List.setIfInBounds_toArray, List.set_cons_zero, List.set_cons_succ]
              refine wpAnyH_take (i := 1) (oi := ?oi1p2) (v := ?v1p2) ?hi1p2 ?hs1p2 ?hf1p2 ?hr1p2 ?hQ1p2 ?hy1p2 ?hS1p2 ?h1p2
              case hi1p2 => exact (by simp only [List.getElem?_toArray, List.getElem?_cons_succ, List.getElem?_cons_zero]; rfl)
              case hs1p2 => kernel_rfl
              case hf1p2 => kernel_rfl
              case hr1p2 => kernel_rfl
              case hQ1p2 => exact fun _ _ _ h => h
              case hy1p2 =>
                refine Or.inl ⟨rfl, ?_⟩
                intro W hSw
                have y0 : W.cell? ⟨b1, o1 + k, none⟩ = some (.int .i64 x) := hSw
                clear hSw
                go_simp
                try with_reducible rfl
              case hS1p2 => assumption
              try simp only [Act.put, List.setIfInBounds_toArray, List.set_cons_zero, List.set_cons_succ]
              refine wpAnyH_take (i := 2) (oi := ?oi2p2) (v := ?v2p2) ?hi2p2 ?hs2p2 ?hf2p2 ?hr2p2 ?hQ2p2 ?hy2p2 ?hS2p2 ?h2p2
              case hi2p2 => exact (by simp only [List.getElem?_toArray, List.getElem?_cons_succ, List.getElem?_cons_zero]; rfl)
              case hs2p2 => kernel_rfl
              case hf2p2 => kernel_rfl
              case hr2p2 => kernel_rfl
              case hQ2p2 => exact fun _ _ _ h => h
              case hy2p2 =>
                refine Or.inl ⟨rfl, ?_⟩
                intro W hSw
                have y0 : W.cell? ⟨b1, o1 + k, none⟩ = some (.int .i64 x) := hSw
                clear hSw
                go_simp
                try with_reducible rfl
              case hS2p2 => assumption
              try simp only [Act.put, List.setIfInBounds_toArray, List.set_cons_zero, List.set_cons_succ]
              refine wpAnyH_take (i := 3) (oi := ?oi3p2) (v := ?v3p2) ?hi3p2 ?hs3p2 ?hf3p2 ?hr3p2 ?hQ3p2 ?hy3p2 ?hS3p2 ?h3p2
              case hi3p2 => exact (by simp only [List.getElem?_toArray, List.getElem?_cons_succ, List.getElem?_cons_zero]; rfl)
              case hs3p2 => kernel_rfl
              case hf3p2 => kernel_rfl
              case hr3p2 => kernel_rfl
              case hQ3p2 => exact fun _ _ _ h => h
              case hy3p2 =>
                refine Or.inl ⟨rfl, ?_⟩
                intro W hSw
                have y0 : W.cell? ⟨b1, o1 + k, none⟩ = some (.int .i64 x) := hSw
                clear hSw
                go_simp
                try with_reducible rfl
              case hS3p2 => assumption
              try simp only [Act.put, List.setIfInBounds_toArray, List.set_cons_zero, List.set_cons_succ]
              refine wpAnyH_take (i := 4) (oi := ?oi4p2) (v := ?v4p2) ?hi4p2 ?hs4p2 ?hf4p2 ?hr4p2 ?hQ4p2 ?hy4p2 ?hS4p2 ?h4p2
              case hi4p2 => exact (by simp only [List.getElem?_toArray, List.getElem?_cons_succ, List.getElem?_cons_zero]; rfl)
              case hs4p2 => kernel_rfl
              case hf4p2 => kernel_rfl
              case hr4p2 => kernel_rfl
              case hQ4p2 => exact fun _ _ _ h => h
              case hy4p2 =>
                refine Or.inl ⟨rfl, ?_⟩
                intro W hSw
                have y0 : W.cell? ⟨b1, o1 + k, none⟩ = some (.int .i64 x) := hSw
                clear hSw
                go_simp
                try with_reducible rfl
              case hS4p2 => assumption
              try simp only [Act.put, List.setIfInBounds_toArray, List.set_cons_zero, List.set_cons_succ]
              refine wpAnyH_take (i := 5) (oi := ?oi5p2) (v := ?v5p2) ?hi5p2 ?hs5p2 ?hf5p2 ?hr5p2 ?hQ5p2 ?hy5p2 ?hS5p2 ?h5p2
              case hi5p2 => exact (by simp only [List.getElem?_toArray, List.getElem?_cons_succ, List.getElem?_cons_zero]; rfl)
              case hs5p2 => kernel_rfl
              case hf5p2 => kernel_rfl
              case hr5p2 => kernel_rfl
              case hQ5p2 => exact fun _ _ _ h => h
              case hy5p2 =>
                refine Or.inl ⟨rfl, ?_⟩
                intro W hSw
                have y0 : W.cell? ⟨b1, o1 + k, none⟩ = some (.int .i64 x) := hSw
                clear hSw
                go_simp
                try with_reducible rfl
              case hS5p2 => assumption
              try simp only [Act.put, List.setIfInBounds_toArray, List.set_cons_zero, List.set_cons_succ]
              refine wpAnyH_take (i := 6) (oi := ?oi6p2) (v := ?v6p2) ?hi6p2 ?hs6p2 ?hf6p2 ?hr6p2 ?hQ6p2 ?hy6p2 ?hS6p2 ?h6p2
              case hi6p2 => exact (by simp only [List.getElem?_toArray, List.getElem?_cons_succ, List.getElem?_cons_zero]; rfl)
              case hs6p2 => kernel_rfl
              case hf6p2 => kernel_rfl
              case hr6p2 => kernel_rfl
              case hQ6p2 => exact fun _ _ _ h => h
              case hy6p2 =>
                refine Or.inl ⟨rfl, ?_⟩
                intro W hSw
                have y0 : W.cell? ⟨b1, o1 + k, none⟩ = some (.int .i64 x) := hSw
                clear hSw
                go_simp
                try with_reducible rfl
              case hS6p2 => assumption
              try simp only [Act.put, List.setIfInBounds_toArray, List.set_cons_zero, List.set_cons_succ]
              refine wpAnyH_take (i := 7) (oi := ?oi7p2) (v := ?v7p2) ?hi7p2 ?hs7p2 ?hf7p2 ?hr7p2 ?hQ7p2 ?hy7p2 ?hS7p2 ?h7p2
              case hi7p2 => exact (by simp only [List.getElem?_toArray, List.getElem?_cons_succ, List.getElem?_cons_zero]; rfl)
              case hs7p2 => kernel_rfl
              case hf7p2 => kernel_rfl
              case hr7p2 => kernel_rfl
              case hQ7p2 => exact fun _ _ _ h => h
              case hy7p2 =>
                refine Or.inl ⟨rfl, ?_⟩
                intro W hSw
                have y0 : W.cell? ⟨b1, o1 + k, none⟩ = some (.int .i64 x) := hSw
                clear hSw
                go_simp
                try with_reducible rfl
              case hS7p2 => assumption
              try simp only [Act.put, List.setIfInBounds_toArray, List.set_cons_zero, List.set_cons_succ]
              refine wpAnyH_take (i := 8) (oi := ?oi8p2) (v := ?v8p2) ?hi8p2 ?hs8p2 ?hf8p2 ?hr8p2 ?hQ8p2 ?hy8p2 ?hS8p2 ?h8p2
              case hi8p2 => exact (by simp only [List.getElem?_toArray, List.getElem?_cons_succ, List.getElem?_cons_zero]; rfl)
              case hs8p2 => kernel_rfl
              case hf8p2 => kernel_rfl
              case hr8p2 => kernel_rfl
              case hQ8p2 => exact fun _ _ _ h => h
              case hy8p2 =>
                refine Or.inl ⟨rfl, ?_⟩
                intro W hSw
                have y0 : W.cell? ⟨b1, o1 + k, none⟩ = some (.int .i64 x) := hSw
                clear hSw
                go_simp
                try with_reducible rfl
              case hS8p2 => assumption
              try simp only [Act.put, List.setIfInBounds_toArray, List.set_cons_zero, List.set_cons_succ]
              refine wpAnyH_ready (rs := [9]) (by kernel_rfl) (by simp) ?_
              refine AllReadyH.cons (o := _) rfl (fun K hK => ?_) AllReadyH.nil
              go_simp
              refine (HSH.out Wp20).mono ?_
              rintro r Wp21 ⟨rfl, hbq⟩
              have HBp21 := Lib.hid (HDp2.out.trans (hbq.mono HDp2.out.size))
              clear hbq
              refine hK.out _ _ ((HCK.out _ (HBp21.out))) (fun hHeld => ?_)
              clear hK K
              try simp only [Act.put, List.setIfInBounds_toArray, List.set_cons_zero, List.set_cons_succ]
              refine wpAnyH_take (i := 10) (oi := ?oi10p2) (v := (.int .i64 (x + z))) ?hi10p2 ?hs10p2 ?hf10p2 ?hr10p2 ?hQ10p2 ?hy10p2 ?hS10p2 ?h10p2
              case hi10p2 => exact (by simp only [List.getElem?_toArray, List.getElem?_cons_succ, List.getElem?_cons_zero]; rfl)
              case hs10p2 => kernel_rfl
              case hf10p2 => kernel_rfl
              case hr10p2 => kernel_rfl
              case hQ10p2 => exact fun _ _ _ h => h
              case hy10p2 =>
                refine Or.inl ⟨rfl, ?_⟩
                intro W hSw
                have y0 : W.cell? ⟨b1, o1 + k, none⟩ = some (.int .i64 x) := hSw
                clear hSw
                have hwr := HWR.out
                go_simp
                try with_reducible rfl
              case hS10p2 => assumption
              try simp only [Act.put, List.setIfInBounds_toArray, List.set_cons_zero, List.set_cons_succ]
              refine wpAnyH_ready (rs := [11]) (by kernel_rfl) (by simp) ?_
              refine AllReadyH.cons (o := _) rfl (fun K hK => ?_) AllReadyH.nil
              go_simp
              refine (HRT.out Wp21).mono ?_
              rintro r Wp22 ⟨rfl, hbq⟩
              have HBp22 := Lib.hid (HBp21.out.trans (hbq.mono HBp21.out.size))
              clear hbq
              refine hK.out _ _ ((HCK.out _ (HBp22.out))) (fun hHeld => ?_)
              clear hK K
              try simp only [Act.put, List.setIfInBounds_toArray, List.set_cons_zero, List.set_cons_succ]
              refine wpAnyH_ready (rs := [12]) (by kernel_rfl) (by simp) ?_
              refine AllReadyH.cons (o := _) rfl (fun K hK => ?_) AllReadyH.nil
              go_simp
              refine hK.out _ _ ((HCK.out _ (HBp22.out.alloc HBp22.out.size _))) (fun hHeld => ?_)
              clear hK K
              try simp only [Act.put, List.setIfInBounds_toArray, List.set_cons_zero, List.set_cons_succ]
              have hz3 := zs_one (w := Wp22) u
              obtain ⟨G3, hG3⟩ : ∃ G3, G3 = Wp22.heap.size := ⟨_, rfl⟩
              obtain ⟨Wp23, hW3⟩ : ∃ W3, W3 = Wp22.alloc (.cells #[.int .i64 u] 3) := ⟨_, rfl⟩
              have HBp23 : Hid (Below wr.heap.size wr Wp23) := by rw [hW3]; exact HBp22.out.alloc HBp22.out.size _
              rw [← hW3, ← hG3] at hz3
              rw [← hW3] at hHeld ⊢
              rw [← hG3]
              have HZ3 := Lib.hid hz3
              clear hW3 hG3 hz3
              refine wpAnyH_ready (rs := [13]) (by kernel_rfl) (by simp) ?_
              refine AllReadyH.cons (o := _) rfl (fun K hK => ?_) AllReadyH.nil
              refine step_append_zs rfl _ _ rfl w5.heap.size _ _ ((bhd s a).take k) [u] rfl rfl (own_below HOW.out HBp23.out) HZ3.out (by have := List.length_take_le k (bhd s a); simp only [List.length_singleton]; omega) (Nat.le_trans HBW.out.size HBp23.out.size) ?_
              intro v4 Wp24 hown4 hg4
              have HBp24 : Hid (Below w5.heap.size w5 Wp24) := (HBW.out.trans (HBp23.out.mono HBW.out.size)).grown hg4 (Nat.le_trans HBW.out.size HBp23.out.size) (fun g hg => (HOW.out.lt g hg).1)
              have HO4 := Lib.hid hown4
              have hc4 : Wp24.cell? ⟨b1, o1 + k, none⟩ = some (.int .i64 x) := by
                rw [HX.out]
                exact (HBp24.out.cell (p := ⟨b1, o1 + k, none⟩) HBB5.out).trans (HCA5.out k HKL.out)
              clear hown4 hg4
              refine hK.out _ _ hc4 (fun hHeld => ?_)
              clear hK K hc4
              try simp only [Act.put, List.setIfInBounds_toArray, List.set_cons_zero, List.set_cons_succ]
              refine wpAnyH_take (i := 14) (oi := ?oi14p2) (v := ?v14p2) ?hi14p2 ?hs14p2 ?hf14p2 ?hr14p2 ?hQ14p2 ?hy14p2 ?hS14p2 ?h14p2
              case hi14p2 => exact (by simp only [List.getElem?_toArray, List.getElem?_cons_succ, List.getElem?_cons_zero]; rfl)
              case hs14p2 => kernel_rfl
              case hf14p2 => kernel_rfl
              case hr14p2 => kernel_rfl
              case hQ14p2 => exact fun _ _ _ h => h
              case hy14p2 =>
                refine Or.inl ⟨rfl, ?_⟩
                intro W hSw
                have y0 : W.cell? ⟨b1, o1 + k, none⟩ = some (.int .i64 x) := hSw
                clear hSw
                go_simp
                try with_reducible rfl
              case hS14p2 => assumption
              try simp only [Act.put, List.setIfInBounds_toArray, List.set_cons_zero, List.set_cons_succ]
              refine wpAnyH_done (by kernel_rfl) ?_ _
              go_wp2_with fail
              go_roundw
              case rel =>
                refine ⟨k + 1, by omega, by go_num, ?_, HBp24.out⟩
                have h := HO4.out
                rw [HNX.out] at h
                exact h
              case measure => simp [intOf]; omega
            · obtain rfl : k = a.length := by omega
              obtain ⟨w6, hw6⟩ : ∃ W, W = wr := ⟨_, rfl⟩
              rw [← hw6] at HOW HBW ⊢
              clear hw6
              have HTw6 : Hid ((bhd s a).take a.length = bhd s a) := List.take_of_length_le (by rw [bhd_length]; exact Nat.le_refl _)
              rw [HTw6.out] at HOW
              rw [bhd_length] at HOW
              obtain ⟨Ax, cx, hvx⟩ := zs_form (own_zs (by rw [bhd_length]; exact HOW.out))
              rw [bhd_length] at hvx
              subst hvx
              have HOW6 := HOW
              have HBW6 : Hid (Below w.heap.size w w6) := HB5.out.trans (HBW.out.mono HB5.out.size)
              have HCB6 : Hid (∀ j (hj : j < b.length), w6.cell? ⟨b2, o2 + j, none⟩ = some (.int .i64 b[j])) := fun j hj => (HBW.out.cell (p := ⟨b2, o2 + j, none⟩) HBB25.out).trans (HCB5.out j hj)
              have HBB6 : Hid (b2 < w6.heap.size) := Nat.lt_of_lt_of_le HBB25.out HBW.out.size
              clear HOW
              go_wp2_with fail
              go_loopw [14, 16] (fun vx i wr => ∃ k : Nat, k ≤ b.length ∧ i = .int .i64 k ∧ Hid (wr.ownsRow w6.heap.size 3 1 vx ((bhd (-s) b).take k).length (zv ((bhd (-s) b).take k))) ∧ Hid (Below w6.heap.size w6 wr)) (fun _ i _ => b.length - (intOf i).toNat)
              case atStart => exact ⟨0, Nat.zero_le _, rfl, ⟨by simp [zv], .inl ⟨rfl, rfl⟩⟩, Below.refl _ _⟩
              case round =>
                obtain ⟨k, hk, rfl, HOW, HBW⟩ := hrel
                by_cases hlt : k < b.length
                · have HKL : Hid (k < b.length) := hlt
                  obtain ⟨x, hx⟩ : ∃ x, x = b[k] := ⟨_, rfl⟩
                  have hxb : 0 ≤ x ∧ x ≤ 10000 := by rw [hx]; exact HIB.out k hlt
                  have HCK : Hid (∀ W, Below wr.heap.size wr W → W.cell? ⟨b2, o2 + k, none⟩ = some (.int .i64 x)) := fun W hb => by
                    rw [hx]
                    exact ((HBW.out.trans (hb.mono HBW.out.size)).cell (p := ⟨b2, o2 + k, none⟩) HBB6.out).trans (HCB6.out k hlt)
                  obtain ⟨z, hz⟩ : ∃ z, z = shr s b.length k := ⟨_, rfl⟩
                  have hzb := shr_bd s b.length k
                  rw [← hz] at hzb
                  have HSH : Hid (∀ W, Calls Tryd.prog 18 #[.int .i64 s, .int .i64 (b.length : Int), .int .i64 (k : Int)] W fun e w' => e = .returned (.int .i64 z) ∧ Below W.heap.size W w') := fun W => by
                    rw [hz]
                    exact (rshare_any s b.length k W (by omega) (by omega) (by omega) (by omega)).mono fun e w' h => ⟨h.1, by rw [h.2]; exact Below.refl _ _⟩
                  obtain ⟨u, hu⟩ : ∃ u, u = rt (x - z) := ⟨_, rfl⟩
                  have HRT : Hid (∀ W, Calls Tryd.prog 24 #[.int .i64 (x - z)] W fun e w' => e = .returned (.int .i64 u) ∧ Below W.heap.size W w') := fun W => by
                    rw [hu]
                    exact (rating_any _ W).mono fun e w' h => ⟨h.1, by rw [h.2]; exact Below.refl _ _⟩
                  have HWR : Hid (IntKind.i64.wrap (x - z) = x - z) := IntWalk.i64_in _ (by omega)
                  have HNX : Hid ((bhd (-s) b).take k ++ [u] = (bhd (-s) b).take (k + 1)) := by
                    show _ = _
                    rw [hu]
                    exact bhd_nextn s b k hlt x z hx hz
                  have HX := Lib.hid hx
                  have h0k : (0 : Int) ≤ (k : Int) := by omega
                  have h1k : (k : Int) < (b.length : Int) := by omega
                  clear hz hu hx
                  go_wp2_with fail
                  have HDq2 : Hid (Below wr.heap.size wr wr.drew) := (Below.refl wr.heap.size wr).drew
                  refine wp_region_held_drew (S := fun W : World => W.cell? ⟨b2, o2 + k, none⟩ = some (.int .i64 x)) (by kernel_rfl) ((HCK.out _ (HDq2.out))) (fun hHeld => ?_)
                  obtain ⟨Wq20, hW0⟩ : ∃ W0, W0 = wr.drew := ⟨_, rfl⟩
                  rw [← hW0] at hHeld HDq2 ⊢
                  clear hW0
                  refine wpAnyH_take (i := 0) (oi := ?oi0q2) (v := ?v0q2) ?hi0q2 ?hs0q2 ?hf0q2 ?hr0q2 ?hQ0q2 ?hy0q2 ?hS0q2 ?h0q2
                  case hi0q2 => exact (by simp only [List.getElem?_toArray, List.getElem?_cons_zero]; rfl)
                  case hs0q2 => kernel_rfl
                  case hf0q2 => kernel_rfl
                  case hr0q2 => kernel_rfl
                  case hQ0q2 => exact fun _ _ _ h => h
                  case hy0q2 =>
                    refine Or.inl ⟨rfl, ?_⟩
                    intro W hSw
                    have y0 : W.cell? ⟨b2, o2 + k, none⟩ = some (.int .i64 x) := hSw
                    clear hSw
                    go_simp
                    try with_reducible rfl
                  case hS0q2 => assumption
                  try simp only [Act.put, List.setIfInBounds_toArray, List.set_cons_zero, List.set_cons_succ]
                  refine wpAnyH_take (i := 1) (oi := ?oi1q2) (v := ?v1q2) ?hi1q2 ?hs1q2 ?hf1q2 ?hr1q2 ?hQ1q2 ?hy1q2 ?hS1q2 ?h1q2
                  case hi1q2 => exact (by simp only [List.getElem?_toArray, List.getElem?_cons_succ, List.getElem?_cons_zero]; rfl)
                  case hs1q2 => kernel_rfl
                  case hf1q2 => kernel_rfl
                  case hr1q2 => kernel_rfl
                  case hQ1q2 => exact fun _ _ _ h => h
                  case hy1q2 =>
                    refine Or.inl ⟨rfl, ?_⟩
                    intro W hSw
                    have y0 : W.cell? ⟨b2, o2 + k, none⟩ = some (.int .i64 x) := hSw
                    clear hSw
                    go_simp
                    try with_reducible rfl
                  case hS1q2 => assumption
                  try simp only [Act.put, List.setIfInBounds_toArray, List.set_cons_zero, List.set_cons_succ]
                  refine wpAnyH_take (i := 2) (oi := ?oi2q2) (v := ?v2q2) ?hi2q2 ?hs2q2 ?hf2q2 ?hr2q2 ?hQ2q2 ?hy2q2 ?hS2q2 ?h2q2
                  case hi2q2 => exact (by simp only [List.getElem?_toArray, List.getElem?_cons_succ, List.getElem?_cons_zero]; rfl)
                  case hs2q2 => kernel_rfl
                  case hf2q2 => kernel_rfl
                  case hr2q2 => kernel_rfl
                  case hQ2q2 => exact fun _ _ _ h => h
                  case hy2q2 =>
                    refine Or.inl ⟨rfl, ?_⟩
                    intro W hSw
                    have y0 : W.cell? ⟨b2, o2 + k, none⟩ = some (.int .i64 x) := hSw
                    clear hSw
                    go_simp
                    try with_reducible rfl
                  case hS2q2 => assumption
                  try simp only [Act.put, List.setIfInBounds_toArray, List.set_cons_zero, List.set_cons_succ]
                  refine wpAnyH_take (i := 3) (oi := ?oi3q2) (v := ?v3q2) ?hi3q2 ?hs3q2 ?hf3q2 ?hr3q2 ?hQ3q2 ?hy3q2 ?hS3q2 ?h3q2
                  case hi3q2 => exact (by simp only [List.getElem?_toArray, List.getElem?_cons_succ, List.getElem?_cons_zero]; rfl)
                  case hs3q2 => kernel_rfl
                  case hf3q2 => kernel_rfl
                  case hr3q2 => kernel_rfl
                  case hQ3q2 => exact fun _ _ _ h => h
                  case hy3q2 =>
                    refine Or.inl ⟨rfl, ?_⟩
                    intro W hSw
                    have y0 : W.cell? ⟨b2, o2 + k, none⟩ = some (.int .i64 x) := hSw
                    clear hSw
                    go_simp
                    try with_reducible rfl
                  case hS3q2 => assumption
                  try simp only [Act.put, List.setIfInBounds_toArray, List.set_cons_zero, List.set_cons_succ]
                  refine wpAnyH_take (i := 4) (oi := ?oi4q2) (v := ?v4q2) ?hi4q2 ?hs4q2 ?hf4q2 ?hr4q2 ?hQ4q2 ?hy4q2 ?hS4q2 ?h4q2
                  case hi4q2 => exact (by simp only [List.getElem?_toArray, List.getElem?_cons_succ, List.getElem?_cons_zero]; rfl)
                  case hs4q2 => kernel_rfl
                  case hf4q2 => kernel_rfl
                  case hr4q2 => kernel_rfl
                  case hQ4q2 => exact fun _ _ _ h => h
                  case hy4q2 =>
                    refine Or.inl ⟨rfl, ?_⟩
                    intro W hSw
                    have y0 : W.cell? ⟨b2, o2 + k, none⟩ = some (.int .i64 x) := hSw
                    clear hSw
                    go_simp
                    try with_reducible rfl
                  case hS4q2 => assumption
                  try simp only [Act.put, List.setIfInBounds_toArray, List.set_cons_zero, List.set_cons_succ]
                  refine wpAnyH_take (i := 5) (oi := ?oi5q2) (v := ?v5q2) ?hi5q2 ?hs5q2 ?hf5q2 ?hr5q2 ?hQ5q2 ?hy5q2 ?hS5q2 ?h5q2
                  case hi5q2 => exact (by simp only [List.getElem?_toArray, List.getElem?_cons_succ, List.getElem?_cons_zero]; rfl)
                  case hs5q2 => kernel_rfl
                  case hf5q2 => kernel_rfl
                  case hr5q2 => kernel_rfl
                  case hQ5q2 => exact fun _ _ _ h => h
                  case hy5q2 =>
                    refine Or.inl ⟨rfl, ?_⟩
                    intro W hSw
                    have y0 : W.cell? ⟨b2, o2 + k, none⟩ = some (.int .i64 x) := hSw
                    clear hSw
                    go_simp
                    try with_reducible rfl
                  case hS5q2 => assumption
                  try simp only [Act.put, List.setIfInBounds_toArray, List.set_cons_zero, List.set_cons_succ]
                  refine wpAnyH_take (i := 6) (oi := ?oi6q2) (v := ?v6q2) ?hi6q2 ?hs6q2 ?hf6q2 ?hr6q2 ?hQ6q2 ?hy6q2 ?hS6q2 ?h6q2
                  case hi6q2 => exact (by simp only [List.getElem?_toArray, List.getElem?_cons_succ, List.getElem?_cons_zero]; rfl)
                  case hs6q2 => kernel_rfl
                  case hf6q2 => kernel_rfl
                  case hr6q2 => kernel_rfl
                  case hQ6q2 => exact fun _ _ _ h => h
                  case hy6q2 =>
                    refine Or.inl ⟨rfl, ?_⟩
                    intro W hSw
                    have y0 : W.cell? ⟨b2, o2 + k, none⟩ = some (.int .i64 x) := hSw
                    clear hSw
                    go_simp
                    try with_reducible rfl
                  case hS6q2 => assumption
                  try simp only [Act.put, List.setIfInBounds_toArray, List.set_cons_zero, List.set_cons_succ]
                  refine wpAnyH_take (i := 7) (oi := ?oi7q2) (v := ?v7q2) ?hi7q2 ?hs7q2 ?hf7q2 ?hr7q2 ?hQ7q2 ?hy7q2 ?hS7q2 ?h7q2
                  case hi7q2 => exact (by simp only [List.getElem?_toArray, List.getElem?_cons_succ, List.getElem?_cons_zero]; rfl)
                  case hs7q2 => kernel_rfl
                  case hf7q2 => kernel_rfl
                  case hr7q2 => kernel_rfl
                  case hQ7q2 => exact fun _ _ _ h => h
                  case hy7q2 =>
                    refine Or.inl ⟨rfl, ?_⟩
                    intro W hSw
                    have y0 : W.cell? ⟨b2, o2 + k, none⟩ = some (.int .i64 x) := hSw
                    clear hSw
                    go_simp
                    try with_reducible rfl
                  case hS7q2 => assumption
                  try simp only [Act.put, List.setIfInBounds_toArray, List.set_cons_zero, List.set_cons_succ]
                  refine wpAnyH_take (i := 8) (oi := ?oi8q2) (v := ?v8q2) ?hi8q2 ?hs8q2 ?hf8q2 ?hr8q2 ?hQ8q2 ?hy8q2 ?hS8q2 ?h8q2
                  case hi8q2 => exact (by simp only [List.getElem?_toArray, List.getElem?_cons_succ, List.getElem?_cons_zero]; rfl)
                  case hs8q2 => kernel_rfl
                  case hf8q2 => kernel_rfl
                  case hr8q2 => kernel_rfl
                  case hQ8q2 => exact fun _ _ _ h => h
                  case hy8q2 =>
                    refine Or.inl ⟨rfl, ?_⟩
                    intro W hSw
                    have y0 : W.cell? ⟨b2, o2 + k, none⟩ = some (.int .i64 x) := hSw
                    clear hSw
                    go_simp
                    try with_reducible rfl
                  case hS8q2 => assumption
                  try simp only [Act.put, List.setIfInBounds_toArray, List.set_cons_zero, List.set_cons_succ]
                  refine wpAnyH_ready (rs := [9]) (by kernel_rfl) (by simp) ?_
                  refine AllReadyH.cons (o := _) rfl (fun K hK => ?_) AllReadyH.nil
                  go_simp
                  refine (HSH.out Wq20).mono ?_
                  rintro r Wq21 ⟨rfl, hbq⟩
                  have HBq21 := Lib.hid (HDq2.out.trans (hbq.mono HDq2.out.size))
                  clear hbq
                  refine hK.out _ _ ((HCK.out _ (HBq21.out))) (fun hHeld => ?_)
                  clear hK K
                  try simp only [Act.put, List.setIfInBounds_toArray, List.set_cons_zero, List.set_cons_succ]
                  refine wpAnyH_take (i := 10) (oi := ?oi10q2) (v := (.int .i64 (x - z))) ?hi10q2 ?hs10q2 ?hf10q2 ?hr10q2 ?hQ10q2 ?hy10q2 ?hS10q2 ?h10q2
                  case hi10q2 => exact (by simp only [List.getElem?_toArray, List.getElem?_cons_succ, List.getElem?_cons_zero]; rfl)
                  case hs10q2 => kernel_rfl
                  case hf10q2 => kernel_rfl
                  case hr10q2 => kernel_rfl
                  case hQ10q2 => exact fun _ _ _ h => h
                  case hy10q2 =>
                    refine Or.inl ⟨rfl, ?_⟩
                    intro W hSw
                    have y0 : W.cell? ⟨b2, o2 + k, none⟩ = some (.int .i64 x) := hSw
                    clear hSw
                    have hwr := HWR.out
                    go_simp
                    try with_reducible rfl
                  case hS10q2 => assumption
                  try simp only [Act.put, List.setIfInBounds_toArray, List.set_cons_zero, List.set_cons_succ]
                  refine wpAnyH_ready (rs := [11]) (by kernel_rfl) (by simp) ?_
                  refine AllReadyH.cons (o := _) rfl (fun K hK => ?_) AllReadyH.nil
                  go_simp
                  refine (HRT.out Wq21).mono ?_
                  rintro r Wq22 ⟨rfl, hbq⟩
                  have HBq22 := Lib.hid (HBq21.out.trans (hbq.mono HBq21.out.size))
                  clear hbq
                  refine hK.out _ _ ((HCK.out _ (HBq22.out))) (fun hHeld => ?_)
                  clear hK K
                  try simp only [Act.put, List.setIfInBounds_toArray, List.set_cons_zero, List.set_cons_succ]
                  refine wpAnyH_ready (rs := [12]) (by kernel_rfl) (by simp) ?_
                  refine AllReadyH.cons (o := _) rfl (fun K hK => ?_) AllReadyH.nil
                  go_simp
                  refine hK.out _ _ ((HCK.out _ (HBq22.out.alloc HBq22.out.size _))) (fun hHeld => ?_)
                  clear hK K
                  try simp only [Act.put, List.setIfInBounds_toArray, List.set_cons_zero, List.set_cons_succ]
                  have hz3 := zs_one (w := Wq22) u
                  obtain ⟨G3, hG3⟩ : ∃ G3, G3 = Wq22.heap.size := ⟨_, rfl⟩
                  obtain ⟨Wq23, hW3⟩ : ∃ W3, W3 = Wq22.alloc (.cells #[.int .i64 u] 3) := ⟨_, rfl⟩
                  have HBq23 : Hid (Below wr.heap.size wr Wq23) := by rw [hW3]; exact HBq22.out.alloc HBq22.out.size _
                  rw [← hW3, ← hG3] at hz3
                  rw [← hW3] at hHeld ⊢
                  rw [← hG3]
                  have HZ3 := Lib.hid hz3
                  clear hW3 hG3 hz3
                  refine wpAnyH_ready (rs := [13]) (by kernel_rfl) (by simp) ?_
                  refine AllReadyH.cons (o := _) rfl (fun K hK => ?_) AllReadyH.nil
                  refine step_append_zs rfl _ _ rfl w6.heap.size _ _ ((bhd (-s) b).take k) [u] rfl rfl (own_below HOW.out HBq23.out) HZ3.out (by have := List.length_take_le k (bhd (-s) b); simp only [List.length_singleton]; omega) (Nat.le_trans HBW.out.size HBq23.out.size) ?_
                  intro v4 Wq24 hown4 hg4
                  have HBq24 : Hid (Below w6.heap.size w6 Wq24) := (HBW.out.trans (HBq23.out.mono HBW.out.size)).grown hg4 (Nat.le_trans HBW.out.size HBq23.out.size) (fun g hg => (HOW.out.lt g hg).1)
                  have HO4 := Lib.hid hown4
                  have hc4 : Wq24.cell? ⟨b2, o2 + k, none⟩ = some (.int .i64 x) := by
                    rw [HX.out]
                    exact (HBq24.out.cell (p := ⟨b2, o2 + k, none⟩) HBB6.out).trans (HCB6.out k HKL.out)
                  clear hown4 hg4
                  refine hK.out _ _ hc4 (fun hHeld => ?_)
                  clear hK K hc4
                  try simp only [Act.put, List.setIfInBounds_toArray, List.set_cons_zero, List.set_cons_succ]
                  refine wpAnyH_take (i := 14) (oi := ?oi14q2) (v := ?v14q2) ?hi14q2 ?hs14q2 ?hf14q2 ?hr14q2 ?hQ14q2 ?hy14q2 ?hS14q2 ?h14q2
                  case hi14q2 => exact (by simp only [List.getElem?_toArray, List.getElem?_cons_succ, List.getElem?_cons_zero]; rfl)
                  case hs14q2 => kernel_rfl
                  case hf14q2 => kernel_rfl
                  case hr14q2 => kernel_rfl
                  case hQ14q2 => exact fun _ _ _ h => h
                  case hy14q2 =>
                    refine Or.inl ⟨rfl, ?_⟩
                    intro W hSw
                    have y0 : W.cell? ⟨b2, o2 + k, none⟩ = some (.int .i64 x) := hSw
                    clear hSw
                    go_simp
                    try with_reducible rfl
                  case hS14q2 => assumption
                  try simp only [Act.put, List.setIfInBounds_toArray, List.set_cons_zero, List.set_cons_succ]
                  refine wpAnyH_done (by kernel_rfl) ?_ _
                  go_wp2_with fail
                  go_roundw
                  case rel =>
                    refine ⟨k + 1, by omega, by go_num, ?_, HBq24.out⟩
                    have h := HO4.out
                    rw [HNX.out] at h
                    exact h
                  case measure => simp [intOf]; omega
                · obtain rfl : k = b.length := by omega
                  obtain ⟨w7, hw7⟩ : ∃ W, W = wr := ⟨_, rfl⟩
                  rw [← hw7] at HOW HBW ⊢
                  clear hw7
                  have HTw7 : Hid ((bhd (-s) b).take b.length = bhd (-s) b) := List.take_of_length_le (by rw [bhd_length]; exact Nat.le_refl _)
                  rw [HTw7.out] at HOW
                  rw [bhd_length] at HOW
                  go_wp2_with fail
                  go_ret3
                  try unfold RupdPost
                  try simp only [if_pos HGD.out]
                  refine ⟨_, _, rfl, ?_, ?_, HBW6.out.trans (HBW.out.mono HBW6.out.size)⟩
                  · rw [← HS.out]
                    exact own_zs (by rw [bhd_length]; exact own_below HOW6.out HBW.out)
                  · rw [← HS.out]
                    exact own_zs (by rw [bhd_length]; exact HOW.out)
      · have hgd : ¬ ((isr r && okr a && okr b) = true) := by rw [hi]; simp
        have HGD := Lib.hid hgd
        unfold RupdPost
        simp only [if_neg HGD.out]
        clear hgd hi hf hka hkb
        by_cases q1 : r < 0
        · go_wp2_with fail
          go_ret3
          try unfold RupdPost
          try simp only [if_neg HGD.out]
          exact ⟨_, _, rfl, zs_nil _, zs_nil _, HB2.out⟩
        · have q2 : 2 < r := by omega
          go_wp2_with fail
          go_ret3
          try unfold RupdPost
          try simp only [if_neg HGD.out]
          exact ⟨_, _, rfl, zs_nil _, zs_nil _, HB2.out⟩
end Go.Proofs.YtlkebffainhfaaaDoor
