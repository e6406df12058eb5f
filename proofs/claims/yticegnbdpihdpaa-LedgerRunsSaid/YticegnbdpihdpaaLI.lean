/- Ledger: Revoke (of one nonce told twice), Sweep. -/
import Derived.Test.YticegnbdpihdpaaLH
namespace Go.Proofs.Yticegnbdpihdpaa
open Go.RowKit Go.Maps
set_option maxRecDepth 20000
set_option linter.unusedVariables false
set_option linter.unusedSimpArgs false

theorem delE_del (n : Nat) (E : List Ent) : delE n (delE n E) = delE n E := by unfold delE; rw [List.filter_filter]; simp
theorem delE_le (n : Nat) (E : List Ent) : (delE n E).length ≤ E.length := List.length_filter_le _ _
theorem swE_le (now : Int) (E : List Ent) : (swE now E).length ≤ E.length := List.length_filter_le _ _
/-- A step that takes the entry of a nonce away, if there is one. -/
theorem Ls.del {w w' : World} {L M n : Nat} {most : Int} {E : List Ent} {D : DataW Unit} (h : IsL w L M most (size D) D) (hr : Rep D E) (hs : Srt E) (hn : w'.ownsMap Try.prog 26 R M (size D) (D.del (kl n))) (ht : w.mapTurned w' M) : Ls w' L M most (delE n E) := by
  have hLM : L ≠ M := fun e => by
    obtain ⟨h1, es, clock, hm, _⟩ := h
    rw [e] at h1
    rw [h1] at hm
    cases hm
  have h2 : IsL w' L M most (size D) (D.del (kl n)) := ⟨(ht.grown.block L (lt_of_block h.1) (fun e => by injection e with e; exact hLM e)).trans h.1, hn⟩
  exact ⟨_, h2.norm, hr.del (h.2.tidy K26) hs n⟩
set_option maxHeartbeats 8000000 in
theorem revoke_ls (L M b o n : Nat) (most : Int) (E : List Ent) (w : World) (h : Ls w L M most E) (hs : Srt E) (hn : n < 18446744073709551616) (hl : E.length ≤ 900) (hb : b < w.heap.size) (hbM : b ≠ M)
    (hc0 : w.cell? ⟨b, o + 0, none⟩ = some (.int .u64 (n : Int))) (hc1 : w.cell? ⟨b, o + 1, none⟩ = some (.int .u64 (n : Int))) :
    Calls Try.prog 19 #[gp L, .slice (some ⟨b, o, none⟩) 2 2] w fun r w' => r = .returned (.int .i64 (if anyN E n then 1 else 0)) ∧ Ls w' L M most (delE n E) ∧ ChM M w w' := by
  obtain ⟨m1, hm1⟩ : ∃ m, m = E.length := ⟨_, rfl⟩
  obtain ⟨m2, hm2⟩ : ∃ m, m = (delE n E).length := ⟨_, rfl⟩
  obtain ⟨cc, hcc⟩ : ∃ c : Int, c = (if anyN E n then 1 else 0) := ⟨_, rfl⟩
  have hdl := delE_len (n := n) hs
  have hsub : wrap64 ((m1 : Int) - (m2 : Int)) = cc := by
    rw [hcc]
    have : ((m1 : Int) - (m2 : Int)) = (if anyN E n then 1 else 0) := by
      rw [← hm1, ← hm2] at hdl
      split at hdl <;> rename_i h <;> simp [h] <;> omega
    rw [this]
    split
    · exact IntWalk.wrap64_in _ (by omega)
    · exact IntWalk.wrap64_in _ (by omega)
  rw [← hcc]
  have HL0 := Lib.hid (len_ls L M most E w h)
  rw [← hm1] at HL0
  have HLE : Hid (∀ W, Ls W L M most (delE n E) → Calls Try.prog 26 #[gp L] W fun r w' => r = .returned (.int .i64 (m2 : Int)) ∧ w' = W) := fun W hW => by rw [hm2]; exact len_ls L M most _ W hW
  have HST := Lib.hid hs
  have HN := Lib.hid hn
  have HH := Lib.hid h
  have HCELL : Hid (∀ W, ChM M w W → ∀ k, k < 2 → W.cell? ⟨b, o + k, none⟩ = some (.int .u64 (n : Int))) := fun W hW k hk => by
    have e := hW.2.1 b hb hbM
    have hk2 : k = 0 ∨ k = 1 := by omega
    rcases hk2 with rfl | rfl
    · exact (World.cell?_of_block e).trans hc0
    · exact (World.cell?_of_block e).trans hc1
  have HC0 : Hid (ChM M w w) := ChM.of_below (Below.refl _ _)
  clear h hs hn hc0 hc1 hdl hcc hm1 hm2 hb hbM
  go_enter Try.func19, Try.ntmps19
  go_wp2_with fail
  refine HL0.out.mono ?_
  rintro r w' ⟨rfl, hw⟩
  have hw := hw.symm
  subst hw
  go_wp2_with fail
  go_loopw [14] (fun x wr => ∃ (k : Nat) (E' : List Ent), k ≤ 2 ∧ x = .int .i64 (k : Int) ∧ Hid (Ls wr L M most E' ∧ Srt E' ∧ delE n E' = delE n E ∧ (0 < k → E' = delE n E) ∧ ChM M w wr)) (fun x _ => 2 - (intOf x).toNat)
  case atStart => exact ⟨0, E, by omega, rfl, HH.out, HST.out, rfl, fun h => absurd h (by omega), HC0.out⟩
  case round =>
    obtain ⟨k, E', hk, rfl, HV⟩ := hrel
    by_cases hlt : k < 2
    · have d0 := HCELL.out wr HV.out.2.2.2.2 k hlt
      have HG := Lib.hid (get_ls L M n most E' wr HV.out.1 HV.out.2.1 HN.out)
      obtain ⟨e, he⟩ : ∃ e, e = getE E' n := ⟨_, rfl⟩
      obtain ⟨q, hq⟩ : ∃ q, q = anyN E' n := ⟨_, rfl⟩
      rw [← he, ← hq] at HG
      have HQ := Lib.hid hq
      clear he hq
      go_wp2_with fail
      refine HG.out.mono ?_
      rintro r w1 ⟨rfl, hb1⟩
      obtain ⟨w2, hw2⟩ : ∃ w2, w2 = w1.alloc (.cells #[.int .u64 (e.1 : Int), .int .u32 (e.2.1 : Int), .int .u32 (e.2.2.1 : Int), .int .i64 e.2.2.2] 33) := ⟨_, rfl⟩
      have hb2 : Below wr.heap.size wr w2 := by rw [hw2]; exact hb1.alloc hb1.size _
      have HB2 := Lib.hid hb2
      have HK2 : Hid (ChM M w w2) := HV.out.2.2.2.2.trans (ChM.of_below hb2)
      have H2 := Lib.hid hw2
      clear hb1 hw2 hb2 d0
      cases q with
      | false =>
        have HNX : Hid (Ls w2 L M most E' ∧ Srt E' ∧ delE n E' = delE n E ∧ (0 < k + 1 → E' = delE n E)) := ⟨HV.out.1.below HB2.out, HV.out.2.1, HV.out.2.2.1, fun _ => by rw [← HV.out.2.2.1]; exact (delE_not HQ.out.symm).symm⟩
        go_upto_region 6 with (fail)
        rw [← H2.out]
        go_wp2
        go_roundw
        case rel => exact ⟨k + 1, E', by omega, by go_num, HNX.out.1, HNX.out.2.1, HNX.out.2.2.1, HNX.out.2.2.2, HK2.out⟩
        case measure => simp [intOf] <;> omega
      | true =>
        obtain ⟨D, hD, hR⟩ := HV.out.1.below HB2.out
        have hown := hD.2
        have hkey := key26 n HN.out
        have c1 := cell_of_row w2 L 1 _ _ _ hD.1
        simp at c1
        have HD := Lib.hid hD
        have HR := Lib.hid hR
        clear hD hR
        go_upto_region 6 with (fail)
        rw [← H2.out]
        go_wp2_with (first
          | (at_delete; refine wpList_delete_own _ rfl _ _ 88 26 rfl 33 K26 Try.underlying88 R M (size D) D rfl hown _ _ rfl hkey ?_; intro w4 hown4 hturn4)
          | go_in)
        have HNX : Hid (Ls w4 L M most (delE n E') ∧ ChM M w w4) := ⟨Ls.del HD.out HR.out HV.out.2.1 hown4 hturn4, HK2.out.more hturn4.grown (.inl rfl)⟩
        clear hown4 hturn4
        go_roundw
        case rel => exact ⟨k + 1, delE n E', by omega, by go_num, HNX.out.1, delE_srt HV.out.2.1, by rw [delE_del]; exact HV.out.2.2.1, fun _ => HV.out.2.2.1, HNX.out.2⟩
        case measure => simp [intOf] <;> omega
    · obtain rfl : k = 2 := by omega
      have hE := HV.out.2.2.2.1 (by omega)
      have HLS : Hid (Ls wr L M most (delE n E)) := by rw [← hE]; exact HV.out.1
      clear hE
      go_wp2_with fail
      refine (HLE.out wr HLS.out).mono ?_
      rintro r w5 ⟨rfl, hw5⟩
      have hw5 := hw5.symm
      subst hw5
      go_wp2
      go_ret
      refine ⟨?_, HLS.out, HV.out.2.2.2.2⟩
      simp [hsub]

theorem old_alloc (e : Ent) (now : Int) (w : World) : Calls Try.prog 45 #[eVe e, .int .i64 now] w fun r w' => r = .returned (.bool (decide (e.2.2.2 < now))) ∧ w' = w.alloc (.cells #[.int .u64 (e.1 : Int), .int .u32 (e.2.1 : Int), .int .u32 (e.2.2.1 : Int), .int .i64 e.2.2.2] 33) := by
  go_enter Try.func45, Try.ntmps45
  go_wp2
  go_ret
  exact ⟨rfl, rfl⟩
/-- What is left of the entries in the loop: those that were not met, and those that are not old. -/
def lef (now : Int) (left : Lit → Bool) (E : List Ent) : List Ent := E.filter (fun e => left (kl e.1) || decide (now ≤ e.2.2.2))
theorem one_of {E : List Ent} (hs : Srt E) {x y : Ent} (hx : x ∈ E) (hy : y ∈ E) (h : x.1 = y.1) : x = y := by
  rw [← getE_there hs hx, h, getE_there hs hy]
theorem lef_keep {now : Int} {left left' : Lit → Bool} {E : List Ent} {e : Ent} (hs : Srt E) (he : e ∈ E) (hf : now ≤ e.2.2.2) (h : ∀ m, left' (kl m) = (left (kl m) && (m != e.1))) : lef now left' E = lef now left E := by
  unfold lef
  refine List.filter_congr fun y hy => ?_
  rw [h]
  by_cases hy1 : y.1 = e.1
  · have := one_of hs hy he hy1
    subst this
    simp [hf]
  · have h1 : (y.1 != e.1) = true := by simpa using hy1
    rw [h1, Bool.and_true]
theorem lef_del {now : Int} {left left' : Lit → Bool} {E : List Ent} {e : Ent} (hs : Srt E) (he : e ∈ E) (hf : ¬ now ≤ e.2.2.2) (h : ∀ m, left' (kl m) = (left (kl m) && (m != e.1))) : lef now left' E = delE e.1 (lef now left E) := by
  unfold lef delE
  rw [List.filter_filter]
  refine List.filter_congr fun y hy => ?_
  rw [h]
  by_cases hy1 : y.1 = e.1
  · have := one_of hs hy he hy1
    subst this
    simp [hf]
  · have h1 : (y.1 != e.1) = true := by simpa using hy1
    rw [h1, Bool.and_true, Bool.true_and]
theorem lef_done {now : Int} {left : Lit → Bool} {E : List Ent} (h : ∀ k, left k = false) : lef now left E = swE now E := by
  unfold lef swE
  refine List.filter_congr fun y hy => ?_
  rw [h]
  rfl
theorem lef_start {now : Int} {D : DataW Unit} {E : List Ent} (h : Rep D E) : lef now (has D) E = E := by
  unfold lef
  rw [List.filter_eq_self]
  intro e he
  have : has D (kl e.1) = true := by rw [h.has]; exact List.any_eq_true.2 ⟨e, he, by simp⟩
  rw [this]
  rfl
theorem lef_srt {now : Int} {left : Lit → Bool} {E : List Ent} (h : Srt E) : Srt (lef now left E) := h.filter _
theorem skey (p m : Nat) : (kl m).sameKey (kl p) = (m == p) := by
  by_cases h : m = p
  · subst h; simp [Lit.sameKey]
  · have : ¬ (m : Int) = p := by omega
    simp [Lit.sameKey, h, this]
set_option maxHeartbeats 8000000 in
theorem sweep_ls (L M : Nat) (most now : Int) (E : List Ent) (w : World) (h : Ls w L M most E) (hs : Srt E) (hl : E.length ≤ 900) :
    Calls Try.prog 21 #[gp L, .int .i64 now] w fun r w' => r = .returned (.int .i64 ((E.length : Int) - ((swE now E).length : Int))) ∧ Ls w' L M most (swE now E) ∧ ChM M w w' := by
  obtain ⟨m1, hm1⟩ : ∃ m, m = E.length := ⟨_, rfl⟩
  obtain ⟨m2, hm2⟩ : ∃ m, m = (swE now E).length := ⟨_, rfl⟩
  have hsl := swE_le now E
  have hsub : wrap64 ((m1 : Int) - (m2 : Int)) = (m1 : Int) - m2 := IntWalk.wrap64_in _ (by omega)
  rw [← hm1, ← hm2]
  have HL0 := Lib.hid (len_ls L M most E w h)
  rw [← hm1] at HL0
  have HLE : Hid (∀ W, Ls W L M most (swE now E) → Calls Try.prog 26 #[gp L] W fun r w' => r = .returned (.int .i64 (m2 : Int)) ∧ w' = W) := fun W hW => by rw [hm2]; exact len_ls L M most _ W hW
  obtain ⟨D, hD, hR⟩ := h
  have hML := hD.2.lt
  have hown := hD.2
  have c1 := cell_of_row w L 1 _ _ _ hD.1
  simp at c1
  have HLM : Hid (L ≠ M ∧ L < w.heap.size) := ⟨fun e => (by
    obtain ⟨h1, es, clock, hm, _⟩ := hD
    rw [e] at h1
    rw [h1] at hm
    cases hm), lt_of_block hD.1⟩
  have HLR : Hid (w.heap[L]? = some (.cells #[.int .i64 most, .map (some M)] 90 (0, 0))) := hD.1
  have HST := Lib.hid hs
  have HRP := Lib.hid hR
  have HLS := Lib.hid (lef_start (now := now) hR)
  clear hD hR hs hm1 hm2 hsl
  go_enter Try.func21, Try.ntmps21
  go_wp2_with fail
  refine HL0.out.mono ?_
  rintro r w' ⟨rfl, hw⟩
  have hw := hw.symm
  subst hw
  go_wp2_with (first
    | (at_range; refine wpList_range_own _ rfl _ 88 rfl 26 33 K26 Try.underlying88 R M (size D) D rfl hown ?_; intro w0 hrg0 hg0 hs0)
    | go_in)
  have HC0 : Hid (ChM M w w0) := ⟨fun B h1 h2 => (Below.refl B w).grown hg0 h2 (fun k hk => by cases hk), fun g hgs _ => hg0.block g hgs (by simp), hg0.size⟩
  go_frame
  go_loopw [6] (fun _ wr => ∃ (left : Lit → Bool) (c : Nat) (Dj : DataW Unit), wr.ranges Try.prog 26 R M w.heap.size (size D) Dj left c ∧ Hid (Rep Dj (lef now left E)) ∧ Hid (ChM M w wr))
    (fun _ wr => wr.rangeLeft M w.heap.size)
  case atStart => exact ⟨_, _, D, hrg0, by rw [HLS.out]; exact HRP, HC0⟩
  case round =>
    obtain ⟨left, c, Dj, hrg, HI, HK⟩ := hrel
    go_wp2_with (first
      | (at_next; refine wpList_next_ranges _ rfl _ rfl 26 K26 R (Value.int .u64) (fun v : Value => v) (fun key kl hk => by obtain ⟨x, hx, _⟩ := Maps.keyOf_int_inv Try.underlying26 hk; exact ⟨x, hx⟩) (fun v y _ => ⟨v, rfl⟩) M w.heap.size (size D) Dj left c rfl hrg ?_ ?_)
      | go_in)
    · intro hc0 hl0
      have hR := HI.out
      rw [lef_done hl0] at hR
      have hI : IsL wr L M most (size D) Dj := ⟨(HK.out.2.1 L HLM.out.2 HLM.out.1).trans HLR.out, hrg.owns⟩
      have HLS2 : Hid (Ls wr L M most (swE now E)) := ⟨Dj, IsL.norm hI, hR⟩
      clear hI
      clear hl0 hrg hown hrg0 hg0 hR
      go_wp2_with fail
      refine (HLE.out wr HLS2.out).mono ?_
      rintro r w5 ⟨rfl, hw5⟩
      have hw5 := hw5.symm
      subst hw5
      go_wp2
      go_ret
      refine ⟨?_, HLS2.out, HK.out⟩
      simp [hsub]
    · intro x v kl' yd yp w2 cnt2 hkey hlk hv hat hrg2 hlt hg2 hs2 hen
      obtain ⟨x', ex, rfl, hwf⟩ := Maps.keyOf_int_inv Try.underlying26 hkey
      obtain rfl : x = x' := by injection ex
      have hx0 : (0 : Int) ≤ x := by
        simp only [Lit.wf, Bool.and_eq_true, decide_eq_true_eq] at hwf
        exact hwf.1
      obtain ⟨p, rfl⟩ : ∃ p : Nat, x = (p : Int) := ⟨x.toNat, by omega⟩
      have han := hasN HI.out hat
      obtain ⟨e, he, hep⟩ := anyN_iff.1 han
      subst hep
      have h0 := hat (eD 0 0 0 0)
      rw [HI.out.at' e he] at h0
      rw [← h0] at hv
      obtain rfl := R_inv hv
      have heE : e ∈ E := (List.mem_filter.1 he).1
      obtain ⟨w3, hw3⟩ : ∃ w3, w3 = w2.alloc (.cells #[.int .u64 (e.1 : Int), .int .u32 (e.2.1 : Int), .int .u32 (e.2.2.1 : Int), .int .i64 e.2.2.2] 33) := ⟨_, rfl⟩
      have hp3 : w3.heap[w2.heap.size]? = some (.cells #[.int .u64 (e.1 : Int), .int .u32 (e.2.1 : Int), .int .u32 (e.2.2.1 : Int), .int .i64 e.2.2.2] 33 (0, 0)) := by rw [hw3]; exact heap_alloc_new w2 _
      have d0 := cell_of_row w3 w2.heap.size 0 _ _ _ hp3
      have d1 := cell_of_row w3 w2.heap.size 1 _ _ _ hp3
      have d2 := cell_of_row w3 w2.heap.size 2 _ _ _ hp3
      have d3 := cell_of_row w3 w2.heap.size 3 _ _ _ hp3
      simp at d0 d1 d2 d3
      have hK2 : ChM M w w2 := HK.out.more hg2 (.inr (Nat.le_refl _))
      have hK3 : ChM M w w3 := by rw [hw3]; exact hK2.trans (ChM.of_below ((Below.refl _ _).alloc (Nat.le_refl _) _))
      have hrg3 := hrg2.alloc (.cells #[.int .u64 (e.1 : Int), .int .u32 (e.2.1 : Int), .int .u32 (e.2.2.1 : Int), .int .i64 e.2.2.2] 33)
      rw [← hw3] at hrg3
      have HOA := Lib.hid (old_alloc e now w3)
      have HRG := Lib.hid hrg3
      have HK3 := Lib.hid hK3
      have HEE := Lib.hid (And.intro he heE)
      have HKEY := Lib.hid hkey
      have H3 := Lib.hid hw3
      have hlast := hlt
      clear hK2 hK3 hrg2 hrg3 hp3 hw3 he heE hg2 hs2 hat hv h0 han hkey hwf hown hrg0 hg0
      go_upto_region 7 with (fail)
      rw [← H3.out]
      go_wp2_with fail
      refine HOA.out.mono ?_
      rintro r w4 ⟨rfl, hw4⟩
      have hrg4 := HRG.out.alloc (.cells #[.int .u64 (e.1 : Int), .int .u32 (e.2.1 : Int), .int .u32 (e.2.2.1 : Int), .int .i64 e.2.2.2] 33)
      rw [← hw4] at hrg4
      have HK4 : Hid (ChM M w w4) := by rw [hw4]; exact HK3.out.trans (ChM.of_below ((Below.refl _ _).alloc (Nat.le_refl _) _))
      clear hw4 d0 d1 d2 d3
      by_cases hold : e.2.2.2 < now
      · rw [decide_eq_true hold]
        have c1 := cell_of_row w4 L 1 _ _ _ ((HK4.out.2.1 L HLM.out.2 HLM.out.1).trans HLR.out)
        simp at c1
        have hkey := HKEY.out
        have HNX : Hid (∀ l'' : Lit → Bool, (∀ m, l'' (kl m) = (left (kl m) && (m != e.1))) → lef now l'' E = delE e.1 (lef now left E)) := fun l'' h => lef_del HST.out HEE.out.2 (by omega) h
        have HTD := Lib.hid (hrg4.owns.tidy K26)
        clear hold
        go_wp2_with (first
          | (at_delete; refine wpList_delete_ranges _ rfl _ _ 88 26 rfl 33 K26 Try.underlying88 R M w.heap.size (size D) Dj _ cnt2 rfl hrg4 _ _ rfl hkey ?_; intro w5 cnt3 hrg5 hle5 hturn5)
          | go_in)
        have HFN : Hid (Rep (Dj.del (kl e.1)) (lef now (fun z => (left z && !z.sameKey (kl e.1)) && !z.sameKey (kl e.1)) E)) := by
          simp only [Hid]
          rw [HNX.out _ (fun m => by simp only [skey, bne]; cases left (kl m) <;> cases (m == e.1) <;> rfl)]
          exact HI.out.del HTD.out (lef_srt HST.out) e.1
        have HK5 := Lib.hid (HK4.out.more hturn5.grown (.inl rfl))
        go_roundw
        case rel => exact ⟨_, _, _, _, _, _, _, _, _, _, _, _, _, _, _, ⟨_, cnt3, _, hrg5, HFN, HK5⟩, rfl⟩
        case measure => rw [hrg5.left_eq, hrg.left_eq]; omega
      · rw [decide_eq_false hold]
        have HFN : Hid (Rep Dj (lef now (fun z => left z && !z.sameKey (kl e.1)) E)) := by
          simp only [Hid]
          rw [lef_keep HST.out HEE.out.2 (by omega) (left := left) (fun m => by simp only [skey]; rfl)]
          exact HI.out
        clear hold
        go_wp2_with fail
        go_roundw
        case rel => exact ⟨_, cnt2, Dj, hrg4, HFN, HK4⟩
        case measure => rw [hrg4.left_eq, hrg.left_eq]; omega
end Go.Proofs.Yticegnbdpihdpaa
