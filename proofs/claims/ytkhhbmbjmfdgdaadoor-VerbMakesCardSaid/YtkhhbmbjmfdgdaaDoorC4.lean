/- The bytes of any fields by any shape, by the document's own answer: a contract for the reference's Write. -/
import Derived.Test.YtkhhbmbjmfdgdaaDoorC3
namespace Go.Proofs.YtkhhbmbjmfdgdaaDoor
set_option maxRecDepth 4000
open Go.RowKit

theorem own_below {w w' : World} {base size n : Nat} {e : TypeId} {v : Value} {xs : List Value} (h : w.ownsRow base e size v n xs) (hb : Below w.heap.size w w') : w'.ownsRow base e size v n xs := by
  refine ⟨h.1, ?_⟩
  rcases h.2 with hn | ⟨g, cap, cur, hv, hb0, hg, r⟩
  · exact .inl hn
  · exact .inr ⟨g, cap, cur, hv, hb0, (hb.block g (lt_of_block hg)).trans hg, r⟩

theorem Lss.lt {w : World} {B : Nat} : ∀ {vs : List Value} {us : List (List Nat)}, Lss w B vs us → ∀ u ∈ us, ∀ n ∈ u, n < 4294967296
  | [], [], _ => by simp
  | _ :: _, _ :: _, ⟨⟨_, _, _, _, hn⟩, h⟩ => fun u hu => by
    rcases List.mem_cons.1 hu with rfl | hu
    · exact hn
    · exact Lss.lt h u hu

theorem sv_get {S : List ByteArray} {k : Nat} (h : k < S.length) : (sv S)[k]'(by simpa [sv] using h) = .string S[k] := by simp [sv]
theorem uv_get {kd : IntKind} {N : List Nat} {k : Nat} (h : k < N.length) : (uv kd N)[k]'(by simpa [uv] using h) = .int kd (N[k] : Int) := by simp [uv]

set_option linter.unusedSimpArgs false

set_option maxHeartbeats 8000000 in
set_option maxRecDepth 4000 in
theorem rwrite_walk (s : ByteArray) (N : List Nat) (S : List ByteArray) (L : List (List Nat)) (vs : List Value) (aN aS aL : Option Addr) (cN cS cL : Nat) (w : World)
    (h0 : 0 ≤ least s.data.toList) (hk0 : okM s.data.toList N.length S.length L.length = true) (hf : Flds w aN aS aL cN cS cL vs N S L) :
    Calls Tryd.prog 33 #[.string s, .agg #[.slice aN N.length cN, .slice aS S.length cS, .slice aL L.length cL]] w fun e w' =>
      (∃ v' out, enc s.data.toList N S L = some out ∧ e = .returned (.tuple #[v', .int .i64 0]) ∧ w'.ownsRow w.heap.size 5 1 v' out.length (bv out) ∧ out.length ≤ 8800 ∧ Below w.heap.size w w') ∨
      (enc s.data.toList N S L = none ∧ e = .returned (.tuple #[.slice none 0 0, .int .i64 2]) ∧ Below w.heap.size w w') := by
  have hb0 := (Below.refl w.heap.size w).alloc (Nat.le_refl _)
  have h8 : s.size ≤ 8 := by
    unfold least at h0
    split at h0
    · omega
    · simp at *; omega
  have hz : s.data.toList.length = s.size := by simp
  obtain ⟨z, hz1⟩ : ∃ z, z = least s.data.toList := ⟨_, rfl⟩
  obtain ⟨ct, hct1⟩ : ∃ ct, ct = s.data.toList.count 115 := ⟨_, rfl⟩
  obtain ⟨cl, hcl1⟩ : ∃ cl, cl = s.data.toList.count 108 := ⟨_, rfl⟩
  have hsw : Sw s.data.toList (enc s.data.toList N S L) 0 [] N S L 0 0 0 := ⟨by simpa using hk0, by simp⟩
  obtain ⟨res, hres⟩ : ∃ res, res = enc s.data.toList N S L := ⟨_, rfl⟩
  rw [← hres] at hsw ⊢
  have hk1 : S.length = ct ∧ L.length = cl ∧ N.length + ct + cl = s.size := by
    rw [hct1, hcl1, ← hz]
    simpa only [okM, decide_eq_true_eq] using hk0
  have c1 := fun W => rcount_any s 115 W (by omega)
  have c2 := fun W => rcount_any s 108 W (by omega)
  have c3 := fun W => rleast_any s W
  rw [← hct1] at c1
  rw [← hcl1] at c2
  rw [← hz1] at c3 h0
  obtain ⟨e1, e2, e3⟩ := hk1
  have t0 : decide (z < 0) = false := by simpa using h0
  have t1 : ((S.length : Int) != (ct : Int)) = false := by simp; omega
  have t2 : ((L.length : Int) != (cl : Int)) = false := by simp; omega
  have t3 : ((N.length : Int) != (s.size : Int) - (ct : Int) - (cl : Int)) = false := by
    rw [bne_eq_false_iff_eq]
    omega
  have h12 : ct ≤ 8 ∧ cl ≤ 8 := by omega
  obtain ⟨h12, h13⟩ := h12
  have b1 : S.length ≤ 8 := by omega
  have b2 : L.length ≤ 8 := by omega
  have b3 : N.length ≤ 8 := by omega
  have C1 := Lib.hid c1
  have C2 := Lib.hid c2
  have C3 := Lib.hid c3
  have HF := Lib.hid hf
  have HSW := Lib.hid hsw
  have HZ := Lib.hid hz
  clear c1 c2 c3 hct1 hcl1 hz1 hz hk0 h0 hsw hf hres e1 e2 e3
  go_enter Tryd.func33, Tryd.ntmps33
  go_wp2_with fail
  refine (C1.out _).mono ?_
  rintro e w' ⟨rfl, rfl⟩
  go_wp2_with fail
  refine (C2.out _).mono ?_
  rintro e w' ⟨rfl, rfl⟩
  go_wp2_with fail
  refine (C3.out _).mono ?_
  rintro e w1 ⟨rfl, hb1⟩
  have hbx := (hb0 _).trans (hb1.mono (by simp))
  have hF := (hb1.block w.heap.size (by simp)).trans (heap_alloc_new w _)
  have g0 := cell_of_row w1 w.heap.size 0 _ _ _ hF
  have g1 := cell_of_row w1 w.heap.size 1 _ _ _ hF
  have g2 := cell_of_row w1 w.heap.size 2 _ _ _ hF
  simp at g0 g1 g2
  have hsz : w.heap.size + 1 ≤ w1.heap.size := by have := hb1.size; simpa using this
  have HF1 := Lib.hid hF
  clear hF
  go_wp2
  clear t0 t1 t2 t3 g0 g1 g2
  go_loopw [8, 9, 10, 11, 12] (fun u n j t i wr => ∃ (k kn ks kt : Nat) (out : List UInt8),
      k ≤ s.size ∧ i = .int .i64 k ∧ n = .int .i64 kn ∧ j = .int .i64 ks ∧ t = .int .i64 kt ∧ wr.ownsRow (w.heap.size + 1) 5 1 u out.length (bv out) ∧ out.length ≤ 1100 * k ∧
      wr.heap[w.heap.size]? = some (.cells #[.slice aN N.length cN, .slice aS S.length cS, .slice aL L.length cL] 38 (0, 0)) ∧ Below w.heap.size w wr ∧
      w.heap.size + 1 ≤ wr.heap.size ∧ Hid (Sw s.data.toList res k out N S L kn ks kt)) (fun _ _ _ _ i _ => s.size - (intOf i).toNat)
  case atStart => exact ⟨0, 0, 0, 0, [], by omega, rfl, rfl, rfl, rfl, World.ownsRow_nil _ _ _ _, by simp, HF1.out, hbx, hsz, HSW⟩
  case round =>
    clear HF1 hbx hb1 hsz hb0 HSW
    obtain ⟨k, kn, ks, kt, out, hk, rfl, rfl, rfl, rfl, hown, hol, hF, hb, hsz, hs⟩ := hrel
    have f0 : ∀ i, wr.frozen? ⟨w.heap.size, i, none⟩ = false := fun i => frozen_of_row wr _ i _ _ hF
    have g0 := cell_of_row wr w.heap.size 0 _ _ _ hF
    have g1 := cell_of_row wr w.heap.size 1 _ _ _ hF
    have g2 := cell_of_row wr w.heap.size 2 _ _ _ hF
    simp at g0 g1 g2
    have HF1 := Lib.hid hF
    clear hF
    by_cases hlt : k < s.size
    · by_cases hc : s[k].toNat = 115
      · obtain ⟨hks, hbig, hsm⟩ := hs.out.text (by rw [HZ.out]; exact hlt) hc
        obtain ⟨b, o, rfl, hbB, hcell⟩ := HF.out.rS.get (k := ks) (by simpa [sv] using hks)
        rw [sv_get hks] at hcell
        have hcw := (hb.cell (p := ⟨b, o + ks, none⟩) hbB).trans hcell
        have t1 : ((s[k].toNat : Int) == 115) = true := by rw [beq_iff_eq]; omega
        obtain ⟨t, htt⟩ : ∃ t, t = S[ks] := ⟨_, rfl⟩
        rw [← htt] at hcw hbig hsm
        by_cases ht : t.size ≤ 255
        · have HSM := Lib.hid (hsm ht)
          have G1 := Lib.hid g1
          have HCW := Lib.hid hcw
          have e8 : IntKind.u8.wrap (t.size : Int) = (t.size : Int) := by unfold IntKind.wrap; simp [IntKind.signed, IntKind.bits]; omega
          obtain ⟨W0, hW0⟩ : ∃ W0, W0 = wr.drew := ⟨_, rfl⟩
          have hown' : W0.ownsRow (w.heap.size + 1) 5 1 u8 out.length (bv out) := by rw [hW0]; exact hown
          have HOWN := Lib.hid hown'
          have hb0 : Below (w.heap.size + 1) wr W0 := by rw [hW0]; exact (Below.refl _ _).drew
          have HB0 := Lib.hid hb0
          have HSZ : Hid (W0.heap.size ≤ W0.heap.size) := Nat.le_refl _
          have HS0 : Hid (w.heap.size + 1 ≤ W0.heap.size) := by rw [hW0]; exact hsz
          clear hc hbig hsm hcell htt hown' hb0
          go_wp2_with fail
          refine wp_region_held_drew (S := fun W => W.cell? ⟨w.heap.size, 1, none⟩ = some (.slice (some ⟨b, o, none⟩) S.length cS) ∧ W.cell? ⟨b, o + ks, none⟩ = some (.string t)) (by kernel_rfl) ⟨G1.out, HCW.out⟩ (fun hHeld => ?_)
          rw [← hW0] at hHeld ⊢
          clear hW0
          refine wpAnyH_take (i := 0) (oi := ?oi0) (v := ?v0) ?hi0 ?hs0 ?hf0 ?hr0 ?hQ0 ?hy0 ?hS0 ?h0
          case hi0 => exact (by simp only [List.getElem?_toArray, List.getElem?_cons_zero]; rfl)
          case hs0 => kernel_rfl
          case hf0 => kernel_rfl
          case hr0 => kernel_rfl
          case hQ0 => exact fun _ _ _ h => h
          case hy0 =>
            refine Or.inl ⟨rfl, ?_⟩
            intro W hSw
            obtain ⟨k1, k2⟩ := hSw
            go_simp
            try with_reducible rfl
          case hS0 => assumption
          try simp only [Act.put, List.setIfInBounds_toArray, List.set_cons_zero, List.set_cons_succ]
          refine wpAnyH_take (i := 1) (oi := ?oi1) (v := ?v1) ?hi1 ?hs1 ?hf1 ?hr1 ?hQ1 ?hy1 ?hS1 ?h1
          case hi1 => exact (by simp only [List.getElem?_toArray, List.getElem?_cons_succ, List.getElem?_cons_zero]; rfl)
          case hs1 => kernel_rfl
          case hf1 => kernel_rfl
          case hr1 => kernel_rfl
          case hQ1 => exact fun _ _ _ h => h
          case hy1 =>
            refine Or.inl ⟨rfl, ?_⟩
            intro W hSw
            obtain ⟨k1, k2⟩ := hSw
            go_simp
            try with_reducible rfl
          case hS1 => assumption
          try simp only [Act.put, List.setIfInBounds_toArray, List.set_cons_zero, List.set_cons_succ]
          refine wpAnyH_take (i := 2) (oi := ?oi2) (v := ?v2) ?hi2 ?hs2 ?hf2 ?hr2 ?hQ2 ?hy2 ?hS2 ?h2
          case hi2 => exact (by simp only [List.getElem?_toArray, List.getElem?_cons_succ, List.getElem?_cons_zero]; rfl)
          case hs2 => kernel_rfl
          case hf2 => kernel_rfl
          case hr2 => kernel_rfl
          case hQ2 => exact fun _ _ _ h => h
          case hy2 =>
            refine Or.inl ⟨rfl, ?_⟩
            intro W hSw
            obtain ⟨k1, k2⟩ := hSw
            go_simp
            try with_reducible rfl
          case hS2 => assumption
          try simp only [Act.put, List.setIfInBounds_toArray, List.set_cons_zero, List.set_cons_succ]
          refine wpAnyH_take (i := 3) (oi := ?oi3) (v := ?v3) ?hi3 ?hs3 ?hf3 ?hr3 ?hQ3 ?hy3 ?hS3 ?h3
          case hi3 => exact (by simp only [List.getElem?_toArray, List.getElem?_cons_succ, List.getElem?_cons_zero]; rfl)
          case hs3 => kernel_rfl
          case hf3 => kernel_rfl
          case hr3 => kernel_rfl
          case hQ3 => exact fun _ _ _ h => h
          case hy3 =>
            refine Or.inl ⟨rfl, ?_⟩
            intro W hSw
            obtain ⟨k1, k2⟩ := hSw
            go_simp
            try with_reducible rfl
          case hS3 => assumption
          try simp only [Act.put, List.setIfInBounds_toArray, List.set_cons_zero, List.set_cons_succ]
          refine wpAnyH_take (i := 4) (oi := ?oi4) (v := ?v4) ?hi4 ?hs4 ?hf4 ?hr4 ?hQ4 ?hy4 ?hS4 ?h4
          case hi4 => exact (by simp only [List.getElem?_toArray, List.getElem?_cons_succ, List.getElem?_cons_zero]; rfl)
          case hs4 => kernel_rfl
          case hf4 => kernel_rfl
          case hr4 => kernel_rfl
          case hQ4 => exact fun _ _ _ h => h
          case hy4 =>
            refine Or.inl ⟨rfl, ?_⟩
            intro W hSw
            obtain ⟨k1, k2⟩ := hSw
            go_simp
            try with_reducible rfl
          case hS4 => assumption
          try simp only [Act.put, List.setIfInBounds_toArray, List.set_cons_zero, List.set_cons_succ]
          refine wpAnyH_take (i := 5) (oi := ?oi5) (v := ?v5) ?hi5 ?hs5 ?hf5 ?hr5 ?hQ5 ?hy5 ?hS5 ?h5
          case hi5 => exact (by simp only [List.getElem?_toArray, List.getElem?_cons_succ, List.getElem?_cons_zero]; rfl)
          case hs5 => kernel_rfl
          case hf5 => kernel_rfl
          case hr5 => kernel_rfl
          case hQ5 => exact fun _ _ _ h => h
          case hy5 =>
            refine Or.inl ⟨rfl, ?_⟩
            intro W hSw
            obtain ⟨k1, k2⟩ := hSw
            go_simp
            try with_reducible rfl
          case hS5 => assumption
          try simp only [Act.put, List.setIfInBounds_toArray, List.set_cons_zero, List.set_cons_succ]
          refine wpAnyH_take (i := 6) (oi := ?oi6) (v := ?v6) ?hi6 ?hs6 ?hf6 ?hr6 ?hQ6 ?hy6 ?hS6 ?h6
          case hi6 => exact (by simp only [List.getElem?_toArray, List.getElem?_cons_succ, List.getElem?_cons_zero]; rfl)
          case hs6 => kernel_rfl
          case hf6 => kernel_rfl
          case hr6 => kernel_rfl
          case hQ6 => exact fun _ _ _ h => h
          case hy6 =>
            refine Or.inl ⟨rfl, ?_⟩
            intro W hSw
            obtain ⟨k1, k2⟩ := hSw
            go_simp
            try with_reducible rfl
          case hS6 => assumption
          try simp only [Act.put, List.setIfInBounds_toArray, List.set_cons_zero, List.set_cons_succ]
          refine wpAnyH_take (i := 7) (oi := ?oi7) (v := ?v7) ?hi7 ?hs7 ?hf7 ?hr7 ?hQ7 ?hy7 ?hS7 ?h7
          case hi7 => exact (by simp only [List.getElem?_toArray, List.getElem?_cons_succ, List.getElem?_cons_zero]; rfl)
          case hs7 => kernel_rfl
          case hf7 => kernel_rfl
          case hr7 => kernel_rfl
          case hQ7 => exact fun _ _ _ h => h
          case hy7 =>
            refine Or.inl ⟨rfl, ?_⟩
            intro W hSw
            obtain ⟨k1, k2⟩ := hSw
            go_simp
            try with_reducible rfl
          case hS7 => assumption
          try simp only [Act.put, List.setIfInBounds_toArray, List.set_cons_zero, List.set_cons_succ]
          refine wpAnyH_take (i := 10) (oi := ?oi10) (v := ?v10) ?hi10 ?hs10 ?hf10 ?hr10 ?hQ10 ?hy10 ?hS10 ?h10
          case hi10 => exact (by simp only [List.getElem?_toArray, List.getElem?_cons_succ, List.getElem?_cons_zero]; rfl)
          case hs10 => kernel_rfl
          case hf10 => kernel_rfl
          case hr10 => kernel_rfl
          case hQ10 => exact fun _ _ _ h => h
          case hy10 =>
            refine Or.inl ⟨rfl, ?_⟩
            intro W hSw
            obtain ⟨k1, k2⟩ := hSw
            go_simp
            try with_reducible rfl
          case hS10 => assumption
          try simp only [Act.put, List.setIfInBounds_toArray, List.set_cons_zero, List.set_cons_succ]
          refine wpAnyH_take (i := 11) (oi := ?oi11) (v := ?v11) ?hi11 ?hs11 ?hf11 ?hr11 ?hQ11 ?hy11 ?hS11 ?h11
          case hi11 => exact (by simp only [List.getElem?_toArray, List.getElem?_cons_succ, List.getElem?_cons_zero]; rfl)
          case hs11 => kernel_rfl
          case hf11 => kernel_rfl
          case hr11 => kernel_rfl
          case hQ11 => exact fun _ _ _ h => h
          case hy11 =>
            refine Or.inl ⟨rfl, ?_⟩
            intro W hSw
            obtain ⟨k1, k2⟩ := hSw
            go_simp
            try with_reducible rfl
          case hS11 => assumption
          try simp only [Act.put, List.setIfInBounds_toArray, List.set_cons_zero, List.set_cons_succ]
          refine wpAnyH_take (i := 12) (oi := ?oi12) (v := ?v12) ?hi12 ?hs12 ?hf12 ?hr12 ?hQ12 ?hy12 ?hS12 ?h12
          case hi12 => exact (by simp only [List.getElem?_toArray, List.getElem?_cons_succ, List.getElem?_cons_zero]; rfl)
          case hs12 => kernel_rfl
          case hf12 => kernel_rfl
          case hr12 => kernel_rfl
          case hQ12 => exact fun _ _ _ h => h
          case hy12 =>
            refine Or.inl ⟨rfl, ?_⟩
            intro W hSw
            obtain ⟨k1, k2⟩ := hSw
            go_simp
            try with_reducible rfl
          case hS12 => assumption
          try simp only [Act.put, List.setIfInBounds_toArray, List.set_cons_zero, List.set_cons_succ]
          refine wpAnyH_take (i := 13) (oi := ?oi13) (v := ?v13) ?hi13 ?hs13 ?hf13 ?hr13 ?hQ13 ?hy13 ?hS13 ?h13
          case hi13 => exact (by simp only [List.getElem?_toArray, List.getElem?_cons_succ, List.getElem?_cons_zero]; rfl)
          case hs13 => kernel_rfl
          case hf13 => kernel_rfl
          case hr13 => kernel_rfl
          case hQ13 => exact fun _ _ _ h => h
          case hy13 =>
            refine Or.inl ⟨rfl, ?_⟩
            intro W hSw
            obtain ⟨k1, k2⟩ := hSw
            go_simp
            try with_reducible rfl
          case hS13 => assumption
          try simp only [Act.put, List.setIfInBounds_toArray, List.set_cons_zero, List.set_cons_succ]
          refine wpAnyH_take (i := 14) (oi := ?oi14) (v := ?v14) ?hi14 ?hs14 ?hf14 ?hr14 ?hQ14 ?hy14 ?hS14 ?h14
          case hi14 => exact (by simp only [List.getElem?_toArray, List.getElem?_cons_succ, List.getElem?_cons_zero]; rfl)
          case hs14 => kernel_rfl
          case hf14 => kernel_rfl
          case hr14 => kernel_rfl
          case hQ14 => exact fun _ _ _ h => h
          case hy14 =>
            refine Or.inl ⟨rfl, ?_⟩
            intro W hSw
            obtain ⟨k1, k2⟩ := hSw
            go_simp
            try with_reducible rfl
          case hS14 => assumption
          try simp only [Act.put, List.setIfInBounds_toArray, List.set_cons_zero, List.set_cons_succ]
          refine wpAnyH_ready (rs := [8, 15]) (by kernel_rfl) (by simp) ?_
          refine AllReadyH.cons (o := _) rfl (fun K hK => ?_) (AllReadyH.cons (o := _) rfl (fun K hK => ?_) AllReadyH.nil)
          · go_simp
            have hbxB := HB0.out.alloc (Nat.le_trans HS0.out HSZ.out) (.cells #[.int .u8 (t.size : Int)] 5)
            have szxB : W0.heap.size ≤ (W0.alloc (.cells #[.int .u8 (t.size : Int)] 5)).heap.size := Nat.le_trans HSZ.out (World.grownBy_alloc W0 (.cells #[.int .u8 (t.size : Int)] 5) none).size
            have ownxB := HOWN.out.alloc (.cells #[.int .u8 (t.size : Int)] 5)
            have y1xB := bk_build (w := W0) (G0 := W0.heap.size) HSZ.out t.size ht
            refine hK.out _ _ ⟨(hbxB.cell (p := ⟨w.heap.size, 1, none⟩) (by simp)).trans G1.out, (hbxB.cell (p := ⟨b, o + ks, none⟩) (by simp; omega)).trans HCW.out⟩ (fun hHeld => ?_)
            clear hK K
            try simp only [Act.put, List.setIfInBounds_toArray, List.set_cons_zero, List.set_cons_succ]
            refine wpAnyH_ready (rs := [9, 15]) (by kernel_rfl) (by simp) ?_
            refine AllReadyH.cons (o := _) rfl (fun K hK => ?_) (AllReadyH.cons (o := _) rfl (fun K hK => ?_) AllReadyH.nil)
            · refine step_append_bytes rfl (.tmp 67) (.tmp 75) rfl (w.heap.size + 1) _ _ _ out (be 1 t.size) rfl rfl ownxB y1xB.bs (by rw [be_length]; omega) (Nat.le_trans HS0.out szxB) ?_
              intro vxBP wxBP ownxBP grxBP
              have szxBP : W0.heap.size ≤ wxBP.heap.size := Nat.le_trans szxB grxBP.size
              have hbxBP := hbxB.grown grxBP (Nat.le_trans HS0.out szxB) (fun k hk => (HOWN.out.lt k hk).1)
              refine hK.out _ _ ⟨(hbxBP.cell (p := ⟨w.heap.size, 1, none⟩) (by simp)).trans G1.out, (hbxBP.cell (p := ⟨b, o + ks, none⟩) (by simp; omega)).trans HCW.out⟩ (fun hHeld => ?_)
              clear hK K
              try simp only [Act.put, List.setIfInBounds_toArray, List.set_cons_zero, List.set_cons_succ]
              refine wpAnyH_ready (rs := [15]) (by kernel_rfl) (by simp) ?_
              refine AllReadyH.cons (o := _) rfl (fun K hK => ?_) AllReadyH.nil
              refine step_conv rfl (.tmp 81) rfl W0.heap.size szxBP t rfl ?_
              intro yxBPC wxBPC y2xBPC grxBPC
              have szxBPC : W0.heap.size ≤ wxBPC.heap.size := Nat.le_trans szxBP grxBPC.size
              have hbxBPC := hbxBP.grown grxBPC (Nat.le_trans HS0.out szxBP) (fun _ h => by cases h)
              have ownxBPC := ownxBP.kept grxBPC (by cases hv : Value.ownBlock _ <;> simp)
              refine hK.out _ _ ⟨(hbxBPC.cell (p := ⟨w.heap.size, 1, none⟩) (by simp)).trans G1.out, (hbxBPC.cell (p := ⟨b, o + ks, none⟩) (by simp; omega)).trans HCW.out⟩ (fun hHeld => ?_)
              clear hK K
              try simp only [Act.put, List.setIfInBounds_toArray, List.set_cons_zero, List.set_cons_succ]
              refine wpAnyH_ready (rs := [16]) (by kernel_rfl) (by simp) ?_
              refine AllReadyH.cons (o := _) rfl (fun K hK => ?_) AllReadyH.nil
              refine step_append_bytes rfl (.tmp 76) (.tmp 82) rfl (w.heap.size + 1) _ _ _ (out ++ be 1 t.size) t.data.toList rfl rfl ownxBPC y2xBPC.bs (by simp [be_length]; omega) (Nat.le_trans HS0.out szxBPC) ?_
              intro vxBPCF wxBPCF ownxBPCF grxBPCF
              have szxBPCF : W0.heap.size ≤ wxBPCF.heap.size := Nat.le_trans szxBPC grxBPCF.size
              have hbxBPCF := hbxBPC.grown grxBPCF (Nat.le_trans HS0.out szxBPC) (fun k hk => (ownxBPC.lt k hk).1)
              refine hK.out _ _ ⟨(hbxBPCF.cell (p := ⟨w.heap.size, 1, none⟩) (by simp)).trans G1.out, (hbxBPCF.cell (p := ⟨b, o + ks, none⟩) (by simp; omega)).trans HCW.out⟩ (fun hHeld => ?_)
              clear hK K
              try simp only [Act.put, List.setIfInBounds_toArray, List.set_cons_zero, List.set_cons_succ]
              refine wpAnyH_take (i := 17) (oi := ?oi17xBPCF) (v := ?v17xBPCF) ?hi17xBPCF ?hs17xBPCF ?hf17xBPCF ?hr17xBPCF ?hQ17xBPCF ?hy17xBPCF ?hS17xBPCF ?h17xBPCF
              case hi17xBPCF => exact (by simp only [List.getElem?_toArray, List.getElem?_cons_succ, List.getElem?_cons_zero]; rfl)
              case hs17xBPCF => kernel_rfl
              case hf17xBPCF => kernel_rfl
              case hr17xBPCF => kernel_rfl
              case hQ17xBPCF => exact fun _ _ _ h => h
              case hy17xBPCF =>
                refine Or.inl ⟨rfl, ?_⟩
                intro W hSw
                obtain ⟨k1, k2⟩ := hSw
                go_simp
                try with_reducible rfl
              case hS17xBPCF => assumption
              try simp only [Act.put, List.setIfInBounds_toArray, List.set_cons_zero, List.set_cons_succ]
              refine wpAnyH_done (by kernel_rfl) ?_ _
              have hown9 := ownxBPCF
              have hb9 := hbxBPCF
              clear G1 HCW e8
              have hF9 := (hb9.block w.heap.size (by simp)).trans HF1.out
              have hb10 := hb.trans (hb9.mono (by omega))
              have hol2 : ((out ++ be 1 t.size) ++ t.data.toList).length ≤ 1100 * (k + 1) := by simp [be_length]; omega
              have HSM2 : Hid (Sw s.data.toList res (k + 1) ((out ++ be 1 t.size) ++ t.data.toList) N S L kn (ks + 1) kt) := by
                have := HSM.out
                rwa [← List.append_assoc] at this
              have hsz9 := Nat.le_trans hsz hb9.size
              clear HSM
              go_wp2
              go_roundw
              case rel => exact ⟨k + 1, kn, ks + 1, kt, _, by omega, by go_num, rfl, by go_num, rfl, hown9, hol2, hF9, hb10, hsz9, HSM2⟩
              case measure => simp [intOf] <;> omega
            · refine step_conv rfl (.tmp 81) rfl W0.heap.size szxB t rfl ?_
              intro yxBC wxBC y2xBC grxBC
              have szxBC : W0.heap.size ≤ wxBC.heap.size := Nat.le_trans szxB grxBC.size
              have hbxBC := hbxB.grown grxBC (Nat.le_trans HS0.out szxB) (fun _ h => by cases h)
              have ownxBC := ownxB.kept grxBC (by cases hv : Value.ownBlock _ <;> simp)
              have y1xBC := y1xB.kept grxBC (fun _ h => by cases h)
              refine hK.out _ _ ⟨(hbxBC.cell (p := ⟨w.heap.size, 1, none⟩) (by simp)).trans G1.out, (hbxBC.cell (p := ⟨b, o + ks, none⟩) (by simp; omega)).trans HCW.out⟩ (fun hHeld => ?_)
              clear hK K
              try simp only [Act.put, List.setIfInBounds_toArray, List.set_cons_zero, List.set_cons_succ]
              refine wpAnyH_ready (rs := [9]) (by kernel_rfl) (by simp) ?_
              refine AllReadyH.cons (o := _) rfl (fun K hK => ?_) AllReadyH.nil
              refine step_append_bytes rfl (.tmp 67) (.tmp 75) rfl (w.heap.size + 1) _ _ _ out (be 1 t.size) rfl rfl ownxBC y1xBC.bs (by rw [be_length]; omega) (Nat.le_trans HS0.out szxBC) ?_
              intro vxBCP wxBCP ownxBCP grxBCP
              have szxBCP : W0.heap.size ≤ wxBCP.heap.size := Nat.le_trans szxBC grxBCP.size
              have hbxBCP := hbxBC.grown grxBCP (Nat.le_trans HS0.out szxBC) (fun k hk => (HOWN.out.lt k hk).1)
              have y2xBCP := y2xBC.kept grxBCP (fun k hk => (HOWN.out.lt k hk).2)
              refine hK.out _ _ ⟨(hbxBCP.cell (p := ⟨w.heap.size, 1, none⟩) (by simp)).trans G1.out, (hbxBCP.cell (p := ⟨b, o + ks, none⟩) (by simp; omega)).trans HCW.out⟩ (fun hHeld => ?_)
              clear hK K
              try simp only [Act.put, List.setIfInBounds_toArray, List.set_cons_zero, List.set_cons_succ]
              refine wpAnyH_ready (rs := [16]) (by kernel_rfl) (by simp) ?_
              refine AllReadyH.cons (o := _) rfl (fun K hK => ?_) AllReadyH.nil
              refine step_append_bytes rfl (.tmp 76) (.tmp 82) rfl (w.heap.size + 1) _ _ _ (out ++ be 1 t.size) t.data.toList rfl rfl ownxBCP y2xBCP.bs (by simp [be_length]; omega) (Nat.le_trans HS0.out szxBCP) ?_
              intro vxBCPF wxBCPF ownxBCPF grxBCPF
              have szxBCPF : W0.heap.size ≤ wxBCPF.heap.size := Nat.le_trans szxBCP grxBCPF.size
              have hbxBCPF := hbxBCP.grown grxBCPF (Nat.le_trans HS0.out szxBCP) (fun k hk => (ownxBCP.lt k hk).1)
              refine hK.out _ _ ⟨(hbxBCPF.cell (p := ⟨w.heap.size, 1, none⟩) (by simp)).trans G1.out, (hbxBCPF.cell (p := ⟨b, o + ks, none⟩) (by simp; omega)).trans HCW.out⟩ (fun hHeld => ?_)
              clear hK K
              try simp only [Act.put, List.setIfInBounds_toArray, List.set_cons_zero, List.set_cons_succ]
              refine wpAnyH_take (i := 17) (oi := ?oi17xBCPF) (v := ?v17xBCPF) ?hi17xBCPF ?hs17xBCPF ?hf17xBCPF ?hr17xBCPF ?hQ17xBCPF ?hy17xBCPF ?hS17xBCPF ?h17xBCPF
              case hi17xBCPF => exact (by simp only [List.getElem?_toArray, List.getElem?_cons_succ, List.getElem?_cons_zero]; rfl)
              case hs17xBCPF => kernel_rfl
              case hf17xBCPF => kernel_rfl
              case hr17xBCPF => kernel_rfl
              case hQ17xBCPF => exact fun _ _ _ h => h
              case hy17xBCPF =>
                refine Or.inl ⟨rfl, ?_⟩
                intro W hSw
                obtain ⟨k1, k2⟩ := hSw
                go_simp
                try with_reducible rfl
              case hS17xBCPF => assumption
              try simp only [Act.put, List.setIfInBounds_toArray, List.set_cons_zero, List.set_cons_succ]
              refine wpAnyH_done (by kernel_rfl) ?_ _
              have hown9 := ownxBCPF
              have hb9 := hbxBCPF
              clear G1 HCW e8
              have hF9 := (hb9.block w.heap.size (by simp)).trans HF1.out
              have hb10 := hb.trans (hb9.mono (by omega))
              have hol2 : ((out ++ be 1 t.size) ++ t.data.toList).length ≤ 1100 * (k + 1) := by simp [be_length]; omega
              have HSM2 : Hid (Sw s.data.toList res (k + 1) ((out ++ be 1 t.size) ++ t.data.toList) N S L kn (ks + 1) kt) := by
                have := HSM.out
                rwa [← List.append_assoc] at this
              have hsz9 := Nat.le_trans hsz hb9.size
              clear HSM
              go_wp2
              go_roundw
              case rel => exact ⟨k + 1, kn, ks + 1, kt, _, by omega, by go_num, rfl, by go_num, rfl, hown9, hol2, hF9, hb10, hsz9, HSM2⟩
              case measure => simp [intOf] <;> omega
          · refine step_conv rfl (.tmp 81) rfl W0.heap.size HSZ.out t rfl ?_
            intro yxC wxC y2xC grxC
            have szxC : W0.heap.size ≤ wxC.heap.size := Nat.le_trans HSZ.out grxC.size
            have hbxC := HB0.out.grown grxC (Nat.le_trans HS0.out HSZ.out) (fun _ h => by cases h)
            have ownxC := HOWN.out.kept grxC (by cases hv : Value.ownBlock _ <;> simp)
            refine hK.out _ _ ⟨(hbxC.cell (p := ⟨w.heap.size, 1, none⟩) (by simp)).trans G1.out, (hbxC.cell (p := ⟨b, o + ks, none⟩) (by simp; omega)).trans HCW.out⟩ (fun hHeld => ?_)
            clear hK K
            try simp only [Act.put, List.setIfInBounds_toArray, List.set_cons_zero, List.set_cons_succ]
            refine wpAnyH_ready (rs := [8]) (by kernel_rfl) (by simp) ?_
            refine AllReadyH.cons (o := _) rfl (fun K hK => ?_) AllReadyH.nil
            go_simp
            have hbxCB := hbxC.alloc (Nat.le_trans HS0.out szxC) (.cells #[.int .u8 (t.size : Int)] 5)
            have szxCB : W0.heap.size ≤ (wxC.alloc (.cells #[.int .u8 (t.size : Int)] 5)).heap.size := Nat.le_trans szxC (World.grownBy_alloc wxC (.cells #[.int .u8 (t.size : Int)] 5) none).size
            have ownxCB := ownxC.alloc (.cells #[.int .u8 (t.size : Int)] 5)
            have y1xCB := bk_build (w := wxC) (G0 := W0.heap.size) szxC t.size ht
            have y2xCB := y2xC.kept (World.grownBy_alloc wxC (.cells #[.int .u8 (t.size : Int)] 5) none) (fun _ h => by cases h)
            refine hK.out _ _ ⟨(hbxCB.cell (p := ⟨w.heap.size, 1, none⟩) (by simp)).trans G1.out, (hbxCB.cell (p := ⟨b, o + ks, none⟩) (by simp; omega)).trans HCW.out⟩ (fun hHeld => ?_)
            clear hK K
            try simp only [Act.put, List.setIfInBounds_toArray, List.set_cons_zero, List.set_cons_succ]
            refine wpAnyH_ready (rs := [9]) (by kernel_rfl) (by simp) ?_
            refine AllReadyH.cons (o := _) rfl (fun K hK => ?_) AllReadyH.nil
            refine step_append_bytes rfl (.tmp 67) (.tmp 75) rfl (w.heap.size + 1) _ _ _ out (be 1 t.size) rfl rfl ownxCB y1xCB.bs (by rw [be_length]; omega) (Nat.le_trans HS0.out szxCB) ?_
            intro vxCBP wxCBP ownxCBP grxCBP
            have szxCBP : W0.heap.size ≤ wxCBP.heap.size := Nat.le_trans szxCB grxCBP.size
            have hbxCBP := hbxCB.grown grxCBP (Nat.le_trans HS0.out szxCB) (fun k hk => (HOWN.out.lt k hk).1)
            have y2xCBP := y2xCB.kept grxCBP (fun k hk => (HOWN.out.lt k hk).2)
            refine hK.out _ _ ⟨(hbxCBP.cell (p := ⟨w.heap.size, 1, none⟩) (by simp)).trans G1.out, (hbxCBP.cell (p := ⟨b, o + ks, none⟩) (by simp; omega)).trans HCW.out⟩ (fun hHeld => ?_)
            clear hK K
            try simp only [Act.put, List.setIfInBounds_toArray, List.set_cons_zero, List.set_cons_succ]
            refine wpAnyH_ready (rs := [16]) (by kernel_rfl) (by simp) ?_
            refine AllReadyH.cons (o := _) rfl (fun K hK => ?_) AllReadyH.nil
            refine step_append_bytes rfl (.tmp 76) (.tmp 82) rfl (w.heap.size + 1) _ _ _ (out ++ be 1 t.size) t.data.toList rfl rfl ownxCBP y2xCBP.bs (by simp [be_length]; omega) (Nat.le_trans HS0.out szxCBP) ?_
            intro vxCBPF wxCBPF ownxCBPF grxCBPF
            have szxCBPF : W0.heap.size ≤ wxCBPF.heap.size := Nat.le_trans szxCBP grxCBPF.size
            have hbxCBPF := hbxCBP.grown grxCBPF (Nat.le_trans HS0.out szxCBP) (fun k hk => (ownxCBP.lt k hk).1)
            refine hK.out _ _ ⟨(hbxCBPF.cell (p := ⟨w.heap.size, 1, none⟩) (by simp)).trans G1.out, (hbxCBPF.cell (p := ⟨b, o + ks, none⟩) (by simp; omega)).trans HCW.out⟩ (fun hHeld => ?_)
            clear hK K
            try simp only [Act.put, List.setIfInBounds_toArray, List.set_cons_zero, List.set_cons_succ]
            refine wpAnyH_take (i := 17) (oi := ?oi17xCBPF) (v := ?v17xCBPF) ?hi17xCBPF ?hs17xCBPF ?hf17xCBPF ?hr17xCBPF ?hQ17xCBPF ?hy17xCBPF ?hS17xCBPF ?h17xCBPF
            case hi17xCBPF => exact (by simp only [List.getElem?_toArray, List.getElem?_cons_succ, List.getElem?_cons_zero]; rfl)
            case hs17xCBPF => kernel_rfl
            case hf17xCBPF => kernel_rfl
            case hr17xCBPF => kernel_rfl
            case hQ17xCBPF => exact fun _ _ _ h => h
            case hy17xCBPF =>
              refine Or.inl ⟨rfl, ?_⟩
              intro W hSw
              obtain ⟨k1, k2⟩ := hSw
              go_simp
              try with_reducible rfl
            case hS17xCBPF => assumption
            try simp only [Act.put, List.setIfInBounds_toArray, List.set_cons_zero, List.set_cons_succ]
            refine wpAnyH_done (by kernel_rfl) ?_ _
            have hown9 := ownxCBPF
            have hb9 := hbxCBPF
            clear G1 HCW e8
            have hF9 := (hb9.block w.heap.size (by simp)).trans HF1.out
            have hb10 := hb.trans (hb9.mono (by omega))
            have hol2 : ((out ++ be 1 t.size) ++ t.data.toList).length ≤ 1100 * (k + 1) := by simp [be_length]; omega
            have HSM2 : Hid (Sw s.data.toList res (k + 1) ((out ++ be 1 t.size) ++ t.data.toList) N S L kn (ks + 1) kt) := by
              have := HSM.out
              rwa [← List.append_assoc] at this
            have hsz9 := Nat.le_trans hsz hb9.size
            clear HSM
            go_wp2
            go_roundw
            case rel => exact ⟨k + 1, kn, ks + 1, kt, _, by omega, by go_num, rfl, by go_num, rfl, hown9, hol2, hF9, hb10, hsz9, HSM2⟩
            case measure => simp [intOf] <;> omega
        · have HN := Lib.hid (hbig (by omega))
          clear hc hbig hsm hcell htt
          go_wp2
          all_goals
            go_ret2
            exact .inr ⟨HN.out, rfl, hb⟩
      · have t1 : ((s[k].toNat : Int) == 115) = false := by rw [beq_eq_false_iff_ne]; omega
        by_cases hc2 : s[k].toNat = 108
        · obtain ⟨hkt, hbig, hsm⟩ := hs.out.list (by rw [HZ.out]; exact hlt) hc2
          have hvl := Lss.length HF.out.ls
          obtain ⟨b, o, rfl, hbB, hcell⟩ := HF.out.rL.get (k := kt) (by omega)
          obtain ⟨a, c, hva, hra⟩ := Lss.get kt hkt HF.out.ls
          have hlt32 := Lss.lt HF.out.ls L[kt] (List.getElem_mem hkt)
          have hvk : vs[kt] = .slice a L[kt].length c := by
            rw [List.getElem?_eq_getElem (by omega)] at hva
            injection hva
          rw [hvk] at hcell
          have hcw := (hb.cell (p := ⟨b, o + kt, none⟩) hbB).trans hcell
          have t2 : ((s[k].toNat : Int) == 108) = true := by rw [beq_iff_eq]; omega
          obtain ⟨uu, htt⟩ : ∃ uu, uu = L[kt] := ⟨_, rfl⟩
          rw [← htt] at hcw hbig hsm hra hlt32
          by_cases ht : uu.length ≤ 255
          · have HSM := Lib.hid (hsm ht)
            have HLT := Lib.hid hlt32
            have HRA := Lib.hid hra
            have HCW := Lib.hid hcw
            have G2 := Lib.hid g2
            have e8 : IntKind.u8.wrap (uu.length : Int) = (uu.length : Int) := by unfold IntKind.wrap; simp [IntKind.signed, IntKind.bits]; omega
            have HB0 := Lib.hid ((Below.refl (w.heap.size + 1) wr).alloc hsz (.cells #[.int .u8 (uu.length : Int)] 5))
            have HK := Lib.hid (bk_build (w := wr) (G0 := wr.heap.size) (Nat.le_refl _) uu.length ht)
            have HO := Lib.hid (hown.alloc (.cells #[.int .u8 (uu.length : Int)] 5))
            have HS1 : Hid (w.heap.size + 1 ≤ (wr.alloc (.cells #[.int .u8 (uu.length : Int)] 5)).heap.size) := Nat.le_trans hsz HB0.out.size
            clear hc hc2 hbig hsm hcell htt hva hvk hvl hlt32 hra
            go_wp2_with (at_builtin; refine wpList_append_bytes rfl (.tmp 95) (.tmp 103) rfl (w.heap.size + 1) _ u8 _ out (be 1 uu.length) rfl rfl HO.out HK.out.bs (by rw [be_length]; omega) HS1.out ?_; intro v2 w2 hown2 hg2)
            have hb2 := HB0.out.grown hg2 HS1.out (fun k hk => (HO.out.lt k hk).1)
            have hs2 := Nat.le_trans hsz hb2.size
            clear HO HK HB0 HS1 hg2
            go_wp2
            go_loopw [8, 14] (fun u i wx => ∃ j : Nat, j ≤ uu.length ∧ i = .int .i64 j ∧ Hid (wx.ownsRow (w.heap.size + 1) 5 1 u ((out ++ be 1 uu.length) ++ (uu.take j).flatMap (be 4)).length (bv ((out ++ be 1 uu.length) ++ (uu.take j).flatMap (be 4)))) ∧ Below (w.heap.size + 1) wr wx ∧ w.heap.size + 1 ≤ wx.heap.size) (fun _ i _ => uu.length - (intOf i).toNat)
            case atStart => exact ⟨0, by omega, rfl, by simpa [Hid] using hown2, hb2, hs2⟩
            case round =>
              rename World => wx
              clear hb2 hs2 hown2
              obtain ⟨j, hj, rfl, hown3, hb3, hs3⟩ := hrel
              have j1 := (hb3.cell (p := ⟨w.heap.size, 2, none⟩) (by simp)).trans G2.out
              have j2 := (hb3.cell (p := ⟨b, o + kt, none⟩) (by simp; omega)).trans HCW.out
              by_cases hjl : j < uu.length
              · obtain ⟨b2, o2, rfl, hb2B, hc2⟩ := HRA.out.get (k := j) (by simpa [uv] using hjl)
                rw [uv_get hjl] at hc2
                have j3 := (hb3.cell (p := ⟨b2, o2 + j, none⟩) (by simp; omega)).trans ((hb.cell (p := ⟨b2, o2 + j, none⟩) hb2B).trans hc2)
                have hn := HLT.out uu[j] (List.getElem_mem hjl)
                have hfl := own_len (k := j) (flat_len 4 (uu.take j)) (Nat.le_of_lt hjl)
                clear hc2
                go_wp2_with fail
                refine (rput_any uu[j] 4 _ (by omega) (by omega)).mono ?_
                rintro e w4 ⟨v4, rfl, hown4, hb4⟩
                have o4 := own_below hown3.out hb4
                have HO4 := Lib.hid o4
                have y4 := Bs.of_own (v := v4) (l := be 4 uu[j]) (by rw [be_length]; exact hown4)
                have HY4 := Lib.hid y4
                have hb5 := hb3.trans (hb4.mono hs3)
                have hs4 := Nat.le_trans hs3 hb4.size
                clear o4 y4 hown4 hown3 hb3 hb4
                go_wp2_with (at_builtin; refine wpList_append_bytes rfl (.tmp 115) (.tmp 125) rfl (w.heap.size + 1) _ u8 v4 _ (be 4 uu[j]) rfl rfl HO4.out HY4.out (by rw [List.length_append, List.length_append, be_length, be_length, hfl]; omega) hs4 ?_; intro v5 w5 hown5 hg5)
                have hb6 := hb5.grown hg5 hs4 (fun k hk => (HO4.out.lt k hk).1)
                have hs6 := Nat.le_trans hs4 hg5.size
                have R : Hid (w5.ownsRow (w.heap.size + 1) 5 1 v5 ((out ++ be 1 uu.length) ++ (uu.take (j + 1)).flatMap (be 4)).length (bv ((out ++ be 1 uu.length) ++ (uu.take (j + 1)).flatMap (be 4)))) := by
                  rw [step32 4 j uu (out ++ be 1 uu.length) hjl]
                  exact hown5
                clear hown5 hg5 HO4 HY4 hb5 hfl
                go_wp2
                go_roundw
                case rel => exact ⟨j + 1, by omega, by go_num, R, hb6, hs6⟩
                case measure => simp [intOf] <;> omega
              · have R : wx.ownsRow (w.heap.size + 1) 5 1 u8 (out ++ (be 1 uu.length ++ uu.flatMap (be 4))).length (bv (out ++ (be 1 uu.length ++ uu.flatMap (be 4)))) := by
                  have h3 := hown3.out
                  rw [List.take_of_length_le (by omega), List.append_assoc] at h3
                  exact h3
                have hF9 := (hb3.block w.heap.size (by simp)).trans HF1.out
                have hb10 := hb.trans (hb3.mono (by omega))
                have hol2 : (out ++ (be 1 uu.length ++ uu.flatMap (be 4))).length ≤ 1100 * (k + 1) := by rw [← list_len]; omega
                have HR := Lib.hid R
                have HF9 := Lib.hid hF9
                have HOL := Lib.hid hol2
                clear R hF9 hol2 hown3
                go_wp2
                go_roundw
                case rel => exact ⟨k + 1, kn, ks, kt + 1, _, by omega, by go_num, rfl, rfl, by go_num, HR.out, HOL.out, HF9.out, hb10, hs3, HSM⟩
                case measure => simp [intOf] <;> omega
          · have HN := Lib.hid (hbig (by omega))
            clear hc hc2 hbig hsm hcell htt hva hvk hvl hlt32 hra
            go_wp2
            all_goals
              go_ret2
              exact .inr ⟨HN.out, rfl, hb⟩
        · obtain ⟨hkn, hbig, hsm⟩ := hs.out.number (by rw [HZ.out]; exact hlt) hc hc2
          obtain ⟨b, o, rfl, hbB, hcell⟩ := HF.out.rN.get (k := kn) (by simpa [uv] using hkn)
          rw [uv_get hkn] at hcell
          have hcw := (hb.cell (p := ⟨b, o + kn, none⟩) hbB).trans hcell
          have t2 : ((s[k].toNat : Int) == 108) = false := by rw [beq_eq_false_iff_ne]; omega
          have hn64 : N[kn] < 18446744073709551616 := HF.out.bN _ (List.getElem_mem hkn)
          obtain ⟨n, htt⟩ : ∃ n, n = N[kn] := ⟨_, rfl⟩
          rw [← htt] at hcw hbig hsm hn64
          have hw8 := wid_le s[k]
          have hsm' : n < 2 ^ (8 * wid s[k]) → Sw s.data.toList res (k + 1) (out ++ be (wid s[k]) n) N S L (kn + 1) ks kt := hsm
          have hbig' : 2 ^ (8 * wid s[k]) ≤ n → res = none := hbig
          obtain ⟨m, hm⟩ : ∃ m, m = wid s[k] := ⟨_, rfl⟩
          have hwd := fun W => rwidth_any s[k] W
          rw [← hm] at hw8 hsm' hbig' hwd
          have HWD := Lib.hid hwd
          have hnum := num_be m n
          rw [show (256 : Nat) ^ m = 2 ^ (8 * m) from by rw [Nat.pow_mul]] at hnum
          have HOWN := Lib.hid hown
          have hcF : wr.drew.cell? ⟨w.heap.size, 0, none⟩ = some (.slice (some ⟨b, o, none⟩) N.length cN) := g0
          have hcb : wr.drew.cell? ⟨b, o + kn, none⟩ = some (.int .u64 (n : Int)) := hcw
          have HCF := Lib.hid hcF
          have HCB := Lib.hid hcb
          by_cases ht : n < 2 ^ (8 * m)
          · have HSM := Lib.hid (hsm' ht)
            rw [Nat.mod_eq_of_lt ht] at hnum
            have HNUM := Lib.hid hnum
            clear hc hc2 hbig hsm hbig' hsm' hcell htt hm hwd hnum hown ht
            go_wp2_with fail
            go_region_held3 (fun w' => w'.cell? ⟨w.heap.size, 0, none⟩ = some (.slice (some ⟨b, o, none⟩) N.length cN) ∧ w'.cell? ⟨b, o + kn, none⟩ = some (.int .u64 (n : Int)))
              (first | exact ⟨HCF.out, HCB.out⟩ | exact ⟨(hb2.cell (p := ⟨w.heap.size, 0, none⟩) (by simp; omega)).trans HCF.out, (hb2.cell (p := ⟨b, o + kn, none⟩) (by simp; omega)).trans HCB.out⟩ | exact ⟨(hb3.cell (p := ⟨w.heap.size, 0, none⟩) (by have := hb2.size; simp at this ⊢; omega)).trans ((hb2.cell (p := ⟨w.heap.size, 0, none⟩) (by simp; omega)).trans HCF.out), (hb3.cell (p := ⟨b, o + kn, none⟩) (by have := hb2.size; simp at this ⊢; omega)).trans ((hb2.cell (p := ⟨b, o + kn, none⟩) (by simp; omega)).trans HCB.out)⟩)
              (first | (go_at_call 48; refine (HWD.out wr.drew).mono ?_; rintro e w2 ⟨rfl, hb2⟩) | (go_at_call 47; refine (rput_any n m w2 hw8 hn64).mono ?_; rintro e w3 ⟨v3, rfl, hown3, hb3⟩) | fail)
            have o3 := own_below (own_below HOWN.out ((Below.refl wr.heap.size wr).drew.trans hb2)) hb3
            have HO3 := Lib.hid o3
            have y3 := Bs.of_own (v := v3) (l := be m n) (by rw [be_length]; exact hown3)
            have HY3 := Lib.hid y3
            have hz2 : wr.heap.size ≤ w2.heap.size := hb2.size
            have hb4 : Below (w.heap.size + 1) wr w3 := ((Below.refl _ wr).drew.trans (hb2.mono (by simpa using hsz))).trans (hb3.mono (by omega))
            have hs4 := Nat.le_trans hsz hb4.size
            have hr3 := fun W (hW : Bs W w3.heap.size v3 (be m n)) => rnumber_any w3.heap.size v3 (be m n) W hW (by rw [be_length]; exact hw8)
            rw [HNUM.out] at hr3
            have HR3 := Lib.hid hr3
            have hcF3 : w3.drew.cell? ⟨w.heap.size, 0, none⟩ = some (.slice (some ⟨b, o, none⟩) N.length cN) := (hb4.cell (p := ⟨w.heap.size, 0, none⟩) (by simp)).trans HCF.out
            have hcb3 : w3.drew.cell? ⟨b, o + kn, none⟩ = some (.int .u64 (n : Int)) := (hb4.cell (p := ⟨b, o + kn, none⟩) (by simp; omega)).trans HCB.out
            have HCF3 := Lib.hid hcF3
            have HCB3 := Lib.hid hcb3
            have HYD : Hid (Bs w3.drew w3.heap.size v3 (be m n)) := HY3.out.below (B' := w3.heap.size) (Below.refl _ _).drew (Nat.le_refl _)
            clear o3 y3 hown3 hb2 hb3 hr3 hcF3 hcb3 hcF hcb hz2
            go_wp2_with fail
            go_region_held3 (fun w' => w'.cell? ⟨w.heap.size, 0, none⟩ = some (.slice (some ⟨b, o, none⟩) N.length cN) ∧ w'.cell? ⟨b, o + kn, none⟩ = some (.int .u64 (n : Int)))
              (first | exact ⟨HCF3.out, HCB3.out⟩)
              (first | (go_at_call 49; refine (HR3.out w3.drew HYD.out).mono ?_; rintro e w5 ⟨rfl, rfl⟩) | fail)
            go_wp2_with (at_builtin; refine wpList_append_bytes rfl (.tmp 145) (.tmp 146) rfl (w.heap.size + 1) w3.heap.size u8 v3 out (be m n) rfl rfl HO3.out HYD.out (by rw [be_length]; omega) hs4 ?_; intro v6 w6 hown6 hg6)
            have hb6 := (hb4.drew).grown hg6 hs4 (fun k hk => (HO3.out.lt k hk).1)
            have hs6 := Nat.le_trans hsz hb6.size
            have hF9 := (hb6.block w.heap.size (by simp)).trans HF1.out
            have hb10 := hb.trans (hb6.mono (by omega))
            have hol2 : (out ++ be m n).length ≤ 1100 * (k + 1) := by rw [List.length_append, be_length]; omega
            have HR := Lib.hid hown6
            have HF9 := Lib.hid hF9
            have HOL := Lib.hid hol2
            clear hown6 hF9 hol2 hg6
            go_wp2
            go_roundw
            case rel => exact ⟨k + 1, kn + 1, ks, kt, _, by omega, by go_num, by go_num, rfl, rfl, HR.out, HOL.out, HF9.out, hb10, hs6, HSM⟩
            case measure => simp [intOf] <;> omega
          · have HN := Lib.hid (hbig' (by omega))
            obtain ⟨nb, hnb⟩ : ∃ nb, nb = num (be m n) := ⟨_, rfl⟩
            have t4 : ((nb : Int) != (n : Int)) = true := by
              have hlt2 := Nat.mod_lt n (Nat.two_pow_pos (8 * m))
              rw [bne_iff_ne, hnb, hnum]
              omega
            clear hc hc2 hbig hsm hbig' hsm' hcell htt hm hwd hnum hown ht
            go_wp2_with fail
            go_region_held3 (fun w' => w'.cell? ⟨w.heap.size, 0, none⟩ = some (.slice (some ⟨b, o, none⟩) N.length cN) ∧ w'.cell? ⟨b, o + kn, none⟩ = some (.int .u64 (n : Int)))
              (first | exact ⟨HCF.out, HCB.out⟩ | exact ⟨(hb2.cell (p := ⟨w.heap.size, 0, none⟩) (by simp; omega)).trans HCF.out, (hb2.cell (p := ⟨b, o + kn, none⟩) (by simp; omega)).trans HCB.out⟩ | exact ⟨(hb3.cell (p := ⟨w.heap.size, 0, none⟩) (by have := hb2.size; simp at this ⊢; omega)).trans ((hb2.cell (p := ⟨w.heap.size, 0, none⟩) (by simp; omega)).trans HCF.out), (hb3.cell (p := ⟨b, o + kn, none⟩) (by have := hb2.size; simp at this ⊢; omega)).trans ((hb2.cell (p := ⟨b, o + kn, none⟩) (by simp; omega)).trans HCB.out)⟩)
              (first | (go_at_call 48; refine (HWD.out wr.drew).mono ?_; rintro e w2 ⟨rfl, hb2⟩) | (go_at_call 47; refine (rput_any n m w2 hw8 hn64).mono ?_; rintro e w3 ⟨v3, rfl, hown3, hb3⟩) | fail)
            have o3 := own_below (own_below HOWN.out ((Below.refl wr.heap.size wr).drew.trans hb2)) hb3
            have HO3 := Lib.hid o3
            have y3 := Bs.of_own (v := v3) (l := be m n) (by rw [be_length]; exact hown3)
            have HY3 := Lib.hid y3
            have hz2 : wr.heap.size ≤ w2.heap.size := hb2.size
            have hb4 : Below (w.heap.size + 1) wr w3 := ((Below.refl _ wr).drew.trans (hb2.mono (by simpa using hsz))).trans (hb3.mono (by omega))
            have hs4 := Nat.le_trans hsz hb4.size
            have hr3 := fun W (hW : Bs W w3.heap.size v3 (be m n)) => rnumber_any w3.heap.size v3 (be m n) W hW (by rw [be_length]; exact hw8)
            rw [← hnb] at hr3
            have HR3 := Lib.hid hr3
            have hcF3 : w3.drew.cell? ⟨w.heap.size, 0, none⟩ = some (.slice (some ⟨b, o, none⟩) N.length cN) := (hb4.cell (p := ⟨w.heap.size, 0, none⟩) (by simp)).trans HCF.out
            have hcb3 : w3.drew.cell? ⟨b, o + kn, none⟩ = some (.int .u64 (n : Int)) := (hb4.cell (p := ⟨b, o + kn, none⟩) (by simp; omega)).trans HCB.out
            have HCF3 := Lib.hid hcF3
            have HCB3 := Lib.hid hcb3
            have HYD : Hid (Bs w3.drew w3.heap.size v3 (be m n)) := HY3.out.below (B' := w3.heap.size) (Below.refl _ _).drew (Nat.le_refl _)
            clear o3 y3 hown3 hb2 hb3 hr3 hcF3 hcb3 hcF hcb hz2
            go_wp2_with fail
            go_region_held3 (fun w' => w'.cell? ⟨w.heap.size, 0, none⟩ = some (.slice (some ⟨b, o, none⟩) N.length cN) ∧ w'.cell? ⟨b, o + kn, none⟩ = some (.int .u64 (n : Int)))
              (first | exact ⟨HCF3.out, HCB3.out⟩)
              (first | (go_at_call 49; refine (HR3.out w3.drew HYD.out).mono ?_; rintro e w5 ⟨rfl, rfl⟩) | fail)
            go_wp2
            all_goals
              go_ret2
              exact .inr ⟨HN.out, rfl, hb.trans ((hb4.drew).mono (by omega))⟩
    · have he : s.size ≤ k := by omega
      have hen := hs.out.en
      rw [List.drop_eq_nil_of_le (by rw [HZ.out]; exact he)] at hen
      have he2 : res = some out := by rw [hen]; simp [enc]
      have HE := Lib.hid he2
      clear hen he2
      go_wp2
      go_ret2
      exact .inl ⟨u8, out, HE.out, rfl, own_mono hown (by omega), by omega, hb⟩

theorem rwrite_any (s : ByteArray) (N : List Nat) (S : List ByteArray) (L : List (List Nat)) (vs : List Value) (aN aS aL : Option Addr) (cN cS cL : Nat) (w : World) (hs : s.size ≤ 100)
    (hf : Flds w aN aS aL cN cS cL vs N S L) :
    Calls Tryd.prog 33 #[.string s, .agg #[.slice aN N.length cN, .slice aS S.length cS, .slice aL L.length cL]] w (WritePost w (writeR s.data.toList N S L)) := by
  by_cases h : 0 ≤ least s.data.toList ∧ okM s.data.toList N.length S.length L.length = true
  · refine (rwrite_walk s N S L vs aN aS aL cN cS cL w h.1 h.2 hf).mono ?_
    rintro e w' (⟨v', out, he, rfl, hown, hl, hb⟩ | ⟨he, rfl, hb⟩)
    · have e : writeR s.data.toList N S L = (out, 0) := by unfold writeR; rw [if_pos h, he]
      rw [e]
      exact ⟨v', rfl, hown, hl, hb⟩
    · have e : writeR s.data.toList N S L = ([], 2) := by unfold writeR; rw [if_pos h, he]
      rw [e]
      exact ⟨_, rfl, World.ownsRow_nil _ _ _ _, by simp, hb⟩
  · refine (rwrite_shape s aN aS aL N.length S.length L.length cN cS cL w hs h).mono ?_
    rintro e w' ⟨rfl, hb⟩
    have e : writeR s.data.toList N S L = ([], 1) := by unfold writeR; rw [if_neg h]
    rw [e]
    exact ⟨_, rfl, World.ownsRow_nil _ _ _ _, by simp, hb⟩
end Go.Proofs.YtkhhbmbjmfdgdaaDoor
