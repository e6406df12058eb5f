/- Verb: VerbBack's and VerbOnly's walks. -/
import Derived.Test.YtkhhbmbjmfdgdaaDoorVB
namespace Go.Proofs.YtkhhbmbjmfdgdaaDoor
open Go.RowKit Go.ChangeShapes
set_option maxRecDepth 20000

theorem gst_lists (l b : List UInt8) : ∀ u ∈ (gst l b).L, u.length ≤ 1000 := by
  rw [← List.reverse_reverse l]
  induction l.reverse with
  | nil => simp [gst]
  | cons c l ih =>
    rw [List.reverse_cons, gst_snoc]
    intro u hu
    unfold gath at hu
    split at hu
    · exact ih u hu
    · split at hu
      · rcases List.mem_append.1 hu with hu | hu
        · exact ih u hu
        · simp at hu
          subst hu
          have := num1_lt (gst l.reverse b).r
          unfold listP
          rw [nums_len]
          omega
      · exact ih u hu

theorem readR_bounds (l b : List UInt8) (hl : l.length ≤ 100) : (readR l b).2.1.length ≤ 1000 ∧ (readR l b).2.2.1.length ≤ 1000 ∧ (readR l b).2.2.2.length ≤ 1000 ∧ ∀ u ∈ (readR l b).2.2.2, u.length ≤ 1000 := by
  have h := gst_bounds l b
  unfold readR
  split
  · simp
  · split
    · simp
    · split
      · simp
      · exact ⟨by show (gst l b).N.length ≤ 1000; omega, by show (gst l b).S.length ≤ 1000; omega, by show (gst l b).L.length ≤ 1000; omega, gst_lists l b⟩

theorem shapes_short : ∀ i : Fin 199, (entP (i.1 : Int)).2.data.toList.length ≤ 100 := by decide +kernel
theorem shape_short (c : UInt8) : (entP (c.toNat : Int)).2.data.toList.length ≤ 100 := by
  by_cases h : c.toNat < 199
  · exact shapes_short ⟨c.toNat, h⟩
  · rw [ent_out _ (.inr (by omega))]
    decide

theorem decR_bounds (l : List UInt8) : (decR l).2.2.1.length ≤ 1000 ∧ (decR l).2.2.2.1.length ≤ 1000 ∧ (decR l).2.2.2.2.length ≤ 1000 ∧ ∀ u ∈ (decR l).2.2.2.2, u.length ≤ 1000 := by
  rcases l with _ | ⟨c, l⟩
  · simp [decR]
  · unfold decR
    by_cases hs : sideP (c.toNat : Int) = 0
    · simp [hs]
    · simp only [hs, if_false]
      by_cases h0 : (readR (entP (c.toNat : Int)).2.data.toList l).1 = 0
      · simp only [h0, if_true]
        exact readR_bounds _ _ (shape_short _)
      · simp [h0]

set_option maxHeartbeats 4000000 in
theorem vback_walk (k : Int) (N : List Nat) (S : List ByteArray) (L : List (List Nat)) (vs : List Value) (aN aS aL : Option Addr) (cN cS cL : Nat) (w : World) (he : Ents w) (hk1 : -9223372036854775808 ≤ k) (hk2 : k ≤ 9223372036854775807)
    (hf : Flds w aN aS aL cN cS cL vs N S L) (hN : N.length ≤ 9223372036854775807) (hS : S.length ≤ 9223372036854775807) (hL : L.length ≤ 9223372036854775807) (hu : ∀ u ∈ L, ∀ n ∈ u, n < 4294967296) :
    Calls Tryd.prog 6 #[.agg #[.int .i64 k, .slice aN N.length cN, .slice aS S.length cS, .slice aL L.length cL]] w fun e w' => e = .returned (.bool true) ∧ Below w.heap.size w w' := by
  obtain ⟨w0, hw0⟩ : ∃ w0, w0 = w.alloc (.cells #[.int .i64 k, .slice aN N.length cN, .slice aS S.length cS, .slice aL L.length cL] 40) := ⟨_, rfl⟩
  have hb0 : Below w.heap.size w w0 := by rw [hw0]; exact (Below.refl w.heap.size w).alloc (Nat.le_refl _) _
  have hp0 : w0.heap[w.heap.size]? = some (.cells #[.int .i64 k, .slice aN N.length cN, .slice aS S.length cS, .slice aL L.length cL] 40 (0, 0)) := by rw [hw0]; exact heap_alloc_new w _
  have e0 := cell_of_row w0 w.heap.size 0 _ _ _ hp0
  have e1 := cell_of_row w0 w.heap.size 1 _ _ _ hp0
  have e2 := cell_of_row w0 w.heap.size 2 _ _ _ hp0
  have e3 := cell_of_row w0 w.heap.size 3 _ _ _ hp0
  simp at e0 e1 e2 e3
  have hsm := small_any aN aS aL cN cS cL vs N S L w0 (hf.below hb0) hN hS hL
  have H0 := Lib.hid hw0
  have HP0 := Lib.hid hp0
  have HE := Lib.hid he
  have HF := Lib.hid hf
  have HU := Lib.hid hu
  rcases hsb : smallB N S L with _ | _
  · rw [hsb] at hsm
    have HSM := Lib.hid hsm
    clear hsm hsb hw0 hp0 he hf hu e0
    go_enter Tryd.func6, Tryd.ntmps6
    go_upto_region 1 with (fail)
    rw [← H0.out]
    go_wp2_with fail
    refine HSM.out.mono ?_
    rintro e w1 ⟨rfl, hb1⟩
    go_wp2
    go_ret
    exact ⟨rfl, hb0.trans (hb1.mono hb0.size)⟩
  · rw [hsb] at hsm
    have HSM := Lib.hid hsm
    have HSZ : Hid (N.length ≤ 1000 ∧ S.length ≤ 1000 ∧ L.length ≤ 1000 ∧ ∀ u ∈ L, u.length ≤ 1000) := by
      simp only [smallB, decide_eq_true_eq] at hsb
      exact ⟨by omega, by omega, by omega, fun u hu => by have := hsb.2.1 u hu; omega⟩
    obtain ⟨r, hr⟩ : ∃ r, r = encR k N S L := ⟨_, rfl⟩
    have HR := Lib.hid hr
    clear hsm hsb hw0 hp0 he hf hu e0 hr
    go_enter Tryd.func6, Tryd.ntmps6
    go_upto_region 1 with (fail)
    rw [← H0.out]
    go_wp2_with fail
    refine HSM.out.mono ?_
    rintro e w1 ⟨rfl, hb1⟩
    have hb01 := hb0.trans (hb1.mono hb0.size)
    have HP1 := Lib.hid ((hb1.block w.heap.size (lt_of_block HP0.out)).trans HP0.out)
    have d0 := cell_of_row w1 w.heap.size 0 _ _ _ HP1.out
    have d1 := cell_of_row w1 w.heap.size 1 _ _ _ HP1.out
    have d2 := cell_of_row w1 w.heap.size 2 _ _ _ HP1.out
    have d3 := cell_of_row w1 w.heap.size 3 _ _ _ HP1.out
    simp at d0 d1 d2 d3
    clear e1 e2 e3 hb1
    go_wp2_with fail
    refine (msg_any _ _ _ _ _ _ _ _ _ _ _).mono ?_
    rintro e w2 ⟨rfl, hb2⟩
    have hb02 := hb01.trans (hb2.mono hb01.size)
    have hen := encode_any k N S L vs aN aS aL cN cS cL w2 (HE.out.keep hb02) hk1 hk2 (HF.out.below hb02)
    rw [← HR.out] at hen
    have HEN := Lib.hid hen
    have HP2 := Lib.hid ((hb2.block w.heap.size (lt_of_block HP1.out)).trans HP1.out)
    clear hen d0 d1 d2 d3 hb2
    go_wp2_with fail
    refine HEN.out.mono ?_
    rintro e w3 ⟨A3, c3, rfl, o3, hl3, hb3⟩
    have hb03 := hb02.trans (hb3.mono hb02.size)
    have HP3 := Lib.hid ((hb3.block w.heap.size (lt_of_block HP2.out)).trans HP2.out)
    clear hb3
    by_cases hr0 : r.2 = 0
    · have t0 : (((r.2 : Nat) : Int) != 0) = false := by simp [hr0]
      have hrr : encR k N S L = (r.1, 0) := by rw [← HR.out, ← hr0]
      obtain ⟨m, rfl, hdec⟩ := dec_enc hrr HU.out
      have hdc := decode_any (.slice A3 r.1.length c3) r.1 w3 (HE.out.keep hb03) (Bs.of_own o3) (by omega)
      rw [hdec] at hdc
      have HDC := Lib.hid hdc
      clear hdc hdec hrr hr0 o3
      go_wp2_with fail
      refine HDC.out.mono ?_
      intro e w4 hp
      obtain ⟨bN, bS, bL, dN, dS, dL, us, rfl, hb4, hg⟩ := dec_flds hp
      clear hp
      have hb04 := hb03.trans (hb4.mono hb03.size)
      have HP4 := Lib.hid ((hb4.block w.heap.size (lt_of_block HP3.out)).trans HP3.out)
      have HG := Lib.hid hg
      clear hg hb4
      go_wp2_with fail
      obtain ⟨w5, hw5⟩ : ∃ w5, w5 = w4.alloc (.cells #[.int .i64 (m : Int), .slice bN N.length dN, .slice bS S.length dS, .slice bL L.length dL] 48) := ⟨_, rfl⟩
      have hb45 : Below w4.heap.size w4 w5 := by rw [hw5]; exact (Below.refl _ _).alloc (Nat.le_refl _) _
      have hb05 : Below w.heap.size w w5 := hb04.trans (hb45.mono hb04.size)
      have hp5 : w5.heap[w4.heap.size]? = some (.cells #[.int .i64 (m : Int), .slice bN N.length dN, .slice bS S.length dS, .slice bL L.length dL] 48 (0, 0)) := by rw [hw5]; exact heap_alloc_new w4 _
      have hpf : w5.heap[w.heap.size]? = some (.cells #[.int .i64 (m : Int), .slice aN N.length cN, .slice aS S.length cS, .slice aL L.length cL] 40 (0, 0)) := (hb45.block _ (lt_of_block HP4.out)).trans HP4.out
      have HFA : Hid (∀ W, Below w5.heap.size w5 W → Flds W aN aS aL cN cS cL vs N S L) := fun W hW => HF.out.below (hb05.trans (hW.mono hb05.size))
      have HFB : Hid (∀ W, Below w5.heap.size w5 W → Flds W bN bS bL dN dS dL us N S L) := fun W hW => (HG.out.below hb45).below hW
      have HEN2 : Hid (∀ W, Below w5.heap.size w5 W → Ents W) := fun W hW => HE.out.keep (hb05.trans (hW.mono hb05.size))
      have HK : Hid (∀ W, Below w5.heap.size w5 W → W.cell? ⟨w.heap.size, 0, none⟩ = some (.int .i64 (m : Int)) ∧ W.cell? ⟨w.heap.size, 1, none⟩ = some (.slice aN N.length cN) ∧ W.cell? ⟨w.heap.size, 2, none⟩ = some (.slice aS S.length cS) ∧ W.cell? ⟨w.heap.size, 3, none⟩ = some (.slice aL L.length cL) ∧
          W.cell? ⟨w4.heap.size, 0, none⟩ = some (.int .i64 (m : Int)) ∧ W.cell? ⟨w4.heap.size, 1, none⟩ = some (.slice bN N.length dN) ∧ W.cell? ⟨w4.heap.size, 2, none⟩ = some (.slice bS S.length dS) ∧ W.cell? ⟨w4.heap.size, 3, none⟩ = some (.slice bL L.length dL)) := fun W hW => by
        have e1 := (hW.block w.heap.size (lt_of_block hpf)).trans hpf
        have e2 := (hW.block w4.heap.size (lt_of_block hp5)).trans hp5
        exact ⟨cell_of_row W _ 0 _ _ _ e1, cell_of_row W _ 1 _ _ _ e1, cell_of_row W _ 2 _ _ _ e1, cell_of_row W _ 3 _ _ _ e1, cell_of_row W _ 0 _ _ _ e2, cell_of_row W _ 1 _ _ _ e2, cell_of_row W _ 2 _ _ _ e2, cell_of_row W _ 3 _ _ _ e2⟩
      have HD : Hid (Below w5.heap.size w5 w5.drew) := (Below.refl _ _).drew
      rw [← hw5]
      clear hw5 hp5 hpf hb45 HP0 HP1 HP2 HP3 HP4 HG HEN HDC HE HF HSM hb0 hb01 hb02 hb03 hb04
      go_region_held3 (fun W => W.cell? ⟨w.heap.size, 0, none⟩ = some (.int .i64 (m : Int)) ∧ W.cell? ⟨w.heap.size, 1, none⟩ = some (.slice aN N.length cN) ∧ W.cell? ⟨w.heap.size, 2, none⟩ = some (.slice aS S.length cS) ∧ W.cell? ⟨w.heap.size, 3, none⟩ = some (.slice aL L.length cL) ∧
          W.cell? ⟨w4.heap.size, 0, none⟩ = some (.int .i64 (m : Int)) ∧ W.cell? ⟨w4.heap.size, 1, none⟩ = some (.slice bN N.length dN) ∧ W.cell? ⟨w4.heap.size, 2, none⟩ = some (.slice bS S.length dS) ∧ W.cell? ⟨w4.heap.size, 3, none⟩ = some (.slice bL L.length dL))
        (first | exact HK.out _ hc8 | exact HK.out _ hc7 | exact HK.out _ hc6 | exact HK.out _ HD.out | go_keep)
        (first
          | (go_at_call 25; refine (mback_any _ _ _ _ _ _ _ _ _ _ w5.drew).mono ?_; rintro e w6 ⟨rfl, hb6⟩; have hc6 := HD.out.trans hb6)
          | (go_at_call 24; refine (msame_any _ bN bS bL aN aS aL dN dS dL cN cS cL us vs N S L w6 (HFB.out w6 hc6) (HFA.out w6 hc6) HSZ.out.1 HSZ.out.2.1 HSZ.out.2.2.1 HSZ.out.2.2.2).mono ?_; rintro e w7 ⟨rfl, hb7⟩; have hc7 := hc6.trans (hb7.mono hc6.size))
          | (go_at_call 17; refine (vawake w7 (HEN2.out w7 hc7)).mono ?_; rintro e w8 ⟨rfl, hb8⟩; have hc8 := hc7.trans (hb8.mono hc7.size))
          | fail)
      go_wp2
      go_ret
      exact ⟨rfl, hb05.trans (hc8.mono hb05.size)⟩
    · have t0 : (((r.2 : Nat) : Int) != 0) = true := by simp; omega
      have hnil : r.1 = [] := by
        have := enc_err (k := k) (N := N) (S := S) (L := L) (by rw [← HR.out]; exact hr0)
        rw [← HR.out] at this
        exact this
      have hlen : r.1.length = 0 := by rw [hnil]; rfl
      rw [hlen]
      have HAW := Lib.hid (fun W h => vawake W h)
      clear hr0 hnil hlen o3 hl3
      go_wp2_with fail
      refine (HAW.out _ (HE.out.keep hb03)).mono ?_
      rintro e w4 ⟨rfl, hb4⟩
      go_wp2
      go_ret
      exact ⟨rfl, hb03.trans (hb4.mono hb03.size)⟩
end Go.Proofs.YtkhhbmbjmfdgdaaDoor
