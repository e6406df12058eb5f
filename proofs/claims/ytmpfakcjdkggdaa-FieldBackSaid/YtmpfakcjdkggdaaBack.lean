/- Whatever text and fields are handed to FieldBack, it returns true: what field.Write writes field.Read reads as it was, has at least the shape's bytes, and with an error there are no bytes; the arguments read as they did. No condition. -/
import Derived.Test.YtmpfakcjdkggdaaB12
import Derived.ShutString
import Derived.Deep.RegionHeld3
namespace Go.Proofs.Ytmpfakcjdkggdaa.fieldBack
open Go.ChangeShapes Go.WideShapes Go.ChangeAt Go.RowKit
open Go.ChangeMaps (open_string shut_string)
open Go.Joins
set_option linter.unusedVariables false

set_option maxHeartbeats 1000000 in
theorem walk_big (s : ByteArray) (a1 a2 a3 : Option Addr) (n1 n2 n3 c1 c2 c3 : Nat) (w : World) (h : 100 < s.size) :
    Calls Try.prog 6 #[.string s, .agg #[.slice a1 n1 c1, .slice a2 n2 c2, .slice a3 n3 c3]] w fun e w' => e = .returned (.bool true) ∧ Below w.heap.size w w' := by
  have hb := (Below.refl w.heap.size w).alloc (Nat.le_refl _)
  go_enter Try.func6, Try.ntmps6
  go_wp2
  go_ret
  exact ⟨rfl, hb _⟩

set_option maxHeartbeats 1000000 in
theorem walk_notsmall (s : ByteArray) (aN aS aL : Option Addr) (cN cS cL : Nat) (vs : List Value) (N : List Nat) (S : List ByteArray) (L : List (List Nat)) (w : World) (h : Flds w aN aS aL cN cS cL vs N S L)
    (hN : N.length ≤ 9223372036854775807) (hS : S.length ≤ 9223372036854775807) (hL : L.length ≤ 9223372036854775807) (hs : s.size ≤ 100) (hb : smallB N S L = false) :
    Calls Try.prog 6 #[.string s, .agg #[.slice aN N.length cN, .slice aS S.length cS, .slice aL L.length cL]] w fun e w' => e = .returned (.bool true) ∧ Below w.heap.size w w' := by
  have hb0 := (Below.refl w.heap.size w).alloc (Nat.le_refl _) (.cells #[.slice aN N.length cN, .slice aS S.length cS, .slice aL L.length cL] 29)
  have hsm := small_any aN aS aL cN cS cL vs N S L _ (h.below hb0) hN hS hL
  rw [hb] at hsm
  have HSM := Lib.hid hsm
  clear hsm hb h
  go_enter Try.func6, Try.ntmps6
  go_wp2_with fail
  refine HSM.out.mono ?_
  rintro e w1 ⟨rfl, hb1⟩
  go_wp2
  go_ret
  exact ⟨rfl, hb0.trans (hb1.mono (by simp))⟩

set_option maxHeartbeats 4000000 in
theorem walk_err (s : ByteArray) (aN aS aL : Option Addr) (cN cS cL : Nat) (vs : List Value) (N : List Nat) (S : List ByteArray) (L : List (List Nat)) (w : World) (h : Flds w aN aS aL cN cS cL vs N S L)
    (hN : N.length ≤ 9223372036854775807) (hS : S.length ≤ 9223372036854775807) (hL : L.length ≤ 9223372036854775807) (hs : s.size ≤ 100) (hb : smallB N S L = true)
    (k : Nat) (hk : k = 1 ∨ k = 2) (hw : writeR s.data.toList N S L = ([], k)) :
    Calls Try.prog 6 #[.string s, .agg #[.slice aN N.length cN, .slice aS S.length cS, .slice aL L.length cL]] w fun e w' => e = .returned (.bool true) ∧ Below w.heap.size w w' := by
  have hb0 := (Below.refl w.heap.size w).alloc (Nat.le_refl _) (.cells #[.slice aN N.length cN, .slice aS S.length cS, .slice aL L.length cL] 29)
  have hp0 := heap_alloc_new w (.cells #[.slice aN N.length cN, .slice aS S.length cS, .slice aL L.length cL] 29)
  have hsm := small_any aN aS aL cN cS cL vs N S L _ (h.below hb0) hN hS hL
  rw [hb] at hsm
  have HSM := Lib.hid hsm
  have H := Lib.hid h
  have HP := Lib.hid hp0
  have HW := Lib.hid hw
  clear hsm hb h hp0 hw
  have q1 : ((k : Int) != 0) = true := by rw [bne_iff_ne]; omega
  go_enter Try.func6, Try.ntmps6
  go_wp2_with fail
  refine HSM.out.mono ?_
  rintro e w1 ⟨rfl, hb1⟩
  have hp1 := (hb1.block w.heap.size (by simp)).trans HP.out
  have hb01 := hb0.trans (hb1.mono (by simp))
  have g0 := cell_of_row w1 w.heap.size 0 _ _ _ hp1
  have g1 := cell_of_row w1 w.heap.size 1 _ _ _ hp1
  have g2 := cell_of_row w1 w.heap.size 2 _ _ _ hp1
  simp at g0 g1 g2
  clear hp1
  go_wp2_with fail
  refine (fields_any _ _ _ _ _ _ _ _ _ _).mono ?_
  rintro e w2 ⟨rfl, hb2⟩
  have hb02 := hb01.trans (hb2.mono hb01.size)
  have hwc := (H.out.below hb02).write s
  rw [HW.out] at hwc
  have HWC := Lib.hid hwc
  clear hwc g0 g1 g2
  go_wp2_with fail
  refine HWC.out.mono ?_
  rintro e w3 ⟨v3, rfl, hown, _, hb3⟩
  have hb03 := hb02.trans (hb3.mono hb02.size)
  have hv3 : v3 = .slice none 0 0 ∨ ∃ g c, v3 = .slice (some ⟨g, 0, none⟩) 0 c := by
    rcases hown.2 with ⟨h, _⟩ | ⟨g, c, _, h, _⟩
    · exact .inl h
    · exact .inr ⟨g, c, h⟩
  clear hown
  rcases hk with rfl | rfl <;> rcases hv3 with rfl | ⟨g, c, rfl⟩
  all_goals
    go_wp2_with fail
    refine (awake_any _).mono ?_
    rintro e w4 ⟨rfl, hb4⟩
    go_wp2
    go_ret
    exact ⟨rfl, hb03.trans (hb4.mono hb03.size)⟩

set_option maxHeartbeats 4000000 in
theorem walk_ok (s : ByteArray) (aN aS aL : Option Addr) (cN cS cL : Nat) (vs : List Value) (N : List Nat) (S : List ByteArray) (L : List (List Nat)) (w : World) (h : Flds w aN aS aL cN cS cL vs N S L)
    (hN : N.length ≤ 9223372036854775807) (hS : S.length ≤ 9223372036854775807) (hL : L.length ≤ 9223372036854775807) (hs : s.size ≤ 100) (hb : smallB N S L = true)
    (b : List UInt8) (hbl : b.length ≤ 8800) (hw : writeR s.data.toList N S L = (b, 0)) (hu : ∀ u ∈ L, ∀ n ∈ u, n < 4294967296) :
    Calls Try.prog 6 #[.string s, .agg #[.slice aN N.length cN, .slice aS S.length cS, .slice aL L.length cL]] w fun e w' => e = .returned (.bool true) ∧ Below w.heap.size w w' := by
  have hb0 := (Below.refl w.heap.size w).alloc (Nat.le_refl _) (.cells #[.slice aN N.length cN, .slice aS S.length cS, .slice aL L.length cL] 29)
  have hp0 := heap_alloc_new w (.cells #[.slice aN N.length cN, .slice aS S.length cS, .slice aL L.length cL] 29)
  have hsm := small_any aN aS aL cN cS cL vs N S L _ (h.below hb0) hN hS hL
  obtain ⟨hrw, hlt⟩ := read_write _ _ _ _ _ hw hu
  have hsz : N.length ≤ 1000 ∧ S.length ≤ 1000 ∧ L.length ≤ 1000 ∧ ∀ u ∈ L, u.length ≤ 1000 := by
    simp only [smallB, decide_eq_true_eq] at hb
    exact ⟨by omega, by omega, by omega, fun u hu => by have := hb.2.1 u hu; omega⟩
  rw [hb] at hsm
  obtain ⟨z, hz⟩ : ∃ z, z = least s.data.toList := ⟨_, rfl⟩
  have hls := fun W => least_any s W
  rw [← hz] at hls hlt
  have HLS := Lib.hid hls
  have HSM := Lib.hid hsm
  have H := Lib.hid h
  have HP := Lib.hid hp0
  have HW := Lib.hid hw
  have HRW := Lib.hid hrw
  have HSZ := Lib.hid hsz
  clear hsm hb h hp0 hw hrw hsz hu hz hls
  go_enter Try.func6, Try.ntmps6
  go_wp2_with fail
  refine HSM.out.mono ?_
  rintro e w1 ⟨rfl, hb1⟩
  have hp1 := (hb1.block w.heap.size (by simp)).trans HP.out
  have hb01 := hb0.trans (hb1.mono (by simp))
  have g0 := cell_of_row w1 w.heap.size 0 _ _ _ hp1
  have g1 := cell_of_row w1 w.heap.size 1 _ _ _ hp1
  have g2 := cell_of_row w1 w.heap.size 2 _ _ _ hp1
  simp at g0 g1 g2
  have HP1 := Lib.hid hp1
  clear hp1
  have hz1 : w.heap.size < w1.heap.size := lt_of_block HP1.out
  go_wp2_with fail
  refine (fields_any _ _ _ _ _ _ _ _ _ _).mono ?_
  rintro e w2 ⟨rfl, hb2⟩
  have hb02 := hb01.trans (hb2.mono hb01.size)
  have hwc := (H.out.below hb02).write s
  rw [HW.out] at hwc
  have HWC := Lib.hid hwc
  clear hwc g0 g1 g2
  go_wp2_with fail
  refine HWC.out.mono ?_
  rintro e w3 ⟨v3, rfl, hown, _, hb3⟩
  have hb03 := hb02.trans (hb3.mono hb02.size)
  have hb13 := hb2.trans (hb3.mono hb2.size)
  have hbs := Bs.of_own hown
  have hrd := read_any s v3 b w3 hbs (by omega)
  rw [HRW.out] at hrd
  obtain ⟨A3, c3, rfl, _, _⟩ := hbs
  have HRD := Lib.hid hrd
  clear hown hrd
  go_wp2_with fail
  refine HRD.out.mono ?_
  intro e w4 hp
  obtain ⟨bN, bS, bL, dN, dS, dL, us, rfl, hb4, hf⟩ := read_flds hp
  clear hp
  have HF := Lib.hid hf
  clear hf
  go_wp2_with fail
  obtain ⟨w5, hw5⟩ : ∃ w5, w5 = w4.alloc (.cells #[.slice bN N.length dN, .slice bS S.length dS, .slice bL L.length dL] 35) := ⟨_, rfl⟩
  have hb04 := hb03.trans (hb4.mono hb03.size)
  have hb14 := hb13.trans (hb4.mono hb13.size)
  have hb45 : Below w4.heap.size w4 w5 := by rw [hw5]; exact (Below.refl _ _).alloc (Nat.le_refl _) _
  have hz5 : w5.heap.size = w4.heap.size + 1 := by rw [hw5]; simp
  have hb05 : Below w.heap.size w w5 := hb04.trans (hb45.mono hb04.size)
  have hp5 : w5.heap[w4.heap.size]? = some (.cells #[.slice bN N.length dN, .slice bS S.length dS, .slice bL L.length dL] 35 (0, 0)) := by rw [hw5]; exact heap_alloc_new w4 _
  have hpf : w5.heap[w.heap.size]? = some (.cells #[.slice aN N.length cN, .slice aS S.length cS, .slice aL L.length cL] 29 (0, 0)) :=
    ((hb45.block w.heap.size (by have := hb14.size; omega)).trans (hb14.block w.heap.size hz1)).trans HP1.out
  have HFA : Hid (∀ W, Below w5.heap.size w5 W → Flds W aN aS aL cN cS cL vs N S L) := fun W hW => H.out.below (hb05.trans (hW.mono hb05.size))
  have HFB : Hid (∀ W, Below w5.heap.size w5 W → Flds W bN bS bL dN dS dL us N S L) := fun W hW => HF.out.below (hb45.trans (hW.mono hb45.size))
  have HK : Hid (∀ W, Below w5.heap.size w5 W → W.cell? ⟨w.heap.size, 0, none⟩ = some (.slice aN N.length cN) ∧ W.cell? ⟨w.heap.size, 1, none⟩ = some (.slice aS S.length cS) ∧ W.cell? ⟨w.heap.size, 2, none⟩ = some (.slice aL L.length cL) ∧
      W.cell? ⟨w4.heap.size, 0, none⟩ = some (.slice bN N.length dN) ∧ W.cell? ⟨w4.heap.size, 1, none⟩ = some (.slice bS S.length dS) ∧ W.cell? ⟨w4.heap.size, 2, none⟩ = some (.slice bL L.length dL)) := fun W hW => by
    have e1 := (hW.block w.heap.size (lt_of_block hpf)).trans hpf
    have e2 := (hW.block w4.heap.size (lt_of_block hp5)).trans hp5
    exact ⟨cell_of_row W _ 0 _ _ _ e1, cell_of_row W _ 1 _ _ _ e1, cell_of_row W _ 2 _ _ _ e1, cell_of_row W _ 0 _ _ _ e2, cell_of_row W _ 1 _ _ _ e2, cell_of_row W _ 2 _ _ _ e2⟩
  have HD : Hid (Below w5.heap.size w5 w5.drew) := (Below.refl _ _).drew
  rw [← hw5]
  clear hw5 hp5 hpf hz5 HP1 hb1 hb2 hb3 hb4 hb01 hb02 hb03 hb04 hb13 hb14 hb45 hz1
  go_region_held3 (fun W => W.cell? ⟨w.heap.size, 0, none⟩ = some (.slice aN N.length cN) ∧ W.cell? ⟨w.heap.size, 1, none⟩ = some (.slice aS S.length cS) ∧ W.cell? ⟨w.heap.size, 2, none⟩ = some (.slice aL L.length cL) ∧
      W.cell? ⟨w4.heap.size, 0, none⟩ = some (.slice bN N.length dN) ∧ W.cell? ⟨w4.heap.size, 1, none⟩ = some (.slice bS S.length dS) ∧ W.cell? ⟨w4.heap.size, 2, none⟩ = some (.slice bL L.length dL))
    (first | exact HK.out _ hc8 | exact HK.out _ hc7 | exact HK.out _ hc6 | exact HK.out _ HD.out | go_keep)
    (first
      | (go_at_call 21; refine (back_any _ _ _ _ _ _ _ _ _ w5.drew).mono ?_; rintro e w6 ⟨rfl, hb6⟩; have hc6 := HD.out.trans hb6)
      | (go_at_call 20; refine (same_any bN bS bL aN aS aL dN dS dL cN cS cL us vs N S L w6 (HFB.out w6 hc6) (HFA.out w6 hc6) HSZ.out.1 HSZ.out.2.1 HSZ.out.2.2.1 HSZ.out.2.2.2).mono ?_; rintro e w7 ⟨rfl, hb7⟩; have hc7 := hc6.trans (hb7.mono hc6.size))
      | (go_at_call 12; refine (HLS.out w7).mono ?_; rintro e w' ⟨rfl, rfl⟩)
      | (go_at_call 13; refine (awake_any w7).mono ?_; rintro e w8 ⟨rfl, hb8⟩; have hc8 := hc7.trans (hb8.mono hc7.size))
      | fail)
  go_wp2
  go_ret
  exact ⟨rfl, hb05.trans (hc8.mono hb05.size)⟩
theorem own : ownKnob Try.prog.godebug = none := by kernel_rfl
theorem laidOut : laidOutB Try.prog = true := by kernel_rfl
theorem Try.cells29 : Try.prog.cellsOf 29 = 3 := by kernel_rfl

theorem walk (s : ByteArray) (aN aS aL : Option Addr) (cN cS cL : Nat) (vs : List Value) (N : List Nat) (S : List ByteArray) (L : List (List Nat)) (w : World) (h : Flds w aN aS aL cN cS cL vs N S L)
    (hN : N.length ≤ 9223372036854775807) (hS : S.length ≤ 9223372036854775807) (hL : L.length ≤ 9223372036854775807) (hu : ∀ u ∈ L, ∀ n ∈ u, n < 4294967296) :
    Calls Try.prog 6 #[.string s, .agg #[.slice aN N.length cN, .slice aS S.length cS, .slice aL L.length cL]] w fun e w' => e = .returned (.bool true) ∧ Below w.heap.size w w' := by
  by_cases hs : 100 < s.size
  · exact walk_big s _ _ _ _ _ _ _ _ _ w hs
  · by_cases hb : smallB N S L = true
    · rcases write_codes s.data.toList N S L with ⟨b, hw⟩ | hw | hw
      · have hbl : b.length ≤ 8800 := by
          have h2 := h.write s
          rw [hw] at h2
          obtain ⟨_, _, _, ⟨_, _, _, hl, _⟩, _⟩ := h2 []
          exact hl
        exact walk_ok s aN aS aL cN cS cL vs N S L w h hN hS hL (by omega) hb b hbl hw hu
      · exact walk_err s aN aS aL cN cS cL vs N S L w h hN hS hL (by omega) hb 1 (.inl rfl) hw
      · exact walk_err s aN aS aL cN cS cL vs N S L w h hN hS hL (by omega) hb 2 (.inr rfl) hw
    · exact walk_notsmall s aN aS aL cN cS cL vs N S L w h hN hS hL (by omega) (by simpa using hb)

set_option maxRecDepth 100000 in
theorem lifted (os : Os) (started : os.Started) (H : Type) (enc : TypeId × Value → H) :
    ReturnsInHanded {} Try.checked os 6 .any (Rows.fieldBackSpec.pre6 enc Try.prog Try.f6 Rows.fieldBackRow.domain false) (Rows.fieldBackSpec.post enc Try.prog Try.f6 false true false false) := by
  refine returnsInHanded_of_change (C := Try.checked) own started (by kernel_rfl) Try.func6
    (ChangeSpec.witness6 (enc := enc) (C := Try.checked) false ⟨#[], #[.string ByteArray.empty, .agg #[.slice none 0 0, .slice none 0 0, .slice none 0 0]], []⟩ 8 (by kernel_rfl) (by kernel_rfl) (by kernel_rfl) (by kernel_rfl)) ?_
  intro W base args ds gs before hval0 hW hcnd _
  have hval : ∀ (j : Nat) t v, Try.f6.params[j]? = some t → args[j]? = some v → Value.okWide Try.prog W .any base t v := hval0
  have hW' := hW
  obtain ⟨p, q, hA0, hV, rfl, hfz, hnd⟩ := hW
  have hA : DataW.TrodAll enc Try.prog W 0 (fun _ => true) true Try.f6.params.toList args.toList ds p := hA0
  rw [Try.params6] at hA hval
  obtain ⟨v0, vs0, d0, ds0, p0, q0, hargs, rfl, rfl, h0, r0⟩ := trodAll_cons hA
  obtain ⟨v1, vs1, d1, ds1, p1, q1, rfl, rfl, rfl, h1, r1⟩ := trodAll_cons r0
  obtain ⟨rfl, rfl, rfl⟩ := trodAll_nil r1
  obtain rfl : args = #[v0, v1] := by cases args; simp_all
  obtain ⟨rfl, rfl⟩ := trodVars_none hV
  obtain ⟨a0, rfl, rfl, rfl, w0⟩ := open_string Try.underlying9 (hval 0 9 v0 rfl rfl) h0
  have k1 := h1
  have lt1 : ∀ x ∈ p1, x.block < W.heap.size := by obtain ⟨m, hm⟩ := k1; exact DataW.trod_lt m _ _ _ hm
  obtain ⟨z0, z1, z2, y0, y1, y2, m, rfl, hd, hp, f0, f1, f2⟩ := open_agg3 Try.underlying29 (by kernel_rfl) Try.cells29 (hval 1 29 v1 rfl rfl) h1
  obtain ⟨aN, cN, N, rfl, rN, lN, bN, xN⟩ := open_N f0
  obtain ⟨aS, cS, S, rfl, rS, lS, bS⟩ := open_S f1
  obtain ⟨aL, cL, L, vs, rfl, rL, ls, lL, bL, xL⟩ := open_L f2
  clear hA0 hval0
  refine (walk a0 aN aS aL cN cS cL vs N S L W ⟨rN, rS, rL, ls, lN, lS, lL, xN⟩ bN bS bL xL).mono fun e W' ⟨he, bel⟩ => ?_
  subst he
  exact ⟨_, rfl, _, _, _, [], _, [], hW', trodAll_mk1 (shut_bool Try.underlying4 _), (trodAll_cons_mk (shut_string Try.underlying9 w0) (trodAll_cons_mk (Below.trod laidOut (by kernel_rfl) (of_decide_eq_true (by kernel_rfl)) k1 bel lt1) trodAll_mk0)), rfl, bel.frame _, fun h => by cases h⟩

theorem over : Rows.fieldBackRow.holds Try.pinned (OpenSpec.ofChange Rows.fieldBackSpec) :=
  OpenClaim.holds_of_wide 6 Try.f6 rfl rfl rfl rfl rfl rfl rfl ⟨rfl, rfl, rfl, rfl, rfl⟩ rfl rfl rfl rfl rfl (by kernel_rfl) Try.func6 (by kernel_rfl)
    (of_decide_eq_true (by kernel_rfl)) (by unfold Func.isWrapper; first | (rw [if_pos (by decide +kernel)]; kernel_rfl) | (rw [if_neg (by decide +kernel)]; exact ⟨rfl, rfl⟩))
    (fun os started H enc _ => lifted os started H enc)

theorem proved : Rows.FieldBackSaid := over
#print axioms proved
end Go.Proofs.Ytmpfakcjdkggdaa.fieldBack
