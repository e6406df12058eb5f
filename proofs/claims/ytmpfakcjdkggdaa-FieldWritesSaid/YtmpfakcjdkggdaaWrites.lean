/- Whatever text and fields are handed to FieldWrites, it returns true: field.Write writes the bytes that the document's own answer writes, or tells the same error; the arguments read as they did. No condition. -/
import Derived.Test.YtmpfakcjdkggdaaC4
import Derived.ShutString
import Derived.Deep.RegionHeld3
namespace Go.Proofs.Ytmpfakcjdkggdaa.fieldWrites
open Go.ChangeShapes Go.WideShapes Go.ChangeAt Go.RowKit
open Go.ChangeMaps (open_string shut_string)
open Go.Joins
set_option linter.unusedVariables false

set_option maxHeartbeats 1000000 in
theorem walk_big (s : ByteArray) (a1 a2 a3 : Option Addr) (n1 n2 n3 c1 c2 c3 : Nat) (w : World) (h : 100 < s.size) :
    Calls Try.prog 4 #[.string s, .agg #[.slice a1 n1 c1, .slice a2 n2 c2, .slice a3 n3 c3]] w fun e w' => e = .returned (.bool true) ∧ Below w.heap.size w w' := by
  have hb := (Below.refl w.heap.size w).alloc (Nat.le_refl _)
  go_enter Try.func4, Try.ntmps4
  go_wp2
  go_ret
  exact ⟨rfl, hb _⟩

set_option maxHeartbeats 1000000 in
theorem walk_notsmall (s : ByteArray) (aN aS aL : Option Addr) (cN cS cL : Nat) (vs : List Value) (N : List Nat) (S : List ByteArray) (L : List (List Nat)) (w : World) (h : Flds w aN aS aL cN cS cL vs N S L)
    (hN : N.length ≤ 9223372036854775807) (hS : S.length ≤ 9223372036854775807) (hL : L.length ≤ 9223372036854775807) (hs : s.size ≤ 100) (hb : smallB N S L = false) :
    Calls Try.prog 4 #[.string s, .agg #[.slice aN N.length cN, .slice aS S.length cS, .slice aL L.length cL]] w fun e w' => e = .returned (.bool true) ∧ Below w.heap.size w w' := by
  have hb0 := (Below.refl w.heap.size w).alloc (Nat.le_refl _) (.cells #[.slice aN N.length cN, .slice aS S.length cS, .slice aL L.length cL] 29)
  have hsm := small_any aN aS aL cN cS cL vs N S L _ (h.below hb0) hN hS hL
  rw [hb] at hsm
  have HSM := Lib.hid hsm
  clear hsm hb h
  go_enter Try.func4, Try.ntmps4
  go_wp2_with fail
  refine HSM.out.mono ?_
  rintro e w1 ⟨rfl, hb1⟩
  go_wp2
  go_ret
  exact ⟨rfl, hb0.trans (hb1.mono (by simp))⟩

set_option maxHeartbeats 4000000 in
theorem walk_ok (s : ByteArray) (aN aS aL : Option Addr) (cN cS cL : Nat) (vs : List Value) (N : List Nat) (S : List ByteArray) (L : List (List Nat)) (w : World) (h : Flds w aN aS aL cN cS cL vs N S L)
    (hN : N.length ≤ 9223372036854775807) (hS : S.length ≤ 9223372036854775807) (hL : L.length ≤ 9223372036854775807) (hs : s.size ≤ 100) (hb : smallB N S L = true) :
    Calls Try.prog 4 #[.string s, .agg #[.slice aN N.length cN, .slice aS S.length cS, .slice aL L.length cL]] w fun e w' => e = .returned (.bool true) ∧ Below w.heap.size w w' := by
  have hb0 := (Below.refl w.heap.size w).alloc (Nat.le_refl _) (.cells #[.slice aN N.length cN, .slice aS S.length cS, .slice aL L.length cL] 29)
  have hp0 := heap_alloc_new w (.cells #[.slice aN N.length cN, .slice aS S.length cS, .slice aL L.length cL] 29)
  have hsm := small_any aN aS aL cN cS cL vs N S L _ (h.below hb0) hN hS hL
  rw [hb] at hsm
  obtain ⟨⟨bs, k⟩, hw⟩ : ∃ r, r = writeR s.data.toList N S L := ⟨_, rfl⟩
  have HSM := Lib.hid hsm
  have H := Lib.hid h
  have HP := Lib.hid hp0
  have HW := Lib.hid hw
  clear hsm hb h hp0 hw
  go_enter Try.func4, Try.ntmps4
  go_wp2_with fail
  refine HSM.out.mono ?_
  rintro e w1 ⟨rfl, hb1⟩
  have hp1 := (hb1.block w.heap.size (by simp)).trans HP.out
  have hz1 : w.heap.size < w1.heap.size := lt_of_block hp1
  have HP1 := Lib.hid hp1
  have hb01 := hb0.trans (hb1.mono (by simp))
  have g0 := cell_of_row w1 w.heap.size 0 _ _ _ hp1
  have g1 := cell_of_row w1 w.heap.size 1 _ _ _ hp1
  have g2 := cell_of_row w1 w.heap.size 2 _ _ _ hp1
  simp at g0 g1 g2
  clear hp1
  go_wp2_with fail
  refine (fields_any _ _ _ _ _ _ _ _ _ _).mono ?_
  rintro e w2 ⟨rfl, hb2⟩
  have hb02 := hb01.trans (hb2.mono hb01.size)
  have hwc := (H.out.below hb02).write s
  rw [← HW.out] at hwc
  have HWC := Lib.hid hwc
  clear hwc g0 g1 g2
  go_wp2_with fail
  refine HWC.out.mono ?_
  rintro e w3 ⟨v3, rfl, hown3, _, hb3⟩
  have hb03 := hb02.trans (hb3.mono hb02.size)
  have hp3 := (hb3.block w.heap.size (Nat.lt_of_lt_of_le hz1 hb2.size)).trans ((hb2.block w.heap.size hz1).trans HP1.out)
  have g0 := cell_of_row w3 w.heap.size 0 _ _ _ hp3
  have g1 := cell_of_row w3 w.heap.size 1 _ _ _ hp3
  have g2 := cell_of_row w3 w.heap.size 2 _ _ _ hp3
  simp at g0 g1 g2
  have hrc := rwrite_any s N S L vs aN aS aL cN cS cL w3 hs (H.out.below hb03)
  rw [← HW.out] at hrc
  have HRC := Lib.hid hrc
  have HB3 := Lib.hid (Bs.of_own hown3)
  clear hp3 hrc hown3
  go_wp2_with fail
  refine HRC.out.mono ?_
  rintro e w4 ⟨v4, rfl, hown4, _, hb4⟩
  have hb04 := hb03.trans (hb4.mono hb03.size)
  have k3 := conv_bs (HB3.out.below hb4 (Nat.le_refl _))
  have k4 := conv_bs (Bs.of_own hown4)
  obtain ⟨s0, hs0⟩ : ∃ s0 : ByteArray, s0 = ⟨bs.toArray⟩ := ⟨_, rfl⟩
  simp only at k3 k4
  rw [← hs0] at k3 k4
  clear hown4 hs0 g0 g1 g2
  go_wp2_with fail
  refine (awake_any _).mono ?_
  rintro e w5 ⟨rfl, hb5⟩
  go_wp2
  go_ret
  exact ⟨rfl, hb04.trans (hb5.mono hb04.size)⟩

theorem own : ownKnob Try.prog.godebug = none := by kernel_rfl
theorem laidOut : laidOutB Try.prog = true := by kernel_rfl
theorem Try.cells29 : Try.prog.cellsOf 29 = 3 := by kernel_rfl

theorem walk (s : ByteArray) (aN aS aL : Option Addr) (cN cS cL : Nat) (vs : List Value) (N : List Nat) (S : List ByteArray) (L : List (List Nat)) (w : World) (h : Flds w aN aS aL cN cS cL vs N S L)
    (hN : N.length ≤ 9223372036854775807) (hS : S.length ≤ 9223372036854775807) (hL : L.length ≤ 9223372036854775807) (hu : ∀ u ∈ L, ∀ n ∈ u, n < 4294967296) :
    Calls Try.prog 4 #[.string s, .agg #[.slice aN N.length cN, .slice aS S.length cS, .slice aL L.length cL]] w fun e w' => e = .returned (.bool true) ∧ Below w.heap.size w w' := by
  by_cases hs : 100 < s.size
  · exact walk_big s _ _ _ _ _ _ _ _ _ w hs
  · by_cases hb : smallB N S L = true
    · exact walk_ok s aN aS aL cN cS cL vs N S L w h hN hS hL (by omega) hb
    · exact walk_notsmall s aN aS aL cN cS cL vs N S L w h hN hS hL (by omega) (by simpa using hb)

set_option maxRecDepth 100000 in
theorem lifted (os : Os) (started : os.Started) (H : Type) (enc : TypeId × Value → H) :
    ReturnsInHanded {} Try.checked os 4 .any (Rows.fieldWritesSpec.pre6 enc Try.prog Try.f4 Rows.fieldWritesRow.domain false) (Rows.fieldWritesSpec.post enc Try.prog Try.f4 false true false false) := by
  refine returnsInHanded_of_change (C := Try.checked) own started (by kernel_rfl) Try.func4
    (ChangeSpec.witness6 (enc := enc) (C := Try.checked) false ⟨#[], #[.string ByteArray.empty, .agg #[.slice none 0 0, .slice none 0 0, .slice none 0 0]], []⟩ 8 (by kernel_rfl) (by kernel_rfl) (by kernel_rfl) (by kernel_rfl)) ?_
  intro W base args ds gs before hval0 hW hcnd _
  have hval : ∀ (j : Nat) t v, Try.f4.params[j]? = some t → args[j]? = some v → Value.okWide Try.prog W .any base t v := hval0
  have hW' := hW
  obtain ⟨p, q, hA0, hV, rfl, hfz, hnd⟩ := hW
  have hA : DataW.TrodAll enc Try.prog W 0 (fun _ => true) true Try.f4.params.toList args.toList ds p := hA0
  rw [Try.params4] at hA hval
  obtain ⟨v0, vs0, d0, ds0, p0, q0, hargs, rfl, rfl, h0, r0⟩ := trodAll_cons hA
  obtain ⟨v1, vs1, d1, ds1, p1, q1, rfl, rfl, rfl, h1, r1⟩ := trodAll_cons r0
  obtain ⟨rfl, rfl, rfl⟩ := trodAll_nil r1
  obtain rfl : args = #[v0, v1] := by cases args; simp_all
  obtain ⟨rfl, rfl⟩ := trodVars_none hV
  obtain ⟨a0, rfl, rfl, rfl, w0⟩ := open_string Try.underlying9 (hval 0 9 v0 rfl rfl) h0
  have k1 := h1
  have lt1 : ∀ x ∈ p1, x.block < W.heap.size := by obtain ⟨m, hm⟩ := k1; exact DataW.trod_lt m _ _ _ hm
  obtain ⟨z0, z1, z2, y0, y1, y2, m, rfl, hd, hp, f0, f1, f2⟩ := open_agg3 Try.underlying29 (by kernel_rfl) Try.cells29 (hval 1 29 v1 rfl rfl) h1
  obtain ⟨aN, cN, N, rfl, rN, lN, bN, xN⟩ := open_N f0
  obtain ⟨aS, cS, S, rfl, rS, lS, bS⟩ := open_S f1
  obtain ⟨aL, cL, L, vs, rfl, rL, ls, lL, bL, xL⟩ := open_L f2
  clear hA0 hval0
  refine (walk a0 aN aS aL cN cS cL vs N S L W ⟨rN, rS, rL, ls, lN, lS, lL, xN⟩ bN bS bL xL).mono fun e W' ⟨he, bel⟩ => ?_
  subst he
  exact ⟨_, rfl, _, _, _, [], _, [], hW', trodAll_mk1 (shut_bool Try.underlying4 _), (trodAll_cons_mk (shut_string Try.underlying9 w0) (trodAll_cons_mk (Below.trod laidOut (by kernel_rfl) (of_decide_eq_true (by kernel_rfl)) k1 bel lt1) trodAll_mk0)), rfl, bel.frame _, fun h => by cases h⟩

theorem over : Rows.fieldWritesRow.holds Try.pinned (OpenSpec.ofChange Rows.fieldWritesSpec) :=
  OpenClaim.holds_of_wide 4 Try.f4 rfl rfl rfl rfl rfl rfl rfl ⟨rfl, rfl, rfl, rfl, rfl⟩ rfl rfl rfl rfl rfl (by kernel_rfl) Try.func4 (by kernel_rfl)
    (of_decide_eq_true (by kernel_rfl)) (by unfold Func.isWrapper; first | (rw [if_pos (by decide +kernel)]; kernel_rfl) | (rw [if_neg (by decide +kernel)]; exact ⟨rfl, rfl⟩))
    (fun os started H enc _ => lifted os started H enc)

theorem proved : Rows.FieldWritesSaid := over
#print axioms proved
end Go.Proofs.Ytmpfakcjdkggdaa.fieldWrites
