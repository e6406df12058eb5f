/- Verb: VerbKinds' and VerbNames' walks. -/
import Derived.Test.YtkhhbmbjmfdgdaaDoorV8
import Derived.Deep.RegionHeld3
namespace Go.Proofs.YtkhhbmbjmfdgdaaDoor
open Go.RowKit
set_option maxRecDepth 20000

set_option maxHeartbeats 4000000 in
theorem kinds_walk (k : Int) (s : ByteArray) (w : World) (he : Ents w) (hk1 : -9223372036854775808 ≤ k) (hk2 : k ≤ 9223372036854775807) (hs : s.size ≤ 9223372036854775807) :
    Calls Tryd.prog 3 #[.int .i64 k, .string s] w fun e w' => e = .returned (.bool true) ∧ Below w.heap.size w w' := by
  by_cases h100 : 100 < s.size
  · clear he
    go_enter Tryd.func3, Tryd.ntmps3
    go_wp2
    go_ret
    exact ⟨rfl, Below.refl _ _⟩
  have hf := find_any k w
  unfold FindPost at hf
  obtain ⟨e1, e2, e3⟩ := find_eq k
  have hn := fun W => named_any s W
  unfold NamedPost at hn
  obtain ⟨n1, n2⟩ := named_kind s
  rw [e1, e2, e3] at hf
  rw [n1, n2] at hn
  have hsh := fun W h => shape_any k W h hk1 hk2
  have hkd := fun W h => kind_any s W h
  unfold KindPost at hkd
  have hnm := fun W h => name_any k W h hk1 hk2
  have hsd := fun W h => side_any k W h hk1 hk2
  have hrs := fun W => rside_any k W
  obtain ⟨nm, hnm1⟩ : ∃ nm, nm = (entP k).1 := ⟨_, rfl⟩
  obtain ⟨sh, hsh1⟩ : ∃ sh, sh = (entP k).2 := ⟨_, rfl⟩
  obtain ⟨b, hb1⟩ : ∃ b, b = (sideP k != 0) := ⟨_, rfl⟩
  obtain ⟨sd, hsd1⟩ : ∃ sd, sd = sideP k := ⟨_, rfl⟩
  obtain ⟨kn, hkn⟩ : ∃ kn : Nat, kn = (kindR s).getD 0 := ⟨_, rfl⟩
  obtain ⟨bn, hbn⟩ : ∃ bn, bn = (kindR s).isSome := ⟨_, rfl⟩
  obtain ⟨kk, hkk⟩ : ∃ kk : Int, kk = (if sideP k != 0 then k else 0) := ⟨_, rfl⟩
  rw [← hkk, ← hnm1, ← hsh1, ← hb1] at hf
  simp only [← hkn, ← hbn] at hn hkd
  simp only [← hsh1, ← hb1] at hsh
  simp only [← hnm1] at hnm
  simp only [← hsd1] at hsd hrs
  have HF := Lib.hid hf
  have HN := Lib.hid hn
  have HSH := Lib.hid hsh
  have HKD := Lib.hid hkd
  have HNM := Lib.hid hnm
  have HSD := Lib.hid hsd
  have HRS := Lib.hid hrs
  have HE := Lib.hid he
  clear hf hn hsh hkd hnm hsd hrs he e1 e2 e3 n1 n2 hnm1 hsh1 hb1 hsd1 hkn hbn hkk
  go_enter Tryd.func3, Tryd.ntmps3
  go_wp2_with fail
  refine HF.out.mono ?_
  rintro e w1 ⟨rfl, hb1⟩
  have hb12 := (Below.refl w1.heap.size w1).alloc (Nat.le_refl _) (.cells #[.int .i64 kk, .string nm, .string sh] 23)
  have hp2 := heap_alloc_new w1 (.cells #[.int .i64 kk, .string nm, .string sh] 23)
  have hb02 := hb1.trans (hb12.mono hb1.size)
  have HP2 := Lib.hid hp2
  clear hp2 hb12
  go_wp2_with fail
  refine (HSH.out _ (HE.out.keep hb02)).mono ?_
  rintro e w3 ⟨rfl, hb3⟩
  have hb03 := hb02.trans (hb3.mono hb02.size)
  have HP3 := Lib.hid ((hb3.block w1.heap.size (by simp)).trans HP2.out)
  go_wp2_with fail
  refine (HKD.out _ (HE.out.keep hb03)).mono ?_
  rintro e w4 ⟨rfl, hb4⟩
  have hb04 := hb03.trans (hb4.mono hb03.size)
  have HP4 := Lib.hid ((hb4.block w1.heap.size (lt_of_block HP3.out)).trans HP3.out)
  go_wp2_with fail
  refine (HN.out _).mono ?_
  rintro e w5 ⟨rfl, hb5⟩
  have hb05 := hb04.trans (hb5.mono hb04.size)
  have HP5 := Lib.hid ((hb5.block w1.heap.size (lt_of_block HP4.out)).trans HP4.out)
  have HEN : Hid (∀ W, Below w5.heap.size w5 W → Ents W) := fun W hW => (HE.out.keep hb05).keep hW
  have HK : Hid (∀ W, Below w5.heap.size w5 W → W.cell? ⟨w1.heap.size, 1, none⟩ = some (.string nm) ∧ W.cell? ⟨w1.heap.size, 2, none⟩ = some (.string sh)) := fun W hW => by
    have e1 := (hW.block w1.heap.size (lt_of_block HP5.out)).trans HP5.out
    exact ⟨cell_of_row W _ 1 _ _ _ e1, cell_of_row W _ 2 _ _ _ e1⟩
  have HD : Hid (Below w5.heap.size w5 w5.drew) := (Below.refl _ _).drew
  have q1 : (nm.toList == nm.toList) = true := beq_self_eq_true _
  have q2 : (sh.toList == sh.toList) = true := beq_self_eq_true _
  clear hb1 hb02 hb3 hb03 hb4 hb04 hb5 HP2 HP3 HP4 HP5 HF HN HSH HKD HE
  go_wp2_with fail
  go_region_held3 (fun W => W.cell? ⟨w1.heap.size, 1, none⟩ = some (.string nm) ∧ W.cell? ⟨w1.heap.size, 2, none⟩ = some (.string sh))
    (first | exact HK.out _ hc9 | exact HK.out _ hc8 | exact HK.out _ hc7 | exact HK.out _ hc6 | exact HK.out _ HD.out | go_keep)
    (first
      | (go_at_call 14; refine (HNM.out w5.drew (HEN.out _ HD.out)).mono ?_; rintro e w6 ⟨rfl, hb6⟩; have hc6 := HD.out.trans hb6)
      | (go_at_call 15; refine (HSD.out w6 (HEN.out _ hc6)).mono ?_; rintro e w7 ⟨rfl, hb7⟩; have hc7 := hc6.trans (hb7.mono hc6.size))
      | (go_at_call 16; refine (HRS.out w7).mono ?_; rintro e w8 ⟨rfl, hb8⟩; have hc8 := hc7.trans (hb8.mono hc7.size))
      | (go_at_call 17; refine (vawake w8 (HEN.out _ hc8)).mono ?_; rintro e w9 ⟨rfl, hb9⟩; have hc9 := hc8.trans (hb9.mono hc8.size))
      | fail)
  go_wp2
  go_ret
  exact ⟨rfl, hb05.trans (hc9.mono hb05.size)⟩
end Go.Proofs.YtkhhbmbjmfdgdaaDoor
