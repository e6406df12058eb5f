/- Verb: VerbNames' walk. -/
import Derived.Test.YtkhhbmbjmfdgdaaDoorV8
import Derived.Deep.QuietTactic
namespace Go.Proofs.YtkhhbmbjmfdgdaaDoor
open Go.RowKit
set_option maxRecDepth 20000

theorem names_full : ∀ i : Fin 199, (entP (i.1 : Int)).1.data.toList.isEmpty = (sideP (i.1 : Int) == 0) ∧ (sideP (i.1 : Int) ≠ 0 → kindR (entP (i.1 : Int)).1 = some i.1) ∧ decide (0 ≤ least (entP (i.1 : Int)).2.data.toList) = true := by decide +kernel
theorem kind_empty : kindR ⟨#[]⟩ = none := by decide +kernel
theorem least_empty : decide (0 ≤ least (⟨#[]⟩ : ByteArray).data.toList) = true := by decide +kernel

theorem shape_right (n : Nat) : decide (0 ≤ least (entP (n : Int)).2.data.toList) = true := by
  by_cases h : n < 199
  · exact (names_full ⟨n, h⟩).2.2
  · rw [ent_out _ (.inr (by omega))]
    exact least_empty
theorem name_kind (n : Nat) (h : sideP (n : Int) ≠ 0) : kindR (entP (n : Int)).1 = some n := by
  by_cases hn : n < 199
  · exact (names_full ⟨n, hn⟩).2.1 h
  · exact absurd (side_out _ (.inr (by omega))) h
theorem name_empty (n : Nat) (h : sideP (n : Int) = 0) : (entP (n : Int)).1 = ⟨#[]⟩ := by
  by_cases hn : n < 199
  · have := (names_full ⟨n, hn⟩).1
    simp only [h] at this
    have h2 : (entP (n : Int)).1.data.toList = [] := by simpa using this
    exact ba_ext (by rw [h2])
  · rw [ent_out _ (.inr (by omega))]
theorem name_full (n : Nat) (h : sideP (n : Int) ≠ 0) : (entP (n : Int)).1.toList ≠ [] := by
  intro e
  have h1 : (entP (n : Int)).1 = ⟨#[]⟩ := ba_ext (by rw [ByteArray.toList_eq] at e; rw [e])
  have h2 := name_kind n h
  rw [h1, kind_empty] at h2
  cases h2
theorem names_one (a b : Nat) (ha : sideP (a : Int) ≠ 0) : ((entP (a : Int)).1.toList == (entP (b : Int)).1.toList) = decide (a = b) := by
  by_cases hab : a = b
  · subst hab
    simp
  · rw [decide_eq_false hab, beq_eq_false_iff_ne]
    intro e
    have h1 : (entP (a : Int)).1 = (entP (b : Int)).1 := by
      rw [ByteArray.toList_eq, ByteArray.toList_eq] at e
      exact ba_ext (by rw [e])
    by_cases hb : sideP (b : Int) = 0
    · rw [name_empty b hb] at h1
      exact name_full a ha (by rw [h1, ByteArray.toList_eq])
    · have h2 := name_kind a ha
      rw [h1, name_kind b hb] at h2
      injection h2 with h2
      exact hab h2.symm

set_option maxHeartbeats 4000000 in
theorem names_walk (a b : Nat) (w : World) (he : Ents w) (ha : a ≤ 255) (hb : b ≤ 255) :
    Calls Tryd.prog 8 #[.int .u8 (a : Int), .int .u8 (b : Int)] w fun e w' => e = .returned (.bool true) ∧ Below w.heap.size w w' := by
  have hna := fun W h => name_any (a : Int) W h (by omega) (by omega)
  have hnb := fun W h => name_any (b : Int) W h (by omega) (by omega)
  have hkd := fun W h => kind_any (entP (a : Int)).1 W h
  have hsh := fun W h => shape_any (a : Int) W h (by omega) (by omega)
  have hri := fun W => right_any (entP (a : Int)).2 W
  have hrb := shape_right a
  unfold KindPost at hkd
  rw [hrb] at hri
  obtain ⟨sh, hsh1⟩ : ∃ sh, sh = (entP (a : Int)).2 := ⟨_, rfl⟩
  rw [← hsh1] at hri
  simp only [← hsh1] at hsh
  have HNB := Lib.hid hnb
  have HRI := Lib.hid hri
  have HE := Lib.hid he
  have HAW := Lib.hid (fun W h => vawake W h)
  by_cases hs : sideP (a : Int) = 0
  · have t : (sideP (a : Int) != 0) = false := by simp [hs]
    rw [name_empty a hs] at hna hkd
    rw [kind_empty] at hkd
    rw [t] at hsh
    obtain ⟨nb, hnb1⟩ : ∃ nb, nb = (entP (b : Int)).1 := ⟨_, rfl⟩
    simp only [← hnb1] at HNB
    have HNA := Lib.hid hna
    have HKD := Lib.hid hkd
    have HSH := Lib.hid hsh
    clear hna hnb hkd hsh hri hrb hsh1 he hs t hnb1
    go_enter Tryd.func8, Tryd.ntmps8
    go_wp2_with fail
    refine (HNA.out _ HE.out).mono ?_
    rintro e w1 ⟨rfl, hb1⟩
    go_wp2_with fail
    refine (HNB.out _ (HE.out.keep hb1)).mono ?_
    rintro e w2 ⟨rfl, hb2⟩
    have hb02 := hb1.trans (hb2.mono hb1.size)
    go_wp2_with fail
    refine (HKD.out _ (HE.out.keep hb02)).mono ?_
    rintro e w3 ⟨rfl, hb3⟩
    have hb03 := hb02.trans (hb3.mono hb02.size)
    go_wp2_with fail
    refine (HSH.out _ (HE.out.keep hb03)).mono ?_
    rintro e w4 ⟨rfl, hb4⟩
    have hb04 := hb03.trans (hb4.mono hb03.size)
    clear hb1 hb2 hb3 hb4 hb02 hb03
    go_wp2_with fail
    refine (HRI.out _).mono ?_
    rintro e w' ⟨rfl, rfl⟩
    go_wp2_with fail
    refine (HAW.out _ (HE.out.keep hb04)).mono ?_
    rintro e w5 ⟨rfl, hb5⟩
    go_wp2
    go_ret
    exact ⟨rfl, hb04.trans (hb5.mono hb04.size)⟩
  · have t : (sideP (a : Int) != 0) = true := by simp [hs]
    rw [name_kind a hs] at hkd
    rw [t] at hsh
    have n1 := name_full a hs
    have n2 := names_one a b hs
    obtain ⟨na, hna1⟩ : ∃ na, na = (entP (a : Int)).1 := ⟨_, rfl⟩
    obtain ⟨nb, hnb1⟩ : ∃ nb, nb = (entP (b : Int)).1 := ⟨_, rfl⟩
    simp only [← hnb1] at HNB
    simp only [← hna1] at hna hkd
    rw [← hna1] at n1
    rw [← hna1, ← hnb1] at n2
    have HNA := Lib.hid hna
    have HKD := Lib.hid hkd
    have HSH := Lib.hid hsh
    have p1 : na.toList.isEmpty = false := by simpa using n1
    have p2 : (na.toList == []) = false := by rw [beq_eq_false_iff_ne]; exact n1
    have p3 : (na.toList != []) = true := by rw [bne_iff_ne]; exact n1
    clear hna hnb hkd hsh hri hrb hsh1 he hs t hnb1 hna1
    by_cases hab : a = b
    all_goals
      first
        | (subst hab; have p4 : (na.toList == nb.toList) = true := n2.trans (decide_eq_true rfl); have p5 : ((a : Int) == (a : Int)) = true := beq_self_eq_true _)
        | (have p4 : (na.toList == nb.toList) = false := n2.trans (decide_eq_false hab); have p5 : ((a : Int) == (b : Int)) = false := (by rw [beq_eq_false_iff_ne]; omega); clear hab)
      clear n2
      go_enter Tryd.func8, Tryd.ntmps8
      go_wp2_with fail
      refine (HNA.out _ HE.out).mono ?_
      rintro e w1 ⟨rfl, hb1⟩
      go_wp2_with fail
      refine (HNB.out _ (HE.out.keep hb1)).mono ?_
      rintro e w2 ⟨rfl, hb2⟩
      have hb02 := hb1.trans (hb2.mono hb1.size)
      go_wp2_with fail
      refine (HKD.out _ (HE.out.keep hb02)).mono ?_
      rintro e w3 ⟨rfl, hb3⟩
      have hb03 := hb02.trans (hb3.mono hb02.size)
      go_wp2_with fail
      refine (HSH.out _ (HE.out.keep hb03)).mono ?_
      rintro e w4 ⟨rfl, hb4⟩
      have hb04 := hb03.trans (hb4.mono hb03.size)
      clear hb1 hb2 hb3 hb4 hb02 hb03
      go_wp2_with fail
      refine (HRI.out _).mono ?_
      rintro e w' ⟨rfl, rfl⟩
      go_wp2_with fail
      refine (HAW.out _ (HE.out.keep hb04)).mono ?_
      rintro e w5 ⟨rfl, hb5⟩
      go_wp2
      go_ret
      exact ⟨rfl, hb04.trans (hb5.mono hb04.size)⟩
end Go.Proofs.YtkhhbmbjmfdgdaaDoor
