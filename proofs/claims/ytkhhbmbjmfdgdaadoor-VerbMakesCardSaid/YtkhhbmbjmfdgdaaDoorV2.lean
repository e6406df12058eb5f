/- Verb: a kind's name, shape and side; the kind of a name. -/
import Derived.Test.YtkhhbmbjmfdgdaaDoorV1
namespace Go.Proofs.YtkhhbmbjmfdgdaaDoor
open Go.RowKit

set_option maxHeartbeats 1000000 in
theorem name_any (k : Int) (w : World) (he : Ents w) (hk1 : -9223372036854775808 ≤ k) (hk2 : k ≤ 9223372036854775807) :
    Calls Tryd.prog 14 #[.int .i64 k] w fun e w' => e = .returned (.string (entP k).1) ∧ Below w.heap.size w w' := by
  have h := look_any k w he hk1 hk2
  obtain ⟨nm, hnm⟩ : ∃ nm, nm = (entP k).1 := ⟨_, rfl⟩
  rw [← hnm] at h ⊢
  have H := Lib.hid h
  clear h hnm
  go_enter Tryd.func14, Tryd.ntmps14
  go_wp2_with fail
  refine H.out.mono ?_
  rintro e w1 ⟨rfl, hb1⟩
  go_wp2
  go_ret
  exact ⟨rfl, hb1.alloc hb1.size _⟩

set_option maxHeartbeats 1000000 in
theorem shape_any (k : Int) (w : World) (he : Ents w) (hk1 : -9223372036854775808 ≤ k) (hk2 : k ≤ 9223372036854775807) :
    Calls Tryd.prog 11 #[.int .i64 k] w fun e w' => e = .returned (.tuple #[.string (entP k).2, .bool (sideP k != 0)]) ∧ Below w.heap.size w w' := by
  have h := look_any k w he hk1 hk2
  obtain ⟨sh, hsh⟩ : ∃ sh, sh = (entP k).2 := ⟨_, rfl⟩
  obtain ⟨sd, hsd⟩ : ∃ sd, sd = sideP k := ⟨_, rfl⟩
  rw [← hsd] at h ⊢
  rw [← hsh] at h ⊢
  obtain ⟨b, hb⟩ : ∃ b, (sd != 0) = b := ⟨_, rfl⟩
  rw [hb]
  have H := Lib.hid h
  clear h hsd hsh
  go_enter Tryd.func11, Tryd.ntmps11
  go_wp2_with fail
  refine H.out.mono ?_
  rintro e w1 ⟨rfl, hb1⟩
  go_wp2
  go_ret2
  exact ⟨rfl, hb1.alloc hb1.size _⟩

set_option maxHeartbeats 1000000 in
theorem side_any (k : Int) (w : World) (he : Ents w) (hk1 : -9223372036854775808 ≤ k) (hk2 : k ≤ 9223372036854775807) :
    Calls Tryd.prog 15 #[.int .i64 k] w fun e w' => e = .returned (.int .i64 (sideP k)) ∧ Below w.heap.size w w' := by
  have h := look_any k w he hk1 hk2
  obtain ⟨sd, hsd⟩ : ∃ sd, sd = sideP k := ⟨_, rfl⟩
  rw [← hsd] at h ⊢
  have H := Lib.hid h
  clear h hsd
  go_enter Tryd.func15, Tryd.ntmps15
  go_wp2_with fail
  refine H.out.mono ?_
  rintro e w1 ⟨rfl, hb1⟩
  go_wp2
  go_ret
  exact ⟨rfl, hb1.alloc hb1.size _⟩

/-- Is a number a kind of this name? -/
def isK (s : ByteArray) (j : Nat) : Bool := sideP j != 0 && (entP j).1.toList == s.toList
/-- The kind of a name. -/
def kindR (s : ByteArray) : Option Nat := (List.range' 1 198).find? (isK s)

theorem kind_found {s : ByteArray} {j : Nat} (h1 : 1 ≤ j) (h2 : j ≤ 198) (hno : ∀ i, 1 ≤ i → i < j → isK s i = false) (hj : isK s j = true) : kindR s = some j := by
  unfold kindR
  rw [List.find?_range'_eq_some]
  exact ⟨hj, by rw [List.mem_range'_1]; omega, fun i h3 h4 => by rw [hno i h3 h4]; rfl⟩

theorem kind_none {s : ByteArray} (hno : ∀ i, 1 ≤ i → i < 199 → isK s i = false) : kindR s = none := by
  unfold kindR
  rw [List.find?_range'_eq_none]
  exact fun i h3 h4 => by rw [hno i h3 (by omega)]; rfl

def KindPost (w : World) (r : Option Nat) (e : Ending) (w' : World) : Prop := e = .returned (.tuple #[.int .i64 ((r.getD 0 : Nat) : Int), .bool r.isSome]) ∧ Below w.heap.size w w'

set_option maxHeartbeats 2000000 in
theorem kind_any (s : ByteArray) (w : World) (he : Ents w) :
    Calls Tryd.prog 12 #[.string s] w (KindPost w (kindR s)) := by
  have HE := Lib.hid he
  have hz := he.1
  obtain ⟨r, hr⟩ : ∃ r, r = kindR s := ⟨_, rfl⟩
  rw [← hr]
  have HR := Lib.hid hr
  clear he hr
  go_enter Tryd.func12, Tryd.ntmps12
  go_wp2_with fail
  go_loopw [4] (fun i wr => ∃ j : Nat, 1 ≤ j ∧ j ≤ 199 ∧ i = .int .i64 j ∧ Hid (∀ i, 1 ≤ i → i < j → isK s i = false) ∧ Hid (Below w.heap.size w wr)) (fun i _ => 199 - (intOf i).toNat)
  case atStart => exact ⟨1, by omega, by omega, rfl, fun i h1 h2 => by omega, Below.refl _ _⟩
  case round =>
    obtain ⟨j, hj1, hj2, rfl, hno, hb⟩ := hrel
    by_cases hj : j ≤ 198
    · have hl := look_any (j : Int) wr (HE.out.below hb.out hz) (by omega) (by omega)
      obtain ⟨nm, hnm⟩ : ∃ nm, nm = (entP (j : Int)).1 := ⟨_, rfl⟩
      obtain ⟨sd, hsd⟩ : ∃ sd, sd = sideP (j : Int) := ⟨_, rfl⟩
      have hk : isK s j = (sd != 0 && nm.toList == s.toList) := by rw [hsd, hnm]; rfl
      rw [← hnm, ← hsd] at hl
      have HK := Lib.hid hk
      have HL := Lib.hid hl
      clear hk hl hnm hsd
      by_cases h1 : sd = 0
      · have t1 : (sd != 0) = false := by simp [h1]
        have HN : Hid (∀ i, 1 ≤ i → i < j + 1 → isK s i = false) := fun i h2 h3 => by
          rcases Nat.lt_or_ge i j with h4 | h4
          · exact hno.out i h2 h4
          · obtain rfl : i = j := by omega
            rw [HK.out, t1]
            rfl
        clear h1 hno
        go_wp2_with fail
        refine HL.out.mono ?_
        rintro e w1 ⟨rfl, hb1⟩
        have HB := Lib.hid ((hb.out.trans (hb1.mono hb.out.size)).alloc (Nat.le_trans hb.out.size hb1.size) (.cells #[.string nm, .string (entP (j : Int)).2] 72))
        clear hb1
        go_wp2
        go_roundw
        case rel => exact ⟨j + 1, by omega, by omega, by go_num, HN, HB⟩
        case measure => simp [intOf] <;> omega
      · have t1 : (sd != 0) = true := by simp [h1]
        rcases hq : (nm.toList == s.toList) with _ | _
        · have HN : Hid (∀ i, 1 ≤ i → i < j + 1 → isK s i = false) := fun i h2 h3 => by
            rcases Nat.lt_or_ge i j with h4 | h4
            · exact hno.out i h2 h4
            · obtain rfl : i = j := by omega
              rw [HK.out, hq]
              simp
          clear h1 hno
          go_wp2_with fail
          refine HL.out.mono ?_
          rintro e w1 ⟨rfl, hb1⟩
          have HB := Lib.hid ((hb.out.trans (hb1.mono hb.out.size)).alloc (Nat.le_trans hb.out.size hb1.size) (.cells #[.string nm, .string (entP (j : Int)).2] 72))
          clear hb1
          go_wp2
          go_roundw
          case rel => exact ⟨j + 1, by omega, by omega, by go_num, HN, HB⟩
          case measure => simp [intOf] <;> omega
        · have HF := Lib.hid (kind_found hj1 hj hno.out (by rw [HK.out, t1, hq]; rfl))
          clear h1 hno
          go_wp2_with fail
          refine HL.out.mono ?_
          rintro e w1 ⟨rfl, hb1⟩
          have HB := Lib.hid ((hb.out.trans (hb1.mono hb.out.size)).alloc (Nat.le_trans hb.out.size hb1.size) (.cells #[.string nm, .string (entP (j : Int)).2] 72))
          clear hb1
          go_wp2
          go_ret2
          exact ⟨by rw [HR.out, HF.out]; rfl, HB.out⟩
    · have HF := Lib.hid (kind_none (fun i h1 h2 => hno.out i h1 (by omega)))
      go_wp2
      go_ret2
      exact ⟨by rw [HR.out, HF.out]; rfl, hb.out⟩
end Go.Proofs.YtkhhbmbjmfdgdaaDoor
