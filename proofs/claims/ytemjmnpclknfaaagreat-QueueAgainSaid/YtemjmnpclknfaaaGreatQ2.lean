/- Ready: lists of numbers in memory: read, looked for, cloned, with one more. -/
import Derived.Test.YtemjmnpclknfaaaGreatP9
import Derived.Maps.AppendAt
namespace Go.Proofs.YtemjmnpclknfaaaGreat.P
open Go.RowKit
set_option maxRecDepth 20000
set_option linter.unusedVariables false
set_option linter.unusedSimpArgs false

def Rn (w : World) (A : Option Addr) (l : List Nat) : Prop := 0 < l.length → ∃ b o, A = some ⟨b, o, none⟩ ∧ b < w.heap.size ∧ At32 w b o l
theorem Rn.after {w w' : World} {A : Option Addr} {l : List Nat} (h : Rn w A l) (hb : Below w.heap.size w w') : Rn w' A l := fun hl => by
  obtain ⟨b, o, h1, h2, h3⟩ := h hl
  exact ⟨b, o, h1, Nat.lt_of_lt_of_le h2 hb.size, fun j x hj => (hb.cell (p := ⟨b, _, none⟩) h2).trans (h3 j x hj)⟩
theorem Rn.news {w : World} {a : Addr} {l : List Nat} (h : Rn w (some a) l) (j : Nat) (u : Value) (hu : (un l)[j]? = some u) : w.cell? (a.add j) = some u := by
  unfold un at hu
  rw [List.getElem?_map] at hu
  obtain ⟨x, hx, rfl⟩ := Option.map_eq_some_iff.1 hu
  obtain ⟨b, o, e, _, h3⟩ := h (Nat.lt_of_le_of_lt (Nat.zero_le j) (List.getElem?_eq_some_iff.1 hx).1)
  injection e with e
  subst e
  rw [Go.WideShapes.add_plain]
  exact h3 j x hx
theorem Rn.of_own {w : World} {base n c : Nat} {A : Option Addr} {l : List Nat} (h : w.ownsRow base 33 1 (.slice A n c) n (un l)) : n = l.length ∧ Rn w A l := by
  have hn : n = l.length := by have := h.1; simp [un] at this; omega
  subst hn
  refine ⟨rfl, fun hl => ?_⟩
  obtain ⟨A', c', e, h2⟩ := S32.of_own h
  injection e with e1 _ _
  subst e1
  exact h2 hl

theorem index_any (A : Option Addr) (n c : Nat) (l : List Nat) (p : Nat) (w : World) (hn : n = l.length) (hE : Rn w A l) (hl : n ≤ 1000) :
    Calls Tryz.prog 64 #[.slice A n c, .int .u32 (p : Int)] w fun r w' => (∃ i : Int, r = .returned (.int .i64 i) ∧ ((i = -1 ∧ p ∉ l) ∨ (0 ≤ i ∧ p ∈ l))) ∧ Below w.heap.size w w' := by
  have HE := Lib.hid hE
  have HN := Lib.hid hn
  have HBr : Hid (Below w.heap.size w w) := Below.refl _ _
  clear hE hn
  go_enter Tryz.func64, Tryz.ntmps64
  go_wp2_with fail
  go_loopw [8] (fun u wr => ∃ k : Nat, k ≤ n ∧ u = .int .i64 (k : Int) ∧ Hid ((p ∉ l.take k) ∧ Below w.heap.size w wr)) (fun u _ => n - (intOf u).toNat)
  case atStart => exact ⟨0, by omega, rfl, by simp, HBr.out⟩
  case round =>
    obtain ⟨k, hk, rfl, HV⟩ := hrel
    by_cases hlt : k < n
    · obtain ⟨e, hy⟩ : ∃ e, l[k]? = some e := ⟨l[k]'(by rw [← HN.out]; exact hlt), List.getElem?_eq_getElem _⟩
      obtain ⟨b1, o1, rfl, hb1, ha1⟩ := (HE.out) (by have := HN.out; omega)
      have d0 := (HV.out.2.cell (p := ⟨b1, _, none⟩) hb1).trans (ha1 k _ hy)
      have HY := Lib.hid hy
      clear ha1 hy hb1
      by_cases hpe : p = e
      · subst hpe
        have HM : Hid (p ∈ l) := List.mem_of_getElem? HY.out
        go_wp2
        go_ret
        exact ⟨⟨(k : Int), rfl, .inr ⟨by omega, HM.out⟩⟩, HV.out.2⟩
      · have hpe' : ¬((p : Int) = (e : Int)) := by omega
        have HNM : Hid (p ∉ l.take (k + 1)) := by
          simp only [Hid]
          rw [List.take_add_one, HY.out]
          intro h
          rcases List.mem_append.1 h with h | h
          · exact HV.out.1 h
          · simp at h
            exact hpe h
        clear hpe
        go_wp2
        go_roundw
        case rel => exact ⟨k + 1, by omega, by go_num, HNM.out, HV.out.2⟩
        case measure => simp [intOf] <;> omega
    · have hkn : k = n := by omega
      subst hkn
      have HA : Hid (p ∉ l) := by
        have h := HV.out.1
        rw [List.take_of_length_le (by rw [← HN.out]; omega)] at h
        exact h
      go_wp2
      go_ret
      exact ⟨⟨-1, rfl, .inl ⟨rfl, HA.out⟩⟩, HV.out.2⟩
theorem contains_any (A : Option Addr) (n c : Nat) (l : List Nat) (p : Nat) (w : World) (hn : n = l.length) (hE : Rn w A l) (hl : n ≤ 1000) :
    Calls Tryz.prog 42 #[.slice A n c, .int .u32 (p : Int)] w fun r w' => r = .returned (.bool (decide (p ∈ l))) ∧ Below w.heap.size w w' := by
  obtain ⟨t, ht⟩ : ∃ t, t = decide (p ∈ l) := ⟨_, rfl⟩
  have HC := Lib.hid (index_any A n c l p w hn hE hl)
  have HT := Lib.hid ht
  rw [← ht]
  clear ht hE hn
  go_enter Tryz.func42, Tryz.ntmps42
  go_wp2_with fail
  refine HC.out.mono ?_
  rintro r w1 ⟨⟨i, rfl, hi⟩, hb⟩
  have HB := Lib.hid hb
  clear hb
  rcases hi with ⟨rfl, hm⟩ | ⟨h0, hm⟩
  · have e : t = false := by rw [HT.out]; simpa using hm
    subst e
    clear hm
    go_wp2
    go_ret
    exact ⟨rfl, HB.out⟩
  · have e : t = true := by rw [HT.out]; simpa using hm
    subst e
    clear hm
    go_wp2
    go_ret
    exact ⟨by simp <;> omega, HB.out⟩
theorem app_rn (w : World) (base ty m : Nat) (v : Value) (xs : List Value) (hown : w.ownsRow base 33 1 v m xs) (A : Option Addr) (n c : Nat) (l : List Nat) (hn : n = l.length) (hR : Rn w A l) (hm : m + n ≤ 2000) (hbase : base ≤ w.heap.size) :
    ∃ v' w', (Builtin.append_ #[34, 34] ty #[v, .slice A n c]).run Tryz.prog w = .ok v' w' ∧ w'.ownsRow base 33 1 v' (m + n) (xs ++ un l) ∧ w.grownBy w' v.ownBlock := by
  obtain ⟨i0, hi0, hz0, hz1, hz2⟩ := info_parts info26
  cases A with
  | none =>
    have h0 : l = [] := by
      cases l with
      | nil => rfl
      | cons x l => obtain ⟨b, o, e, _⟩ := hR (by simp); cases e
    subst h0
    have hn0 : n = 0 := hn
    subst hn0
    refine ⟨v, w, ?_, ?_, World.grownBy.refl w _⟩
    · rcases hown.2 with ⟨rfl, h0⟩ | ⟨g, cap, cur, rfl, hbg, hh, hnc, hcm, hcs, ht⟩
      · simp [Builtin.append_, run_underlying Tryz.underlying34, sizeOf, typeInfo, zeroValue, hi0, hz0, Builtin.lenOf, Question.forced, run_firstCells_none, storeCells]
      · simp [Builtin.append_, run_underlying Tryz.underlying34, sizeOf, typeInfo, zeroValue, hi0, hz0, Builtin.lenOf, Question.forced, run_firstCells_none, storeCells, hnc]
    · simpa [un] using hown
  | some a =>
    obtain ⟨v', w', h1, h2, h3, _⟩ := run_append_own (P := Tryz.prog) w base 34 ty 33 i0 _ 1 4 Tryz.underlying34 hi0 hz0 hz1 hz2 rfl (by decide) v m xs hown a n c (un l) (by simp [un]; omega) (fun j u hu => hR.news j u hu) (un_one l) (by unfold maxLen; omega) (by omega) hbase
    exact ⟨v', w', h1, h2, h3⟩
theorem un_snoc (l : List Nat) (x : Nat) : un (l ++ [x]) = un l ++ [.int .u32 (x : Int)] := by simp [un]
end Go.Proofs.YtemjmnpclknfaaaGreat.P
