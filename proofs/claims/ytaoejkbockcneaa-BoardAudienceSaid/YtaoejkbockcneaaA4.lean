/- Board: Audience. -/
import Derived.Test.YtaoejkbockcneaaA3
namespace Go.Proofs.Ytaoejkbockcneaa
open Go.RowKit
set_option maxRecDepth 20000
set_option linter.unusedVariables false
set_option linter.unusedSimpArgs false

/-- Numbers that came in. -/
def On (w : World) (B : Nat) (A : Option Addr) (xs : List Nat) : Prop := 0 < xs.length → ∃ b o, A = some ⟨b, o, none⟩ ∧ b < B ∧ ∀ (i x : Nat), xs[i]? = some x → w.cell? ⟨b, o + i, none⟩ = some (.int .u32 (x : Int))
/-- What Sort is asked. -/
def SortU : Prop := ∀ (B : Nat) (v : Value) (l : List Nat) (W : World), W.ownsRow B 26 1 v l.length (un l) → l.length < 1000 → Calls Try.prog 62 #[v] W fun r w' => r = .returned (.tuple #[]) ∧ (∃ l', w'.ownsRow B 26 1 v l'.length (un l') ∧ l'.Pairwise (· ≤ ·) ∧ l'.Perm l) ∧ Below B W w'
def aud (areP : Nat → Bool) (xs : List Nat) : List Nat := xs.filter areP
set_option maxHeartbeats 4000000 in
theorem audience_any (HSU : Hid SortU) (gv : Value) (p : Nat) (areP : Nat → Bool) (A : Option Addr) (n c : Nat) (xs : List Nat) (w : World) (hn : n = xs.length) (hA : On w w.heap.size A xs) (hl : n ≤ 200)
    (hare : ∀ W, Below w.heap.size w W → ∀ x ∈ xs, Calls Try.prog 41 #[gv, .int .u32 (p : Int), .int .u32 (x : Int)] W fun r w' => r = .returned (.bool (areP x)) ∧ w' = W) :
    Calls Try.prog 43 #[gv, .int .u32 (p : Int), .slice A n c] w fun r w' => ∃ v zs, r = .returned v ∧ w'.ownsRow w.heap.size 26 1 v zs.length (un zs) ∧ zs.Pairwise (· < ·) ∧ (∀ y, y ∈ zs ↔ y ∈ xs ∧ areP y = true) ∧ Below w.heap.size w w' := by
  have HA := Lib.hid hA
  have HN := Lib.hid hn
  have HARE := Lib.hid hare
  clear hA hn hare
  go_enter Try.func43, Try.ntmps43
  go_wp2_with fail
  go_loopw [7, 12] (fun v i wr => ∃ k : Nat, k ≤ n ∧ i = .int .i64 (k : Int) ∧ Hid (wr.ownsRow w.heap.size 26 1 v (aud areP (xs.take k)).length (un (aud areP (xs.take k)))) ∧ Hid (Below w.heap.size w wr)) (fun _ i _ => n - (intOf i).toNat)
  case atStart => exact ⟨0, by omega, rfl, World.ownsRow_nil w _ 26 1, Below.refl _ _⟩
  case round =>
    obtain ⟨k, hk, rfl, HO, HB⟩ := hrel
    obtain ⟨A7, c7, rfl⟩ := own_form1 HO.out
    by_cases hlt : k < n
    · obtain ⟨x, hx⟩ : ∃ x, xs[k]? = some x := ⟨xs[k]'(by rw [← HN.out]; exact hlt), List.getElem?_eq_getElem _⟩
      obtain ⟨b, o, rfl, hb, hc⟩ := HA.out (by have := HN.out; omega)
      have d0 := (HB.out.cell (p := ⟨b, _, none⟩) hb).trans (hc k x hx)
      have HC := Lib.hid (HARE.out _ HB.out x (List.mem_of_getElem? hx))
      have HTK : Hid (aud areP (xs.take (k + 1)) = aud areP (xs.take k) ++ (if areP x then [x] else [])) := by
        simp only [Hid, aud]
        rw [List.take_add_one, hx, List.filter_append]
        cases h : areP x <;> simp [h]
      have HL : Hid ((aud areP (xs.take k)).length ≤ 200) := by
        have h1 : (aud areP (xs.take k)).length ≤ (xs.take k).length := List.length_filter_le _ _
        have h2 : (xs.take k).length ≤ k := by rw [List.length_take]; omega
        simp only [Hid]
        omega
      obtain ⟨m, hm⟩ : ∃ m, m = (aud areP (xs.take k)).length := ⟨_, rfl⟩
      rw [← hm] at HO HL ⊢
      have hm2 : m ≤ 200 := HL.out
      have HS : Hid (w.heap.size ≤ wr.heap.size) := HB.out.size
      have HMM := Lib.hid hm
      clear hx hc hm
      cases hq : areP x with
      | false =>
        rw [hq] at HC HTK
        have HTF : Hid (aud areP (xs.take (k + 1)) = aud areP (xs.take k)) := by simp only [Hid]; have := HTK.out; simpa using this
        clear hq
        go_wp2_with fail
        refine HC.out.mono ?_
        rintro r w' ⟨rfl, hw⟩
        have hw := hw.symm
        subst hw
        go_wp2_with fail
        go_roundw
        case rel => exact ⟨k + 1, by omega, by go_num, by rw [HTF.out, ← HMM.out]; exact HO.out, HB.out⟩
        case measure => simp [intOf] <;> omega
      | true =>
        rw [hq] at HC HTK
        have HTT : Hid (aud areP (xs.take (k + 1)) = aud areP (xs.take k) ++ [x]) := by simp only [Hid]; have := HTK.out; simpa using this
        clear hq
        go_wp2_with fail
        refine HC.out.mono ?_
        rintro r w' ⟨rfl, hw⟩
        have hw := hw.symm
        subst hw
        go_wp2_with (at_builtin; refine wpList_append_u32 rfl _ _ rfl w.heap.size wr.heap.size (.slice A7 m c7) m _ x rfl rfl (HO.out.alloc _) (heap_alloc_new _ _) (by omega) (by have := HS.out; simp; omega) ?_; intro v7 w7 hown7 hg7; obtain ⟨A8, c8, rfl⟩ := own_form1 hown7; have HO7 := Lib.hid hown7; have HB7 : Hid (Below w.heap.size w w7) := (HB.out.alloc HS.out _).grown hg7 (by have := HS.out; simp; omega) (fun g h => (ownlt HO.out g h).1); clear hown7 hg7)
        go_roundw
        case rel => exact ⟨k + 1, by omega, by go_num, by rw [HTT.out, un_snoc, List.length_append, ← HMM.out]; exact HO7.out, HB7.out⟩
        case measure => simp [intOf] <;> omega
    · obtain rfl : k = n := by omega
      have HOF : Hid (wr.ownsRow w.heap.size 26 1 (.slice A7 (aud areP xs).length c7) (aud areP xs).length (un (aud areP xs))) := by
        have h := HO.out
        rw [List.take_of_length_le (by rw [← HN.out]; exact Nat.le_refl _)] at h
        exact h
      obtain ⟨m, hm⟩ : ∃ m, m = (aud areP (xs.take k)).length := ⟨_, rfl⟩
      have hme : m = (aud areP xs).length := by rw [hm, List.take_of_length_le (by rw [← HN.out]; exact Nat.le_refl _)]
      rw [← hm]
      have HSC := Lib.hid (HSU.out w.heap.size _ (aud areP xs) wr HOF.out (by have h1 : (aud areP xs).length ≤ xs.length := List.length_filter_le _ _; have := HN.out; omega))
      rw [← hme] at HSC
      clear hm hme
      go_wp2_with fail
      refine HSC.out.mono ?_
      rintro r w5 ⟨rfl, ⟨l', ho, hs, hp⟩, hb⟩
      have HCC := Lib.hid (comp_own w.heap.size _ l' w5 ho hs)
      have HB5 : Hid (Below w.heap.size w w5) := HB.out.trans hb
      have HPM := Lib.hid hp
      clear ho hs hp hb
      go_wp2_with fail
      refine HCC.out.mono ?_
      rintro r w6 ⟨v', zs, rfl, ho, h1, h2, hb⟩
      have HFIN : Hid (w6.ownsRow w.heap.size 26 1 v' zs.length (un zs) ∧ zs.Pairwise (· < ·) ∧ (∀ y, y ∈ zs ↔ y ∈ xs ∧ areP y = true) ∧ Below w.heap.size w w6) := ⟨ho, h1, fun y => by rw [h2 y, HPM.out.mem_iff]; unfold aud; rw [List.mem_filter], HB5.out.trans hb⟩
      clear ho h1 h2 hb
      go_wp2
      go_ret
      exact ⟨_, _, rfl, HFIN.out⟩
end Go.Proofs.Ytaoejkbockcneaa
