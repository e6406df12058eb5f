/- Draft: a match is legal, plain. -/
import Derived.Test.YtnloikdfbdpilaaDR
namespace Go.Proofs.Ytnloikdfbdpilaa
open Go.RowKit
set_option maxRecDepth 20000
set_option linter.unusedVariables false

theorem sel_perm {α : Type} (f : Nat → Bool) (l : List α) : (sel f l ++ sel (fun i => !f i) l).Perm l := by
  induction l generalizing f with
  | nil => exact List.Perm.refl _
  | cons a l ih =>
    have h := ih (fun i => f (i + 1))
    rw [sel_cons, sel_cons]
    cases hf : f 0
    · simp only [Bool.false_eq_true, if_false, Bool.not_false, if_true]
      exact (List.perm_middle).trans (h.cons a)
    · simp only [Bool.false_eq_true, if_false, Bool.not_true, if_true, List.cons_append]
      exact h.cons a
/-- Two that are apart in place, and near in rating. -/
def NrS (a b : En) : Prop := a.p ≠ b.p ∧ dist a.r b.r ≤ min a.v b.v
theorem dist_comm (a b : Int) : dist a b = dist b a := by unfold dist; omega
theorem NrS.symm {a b : En} (h : NrS a b) : NrS b a := ⟨fun e => h.1 e.symm, by rw [dist_comm]; have := h.2; omega⟩
/-- What a match of the list is. -/
structure Legal (m : Mo) (now : Int) (l : List Tk) (a b : List En) : Prop where
  ents : ∀ e ∈ a ++ b, ∃ (i : Nat) (t : Tk), l[i]? = some t ∧ e = entP m now i t
  near : (a ++ b).Pairwise NrS
  upA : a.Pairwise fun x y => x.p < y.p
  upB : b.Pairwise fun x y => x.p < y.p
  sumA : sumN a = m.k
  sumB : sumN b = m.k
  len : (a ++ b).length ≤ 16
  first : ∃ e a' f b', a = e :: a' ∧ b = f :: b' ∧ e.p < f.p
theorem legal_facts {m : Mo} {now : Int} {l : List Tk} {A B : List Int} (h : findP m now l = some (A, B)) : ∃ a b, Legal m now l a b ∧ A = a.map (·.p) ∧ B = b.map (·.p) := by
  obtain ⟨hw, hl, s, _, hs, hg, hp⟩ := find_get h
  obtain ⟨way, hwy, hgw, rfl, rfl⟩ := part_get hp
  obtain ⟨h1, h2, h3⟩ := good_full hgw
  have hperm := sel_perm (bitA way s.length) s
  rw [← sA_sel, ← sB_sel] at hperm
  have hups : s.Pairwise fun x y => x.p < y.p := (ents_up m now l).sublist hs
  have hk : 1 ≤ m.k := by
    have he : m.wr.isEmpty = true := by rw [hw]; rfl
    have hb := wrongM_bounds he
    omega
  refine ⟨_, _, ⟨?_, ?_, ?_, ?_, h1, h2, ?_, ?_⟩, rfl, rfl⟩
  · intro e he
    exact ents_mem (hs.subset (hperm.mem_iff.1 he))
  · refine (List.Perm.pairwise_iff (fun h => NrS.symm h) hperm).2 ?_
    have h4 : s.Pairwise fun a b => Nr a b ∧ a.p < b.p := hg.1.and hups
    refine h4.imp fun {a b} hab => ?_
    obtain ⟨h5, h6⟩ := hab
    unfold Nr at h5
    exact ⟨by omega, by rw [dist_comm]; omega⟩
  · rw [sA_sel]; exact hups.sublist (sel_sub _ _)
  · rw [sB_sel]; exact hups.sublist (sel_sub _ _)
  · rw [hperm.length_eq]
    have := hs.length_le
    rw [entsP_len] at this
    omega
  · cases s with
    | nil => exact absurd hwy (Nat.not_lt_zero _)
    | cons e s =>
      obtain ⟨s', hs'⟩ := head_A (k := m.k) hwy
      have hb0 : bitA way (e :: s).length 0 = true := by
        by_cases hb : bitA way (e :: s).length 0 = true
        · exact hb
        · rw [sA_sel, sel_cons, if_neg hb] at hs'
          have hmem : e ∈ sel (fun i => bitA way (e :: s).length (i + 1)) s := by rw [hs']; exact List.mem_cons_self ..
          have := (List.pairwise_cons.1 hups).1 e ((sel_sub _ _).subset hmem)
          omega
      have hsB : sB way (e :: s).length (e :: s) = sel (fun i => !bitA way (e :: s).length (i + 1)) s := by
        rw [sB_sel, sel_cons, hb0]; rfl
      cases hB : sB way (e :: s).length (e :: s) with
      | nil => rw [hB] at h2; simp [sumN] at h2; omega
      | cons f b' =>
        refine ⟨e, s', f, b', hs', rfl, ?_⟩
        have hmem : f ∈ sel (fun i => !bitA way (e :: s).length (i + 1)) s := by rw [← hsB, hB]; exact List.mem_cons_self ..
        exact (List.pairwise_cons.1 hups).1 f ((sel_sub _ _).subset hmem)

end Go.Proofs.Ytnloikdfbdpilaa
