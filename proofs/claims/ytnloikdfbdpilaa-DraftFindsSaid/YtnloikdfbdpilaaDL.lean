/- Draft: the plain side: the first match is there when some tickets make one, and stands first. -/
import Derived.Test.YtnloikdfbdpilaaDF
namespace Go.Proofs.Ytnloikdfbdpilaa
open Go.RowKit
set_option maxRecDepth 20000
set_option linter.unusedVariables false

/-- Do entries fit and make two teams? -/
def Good (k : Int) (s : List En) : Prop := Fit s ∧ (partP k s).isSome = true

/-- Those of a list at places that a test lets through, and the others. -/
def sel {α : Type} (f : Nat → Bool) (l : List α) : List α := (l.zipIdx.filter fun x => f x.2).map (·.1)
theorem sel_nil {α : Type} (f : Nat → Bool) : sel f ([] : List α) = [] := rfl
theorem zip_shift {α : Type} (f : Nat → Bool) (l : List α) (j : Nat) : ((l.zipIdx (j + 1)).filter fun x => f x.2).map (·.1) = ((l.zipIdx j).filter fun x => f (x.2 + 1)).map (·.1) := by
  induction l generalizing j with
  | nil => rfl
  | cons a l ih =>
    simp only [List.zipIdx_cons, List.filter_cons]
    have := ih (j + 1)
    by_cases h : f (j + 1) = true
    · simp only [h, if_true, List.map_cons, this]
    · simp only [h, Bool.false_eq_true, if_false, this]
theorem sel_cons {α : Type} (f : Nat → Bool) (a : α) (l : List α) : sel f (a :: l) = if f 0 then a :: sel (fun i => f (i + 1)) l else sel (fun i => f (i + 1)) l := by
  unfold sel
  simp only [List.zipIdx_cons, List.filter_cons, Nat.zero_add]
  by_cases h : f 0 = true
  · simp only [h, if_true, List.map_cons, zip_shift f l 0]
  · simp only [h, Bool.false_eq_true, if_false, zip_shift f l 0]
theorem sel_sub {α : Type} (f : Nat → Bool) (l : List α) : (sel f l).Sublist l := by
  induction l generalizing f with
  | nil => exact List.Sublist.refl _
  | cons a l ih =>
    rw [sel_cons]
    split
    · exact (ih _).cons_cons a
    · exact (ih _).cons a
theorem sel_map {α β : Type} (g : α → β) (f : Nat → Bool) (l : List α) : sel f (l.map g) = (sel f l).map g := by
  induction l generalizing f with
  | nil => rfl
  | cons a l ih =>
    rw [List.map_cons, sel_cons, sel_cons, ih]
    split <;> rfl
theorem sel_sum (f : Nat → Bool) (l : List En) : sumN (sel f l) + sumN (sel (fun i => !f i) l) = sumN l := by
  induction l generalizing f with
  | nil => rfl
  | cons a l ih =>
    have h := ih (fun i => f (i + 1))
    rw [sel_cons, sel_cons]
    unfold sumN at h ⊢
    cases hf : f 0
    · simp only [Bool.false_eq_true, if_false, Bool.not_false, if_true, List.map_cons, List.sum_cons]
      omega
    · simp only [Bool.false_eq_true, if_false, Bool.not_true, if_true, List.map_cons, List.sum_cons]
      omega
theorem sel_mem {α : Type} (f : Nat → Bool) (l : List α) (a : α) (h : a ∈ l) : a ∈ sel f l ∨ a ∈ sel (fun i => !f i) l := by
  induction l generalizing f with
  | nil => cases h
  | cons b l ih =>
    rw [sel_cons, sel_cons]
    rcases List.mem_cons.1 h with rfl | h
    · cases hf : f 0
      · right; simp
      · left; simp
    · rcases ih (fun i => f (i + 1)) h with h | h
      · left; split
        · exact List.mem_cons_of_mem _ h
        · exact h
      · right; split
        · exact List.mem_cons_of_mem _ h
        · exact h
theorem sA_sel (way n : Nat) (l : List En) : sA way n l = sel (bitA way n) l := rfl
theorem sB_sel (way n : Nat) (l : List En) : sB way n l = sel (fun i => !bitA way n i) l := rfl

/-- Which way is the best: a good one, none good is less apart, none good as far apart stands ahead. -/
theorem bests_inv (k : Int) (l : List En) : ∀ j, ((bests k l j).2.2 = false ∧ ∀ i, i < j → goodW k l i = false) ∨
    ((bests k l j).2.2 = true ∧ (bests k l j).1 < j ∧ goodW k l (bests k l j).1 = true ∧ (bests k l j).2.1 = apart l (bests k l j).1 ∧ ∀ i, i < j → goodW k l i = true → apart l (bests k l j).1 < apart l i ∨ (apart l (bests k l j).1 = apart l i ∧ (bests k l j).1 ≤ i)) := by
  intro j
  induction j with
  | zero => exact .inl ⟨rfl, fun i hi => absurd hi (Nat.not_lt_zero i)⟩
  | succ j ih =>
    rw [bests_succ]
    unfold bstep
    rcases ih with ⟨h1, h2⟩ | ⟨h1, h2, h3, h4, h5⟩
    · by_cases hg : goodW k l j = true
      · rw [if_pos ⟨hg, .inl h1⟩]
        refine .inr ⟨rfl, Nat.lt_succ_self j, hg, rfl, fun i hi hgi => ?_⟩
        by_cases hij : i = j
        · subst hij; exact .inr ⟨rfl, Nat.le_refl _⟩
        · rw [h2 i (by omega)] at hgi; cases hgi
      · rw [if_neg (fun h => hg h.1)]
        refine .inl ⟨h1, fun i hi => ?_⟩
        by_cases hij : i = j
        · subst hij; simpa using hg
        · exact h2 i (by omega)
    · by_cases hg : goodW k l j = true ∧ apart l j < apart l (bests k l j).1
      · rw [if_pos ⟨hg.1, .inr (by rw [h4]; exact hg.2)⟩]
        refine .inr ⟨rfl, Nat.lt_succ_self j, hg.1, rfl, fun i hi hgi => ?_⟩
        by_cases hij : i = j
        · subst hij; exact .inr ⟨rfl, Nat.le_refl _⟩
        · left
          have := hg.2
          rcases h5 i (by omega) hgi with h | ⟨h, _⟩ <;> simp only <;> omega
      · rw [if_neg (fun h => hg ⟨h.1, h.2.elim (fun h6 => by rw [h1] at h6; cases h6) (fun h6 => by rw [h4] at h6; exact h6)⟩)]
        refine .inr ⟨h1, Nat.lt_succ_of_lt h2, h3, h4, fun i hi hgi => ?_⟩
        by_cases hij : i = j
        · subst hij
          have hna : ¬ apart l i < apart l (bests k l i).1 := fun h => hg ⟨hgi, h⟩
          by_cases he : apart l (bests k l i).1 = apart l i
          · exact .inr ⟨he, Nat.le_of_lt h2⟩
          · left; omega
        · exact h5 i (by omega) hgi
theorem part_some (k : Int) (l : List En) : (partP k l).isSome = true ↔ ∃ way, way < ways l.length ∧ goodW k l way = true := by
  unfold partP
  rcases bests_inv k l (ways l.length) with ⟨h1, h2⟩ | ⟨h1, h2, h3, _⟩
  · rw [h1]
    constructor
    · intro h; cases h
    · rintro ⟨way, hw, hg⟩
      rw [h2 way hw] at hg
      cases hg
  · rw [h1]
    exact ⟨fun _ => ⟨_, h2, h3⟩, fun _ => rfl⟩
/-- What a good way says. -/
theorem good_full {k : Int} {l : List En} {way : Nat} (h : goodW k l way = true) : sumN (sA way l.length l) = k ∧ sumN (sB way l.length l) = k ∧ ∀ e ∈ l, 1 ≤ e.n := by
  unfold goodW fullP at h
  simp only [Bool.and_eq_true, decide_eq_true_eq, Bool.not_eq_true'] at h
  obtain ⟨⟨h1, h2⟩, h3, h4⟩ := h
  refine ⟨h1, h3, fun e he => ?_⟩
  unfold anyNone at h2 h4
  rw [List.any_eq_false] at h2 h4
  rcases sel_mem (bitA way l.length) l e he with h | h
  · have := h2 e h; simp at this; omega
  · have := h4 e h; simp at this; omega
theorem part_full {k : Int} {l : List En} (h : (partP k l).isSome = true) : sumN l = 2 * k ∧ ∀ e ∈ l, 1 ≤ e.n := by
  obtain ⟨way, _, hg⟩ := (part_some k l).1 h
  obtain ⟨h1, h2, h3⟩ := good_full hg
  have := sel_sum (bitA way l.length) l
  rw [sA_sel] at h1
  rw [sB_sel] at h2
  exact ⟨by omega, h3⟩
theorem part_get {k : Int} {l : List En} {A B : List Int} (h : partP k l = some (A, B)) : ∃ way, way < ways l.length ∧ goodW k l way = true ∧ A = (sA way l.length l).map (·.p) ∧ B = (sB way l.length l).map (·.p) := by
  unfold partP at h
  rcases bests_inv k l (ways l.length) with ⟨h1, _⟩ | ⟨h1, h2, h3, _⟩
  · rw [h1] at h; cases h
  · rw [h1] at h
    simp only [if_true, Option.some.injEq, Prod.mk.injEq] at h
    exact ⟨_, h2, h3, h.1.symm, h.2.symm⟩

/-- Those that the first match takes of the rest. -/
def mS (k : Int) : List En → List En → Option (List En)
  | [], taken => if 2 * k - sumN taken = 0 then (if (partP k taken).isSome then some [] else none) else none
  | e :: rest, taken =>
    if 2 * k - sumN taken = 0 then (if (partP k taken).isSome then some [] else none)
    else if e.n < 1 ∨ 2 * k - sumN taken < e.n ∨ ¬ Fit (taken ++ [e]) then mS k rest taken
    else match mS k rest (taken ++ [e]) with
      | some s => some (e :: s)
      | none => mS k rest taken
theorem mP_mS (k : Int) (rest taken : List En) : mP k rest taken = (mS k rest taken).bind fun s => partP k (taken ++ s) := by
  have hfull : ∀ t : List En, partP k t = ((if (partP k t).isSome then some ([] : List En) else none)).bind fun s => partP k (t ++ s) := fun t => by
    cases h : partP k t with
    | none => simp
    | some r => simp [h]
  induction rest generalizing taken with
  | nil =>
    unfold mP mS
    split
    · exact hfull taken
    · rfl
  | cons e rest ih =>
    rw [mP, mS]
    split
    · exact hfull taken
    · split
      · exact ih taken
      · rw [ih (taken ++ [e])]
        cases hs : mS k rest (taken ++ [e]) with
        | none => simp [ih taken]
        | some s =>
          have hiso : (partP k (taken ++ [e] ++ s)).isSome = true := by
            have : ∀ (rest taken s : List En), mS k rest taken = some s → (partP k (taken ++ s)).isSome = true := by
              intro rest
              induction rest with
              | nil =>
                intro taken s h
                unfold mS at h
                split at h
                · split at h
                  · injection h with h; subst h; simpa using ‹_›
                  · cases h
                · cases h
              | cons e rest ih2 =>
                intro taken s h
                rw [mS] at h
                split at h
                · split at h
                  · injection h with h; subst h; simpa using ‹_›
                  · cases h
                · split at h
                  · exact ih2 taken s h
                  · split at h
                    · next s' hs' => injection h with h; subst h; have := ih2 _ _ hs'; simpa using this
                    · exact ih2 taken s h
            exact this rest _ s hs
          obtain ⟨r, hr⟩ := Option.isSome_iff_exists.1 hiso
          simp only [Option.bind_some, List.append_assoc, List.cons_append, List.nil_append] at hr ⊢
          rw [hr]
theorem mS_sound (k : Int) (rest taken : List En) (hf : Fit taken) : ∀ s, mS k rest taken = some s → s.Sublist rest ∧ Good k (taken ++ s) := by
  induction rest generalizing taken with
  | nil =>
    intro s h
    unfold mS at h
    split at h
    · split at h
      · injection h with h; subst h
        exact ⟨List.Sublist.refl _, by rw [List.append_nil]; exact ⟨hf, ‹_›⟩⟩
      · cases h
    · cases h
  | cons e rest ih =>
    intro s h
    rw [mS] at h
    split at h
    · split at h
      · injection h with h; subst h
        exact ⟨List.nil_sublist _, by rw [List.append_nil]; exact ⟨hf, ‹_›⟩⟩
      · cases h
    · split at h
      · have := ih taken hf s h
        exact ⟨this.1.cons e, this.2⟩
      · next hb =>
        split at h
        · next s' hs' =>
          injection h with h; subst h
          have hfe : Fit (taken ++ [e]) := Decidable.not_not.1 fun hx => hb (.inr (.inr hx))
          have := ih (taken ++ [e]) hfe s' hs'
          exact ⟨this.1.cons_cons e, by simpa using this.2⟩
        · have := ih taken hf s h
          exact ⟨this.1.cons e, this.2⟩
theorem sumN_app (a b : List En) : sumN (a ++ b) = sumN a + sumN b := by simp [sumN]
theorem sumN_nonneg (l : List En) (h : ∀ e ∈ l, 1 ≤ e.n) : (l.length : Int) ≤ sumN l := by
  induction l with
  | nil => simp [sumN]
  | cons a l ih =>
    have h1 := ih fun e he => h e (List.mem_cons_of_mem _ he)
    have h2 := h a (List.mem_cons_self ..)
    simp only [sumN, List.map_cons, List.sum_cons, List.length_cons] at h1 ⊢
    push_cast
    omega
/-- Does a row of places stand ahead of another one? -/
def aheadP : List Int → List Int → Bool
  | [], [] => false
  | [], _ :: _ => true
  | _ :: _, [] => false
  | x :: a, y :: b => if x = y then aheadP a b else decide (x < y)
theorem not_bad {k : Int} {e : En} {taken sub : List En} (h : Good k (taken ++ e :: sub)) : ¬ (e.n < 1 ∨ 2 * k - sumN taken < e.n ∨ ¬ Fit (taken ++ [e])) := by
  obtain ⟨h1, h2⟩ := part_full h.2
  have h3 := h2 e (by simp)
  have h4 := sumN_nonneg sub fun x hx => h2 x (by simp [hx])
  have h5 : sumN (e :: sub) = e.n + sumN sub := by simp [sumN]
  rw [sumN_app, h5] at h1
  have h6 : Fit (taken ++ [e]) := List.Pairwise.sublist (by simp) h.1
  rintro (h | h | h)
  · omega
  · have : 0 ≤ sumN sub := by omega
    omega
  · exact h h6
/-- If some of the rest make a match with those that are taken there is one, and it stands first. -/
theorem mS_first (k : Int) (rest taken : List En) (hp : rest.Pairwise fun a b => a.p < b.p) : ∀ sub, sub.Sublist rest → Good k (taken ++ sub) → ∃ s, mS k rest taken = some s ∧ aheadP (sub.map (·.p)) (s.map (·.p)) = false := by
  induction rest generalizing taken with
  | nil =>
    intro sub hs hg
    have : sub = [] := List.sublist_nil.1 hs
    subst this
    rw [List.append_nil] at hg
    refine ⟨[], ?_, rfl⟩
    unfold mS
    rw [if_pos (by have := (part_full hg.2).1; omega), if_pos hg.2]
  | cons e rest ih =>
    intro sub hs hg
    rw [List.pairwise_cons] at hp
    obtain ⟨g1, g2⟩ := part_full hg.2
    rw [sumN_app] at g1
    have g3 := sumN_nonneg sub fun x hx => g2 x (by simp [hx])
    by_cases h0 : 2 * k - sumN taken = 0
    · have : sub = [] := List.eq_nil_of_length_eq_zero (by omega)
      subst this
      rw [List.append_nil] at hg
      refine ⟨[], ?_, rfl⟩
      rw [mS, if_pos h0, if_pos hg.2]
    · rw [mS, if_neg h0]
      cases hs with
      | cons _ hs =>
        obtain ⟨s, h1, h2⟩ := ih taken hp.2 sub hs hg
        split
        · exact ⟨s, h1, h2⟩
        · cases hm : mS k rest (taken ++ [e]) with
          | none => exact ⟨s, h1, h2⟩
          | some s' =>
            refine ⟨e :: s', rfl, ?_⟩
            cases sub with
            | nil => exact absurd (show 2 * k - sumN taken = 0 by have : sumN ([] : List En) = 0 := rfl; omega) h0
            | cons x sub =>
              have hx : e.p < x.p := hp.1 x (hs.subset (List.mem_cons_self ..))
              simp only [List.map_cons, aheadP]
              rw [if_neg (by omega), decide_eq_false_iff_not]
              omega
      | @cons_cons sub' _ _ hs =>
        rw [if_neg (not_bad hg)]
        obtain ⟨s, h1, h2⟩ := ih (taken ++ [e]) hp.2 _ hs (by simpa using hg)
        rw [h1]
        refine ⟨e :: s, rfl, ?_⟩
        simp only [List.map_cons, aheadP, if_true]
        exact h2
/-- Entries at their places. -/
theorem ents_up (m : Mo) (now : Int) (l : List Tk) : (entsP m now l).Pairwise fun a b => a.p < b.p := by
  unfold entsP
  rw [List.pairwise_iff_getElem]
  intro i j hi hj hij
  simp [entP]
  omega
end Go.Proofs.Ytnloikdfbdpilaa
