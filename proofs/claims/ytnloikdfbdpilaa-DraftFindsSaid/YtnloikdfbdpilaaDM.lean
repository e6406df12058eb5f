/- Draft: plain: none is left out; waiting never hurts. -/
import Derived.Test.YtnloikdfbdpilaaDL
namespace Go.Proofs.Ytnloikdfbdpilaa
open Go.RowKit
set_option maxRecDepth 20000
set_option linter.unusedVariables false

theorem anyNone_map (g : En → En) (hg : ∀ e, (g e).n = e.n) (l : List En) : anyNone (l.map g) = anyNone l := by
  unfold anyNone
  rw [List.any_map]
  congr 1
  funext e
  simp [hg]
theorem sumN_map (g : En → En) (hg : ∀ e, (g e).n = e.n) (l : List En) : sumN (l.map g) = sumN l := by
  unfold sumN
  rw [List.map_map]
  congr 2
  funext e
  simp [hg]
theorem good_map (g : En → En) (hg : ∀ e, (g e).n = e.n) (k : Int) (l : List En) (way : Nat) : goodW k (l.map g) way = goodW k l way := by
  unfold goodW fullP
  rw [List.length_map, sA_sel, sB_sel, sA_sel, sB_sel, sel_map, sel_map, anyNone_map g hg, anyNone_map g hg, sumN_map g hg, sumN_map g hg]
theorem part_map (g : En → En) (hg : ∀ e, (g e).n = e.n) (k : Int) (l : List En) : (partP k (l.map g)).isSome = (partP k l).isSome := by
  have : (partP k (l.map g)).isSome = true ↔ (partP k l).isSome = true := by
    rw [part_some, part_some, List.length_map]
    simp only [good_map g hg]
  cases h1 : (partP k (l.map g)).isSome <;> cases h2 : (partP k l).isSome <;> simp_all
theorem fit_map (g : En → En) (hg : ∀ e, (g e).r = e.r ∧ (g e).v = e.v) (l : List En) : Fit (l.map g) ↔ Fit l := by
  unfold Fit
  rw [List.pairwise_map]
  constructor
  · intro h
    refine h.imp fun {a b} hab => ?_
    unfold Nr at hab ⊢
    rw [(hg a).1, (hg a).2, (hg b).1, (hg b).2] at hab
    exact hab
  · intro h
    refine h.imp fun {a b} hab => ?_
    unfold Nr at hab ⊢
    rw [(hg a).1, (hg a).2, (hg b).1, (hg b).2]
    exact hab
theorem ents_map (g : En → En) (m : Mo) (now : Int) (l : List Tk) (h : ∀ (e : En) i, g ⟨i, e.n, e.r, e.v⟩ = g e) : (entsP m now l).map g = l.map fun t => g (entP m now 0 t) := by
  apply List.ext_getElem?
  intro i
  rw [List.getElem?_map, List.getElem?_map]
  unfold entsP
  rw [List.getElem?_mapIdx]
  cases l[i]? with
  | none => rfl
  | some t => exact congrArg some (h (entP m now 0 t) (i : Int))
def fv (e : En) : En := ⟨0, e.n, e.r, e.v⟩
def fn (e : En) : En := ⟨0, e.n, e.r, 0⟩
/-- What a match tells. -/
theorem find_get {m : Mo} {now : Int} {l : List Tk} {r : List Int × List Int} (h : findP m now l = some r) : m.wr = [] ∧ l.length ≤ 16 ∧ ∃ s, mS m.k (entsP m now l) [] = some s ∧ s.Sublist (entsP m now l) ∧ Good m.k s ∧ partP m.k s = some r := by
  unfold findP at h
  split at h
  · cases h
  · next hb =>
    have h1 : m.wr = [] := by
      rcases hw : m.wr with _ | ⟨a, b⟩
      · rfl
      · exact absurd (.inl (by rw [hw]; rfl)) hb
    rw [mP_mS] at h
    cases hs : mS m.k (entsP m now l) [] with
    | none => rw [hs] at h; cases h
    | some s =>
      rw [hs] at h
      have := mS_sound m.k (entsP m now l) [] List.Pairwise.nil s hs
      refine ⟨h1, by omega, s, rfl, this.1, by simpa using this.2, by simpa using h⟩
theorem find_mk {m : Mo} {now : Int} {l : List Tk} {sub : List En} (hw : m.wr = []) (hl : l.length ≤ 16) (hs : sub.Sublist (entsP m now l)) (hg : Good m.k sub) :
    ∃ s r, findP m now l = some r ∧ s.Sublist (entsP m now l) ∧ Good m.k s ∧ partP m.k s = some r ∧ aheadP (sub.map (·.p)) (s.map (·.p)) = false := by
  obtain ⟨s, h1, h2⟩ := mS_first m.k (entsP m now l) [] (ents_up m now l) sub hs (by simpa using hg)
  have h3 := mS_sound m.k (entsP m now l) [] List.Pairwise.nil s h1
  have h4 : Good m.k s := by simpa using h3.2
  obtain ⟨r, hr⟩ := Option.isSome_iff_exists.1 h4.2
  refine ⟨s, r, ?_, h3.1, h4, hr, h2⟩
  unfold findP
  rw [if_neg (fun h => h.elim (fun h => by rw [hw] at h; cases h) (fun h => by omega)), mP_mS, h1]
  simpa using hr
/-- The first one is in the team A. -/
theorem head_A {k : Int} {e : En} {s : List En} {way : Nat} (h : way < ways (e :: s).length) : ∃ s', sA way (e :: s).length (e :: s) = e :: s' := by
  rw [sA_sel, sel_cons]
  have : bitA way (e :: s).length 0 = true := by
    unfold bitA
    rw [decide_eq_true_iff]
    unfold ways at h
    rw [List.length_cons] at h ⊢
    rw [Nat.pow_succ, Nat.mul_div_cancel _ (by decide)] at h
    rw [show s.length + 1 - 1 - 0 = s.length by omega, Nat.div_eq_of_lt h]
  rw [this]
  exact ⟨_, rfl⟩
theorem none_facts (m : Mo) (now : Int) (l few : List Tk) (f : Nat → Bool) (hfew : few = sel f l) (hl : l.length ≤ 16) (hw : m.wr = []) (hfit : Fit (entsP m now few)) (hp : (teamsP m few).isSome = true) :
    ∃ (a : Int) (A B : List Int), findP m now l = some (a :: A, B) ∧ (f 0 = true → a = 0) := by
  have hgood : Good m.k (sel f (entsP m now l)) := by
    constructor
    · rw [← fit_map fv (fun e => ⟨rfl, rfl⟩), ← sel_map, ents_map fv m now l (fun e i => rfl), sel_map, ← hfew, ← ents_map fv m now few (fun e i => rfl), fit_map fv (fun e => ⟨rfl, rfl⟩)]
      exact hfit
    · unfold teamsP at hp
      split at hp
      · cases hp
      · rw [← part_map fn (fun e => rfl), ents_map fn m 0 few (fun e i => rfl)] at hp
        rw [← part_map fn (fun e => rfl), ← sel_map, ents_map fn m now l (fun e i => rfl), sel_map, ← hfew]
        exact hp
  obtain ⟨s, r, h1, h2, h3, h4, h5⟩ := find_mk hw hl (sel_sub f _) hgood
  obtain ⟨A, B⟩ := r
  obtain ⟨way, hwy, hg, rfl, rfl⟩ := part_get h4
  cases s with
  | nil => exact absurd hwy (Nat.not_lt_zero _)
  | cons e s =>
    obtain ⟨s', hs'⟩ := head_A (k := m.k) hwy
    rw [hs'] at h1
    refine ⟨e.p, _, _, h1, fun hf0 => ?_⟩
    obtain ⟨i, t, hi, he⟩ := ents_mem (h2.subset (List.mem_cons_self ..))
    cases l with
    | nil => simp at hi
    | cons t0 l =>
      have hc : entsP m now (t0 :: l) = entP m now 0 t0 :: l.mapIdx (fun i => entP m now (i + 1)) := by unfold entsP; rw [List.mapIdx_cons]
      rw [hc, sel_cons, hf0] at h5
      simp only [if_true, List.map_cons, aheadP] at h5
      have hp0 : (entP m now 0 t0).p = 0 := rfl
      have hpe : e.p = (i : Int) := by rw [he]; rfl
      rw [hp0, hpe] at h5
      by_cases hi0 : (0 : Int) = (i : Int)
      · rw [hpe]; exact hi0.symm
      · rw [if_neg hi0, decide_eq_false_iff_not] at h5
        omega
theorem sel_snoc {α : Type} (f : Nat → Bool) (l : List α) (k : Nat) (e : α) (h : l[k]? = some e) : sel f (l.take (k + 1)) = sel f (l.take k) ++ if f k then [e] else [] := by
  have hk := (List.getElem?_eq_some_iff.1 h).1
  rw [List.take_add_one, h]
  unfold sel
  simp only [Option.toList, List.zipIdx_append, List.filter_append, List.map_append, List.zipIdx_cons, List.zipIdx_nil, List.filter_cons, List.filter_nil, List.length_take, Nat.zero_add, Nat.min_eq_left (Nat.le_of_lt hk)]
  cases f k <;> rfl

/-- Waiting. -/
theorem wait_mono {a b s : Int} (h : a ≤ b) : waitP a s ≤ waitP b s := by unfold waitP; split <;> split <;> omega
theorem win_mono (m : Mo) {x y : Int} (h : x ≤ y) : m.win x ≤ m.win y := by
  unfold Mo.win win
  split
  · next hw =>
    have hb := wrongM_bounds hw
    have h1 : max x 0 / m.e ≤ max y 0 / m.e := Int.ediv_le_ediv (by omega) (by omega)
    have h2 : m.s * min (max x 0 / m.e) 10000 ≤ m.s * min (max y 0 / m.e) 10000 := Int.mul_le_mul_of_nonneg_left (by omega) hb.2.2.1.1
    omega
  · exact Int.le_refl _
theorem fit_later {m : Mo} {a b : Int} (hab : a ≤ b) (l : List Tk) (f : Nat → Bool) (h : Fit (sel f (entsP m a l))) : Fit (sel f (entsP m b l)) := by
  have h1 : Fit ((sel f l).map fun t => fv (entP m a 0 t)) := by
    rw [← fit_map fv (fun e => ⟨rfl, rfl⟩), ← sel_map, ents_map fv m a l (fun e i => rfl), sel_map] at h
    exact h
  rw [← fit_map fv (fun e => ⟨rfl, rfl⟩), ← sel_map, ents_map fv m b l (fun e i => rfl), sel_map]
  unfold Fit at h1 ⊢
  rw [List.pairwise_map] at h1 ⊢
  refine h1.imp fun {x y} hxy => ?_
  unfold Nr fv entP at hxy ⊢
  simp only at hxy ⊢
  have e1 := win_mono m (wait_mono (s := x.s) hab)
  have e2 := win_mono m (wait_mono (s := y.s) hab)
  omega
theorem sel_all {α : Type} (l : List α) : sel (fun _ => true) l = l := by
  unfold sel
  rw [List.filter_eq_self.2 (by simp)]
  simp
theorem fit_later_all {m : Mo} {a b : Int} (hab : a ≤ b) (l : List Tk) (h : Fit (entsP m a l)) : Fit (entsP m b l) := by
  have := fit_later hab l (fun _ => true) (by rw [sel_all]; exact h)
  rwa [sel_all] at this
theorem sub_sel {α : Type} [DecidableEq α] {s l : List α} (h : s.Sublist l) : ∃ f, s = sel f l := by
  induction h with
  | slnil => exact ⟨fun _ => true, rfl⟩
  | cons a h ih =>
    obtain ⟨f, hf⟩ := ih
    refine ⟨fun i => match i with | 0 => false | i + 1 => f i, ?_⟩
    rw [sel_cons]
    exact hf
  | cons_cons a h ih =>
    obtain ⟨f, hf⟩ := ih
    refine ⟨fun i => match i with | 0 => true | i + 1 => f i, ?_⟩
    rw [sel_cons]
    simp only [if_true]
    rw [← hf]
theorem place_map (m : Mo) (a b : Int) (l : List Tk) : (entsP m a l).map (·.p) = (entsP m b l).map (·.p) := by
  apply List.ext_getElem?
  intro i
  rw [List.getElem?_map, List.getElem?_map]
  unfold entsP
  rw [List.getElem?_mapIdx, List.getElem?_mapIdx]
  cases l[i]? <;> rfl
theorem waits_facts (m : Mo) (a b : Int) (hab : a ≤ b) (l : List Tk) (r : List Int × List Int) (h : findP m a l = some r) :
    ∃ s s' r', findP m b l = some r' ∧ (s.Sublist (entsP m a l) ∧ partP m.k s = some r) ∧ (s'.Sublist (entsP m b l) ∧ partP m.k s' = some r') ∧ aheadP (s.map (·.p)) (s'.map (·.p)) = false := by
  obtain ⟨hw, hl, s, -, hs, hg, hp⟩ := find_get h
  obtain ⟨f, rfl⟩ := sub_sel hs
  have hgb : Good m.k (sel f (entsP m b l)) := by
    refine ⟨fit_later hab l f hg.1, ?_⟩
    have h1 := hg.2
    rw [← part_map fn (fun e => rfl), ← sel_map, ents_map fn m a l (fun e i => rfl)] at h1
    rw [← part_map fn (fun e => rfl), ← sel_map, ents_map fn m b l (fun e i => rfl)]
    exact h1
  obtain ⟨s', r', h1, h2, h3, h4, h5⟩ := find_mk hw hl (sel_sub f _) hgb
  refine ⟨_, s', r', h1, ⟨hs, hp⟩, ⟨h2, h4⟩, ?_⟩
  rw [← sel_map, place_map m b a l, sel_map] at h5
  exact h5
end Go.Proofs.Ytnloikdfbdpilaa
