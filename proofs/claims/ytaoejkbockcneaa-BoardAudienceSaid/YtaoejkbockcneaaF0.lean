/- Friend, plain: rows of two and what they are; ties; what each act does to them. -/
import Derived.Test.YtaoejkbockcneaaVA
namespace Go.Proofs.Ytaoejkbockcneaa
set_option linter.unusedVariables false
set_option linter.unusedSimpArgs false

/-- A row: what, and two players. -/
abbrev Rw := Nat × Nat × Nat
def okN (x : Nat) : Prop := 1 ≤ x ∧ x ≤ 2147483647
instance (x : Nat) : Decidable (okN x) := by unfold okN; infer_instance
def frF (a : Nat) (r : Rw) : List Nat := (if r.1 = 2 ∧ r.2.1 = a then [r.2.2] else []) ++ (if r.1 = 2 ∧ r.2.2 = a then [r.2.1] else [])
def toF (t a : Nat) (r : Rw) : List Nat := if r.1 = t ∧ r.2.1 = a then [r.2.2] else []
def asF (a : Nat) (r : Rw) : List Nat := if r.1 = 1 ∧ r.2.2 = a then [r.2.1] else []
def fr (l : List Rw) (a : Nat) : List Nat := l.flatMap (frF a)
def whom (l : List Rw) (t a : Nat) : List Nat := l.flatMap (toF t a)
def askd (l : List Rw) (a : Nat) : List Nat := l.flatMap (asF a)
def btw (a b : Nat) (r : Rw) : Prop := (r.2.1 = a ∧ r.2.2 = b) ∨ (r.2.1 = b ∧ r.2.2 = a)
instance (a b : Nat) (r : Rw) : Decidable (btw a b r) := by unfold btw; infer_instance
def wo (l : List Rw) (a b : Nat) : List Rw := l.filter fun r => decide (r.1 = 3 ∨ ¬ btw a b r)
def unb (l : List Rw) (a b : Nat) : List Rw := l.filter fun r => decide (¬ (r.1 = 3 ∧ r.2.1 = a ∧ r.2.2 = b))
theorem mem_wo {l : List Rw} {a b : Nat} {r : Rw} : r ∈ wo l a b ↔ r ∈ l ∧ (r.1 = 3 ∨ ¬ btw a b r) := by simp only [wo, List.mem_filter, decide_eq_true_eq]
theorem mem_unb {l : List Rw} {a b : Nat} {r : Rw} : r ∈ unb l a b ↔ r ∈ l ∧ ¬ (r.1 = 3 ∧ r.2.1 = a ∧ r.2.2 = b) := by simp only [unb, List.mem_filter, decide_eq_true_eq]
def tie (l : List Rw) (p q : Nat) : Int := if (1, p, q) ∈ l then 1 else if (2, q, p) ∈ l then 2 else if (3, p, q) ∈ l then 3 else 0
/-- How many links a row is to a player. -/
def wt (x : Nat) (r : Rw) : Nat := (frF x r).length + (toF 1 x r).length + (asF x r).length
def cw (l : List Rw) (x : Nat) : Nat := (l.map (wt x)).sum
theorem cw_eq (l : List Rw) (x : Nat) : cw l x = (fr l x).length + (whom l 1 x).length + (askd l x).length := by
  induction l with
  | nil => rfl
  | cons r l ih =>
    simp only [cw, fr, whom, askd, List.map_cons, List.sum_cons, List.flatMap_cons, List.length_append, wt] at ih ⊢
    omega
theorem cw_snoc (l : List Rw) (r : Rw) (x : Nat) : cw (l ++ [r]) x = cw l x + wt x r := by simp [cw]
theorem whom_snoc (l : List Rw) (r : Rw) (t x : Nat) : (whom (l ++ [r]) t x).length = (whom l t x).length + (toF t x r).length := by simp [whom]
theorem cw_filter (l : List Rw) (p : Rw → Bool) (x : Nat) : cw (l.filter p) x ≤ cw l x := by
  induction l with
  | nil => exact Nat.le_refl _
  | cons r l ih =>
    rw [List.filter_cons]
    split <;> simp only [cw, List.map_cons, List.sum_cons] at ih ⊢ <;> omega
theorem cw_filter_out {l : List Rw} {p : Rw → Bool} {r : Rw} (x : Nat) (hr : r ∈ l) (hp : p r = false) : cw (l.filter p) x + wt x r ≤ cw l x := by
  induction l with
  | nil => cases hr
  | cons s l ih =>
    rw [List.filter_cons]
    rcases List.mem_cons.1 hr with rfl | hm
    · have := cw_filter l p x
      rw [hp]
      simp only [cw, List.map_cons, List.sum_cons, Bool.false_eq_true, if_false] at this ⊢
      omega
    · have := ih hm
      split <;> simp only [cw, List.map_cons, List.sum_cons] at this ⊢ <;> omega
theorem whom_filter (l : List Rw) (p : Rw → Bool) (t x : Nat) : (whom (l.filter p) t x).length ≤ (whom l t x).length := by
  induction l with
  | nil => exact Nat.le_refl _
  | cons r l ih =>
    rw [List.filter_cons]
    split <;> simp only [whom, List.flatMap_cons, List.length_append] at ih ⊢ <;> omega

/-- What is so of rows, whatever was done. -/
structure Inv (l : List Rw) : Prop where
  ok : ∀ r ∈ l, (r.1 = 1 ∨ r.1 = 2 ∨ r.1 = 3) ∧ okN r.2.1 ∧ okN r.2.2 ∧ r.2.1 ≠ r.2.2
  nd : l.Nodup
  ex : ∀ r ∈ l, r.1 ≠ 3 → ∀ s ∈ l, btw r.2.1 r.2.2 s → s = r
  links : ∀ a, cw l a ≤ 16
  blocks : ∀ a, (whom l 3 a).length ≤ 16
theorem Inv.nil : Inv [] := ⟨by simp, by simp, by simp, by simp [cw], by simp [whom]⟩
theorem Inv.filter {l : List Rw} (h : Inv l) (p : Rw → Bool) : Inv (l.filter p) :=
  ⟨fun r hr => h.ok r (List.mem_filter.1 hr).1, h.nd.filter p, fun r hr h3 s hs => h.ex r (List.mem_filter.1 hr).1 h3 s (List.mem_filter.1 hs).1,
   fun a => Nat.le_trans (cw_filter l p a) (h.links a), fun a => Nat.le_trans (whom_filter l p 3 a) (h.blocks a)⟩
theorem Inv.woI {l : List Rw} (h : Inv l) (a b : Nat) : Inv (wo l a b) := h.filter _
theorem Inv.unbI {l : List Rw} (h : Inv l) (a b : Nat) : Inv (unb l a b) := h.filter _
theorem Inv.snoc {l : List Rw} (h : Inv l) {t a b : Nat} (ht : t = 1 ∨ t = 2 ∨ t = 3) (ha : okN a) (hb : okN b) (hab : a ≠ b)
    (hC : ∀ s ∈ l, btw a b s → s.1 = 3 ∧ t = 3 ∧ s ≠ (t, a, b)) (hl : ∀ x, cw l x + wt x (t, a, b) ≤ 16) (hk : ∀ x, (whom l 3 x).length + (toF 3 x (t, a, b)).length ≤ 16) : Inv (l ++ [(t, a, b)]) := by
  refine ⟨fun r hr => ?_, ?_, fun r hr h3 s hs hbt => ?_, fun x => by rw [cw_snoc]; exact hl x, fun x => by rw [whom_snoc]; exact hk x⟩
  · rcases List.mem_append.1 hr with hr | hr
    · exact h.ok r hr
    · rw [List.mem_singleton] at hr
      subst hr
      exact ⟨ht, ha, hb, hab⟩
  · rw [List.nodup_append]
    refine ⟨h.nd, by simp, fun s hs s' hs' e => ?_⟩
    rw [List.mem_singleton] at hs'
    subst hs' e
    exact (hC _ hs (.inl ⟨rfl, rfl⟩)).2.2 rfl
  · rcases List.mem_append.1 hr with hr | hr <;> rcases List.mem_append.1 hs with hs | hs
    · exact h.ex r hr h3 s hs hbt
    · rw [List.mem_singleton] at hs
      subst hs
      refine absurd (hC r hr ?_).1 h3
      rcases hbt with ⟨e1, e2⟩ | ⟨e1, e2⟩
      · exact .inl ⟨e1.symm, e2.symm⟩
      · exact .inr ⟨e2.symm, e1.symm⟩
    · rw [List.mem_singleton] at hr
      subst hr
      exact absurd (hC s hs hbt).2.1 h3
    · rw [List.mem_singleton] at hr hs
      rw [hr, hs]

theorem tie_nil (p q : Nat) : tie [] p q = 0 := by simp [tie]
/-- What a tie is, and why. -/
def Ti (l : List Rw) (p q : Nat) (t : Int) : Prop :=
  (t = 1 ∧ (1, p, q) ∈ l) ∨ (t = 2 ∧ (2, q, p) ∈ l) ∨ (t = 3 ∧ (3, p, q) ∈ l) ∨ (t = 0 ∧ (1, p, q) ∉ l ∧ (2, q, p) ∉ l ∧ (3, p, q) ∉ l)
theorem Ti.of (l : List Rw) (p q : Nat) : Ti l p q (tie l p q) := by
  unfold tie
  split
  · exact .inl ⟨rfl, by assumption⟩
  · split
    · exact .inr (.inl ⟨rfl, by assumption⟩)
    · split
      · exact .inr (.inr (.inl ⟨rfl, by assumption⟩))
      · exact .inr (.inr (.inr ⟨rfl, by assumption, by assumption, by assumption⟩))
theorem Inv.one2 {l : List Rw} (h : Inv l) {p q : Nat} (h1 : (1, p, q) ∈ l) (h2 : (2, q, p) ∈ l) : False := by
  have := h.ex _ h1 (by simp) _ h2 (.inr ⟨rfl, rfl⟩)
  simp at this
theorem Inv.one3 {l : List Rw} (h : Inv l) {p q : Nat} (h1 : (1, p, q) ∈ l) (h2 : (3, p, q) ∈ l) : False := by
  have := h.ex _ h1 (by simp) _ h2 (.inl ⟨rfl, rfl⟩)
  simp at this
theorem Inv.two3 {l : List Rw} (h : Inv l) {p q : Nat} (h1 : (2, q, p) ∈ l) (h2 : (3, p, q) ∈ l) : False := by
  have := h.ex _ h1 (by simp) _ h2 (.inr ⟨rfl, rfl⟩)
  simp at this
theorem Inv.ti {l : List Rw} (h : Inv l) {p q : Nat} {t : Int} (ht : Ti l p q t) : tie l p q = t := by
  rcases ht with ⟨rfl, h1⟩ | ⟨rfl, h1⟩ | ⟨rfl, h1⟩ | ⟨rfl, h1, h2, h3⟩
  · simp [tie, h1]
  · have h2 : (1, p, q) ∉ l := fun h2 => h.one2 h2 h1
    simp [tie, h1, h2]
  · have h2 : (1, p, q) ∉ l := fun h2 => h.one3 h2 h1
    have h3 : (2, q, p) ∉ l := fun h3 => h.two3 h3 h1
    simp [tie, h1, h2, h3]
  · simp [tie, h1, h2, h3]
theorem Inv.tie1 {l : List Rw} (h : Inv l) (p q : Nat) : tie l p q = 1 ↔ (1, p, q) ∈ l := by
  refine ⟨fun e => ?_, fun e => h.ti (.inl ⟨rfl, e⟩)⟩
  rcases Ti.of l p q with ⟨h1, h2⟩ | ⟨h1, h2⟩ | ⟨h1, h2⟩ | ⟨h1, h2⟩
  · exact h2
  all_goals omega
theorem Inv.tie2 {l : List Rw} (h : Inv l) (p q : Nat) : tie l p q = 2 ↔ (2, q, p) ∈ l := by
  refine ⟨fun e => ?_, fun e => h.ti (.inr (.inl ⟨rfl, e⟩))⟩
  rcases Ti.of l p q with ⟨h1, h2⟩ | ⟨h1, h2⟩ | ⟨h1, h2⟩ | ⟨h1, h2⟩
  · omega
  · exact h2
  all_goals omega
theorem Inv.tie3 {l : List Rw} (h : Inv l) (p q : Nat) : tie l p q = 3 ↔ (3, p, q) ∈ l := by
  refine ⟨fun e => ?_, fun e => h.ti (.inr (.inr (.inl ⟨rfl, e⟩)))⟩
  rcases Ti.of l p q with ⟨h1, h2⟩ | ⟨h1, h2⟩ | ⟨h1, h2⟩ | ⟨h1, h2⟩
  · omega
  · omega
  · exact h2
  · omega
theorem tie_range (l : List Rw) (p q : Nat) : 0 ≤ tie l p q ∧ tie l p q ≤ 3 := by
  rcases Ti.of l p q with ⟨h1, h2⟩ | ⟨h1, h2⟩ | ⟨h1, h2⟩ | ⟨h1, h2⟩ <;> omega
theorem Inv.tie_ok {l : List Rw} (h : Inv l) {p q : Nat} (hn : tie l p q ≠ 0) : okN p ∧ okN q ∧ p ≠ q := by
  rcases Ti.of l p q with ⟨h1, h2⟩ | ⟨h1, h2⟩ | ⟨h1, h2⟩ | ⟨h1, h2⟩
  · obtain ⟨_, a, b, c⟩ := h.ok _ h2; exact ⟨a, b, c⟩
  · obtain ⟨_, a, b, c⟩ := h.ok _ h2; exact ⟨b, a, fun e => c e.symm⟩
  · obtain ⟨_, a, b, c⟩ := h.ok _ h2; exact ⟨a, b, c⟩
  · exact absurd h1 hn

def upd (N : Nat → Nat → Int) (p q : Nat) (t : Int) : Nat → Nat → Int := fun x y => if x = p ∧ y = q then t else N x y
/-- Between two of whom one asks the other, or who are friends, nothing else stands. -/
theorem Inv.alone {l : List Rw} (h : Inv l) {r : Rw} (hr : r ∈ l) (h3 : r.1 ≠ 3) {a b : Nat} (hbt : btw a b r) : ∀ s ∈ l, btw a b s → s = r := fun s hs hb => h.ex r hr h3 s hs (by
  rcases hbt with ⟨e1, e2⟩ | ⟨e1, e2⟩
  · rw [e1, e2]; exact hb
  · rw [e1, e2]; rcases hb with ⟨f1, f2⟩ | ⟨f1, f2⟩
    · exact .inr ⟨f1, f2⟩
    · exact .inl ⟨f1, f2⟩)
theorem tie_put {l l' : List Rw} (hI : Inv l') {a b : Nat} {t : Int} (hab : Ti l' a b t) (hab' : a ≠ b) (hba : Ti l' b a (tie l b a)) (hrest : ∀ r : Rw, ¬ btw a b r → (r ∈ l' ↔ r ∈ l)) : tie l' = upd (tie l) a b t := by
  funext p q
  unfold upd
  split
  · rename_i h
    obtain ⟨rfl, rfl⟩ := h
    exact hI.ti hab
  · rename_i h
    by_cases h2 : p = b ∧ q = a
    · obtain ⟨rfl, rfl⟩ := h2
      exact hI.ti hba
    · refine hI.ti ?_
      have e1 : ∀ t, ((t, p, q) ∈ l' ↔ (t, p, q) ∈ l) := fun t => hrest _ (by rintro (⟨x, y⟩ | ⟨x, y⟩) <;> simp only at x y; exact h ⟨x, y⟩; exact h2 ⟨x, y⟩)
      have e2 : ∀ t, ((t, q, p) ∈ l' ↔ (t, q, p) ∈ l) := fun t => hrest _ (by rintro (⟨x, y⟩ | ⟨x, y⟩) <;> simp only at x y; exact h2 ⟨y, x⟩; exact h ⟨y, x⟩)
      have := Ti.of l p q
      unfold Ti at this ⊢
      rw [e1, e1, e2]
      exact this
theorem rest_wo {l : List Rw} {a b : Nat} {r : Rw} (h : ¬ btw a b r) : r ∈ wo l a b ↔ r ∈ l := by rw [mem_wo]; exact ⟨fun h => h.1, fun h' => ⟨h', .inr h⟩⟩
theorem btw_swap {a b : Nat} {r : Rw} : btw a b r ↔ btw b a r := by unfold btw; exact ⟨fun h => h.symm, fun h => h.symm⟩
theorem wo_swap (l : List Rw) (a b : Nat) : wo l a b = wo l b a := by
  unfold wo
  congr 1
  funext r
  rw [decide_eq_decide, btw_swap]
theorem wo_wo (l : List Rw) (a b : Nat) : wo (wo l a b) a b = wo l a b := by
  unfold wo
  rw [List.filter_filter]
  simp
/-- Behind a removal of two's only row nothing stands between them. -/
theorem none_btw {l : List Rw} (h : Inv l) {r : Rw} (hr : r ∈ l) (h3 : r.1 ≠ 3) {a b : Nat} (hbt : btw a b r) : ∀ s ∈ wo l a b, ¬ btw a b s := fun s hs hb => by
  obtain ⟨h1, h2⟩ := mem_wo.1 hs
  have := h.alone hr h3 hbt s h1 hb
  subst this
  rcases h2 with h2 | h2
  · exact h3 h2
  · exact h2 hb
theorem ti_zero {l : List Rw} {a b : Nat} (h : ∀ s ∈ l, ¬ btw a b s) : Ti l a b 0 :=
  .inr (.inr (.inr ⟨rfl, fun hs => h _ hs (.inl ⟨rfl, rfl⟩), fun hs => h _ hs (.inr ⟨rfl, rfl⟩), fun hs => h _ hs (.inl ⟨rfl, rfl⟩)⟩))
theorem none_swap {l : List Rw} {a b : Nat} (h : ∀ s ∈ l, ¬ btw a b s) : ∀ s ∈ l, ¬ btw b a s := fun s hs hb => h s hs (btw_swap.1 hb)
/-- A tie's only row is taken away. -/
theorem tie_wo {l : List Rw} (h : Inv l) {p q : Nat} (hne : tie l p q = 1 ∨ tie l p q = 2) : tie (wo l p q) = upd (tie l) p q 0 := by
  obtain ⟨r, hr, h3, hb⟩ : ∃ r : Rw, r ∈ l ∧ r.1 ≠ 3 ∧ btw p q r := by
    rcases hne with e | e
    · exact ⟨_, (h.tie1 p q).1 e, by simp, .inl ⟨rfl, rfl⟩⟩
    · exact ⟨_, (h.tie2 p q).1 e, by simp, .inr ⟨rfl, rfl⟩⟩
  have hn := none_btw h hr h3 hb
  have hpq : p ≠ q := (h.tie_ok (p := p) (q := q) (by omega)).2.2
  refine tie_put (h.woI p q) (ti_zero hn) hpq ?_ (fun r hr => rest_wo hr)
  have : tie l q p = 0 := by
    refine h.ti (.inr (.inr (.inr ⟨rfl, fun hs => ?_, fun hs => ?_, fun hs => ?_⟩)))
    · have := h.alone hr h3 hb _ hs (.inr ⟨rfl, rfl⟩)
      subst this
      rcases hne with e | e
      · exact hpq (by have := h.alone ((h.tie1 p q).1 e) (by simp) (.inl ⟨rfl, rfl⟩) _ hs (.inr ⟨rfl, rfl⟩); simp at this; exact this.1.symm)
      · exact h.one2 hs (by have := h.alone ((h.tie2 p q).1 e) (by simp) (.inr ⟨rfl, rfl⟩) _ hs (.inr ⟨rfl, rfl⟩); simp at this)
    · rcases hne with e | e
      · have := h.alone ((h.tie1 p q).1 e) (by simp) (.inl ⟨rfl, rfl⟩) _ hs (.inl ⟨rfl, rfl⟩)
        simp at this
      · have := h.alone ((h.tie2 p q).1 e) (by simp) (.inr ⟨rfl, rfl⟩) _ hs (.inl ⟨rfl, rfl⟩)
        simp at this
        exact hpq this.1
    · have := h.alone hr h3 hb _ hs (.inr ⟨rfl, rfl⟩)
      subst this
      exact h3 rfl
  rw [this]
  exact ti_zero (none_swap hn)
end Go.Proofs.Ytaoejkbockcneaa
