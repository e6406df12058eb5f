/- Friend, plain: the acts; whom a player knows. -/
import Derived.Test.YtaoejkbockcneaaF0
namespace Go.Proofs.Ytaoejkbockcneaa
set_option linter.unusedVariables false
set_option linter.unusedSimpArgs false

def wrongC (a b : Nat) : Int := if ¬ okN a ∨ ¬ okN b then 14 else if a = b then 16 else 0
def areB (l : List Rw) (a b : Nat) : Bool := decide ((2, a, b) ∈ l ∨ (2, b, a) ∈ l)
def askL (l : List Rw) (a b : Nat) : List Rw × Bool × Int :=
  if wrongC a b ≠ 0 then (l, false, wrongC a b)
  else if (3, a, b) ∈ l ∨ (3, b, a) ∈ l then (l, false, 17)
  else if ((2, a, b) ∈ l ∨ (2, b, a) ∈ l) ∨ (1, a, b) ∈ l then (l, false, 11)
  else if (1, b, a) ∈ l then (wo l a b ++ [(2, a, b)], true, 0)
  else if 16 ≤ cw l a ∨ 16 ≤ cw l b then (l, false, 10)
  else (l ++ [(1, a, b)], false, 0)
def accL (l : List Rw) (a b : Nat) : List Rw × Int := if (1, b, a) ∈ l then (wo l a b ++ [(2, a, b)], 0) else (l, 12)
def refL (l : List Rw) (a b : Nat) : List Rw × Int := if (1, b, a) ∈ l then (wo l a b, 0) else (l, 12)
def remL (l : List Rw) (a b : Nat) : List Rw × Int := if (2, a, b) ∈ l ∨ (2, b, a) ∈ l then (wo l a b, 0) else (l, 12)
def bloL (l : List Rw) (a b : Nat) : List Rw × Bool × Int :=
  if wrongC a b ≠ 0 then (l, false, wrongC a b)
  else if (3, a, b) ∈ l then (l, false, 11)
  else if 16 ≤ (whom l 3 a).length then (l, false, 10)
  else (wo l a b ++ [(3, a, b)], areB l a b, 0)
def unbL (l : List Rw) (a b : Nat) : List Rw × Int := if (3, a, b) ∈ l then (unb l a b, 0) else (l, 12)
theorem wrong_ok {a b : Nat} (h : wrongC a b = 0) : okN a ∧ okN b ∧ a ≠ b := by
  unfold wrongC at h
  split at h
  · omega
  · rename_i h1
    split at h
    · omega
    · rename_i h2
      exact ⟨Classical.not_not.1 fun h3 => h1 (.inl h3), Classical.not_not.1 fun h3 => h1 (.inr h3), h2⟩
theorem wt1 (a b x : Nat) : wt x (1, a, b) = (if a = x then 1 else 0) + (if b = x then 1 else 0) := by
  simp only [wt, frF, toF, asF]
  by_cases h1 : a = x <;> by_cases h2 : b = x <;> simp [h1, h2]
theorem wt2 (a b x : Nat) : wt x (2, a, b) = (if a = x then 1 else 0) + (if b = x then 1 else 0) := by
  simp only [wt, frF, toF, asF]
  by_cases h1 : a = x <;> by_cases h2 : b = x <;> simp [h1, h2]
theorem wt3 (a b x : Nat) : wt x (3, a, b) = 0 := by simp [wt, frF, toF, asF]
theorem none_of {l : List Rw} (h : Inv l) {a b : Nat} (h1 : (1, a, b) ∉ l) (h2 : (1, b, a) ∉ l) (h3 : (2, a, b) ∉ l) (h4 : (2, b, a) ∉ l) (h5 : (3, a, b) ∉ l) (h6 : (3, b, a) ∉ l) : ∀ s ∈ l, ¬ btw a b s := by
  rintro ⟨t, p, q⟩ hs hb
  have ht := (h.ok _ hs).1
  simp only at ht
  rcases hb with ⟨e1, e2⟩ | ⟨e1, e2⟩ <;> simp only at e1 e2 <;> subst e1 e2 <;> rcases ht with rfl | rfl | rfl <;> contradiction
theorem Inv.ask1 {l : List Rw} (h : Inv l) {a b : Nat} (hok : okN a ∧ okN b ∧ a ≠ b) (hn : ∀ s ∈ l, ¬ btw a b s) (ha : cw l a < 16) (hb : cw l b < 16) : Inv (l ++ [(1, a, b)]) :=
  h.snoc (.inl rfl) hok.1 hok.2.1 hok.2.2 (fun s hs hbt => absurd hbt (hn s hs)) (fun x => by
    rw [wt1]
    have := h.links x
    by_cases e1 : a = x
    · subst e1
      have : ¬ b = a := fun e => hok.2.2 e.symm
      simp [this]
      omega
    · by_cases e2 : b = x
      · subst e2
        simp [e1]
        omega
      · simp [e1, e2]
        exact this) (fun x => by simpa [toF] using h.blocks x)
theorem Inv.acc {l : List Rw} (h : Inv l) {a b : Nat} (hm : (1, b, a) ∈ l) : Inv (wo l a b ++ [(2, a, b)]) := by
  have hok := (h.ok _ hm).2
  simp only at hok
  refine (h.woI a b).snoc (.inr (.inl rfl)) hok.2.1 hok.1 (fun e => hok.2.2 e.symm) (fun s hs hbt => absurd hbt (none_btw h hm (by simp) (.inr ⟨rfl, rfl⟩) s hs)) (fun x => ?_) (fun x => ?_)
  · have h1 := cw_filter_out (p := fun r => decide (r.1 = 3 ∨ ¬ btw a b r)) x hm (by simp [btw])
    have h2 := h.links x
    rw [wt1] at h1
    rw [wt2]
    unfold wo
    omega
  · have := (h.woI a b).blocks x
    simpa [toF] using this
theorem Inv.blo {l : List Rw} (h : Inv l) {a b : Nat} (hok : okN a ∧ okN b ∧ a ≠ b) (hm : (3, a, b) ∉ l) (hk : (whom l 3 a).length < 16) : Inv (wo l a b ++ [(3, a, b)]) := by
  refine (h.woI a b).snoc (.inr (.inr rfl)) hok.1 hok.2.1 hok.2.2 (fun s hs hbt => ?_) (fun x => ?_) (fun x => ?_)
  · obtain ⟨h1, h2⟩ := mem_wo.1 hs
    refine ⟨h2.resolve_right fun h3 => h3 hbt, rfl, fun e => ?_⟩
    rw [e] at h1
    exact hm h1
  · rw [wt3]
    exact (h.woI a b).links x
  · have h1 := whom_filter l (fun r => decide (r.1 = 3 ∨ ¬ btw a b r)) 3 x
    have h2 := h.blocks x
    unfold wo
    by_cases e : a = x
    · subst e
      have : (toF 3 a (3, a, b)).length = 1 := by simp [toF]
      omega
    · have : (toF 3 x (3, a, b)).length = 0 := by simp [toF, e]
      omega
theorem Inv.ask {l : List Rw} (h : Inv l) (a b : Nat) : Inv (askL l a b).1 := by
  unfold askL
  split
  · exact h
  · rename_i h0
    have hok := wrong_ok (a := a) (b := b) (Classical.not_not.1 h0)
    split
    · exact h
    · split
      · exact h
      · split
        · rename_i hm
          exact h.acc hm
        · split
          · exact h
          · rename_i h1 h2 h3 h4
            exact h.ask1 hok (none_of h (fun e => h2 (.inr e)) h3 (fun e => h2 (.inl (.inl e))) (fun e => h2 (.inl (.inr e))) (fun e => h1 (.inl e)) (fun e => h1 (.inr e))) (Nat.lt_of_not_le fun e => h4 (.inl e)) (Nat.lt_of_not_le fun e => h4 (.inr e))
theorem Inv.accept {l : List Rw} (h : Inv l) (a b : Nat) : Inv (accL l a b).1 := by
  unfold accL
  split
  · rename_i hm
    exact h.acc hm
  · exact h
theorem Inv.refuse {l : List Rw} (h : Inv l) (a b : Nat) : Inv (refL l a b).1 := by
  unfold refL
  split
  · exact h.woI a b
  · exact h
theorem Inv.remove {l : List Rw} (h : Inv l) (a b : Nat) : Inv (remL l a b).1 := by
  unfold remL
  split
  · exact h.woI a b
  · exact h
theorem Inv.block {l : List Rw} (h : Inv l) (a b : Nat) : Inv (bloL l a b).1 := by
  unfold bloL
  split
  · exact h
  · rename_i h0
    have hok := wrong_ok (a := a) (b := b) (Classical.not_not.1 h0)
    split
    · exact h
    · split
      · exact h
      · rename_i h1 h2
        exact h.blo hok h1 (Nat.lt_of_not_le h2)
theorem Inv.unblock {l : List Rw} (h : Inv l) (a b : Nat) : Inv (unbL l a b).1 := by
  unfold unbL
  split
  · exact h.unbI a b
  · exact h

/-! ## ties behind the acts -/
theorem tie_ask {l : List Rw} {a b : Nat} (h : Inv l) (h' : Inv (l ++ [(1, a, b)])) (hab : a ≠ b) (hn : ∀ s ∈ l, ¬ btw a b s) : tie (l ++ [(1, a, b)]) = upd (tie l) a b 1 := by
  refine tie_put h' (.inl ⟨rfl, by simp⟩) hab ?_ (fun r hr => ?_)
  · rw [h.ti (ti_zero (none_swap hn))]
    refine .inr (.inr (.inr ⟨rfl, fun hs => ?_, fun hs => ?_, fun hs => ?_⟩)) <;> rw [List.mem_append, List.mem_singleton] at hs <;> rcases hs with hs | hs
    · exact hn _ hs (.inr ⟨rfl, rfl⟩)
    · simp at hs; exact hab hs.2
    · exact hn _ hs (.inl ⟨rfl, rfl⟩)
    · simp at hs
    · exact hn _ hs (.inr ⟨rfl, rfl⟩)
    · simp at hs
  · rw [List.mem_append, List.mem_singleton]
    exact ⟨fun h => h.resolve_right fun e => hr (by rw [e]; exact .inl ⟨rfl, rfl⟩), .inl⟩
theorem tie_acc {l : List Rw} (h : Inv l) {a b : Nat} (hm : (1, b, a) ∈ l) : tie (wo l a b ++ [(2, a, b)]) = upd (tie l) b a 2 := by
  have hn := none_btw h hm (by simp) (a := a) (b := b) (.inr ⟨rfl, rfl⟩)
  have hok := (h.ok _ hm).2
  simp only at hok
  have h0 : tie l a b = 0 := h.ti (.inr (.inr (.inr ⟨rfl, fun hs => ?_, fun hs => ?_, fun hs => ?_⟩)))
  · refine tie_put (h.acc hm) (.inr (.inl ⟨rfl, by simp⟩)) hok.2.2 ?_ (fun r hr => ?_)
    · rw [h0]
      refine .inr (.inr (.inr ⟨rfl, fun hs => ?_, fun hs => ?_, fun hs => ?_⟩)) <;> rw [List.mem_append, List.mem_singleton] at hs <;> rcases hs with hs | hs
      · exact hn _ hs (.inl ⟨rfl, rfl⟩)
      · simp at hs
      · exact hn _ hs (.inr ⟨rfl, rfl⟩)
      · simp at hs; exact hok.2.2 hs.1
      · exact hn _ hs (.inl ⟨rfl, rfl⟩)
      · simp at hs
    · rw [List.mem_append, List.mem_singleton, rest_wo (fun e => hr (btw_swap.1 e))]
      exact ⟨fun h => h.resolve_right fun e => hr (by rw [e]; exact .inr ⟨rfl, rfl⟩), .inl⟩
  · have := h.alone hm (by simp) (.inl ⟨rfl, rfl⟩) _ hs (.inr ⟨rfl, rfl⟩)
    simp at this
    exact hok.2.2 this.2
  · have := h.alone hm (by simp) (.inl ⟨rfl, rfl⟩) _ hs (.inl ⟨rfl, rfl⟩)
    simp at this
  · have := h.alone hm (by simp) (.inl ⟨rfl, rfl⟩) _ hs (.inr ⟨rfl, rfl⟩)
    simp at this
theorem tie_ref {l : List Rw} (h : Inv l) {a b : Nat} (hm : (1, b, a) ∈ l) : tie (wo l a b) = upd (tie l) b a 0 := by
  rw [wo_swap]
  exact tie_wo h (.inl ((h.tie1 b a).2 hm))
theorem tie_rem1 {l : List Rw} (h : Inv l) {a b : Nat} (hm : (2, a, b) ∈ l) : tie (wo l a b) = upd (tie l) b a 0 := by
  rw [wo_swap]
  exact tie_wo h (.inr ((h.tie2 b a).2 hm))
theorem tie_rem2 {l : List Rw} (h : Inv l) {a b : Nat} (hm : (2, b, a) ∈ l) : tie (wo l a b) = upd (tie l) a b 0 := tie_wo h (.inr ((h.tie2 a b).2 hm))
theorem tie_unb {l : List Rw} (h : Inv l) {a b : Nat} (hm : (3, a, b) ∈ l) : tie (unb l a b) = upd (tie l) a b 0 := by
  have hok := (h.ok _ hm).2
  simp only at hok
  have hx : ∀ r ∈ l, r.1 ≠ 3 → ¬ btw a b r := fun r hr h3 hb => by
    have := h.alone hr h3 hb _ hm (.inl ⟨rfl, rfl⟩)
    subst this
    exact h3 rfl
  refine tie_put (h.unbI a b) ?_ hok.2.2 ?_ (fun r hr => ?_)
  · refine .inr (.inr (.inr ⟨rfl, fun hs => ?_, fun hs => ?_, fun hs => ?_⟩))
    · exact hx _ (mem_unb.1 hs).1 (by simp) (.inl ⟨rfl, rfl⟩)
    · exact hx _ (mem_unb.1 hs).1 (by simp) (.inr ⟨rfl, rfl⟩)
    · exact (mem_unb.1 hs).2 ⟨rfl, rfl, rfl⟩
  · have := Ti.of l b a
    rcases this with ⟨_, h2⟩ | ⟨_, h2⟩ | ⟨h1, h2⟩ | ⟨h1, h2, h3, h4⟩
    · exact absurd (.inr ⟨rfl, rfl⟩) (hx _ h2 (by simp))
    · exact absurd (.inl ⟨rfl, rfl⟩) (hx _ h2 (by simp))
    · exact .inr (.inr (.inl ⟨h1, mem_unb.2 ⟨h2, fun e => hok.2.2 e.2.1.symm⟩⟩))
    · exact .inr (.inr (.inr ⟨h1, fun hs => h2 (mem_unb.1 hs).1, fun hs => h3 (mem_unb.1 hs).1, fun hs => h4 (mem_unb.1 hs).1⟩))
  · rw [mem_unb]
    exact ⟨fun h => h.1, fun h => ⟨h, fun e => hr (.inl ⟨e.2.1, e.2.2⟩)⟩⟩
/-- Behind the friendship and the other one's ask a block stands in the place of what is left. -/
theorem tie_blo {l : List Rw} (h : Inv l) {a b : Nat} (h' : Inv (wo l a b ++ [(3, a, b)])) (hab : a ≠ b) (h1 : (1, b, a) ∉ l) (h2 : (2, a, b) ∉ l) (h3 : (2, b, a) ∉ l) : tie (wo l a b ++ [(3, a, b)]) = upd (tie l) a b 3 := by
  refine tie_put h' (.inr (.inr (.inl ⟨rfl, by simp⟩))) hab ?_ (fun r hr => ?_)
  · rcases Ti.of l b a with ⟨_, e⟩ | ⟨_, e⟩ | ⟨e1, e⟩ | ⟨e1, e2, e3, e4⟩
    · exact absurd e h1
    · exact absurd e h2
    · exact .inr (.inr (.inl ⟨e1, by rw [List.mem_append, mem_wo]; exact .inl ⟨e, .inl rfl⟩⟩))
    · refine .inr (.inr (.inr ⟨e1, fun hs => ?_, fun hs => ?_, fun hs => ?_⟩)) <;> rw [List.mem_append, List.mem_singleton, mem_wo] at hs <;> rcases hs with hs | hs
      · exact e2 hs.1
      · simp at hs
      · exact e3 hs.1
      · simp at hs
      · exact e4 hs.1
      · simp at hs; exact hab hs.2
  · rw [List.mem_append, List.mem_singleton, rest_wo hr]
    exact ⟨fun h => h.resolve_right fun e => hr (by rw [e]; exact .inl ⟨rfl, rfl⟩), .inl⟩

/-! ## whom a player knows -/
theorem mem_fr {l : List Rw} {a x : Nat} : x ∈ fr l a ↔ (2, a, x) ∈ l ∨ (2, x, a) ∈ l := by
  unfold fr
  rw [List.mem_flatMap]
  constructor
  · rintro ⟨⟨t, p, q⟩, hr, hx⟩
    simp only [frF, List.mem_append] at hx
    rcases hx with hx | hx <;> split at hx
    · rename_i h
      rw [List.mem_singleton] at hx
      obtain ⟨rfl, rfl⟩ := h
      subst hx
      exact .inl hr
    · cases hx
    · rename_i h
      rw [List.mem_singleton] at hx
      obtain ⟨rfl, rfl⟩ := h
      subst hx
      exact .inr hr
    · cases hx
  · rintro (h | h)
    · exact ⟨_, h, by simp [frF]⟩
    · exact ⟨_, h, by simp [frF]⟩
theorem mem_whom {l : List Rw} {t a x : Nat} : x ∈ whom l t a ↔ (t, a, x) ∈ l := by
  unfold whom
  rw [List.mem_flatMap]
  constructor
  · rintro ⟨⟨t', p, q⟩, hr, hx⟩
    simp only [toF] at hx
    split at hx
    · rename_i h
      rw [List.mem_singleton] at hx
      obtain ⟨rfl, rfl⟩ := h
      subst hx
      exact hr
    · cases hx
  · intro h
    exact ⟨_, h, by simp [toF]⟩
theorem mem_askd {l : List Rw} {a x : Nat} : x ∈ askd l a ↔ (1, x, a) ∈ l := by
  unfold askd
  rw [List.mem_flatMap]
  constructor
  · rintro ⟨⟨t', p, q⟩, hr, hx⟩
    simp only [asF] at hx
    split at hx
    · rename_i h
      rw [List.mem_singleton] at hx
      obtain ⟨rfl, rfl⟩ := h
      subst hx
      exact hr
    · cases hx
  · intro h
    exact ⟨_, h, by simp [asF]⟩
theorem Inv.nd_fr {l : List Rw} (h : Inv l) (a : Nat) : (fr l a).Nodup := by
  unfold fr
  refine List.pairwise_flatMap.2 ⟨fun ⟨t, p, q⟩ hr => ?_, h.nd.imp_of_mem fun {r s} hr hs hne x hx y hy e => ?_⟩
  · simp only [frF]
    split <;> split
    · rename_i h1 h2
      exact absurd (h1.2.trans h2.2.symm) (h.ok _ hr).2.2.2
    all_goals simp
  · subst e
    obtain ⟨t, p, q⟩ := r
    obtain ⟨t', p', q'⟩ := s
    have k1 : t = 2 ∧ ((p = a ∧ q = x) ∨ (q = a ∧ p = x)) := by
      simp only [frF, List.mem_append] at hx
      rcases hx with hx | hx <;> split at hx <;> simp at hx
      · rename_i h; exact ⟨h.1, .inl ⟨h.2, hx.symm⟩⟩
      · rename_i h; exact ⟨h.1, .inr ⟨h.2, hx.symm⟩⟩
    have k2 : t' = 2 ∧ ((p' = a ∧ q' = x) ∨ (q' = a ∧ p' = x)) := by
      simp only [frF, List.mem_append] at hy
      rcases hy with hy | hy <;> split at hy <;> simp at hy
      · rename_i h; exact ⟨h.1, .inl ⟨h.2, hy.symm⟩⟩
      · rename_i h; exact ⟨h.1, .inr ⟨h.2, hy.symm⟩⟩
    obtain ⟨rfl, k1⟩ := k1
    obtain ⟨rfl, k2⟩ := k2
    refine hne (h.ex _ hs (by simp) _ hr ?_)
    unfold btw
    simp only
    omega
theorem Inv.nd_whom {l : List Rw} (h : Inv l) (t a : Nat) : (whom l t a).Nodup := by
  unfold whom
  refine List.pairwise_flatMap.2 ⟨fun ⟨t', p, q⟩ hr => ?_, h.nd.imp_of_mem fun {r s} hr hs hne x hx y hy e => ?_⟩
  · simp only [toF]
    split <;> simp
  · subst e
    obtain ⟨t1, p, q⟩ := r
    obtain ⟨t', p', q'⟩ := s
    simp only [toF] at hx hy
    split at hx <;> simp at hx
    split at hy <;> simp at hy
    rename_i h1 h2
    refine hne ?_
    rw [h1.1, h1.2, h2.1, h2.2, ← hx, ← hy]
theorem Inv.nd_askd {l : List Rw} (h : Inv l) (a : Nat) : (askd l a).Nodup := by
  unfold askd
  refine List.pairwise_flatMap.2 ⟨fun ⟨t', p, q⟩ hr => ?_, h.nd.imp_of_mem fun {r s} hr hs hne x hx y hy e => ?_⟩
  · simp only [asF]
    split <;> simp
  · subst e
    obtain ⟨t1, p, q⟩ := r
    obtain ⟨t', p', q'⟩ := s
    simp only [asF] at hx hy
    split at hx <;> simp at hx
    split at hy <;> simp at hy
    rename_i h1 h2
    refine hne ?_
    rw [h1.1, h1.2, h2.1, h2.2, ← hx, ← hy]
/-- The others with whom a has a tie that is sought, rising. -/
def Oth (N : Nat → Nat → Int) (a : Nat) (S : Int → Bool → Bool) (ys : List Nat) : Prop :=
  ys.Pairwise (· < ·) ∧ ∀ x, x ∈ ys ↔ (N a x ≠ 0 ∧ S (N a x) true = true) ∨ (N x a ≠ 0 ∧ S (N x a) false = true)
def Sf : Int → Bool → Bool := fun t _ => decide (t = 2)
def So (k : Int) : Int → Bool → Bool := fun t out => decide (t = k) && out
def Si : Int → Bool → Bool := fun t out => decide (t = 1) && !out
def Su : Int → Bool → Bool := fun t _ => decide (t ≠ 3)
theorem nd_of_lt {ys : List Nat} (h : ys.Pairwise (· < ·)) : ys.Nodup := h.imp fun {a b} h => Nat.ne_of_lt h
theorem oth_fr {l : List Rw} (h : Inv l) {a : Nat} {ys : List Nat} (ho : Oth (tie l) a Sf ys) (x : Nat) : x ∈ ys ↔ x ∈ fr l a := by
  rw [ho.2 x, mem_fr, ← h.tie2 x a, ← h.tie2 a x]
  simp only [Sf, decide_eq_true_eq]
  constructor
  · rintro (h | h)
    · exact .inr h.2
    · exact .inl h.2
  · rintro (h | h)
    · exact .inr ⟨by omega, h⟩
    · exact .inl ⟨by omega, h⟩
theorem oth_to1 {l : List Rw} (h : Inv l) {a : Nat} {ys : List Nat} (ho : Oth (tie l) a (So 1) ys) (x : Nat) : x ∈ ys ↔ x ∈ whom l 1 a := by
  rw [ho.2 x, mem_whom, ← h.tie1 a x]
  simp only [So, Bool.and_true, Bool.and_false, decide_eq_true_eq, Bool.false_eq_true, and_false, or_false]
  exact ⟨fun h => h.2, fun h => ⟨by omega, h⟩⟩
theorem oth_to3 {l : List Rw} (h : Inv l) {a : Nat} {ys : List Nat} (ho : Oth (tie l) a (So 3) ys) (x : Nat) : x ∈ ys ↔ x ∈ whom l 3 a := by
  rw [ho.2 x, mem_whom, ← h.tie3 a x]
  simp only [So, Bool.and_true, Bool.and_false, decide_eq_true_eq, Bool.false_eq_true, and_false, or_false]
  exact ⟨fun h => h.2, fun h => ⟨by omega, h⟩⟩
theorem oth_askd {l : List Rw} (h : Inv l) {a : Nat} {ys : List Nat} (ho : Oth (tie l) a Si ys) (x : Nat) : x ∈ ys ↔ x ∈ askd l a := by
  rw [ho.2 x, mem_askd, ← h.tie1 x a]
  simp only [Si, Bool.not_true, Bool.not_false, Bool.and_true, Bool.and_false, decide_eq_true_eq, Bool.false_eq_true, and_false, false_or]
  exact ⟨fun h => h.2, fun h => ⟨by omega, h⟩⟩
theorem len_of {ys zs : List Nat} (h1 : ys.Nodup) (h2 : zs.Nodup) (h : ∀ x, x ∈ ys ↔ x ∈ zs) : ys.length = zs.length := ((List.perm_ext_iff_of_nodup h1 h2).2 h).length_eq
theorem lt_unique {ys zs : List Nat} (h1 : ys.Pairwise (· < ·)) (h2 : zs.Pairwise (· < ·)) (h : ∀ x, x ∈ ys ↔ x ∈ zs) : ys = zs :=
  List.Perm.eq_of_pairwise (le := (· < ·)) (fun a b _ _ h1 h2 => absurd h1 (Nat.lt_asymm h2)) h1 h2 ((List.perm_ext_iff_of_nodup (nd_of_lt h1) (nd_of_lt h2)).2 h)
theorem oth_full {l : List Rw} (h : Inv l) {a : Nat} {ys : List Nat} (ho : Oth (tie l) a Su ys) : ys.length = cw l a := by
  rw [cw_eq, ← List.length_append, ← List.length_append]
  refine len_of (nd_of_lt ho.1) ?_ fun x => ?_
  · rw [List.nodup_append, List.nodup_append]
    refine ⟨⟨h.nd_fr a, h.nd_whom 1 a, fun x hx y hy e => ?_⟩, h.nd_askd a, fun x hx y hy e => ?_⟩
    · subst e
      rw [mem_fr] at hx
      rw [mem_whom] at hy
      rcases hx with hx | hx
      · have := h.ex _ hx (by simp) _ hy (.inl ⟨rfl, rfl⟩); simp at this
      · exact h.one2 hy hx
    · subst e
      rw [mem_askd] at hy
      rw [List.mem_append, mem_fr, mem_whom] at hx
      rcases hx with (hx | hx) | hx
      · exact h.one2 hy hx
      · have := h.ex _ hx (by simp) _ hy (.inl ⟨rfl, rfl⟩); simp at this
      · have := h.ex _ hx (by simp) _ hy (.inr ⟨rfl, rfl⟩)
        simp at this
        exact (h.ok _ hx).2.2.2 this.2
  · rw [ho.2 x, List.mem_append, List.mem_append, mem_fr, mem_whom, mem_askd, ← h.tie2 x a, ← h.tie2 a x, ← h.tie1 a x, ← h.tie1 x a]
    simp only [Su, decide_eq_true_eq]
    have h1 := tie_range l a x
    have h2 := tie_range l x a
    omega
/-- Nobody is sought both ways. -/
def Dj (N : Nat → Nat → Int) (a : Nat) (S : Int → Bool → Bool) : Prop := ∀ x, ¬ ((N a x ≠ 0 ∧ S (N a x) true = true) ∧ (N x a ≠ 0 ∧ S (N x a) false = true))
theorem Inv.back {l : List Rw} (h : Inv l) {a x : Nat} (h1 : tie l a x = 1 ∨ tie l a x = 2) : tie l x a = 0 := by
  obtain ⟨_, _, hne⟩ := h.tie_ok (p := a) (q := x) (by omega)
  have := tie_wo h h1
  rcases Ti.of l x a with ⟨e, e2⟩ | ⟨e, e2⟩ | ⟨e, e2⟩ | ⟨e, _⟩
  · rcases h1 with h1 | h1
    · have := h.ex _ ((h.tie1 a x).1 h1) (by simp) _ e2 (.inr ⟨rfl, rfl⟩); simp at this; exact absurd this.2 hne
    · have := h.ex _ ((h.tie2 a x).1 h1) (by simp) _ e2 (.inl ⟨rfl, rfl⟩); simp at this
  · rcases h1 with h1 | h1
    · have := h.ex _ ((h.tie1 a x).1 h1) (by simp) _ e2 (.inl ⟨rfl, rfl⟩); simp at this
    · have := h.ex _ ((h.tie2 a x).1 h1) (by simp) _ e2 (.inr ⟨rfl, rfl⟩); simp at this; exact absurd this.1 hne
  · rcases h1 with h1 | h1
    · have := h.ex _ ((h.tie1 a x).1 h1) (by simp) _ e2 (.inr ⟨rfl, rfl⟩); simp at this
    · have := h.ex _ ((h.tie2 a x).1 h1) (by simp) _ e2 (.inl ⟨rfl, rfl⟩); simp at this
  · exact e
theorem dj_f {l : List Rw} (h : Inv l) (a : Nat) : Dj (tie l) a Sf := fun x ⟨h1, h2⟩ => by
  simp only [Sf, decide_eq_true_eq] at h1 h2
  have := h.back (.inr h1.2)
  omega
theorem dj_u {l : List Rw} (h : Inv l) (a : Nat) : Dj (tie l) a Su := fun x ⟨h1, h2⟩ => by
  simp only [Su, decide_eq_true_eq] at h1 h2
  have := tie_range l a x
  have := h.back (a := a) (x := x) (by omega)
  omega
theorem dj_o (N : Nat → Nat → Int) (a : Nat) (k : Int) : Dj N a (So k) := fun x ⟨h1, h2⟩ => by simp [So] at h2
theorem dj_i (N : Nat → Nat → Int) (a : Nat) : Dj N a Si := fun x ⟨h1, h2⟩ => by simp [Si] at h1
end Go.Proofs.Ytaoejkbockcneaa
