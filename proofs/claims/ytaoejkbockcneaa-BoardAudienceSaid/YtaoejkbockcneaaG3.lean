/- Friend: others: the ties of a player that are sought; the closures. -/
import Derived.Test.YtaoejkbockcneaaG2
import Derived.Sort.OwnSorted
namespace Go.Proofs.Ytaoejkbockcneaa
open Go.RowKit Go.Maps
set_option maxRecDepth 20000
set_option linter.unusedVariables false
set_option linter.unusedSimpArgs false

/-- Ties as they may be: of numbers that are numbers. -/
def Nok (N : Nat → Nat → Int) : Prop := ∀ p q, N p q ≠ 0 → u32ok p ∧ u32ok q
theorem Inv.nok {l : List Rw} (h : Inv l) : Nok (tie l) := fun p q hn => by
  obtain ⟨h1, h2, _⟩ := h.tie_ok hn
  exact ⟨u32_of_ok h1, u32_of_ok h2⟩
theorem strike_kl {left : Lit → Bool} {p q p' q' : Nat} (hp : u32ok p) (hq : u32ok q) (hp' : u32ok p') (hq' : u32ok q') : (left (kl p' q') && !(kl p' q').sameKey (kl p q)) = false ↔ left (kl p' q') = false ∨ (p' = p ∧ q' = q) := by
  by_cases e : p' = p ∧ q' = q
  · obtain ⟨rfl, rfl⟩ := e
    rw [WideAt.sameKey_self (kl_lit _ _)]
    simp
  · have hne : kl p' q' ≠ kl p q := fun h => e (kl_inj hp' hq' hp hq h)
    have h2 : (kl p' q').sameKey (kl p q) = false := by
      unfold kl at hne ⊢
      simp only [Lit.sameKey]
      have h3 : ¬ keyBytes [.int .u32 (p' : Int), .int .u32 (q' : Int)] = keyBytes [.int .u32 (p : Int), .int .u32 (q : Int)] := fun h => hne (by rw [h])
      simpa using h3
    rw [h2]
    simp [e]
/-- Those who were met so far and are sought. -/
structure Met (D : DataW Unit) (N : Nat → Nat → Int) (a : Nat) (S : Int → Bool → Bool) (left : Lit → Bool) (ss : List Nat) : Prop where
  nd : ss.Nodup
  why : ∀ x ∈ ss, u32ok x ∧ ((left (kl a x) = false ∧ N a x ≠ 0 ∧ S (N a x) true = true) ∨ (left (kl x a) = false ∧ N x a ≠ 0 ∧ S (N x a) false = true))
  out : ∀ x, u32ok x → N a x ≠ 0 → left (kl a x) = false → S (N a x) true = true → x ∈ ss
  inn : ∀ x, u32ok x → N x a ≠ 0 → left (kl x a) = false → S (N x a) false = true → x ∈ ss
theorem Met.start {D : DataW Unit} {N : Nat → Nat → Int} {a : Nat} (hN : Rep D N) (ha : u32ok a) (S : Int → Bool → Bool) : Met D N a S (has D) [] :=
  ⟨by simp, by simp, fun x hx h1 h2 => (by rw [((hN a x ha hx).2).2 h1] at h2; cases h2), fun x hx h1 h2 => (by rw [((hN x a hx ha).2).2 h1] at h2; cases h2)⟩
theorem Met.skip {D : DataW Unit} {N : Nat → Nat → Int} {a p q : Nat} {S : Int → Bool → Bool} {left : Lit → Bool} {ss : List Nat} (h : Met D N a S left ss) (ha : u32ok a) (hp : u32ok p) (hq : u32ok q)
    (h1 : ¬ (p = a ∧ S (N p q) true = true)) (h2 : ¬ (q = a ∧ S (N p q) false = true)) : Met D N a S (fun z => left z && !z.sameKey (kl p q)) ss := by
  refine ⟨h.nd, fun x hx => ?_, fun x hx hn hl hs => ?_, fun x hx hn hl hs => ?_⟩
  · obtain ⟨k0, k⟩ := h.why x hx
    refine ⟨k0, ?_⟩
    rcases k with ⟨k1, k2⟩ | ⟨k1, k2⟩
    · exact .inl ⟨(strike_kl hp hq ha k0).2 (.inl k1), k2⟩
    · exact .inr ⟨(strike_kl hp hq k0 ha).2 (.inl k1), k2⟩
  · rcases (strike_kl hp hq ha hx).1 hl with hl | ⟨rfl, rfl⟩
    · exact h.out x hx hn hl hs
    · exact absurd ⟨rfl, hs⟩ h1
  · rcases (strike_kl hp hq hx ha).1 hl with hl | ⟨rfl, rfl⟩
    · exact h.inn x hx hn hl hs
    · exact absurd ⟨rfl, hs⟩ h2
theorem Met.add1 {D : DataW Unit} {N : Nat → Nat → Int} {a q : Nat} {S : Int → Bool → Bool} {left : Lit → Bool} {ss : List Nat} (h : Met D N a S left ss) (ha : u32ok a) (hq : u32ok q) (hD : Dj N a S)
    (hl : left (kl a q) = true) (hn : N a q ≠ 0) (hs : S (N a q) true = true) : Met D N a S (fun z => left z && !z.sameKey (kl a q)) (ss ++ [q]) := by
  refine ⟨?_, fun x hx => ?_, fun x hx hn hl hs => ?_, fun x hx hn' hl' hs' => ?_⟩
  · rw [List.nodup_append]
    refine ⟨h.nd, by simp, fun x hx y hy e => ?_⟩
    rw [List.mem_singleton] at hy
    subst hy e
    obtain ⟨_, k⟩ := h.why _ hx
    rcases k with ⟨k1, _⟩ | ⟨_, k2⟩
    · rw [hl] at k1; cases k1
    · exact hD _ ⟨⟨hn, hs⟩, k2⟩
  · rw [List.mem_append, List.mem_singleton] at hx
    rcases hx with hx | rfl
    · obtain ⟨k0, k⟩ := h.why x hx
      refine ⟨k0, ?_⟩
      rcases k with ⟨k1, k2⟩ | ⟨k1, k2⟩
      · exact .inl ⟨(strike_kl ha hq ha k0).2 (.inl k1), k2⟩
      · exact .inr ⟨(strike_kl ha hq k0 ha).2 (.inl k1), k2⟩
    · exact ⟨hq, .inl ⟨(strike_kl ha hq ha hq).2 (.inr ⟨rfl, rfl⟩), hn, hs⟩⟩
  · rw [List.mem_append, List.mem_singleton]
    rcases (strike_kl ha hq ha hx).1 hl with hl | ⟨_, rfl⟩
    · exact .inl (h.out x hx hn hl hs)
    · exact .inr rfl
  · rw [List.mem_append, List.mem_singleton]
    rcases (strike_kl ha hq hx ha).1 hl' with hl' | ⟨rfl, rfl⟩
    · exact .inl (h.inn x hx hn' hl' hs')
    · exact .inr rfl
theorem Met.add2 {D : DataW Unit} {N : Nat → Nat → Int} {a p : Nat} {S : Int → Bool → Bool} {left : Lit → Bool} {ss : List Nat} (h : Met D N a S left ss) (ha : u32ok a) (hp : u32ok p) (hD : Dj N a S)
    (hl : left (kl p a) = true) (hn : N p a ≠ 0) (h1 : ¬ (p = a ∧ S (N p a) true = true)) (hs : S (N p a) false = true) : Met D N a S (fun z => left z && !z.sameKey (kl p a)) (ss ++ [p]) := by
  refine ⟨?_, fun x hx => ?_, fun x hx hn' hl' hs' => ?_, fun x hx hn' hl' hs' => ?_⟩
  · rw [List.nodup_append]
    refine ⟨h.nd, by simp, fun x hx y hy e => ?_⟩
    rw [List.mem_singleton] at hy
    subst hy e
    obtain ⟨_, k⟩ := h.why _ hx
    rcases k with ⟨_, k2⟩ | ⟨k1, _⟩
    · exact hD _ ⟨k2, ⟨hn, hs⟩⟩
    · rw [hl] at k1; cases k1
  · rw [List.mem_append, List.mem_singleton] at hx
    rcases hx with hx | rfl
    · obtain ⟨k0, k⟩ := h.why x hx
      refine ⟨k0, ?_⟩
      rcases k with ⟨k1, k2⟩ | ⟨k1, k2⟩
      · exact .inl ⟨(strike_kl hp ha ha k0).2 (.inl k1), k2⟩
      · exact .inr ⟨(strike_kl hp ha k0 ha).2 (.inl k1), k2⟩
    · exact ⟨hp, .inr ⟨(strike_kl hp ha hp ha).2 (.inr ⟨rfl, rfl⟩), hn, hs⟩⟩
  · rw [List.mem_append, List.mem_singleton]
    rcases (strike_kl hp ha ha hx).1 hl' with hl' | ⟨rfl, rfl⟩
    · exact .inl (h.out x hx hn' hl' hs')
    · exact absurd ⟨rfl, hs'⟩ h1
  · rw [List.mem_append, List.mem_singleton]
    rcases (strike_kl hp ha hx ha).1 hl' with hl' | ⟨rfl, _⟩
    · exact .inl (h.inn x hx hn' hl' hs')
    · exact .inr rfl
theorem Met.done {D : DataW Unit} {N : Nat → Nat → Int} {a : Nat} {S : Int → Bool → Bool} {left : Lit → Bool} {ss : List Nat} (h : Met D N a S left ss) (hN : Nok N) (hl : ∀ k, left k = false) : Oth N a S (sortedN ss) := by
  refine ⟨sortedN_lt ss h.nd, fun x => ?_⟩
  rw [sortedN_mem]
  constructor
  · intro hx
    obtain ⟨_, k⟩ := h.why x hx
    rcases k with ⟨_, k⟩ | ⟨_, k⟩
    · exact .inl k
    · exact .inr k
  · rintro (⟨h1, h2⟩ | ⟨h1, h2⟩)
    · exact h.out x (hN _ _ h1).2 h1 (hl _) h2
    · exact h.inn x (hN _ _ h1).1 h1 (hl _) h2
theorem others_nil (a : Nat) (f : Value) (w : World) : Calls Try.prog 70 #[.pointer none, u a, f] w fun r w' => r = .returned (.slice none 0 0) ∧ w' = w := by
  go_enter Try.func70, Try.ntmps70
  go_wp2
  go_ret
  exact ⟨rfl, rfl⟩

end Go.Proofs.Ytaoejkbockcneaa
