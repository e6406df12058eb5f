/- The statements' own helpers over fields: contracts for Small, fields and back. -/
import Derived.Test.YtaefgieodehceaaDoorB8
namespace Go.Proofs.YtaefgieodehceaaDoor
set_option maxRecDepth 4000
open Go.RowKit

def smallB (N : List Nat) (S : List ByteArray) (L : List (List Nat)) : Bool := decide ((∀ s ∈ S, s.size ≤ 300) ∧ (∀ u ∈ L, u.length ≤ 300) ∧ N.length ≤ 12 ∧ S.length ≤ 12 ∧ L.length ≤ 12)

theorem Lss.get {w : World} {B : Nat} : ∀ {vs : List Value} {us : List (List Nat)} (k : Nat) (hk : k < us.length), Lss w B vs us → ∃ a c, vs[k]? = some (.slice a us[k].length c) ∧ Rd w B a (uv .u32 us[k])
  | [], _ :: _, _, _, h => h.elim
  | _, [], _, hk, _ => absurd hk (by simp)
  | v :: vs, u :: us, 0, _, ⟨⟨a, c, hv, hr, _⟩, _⟩ => ⟨a, c, by rw [hv]; rfl, hr⟩
  | v :: vs, u :: us, k + 1, hk, ⟨_, h⟩ => by
    obtain ⟨a, c, h1, h2⟩ := Lss.get k (by simpa using hk) h
    exact ⟨a, c, by simpa using h1, by simpa using h2⟩

theorem mem_take {α : Type} {l : List α} {k : Nat} {P : α → Prop} (h : ∀ x ∈ l.take k, P x) (hk : k < l.length) (hp : P l[k]) : ∀ x ∈ l.take (k + 1), P x := by
  intro x hx
  rw [List.take_succ_eq_append_getElem hk] at hx
  rcases List.mem_append.1 hx with hx | hx
  · exact h x hx
  · simp at hx
    subst hx
    exact hp

end Go.Proofs.YtaefgieodehceaaDoor
