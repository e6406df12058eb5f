/- The bytes of any fields by any shape, by the document's own answer: a contract for the reference's Write. -/
import Derived.Test.YtkhhbmbjmfdgdaaC3
namespace Go.Proofs.Ytkhhbmbjmfdgdaa
set_option maxRecDepth 4000
open Go.RowKit

theorem own_below {w w' : World} {base size n : Nat} {e : TypeId} {v : Value} {xs : List Value} (h : w.ownsRow base e size v n xs) (hb : Below w.heap.size w w') : w'.ownsRow base e size v n xs := by
  refine ⟨h.1, ?_⟩
  rcases h.2 with hn | ⟨g, cap, cur, hv, hb0, hg, r⟩
  · exact .inl hn
  · exact .inr ⟨g, cap, cur, hv, hb0, (hb.block g (lt_of_block hg)).trans hg, r⟩

theorem Lss.lt {w : World} {B : Nat} : ∀ {vs : List Value} {us : List (List Nat)}, Lss w B vs us → ∀ u ∈ us, ∀ n ∈ u, n < 4294967296
  | [], [], _ => by simp
  | _ :: _, _ :: _, ⟨⟨_, _, _, _, hn⟩, h⟩ => fun u hu => by
    rcases List.mem_cons.1 hu with rfl | hu
    · exact hn
    · exact Lss.lt h u hu

theorem sv_get {S : List ByteArray} {k : Nat} (h : k < S.length) : (sv S)[k]'(by simpa [sv] using h) = .string S[k] := by simp [sv]
theorem uv_get {kd : IntKind} {N : List Nat} {k : Nat} (h : k < N.length) : (uv kd N)[k]'(by simpa [uv] using h) = .int kd (N[k] : Int) := by simp [uv]

set_option linter.unusedSimpArgs false

end Go.Proofs.Ytkhhbmbjmfdgdaa
