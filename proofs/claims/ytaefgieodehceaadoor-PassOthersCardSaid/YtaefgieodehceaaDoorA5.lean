/- What the chapter's examples say: a contract for the statements' own helper awake. -/
import Derived.Test.YtaefgieodehceaaDoorA4
import Derived.Laws.IdiomStrings
import Derived.Laws.BytesArg
namespace Go.Proofs.YtaefgieodehceaaDoor
set_option maxRecDepth 4000
open Go.RowKit

theorem own_rd {w : World} {base e n : Nat} {v : Value} {xs : List Value} (h : w.ownsRow base e 1 v n xs) : ∃ A c, v = .slice A n c ∧ Rd w w.heap.size A xs ∧ n ≤ c ∧ xs.length = n := by
  have hl : xs.length = n := by simpa using h.1
  have hcells := fun g => h.cells (g := g)
  have hlt := h.lt
  rcases h.2 with ⟨rfl, rfl⟩ | ⟨g, cap, cur, rfl, hg, hh, hnc, _⟩
  · exact ⟨none, 0, rfl, fun hx => absurd hx (by omega), Nat.le_refl _, hl⟩
  · refine ⟨_, cap, rfl, fun _ => ⟨g, 0, rfl, (hlt g rfl).2, fun j u hu => ?_⟩, hnc, hl⟩
    have := hcells g rfl j u hu
    rw [← this]
    unfold Addr.add
    split <;> simp_all

theorem conv_rd {w : World} {B : Nat} {A : Option Addr} {l : List UInt8} (h : Rd w B A (bv l)) (c : Nat) :
    (convert 22 9 (.slice A l.length c)).run Tryd.prog w = .ok (.string ⟨l.toArray⟩) w := by
  rcases A with _ | ad
  · have hl : l = [] := by
      rcases l with _ | ⟨x, l⟩
      · rfl
      · obtain ⟨b, o, hA, _⟩ := h (by simp [bv])
        cases hA
    subst hl
    exact run_convert_bytes_nil w 22 5 Tryd.underlying22 Tryd.underlying5 0 c 9 Tryd.underlying9
  · refine run_convert_bytes_back w 22 9 5 ad c l Tryd.underlying22 Tryd.underlying5 Tryd.underlying9 fun j hj => ?_
    obtain ⟨b, o, hA, _, hc⟩ := h (by simp [bv]; omega)
    injection hA with hA
    subst hA
    have := hc j (.int .u8 (l[j].toNat : Int)) (by simp [bv, List.getElem?_eq_getElem hj])
    rw [← this]
    unfold Addr.add
    split <;> simp_all

theorem rd_block' {w : World} {g B : Nat} {cs : Array Value} {t : TypeId} {m : Nat × Nat} {xs : List Value} (h : w.heap[g]? = some (.cells cs t m)) (hx : cs.toList = xs) (hB : g < B) : Rd w B (some ⟨g, 0, none⟩) xs := fun _ =>
  ⟨g, 0, rfl, hB, fun j u hj => by
    subst hx
    rw [cell_of_row w g (0 + j) cs t m h]
    simpa using hj⟩

theorem awake_bytes : writeR [98, 119, 115] [7, 258] [⟨#[97, 98]⟩] [] = ([7, 1, 2, 2, 97, 98], 0) := by rfl
theorem awake_least : least [113, 115, 108] = 10 := by rfl

end Go.Proofs.YtaefgieodehceaaDoor
