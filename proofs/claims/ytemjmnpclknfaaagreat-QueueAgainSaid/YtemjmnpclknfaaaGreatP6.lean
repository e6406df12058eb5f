/- Rack: a rack of things in memory; New, place, full. -/
import Derived.Test.YtemjmnpclknfaaaGreatR2
import Derived.Test.YtemjmnpclknfaaaGreatR1
import Derived.Laws.AppendOwn
import Derived.Laws.IdiomCopy
import Derived.Laws.NewBlocks
import Derived.Shelf.Spec.SlicesInsert
import Derived.Lib.AppendZerosOnto
namespace Go.Proofs.YtemjmnpclknfaaaGreat.P
open Go.RowKit
set_option maxRecDepth 20000

def un (l : List Nat) : List Value := l.map fun x : Nat => .int .u32 (x : Int)
structure Sl where
  a : Option Addr
  n : Nat
  c : Nat
def Fz (vi vi' : Value) (w : World) : Prop := ∀ g, vi'.ownBlock = some g → vi.ownBlock = some g ∨ w.heap.size ≤ g
theorem un_one (l : List Nat) : ∀ x ∈ un l, x.oneCell' = true := by
  intro x hx
  obtain ⟨n, _, rfl⟩ := List.mem_map.1 hx
  rfl
theorem own_after {w w' : World} {base T m S : Nat} {v : Value} {xs : List Value} (h : w.ownsRow base T S v m xs) (hb : ∀ g, v.ownBlock = some g → w'.heap[g]? = w.heap[g]?) : w'.ownsRow base T S v m xs := by
  refine ⟨h.1, ?_⟩
  rcases h.2 with hn | ⟨g, cap, cur, rfl, hbg, hg, rest⟩
  · exact .inl hn
  · exact .inr ⟨g, cap, cur, rfl, hbg, (hb g rfl).trans hg, rest⟩
theorem ownlt {w : World} {base T m S : Nat} {v : Value} {xs : List Value} (h : w.ownsRow base T S v m xs) (g : Nat) (hg : v.ownBlock = some g) : base ≤ g ∧ g < w.heap.size := h.lt g hg
theorem search_nil (x : Nat) (w : World) : Calls Tryz.prog 58 #[.slice none 0 0, .int .u32 (x : Int)] w fun r w' => r = .returned (.tuple #[.int .i64 0, .bool false]) ∧ w' = w := by
  go_enter Tryz.func58, Tryz.ntmps58
  go_wp2_with fail
  refine wp_loop_rounds 1 ?_
  rw [rounds_succ]
  go_wp2
  exact bodyPost_ret (v := .tuple #[.int .i64 0, .bool false]) (by simp [results, Tryz.results58, go_sem]) rfl ⟨rfl, rfl⟩

theorem At32.of_own {w : World} {base n c : Nat} {b : Nat} {ids : List Nat} (h : w.ownsRow base 33 1 (.slice (some ⟨b, 0, none⟩) n c) n (un ids)) : At32 w b 0 ids := fun j x hj => by
  have := h.cells (g := b) rfl j (.int .u32 (x : Int)) (by unfold un; rw [List.getElem?_map, hj]; rfl)
  rw [Go.WideShapes.add_plain] at this
  exact this
end Go.Proofs.YtemjmnpclknfaaaGreat.P
