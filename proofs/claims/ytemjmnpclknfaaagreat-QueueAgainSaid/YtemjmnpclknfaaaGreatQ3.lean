/- Ready: Sorted of Values; those who did not say yes. -/
import Derived.Test.YtemjmnpclknfaaaGreatV1
import Derived.Test.YtemjmnpclknfaaaGreatZE
import Derived.Test.YtemjmnpclknfaaaGreatR1
import Derived.Shelf.SlicesE.DeleteFunc
import Derived.Shelf.Lay
import Derived.Ground.SlgfProg
import Derived.Lib.OwnBridge
namespace Go.Proofs
open Go.Shelf
namespace YtemjmnpclknfaaaGreat.P
open Go.RowKit Go.Lib Go.Sort
set_option maxRecDepth 20000
set_option linter.unusedVariables false
set_option linter.unusedSimpArgs false

theorem sorted_any (Bs : Nat) (A : Option Addr) (len cap : Nat) (zs : List Nat) (hlen : len = zs.length) (hreach : len ≤ 100000) (w : World) (hBs : Bs < w.heap.size)
    (hc : w.cell? ⟨Bs, 0, none⟩ = some (.slice A len cap)) (hI : Rn w A zs) :
    Calls Tryz.prog 54 #[.func (.func 71) #[] #[.pointer (some ⟨Bs, 0, none⟩)]] w fun e W' => ∃ v, e = .returned v ∧ W'.ownsRow w.heap.size 33 1 v zs.length (un (Z.sortedN zs)) ∧ Below w.heap.size w W' := by
  have HC := Lib.hid (collect_any Bs A len cap zs hlen hreach w hBs hc hI)
  have HL : Hid (zs.length < 1000000000) := by simp only [Hid]; omega
  clear hlen hreach hBs hc hI
  go_enter Tryz.func54, Tryz.ntmps54
  go_wp2_with fail
  refine HC.out.mono ?_
  rintro r w1 ⟨v, rfl, ho, hb⟩
  obtain ⟨A1, c1, rfl⟩ := own_form1 ho
  have HS := Lib.hid (Z.sort_own w.heap.size _ zs w1 ho HL.out)
  have HB := Lib.hid hb
  clear ho hb
  go_wp2_with fail
  refine HS.out.mono ?_
  rintro r w2 ⟨rfl, ho, hb⟩
  have HO := Lib.hid ho
  have HB2 := Lib.hid (HB.out.trans hb)
  clear ho hb
  go_wp2
  go_ret
  exact ⟨_, rfl, HO.out, HB2.out⟩

def Srt (W : World) (s : Value) (ys : List Nat) : Prop := (s = .slice none 0 0 ∧ ys = []) ∨ ∃ Y c, s = .slice (some ⟨Y, 0, none⟩) ys.length c ∧ At32 W Y 0 ys
theorem own_base' {w : World} {B B' T S m : Nat} {v : Value} {xs : List Value} (h : w.ownsRow B T S v m xs) (hB : B' ≤ B) : w.ownsRow B' T S v m xs := ⟨h.1, h.2.imp id fun ⟨g, cap, cur, e, h1, h2⟩ => ⟨g, cap, cur, e, Nat.le_trans hB h1, h2⟩⟩
theorem srt_own {w : World} {B : Nat} {v : Value} {ys : List Nat} (h : w.ownsRow B 33 1 v ys.length (un ys)) : Srt w v ys := by
  rcases h.2 with ⟨rfl, h0⟩ | ⟨g, cap, cur, rfl, hr⟩
  · exact .inl ⟨rfl, List.eq_nil_of_length_eq_zero h0⟩
  · exact .inr ⟨g, cap, rfl, At32.of_own h⟩
theorem Srt.after {w w' : World} {v : Value} {ys : List Nat} (h : Srt w v ys) (hb : Below w.heap.size w w') (hs : ∀ g, v.ownBlock = some g → g < w.heap.size) : Srt w' v ys := by
  rcases h with h | ⟨Y, c, rfl, hA⟩
  · exact .inl h
  · exact .inr ⟨Y, c, rfl, fun j x hj => (hb.cell (p := ⟨Y, _, none⟩) (hs Y rfl)).trans (hA j x hj)⟩
end YtemjmnpclknfaaaGreat.P
end Go.Proofs
