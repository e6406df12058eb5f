/- Ready: plain: players in a row; who is missing. -/
import Derived.Test.YtemjmnpclknfaaaQE
namespace Go.Proofs.Ytemjmnpclknfaaa.P
open Go.RowKit
set_option maxRecDepth 20000
set_option linter.unusedVariables false
set_option linter.unusedSimpArgs false

/-- n players, from a on. -/
def pl (a n : Nat) : List Nat := (List.range n).map fun i => a + i
theorem pl_len (a n : Nat) : (pl a n).length = n := by simp [pl]
theorem pl_mem' {a n x : Nat} : x ∈ pl a n ↔ a ≤ x ∧ x < a + n := by
  unfold pl
  rw [List.mem_map]
  constructor
  · rintro ⟨i, hi, rfl⟩
    have := List.mem_range.1 hi
    omega
  · rintro ⟨h1, h2⟩
    exact ⟨x - a, List.mem_range.2 (by omega), by omega⟩
theorem pl_get {a n k : Nat} (h : k < n) : (pl a n)[k]? = some (a + k) := by
  unfold pl
  rw [List.getElem?_map, List.getElem?_range h]
  rfl
theorem pl_nodup (a n : Nat) : (pl a n).Nodup := by
  unfold pl
  exact List.Pairwise.map _ (fun x y h => by omega) List.nodup_range
theorem pl_succ (a n : Nat) : pl a (n + 1) = pl a n ++ [a + n] := by simp [pl, List.range_succ]
theorem miss_nil {l zs : List Nat} : miss l zs = [] ↔ ∀ x ∈ l, x ∈ zs := by
  unfold miss
  rw [List.filter_eq_nil_iff]
  constructor
  · intro h x hx
    have := h x hx
    simpa using this
  · intro h x hx
    simpa using h x hx
theorem miss_count {l zs : List Nat} (hl : l.Nodup) (hz : zs.Nodup) (hs : ∀ x ∈ zs, x ∈ l) : miss l zs = [] ↔ zs.length = l.length := by
  rw [miss_nil]
  constructor
  · intro h
    exact Nat.le_antisymm (sub_len hz hs) (sub_len hl h)
  · intro h x hx
    apply Classical.byContradiction
    intro hn
    have h1 : (x :: zs).Nodup := List.nodup_cons.2 ⟨hn, hz⟩
    have h2 := sub_len h1 (b := l) (fun y hy => by
      rcases List.mem_cons.1 hy with rfl | hy
      · exact hx
      · exact hs y hy)
    simp at h2
    omega
theorem of_one {g : Pt} {p : Nat} (h : p ∈ g.mem) : ofP [g] p = g.id := by
  unfold ofP
  rw [List.find?_cons_of_pos (by simpa using h)]
  rfl
theorem of_not {g : Pt} {p : Nat} (h : p ∉ g.mem) : ofP [g] p = 0 := by
  unfold ofP
  rw [List.find?_cons_of_neg (by simpa using h)]
  rfl
theorem get_one (g : Pt) : getP [g] g.id = some g := by
  unfold getP
  rw [List.find?_cons_of_pos (by simp)]
theorem ins_nil (g : Pt) : insL [] g = [g] := rfl
theorem ins_one {g g' : Pt} (h : g.id = g'.id) : insL [g] g' = [g'] := by
  unfold insL
  rw [List.filter_cons, List.filter_cons, if_neg (by simp; omega), if_neg (by simp; omega)]
  rfl
theorem del_one (g : Pt) : delL [g] g.id = [] := by
  unfold delL
  rw [List.filter_cons, if_neg (by simp)]
  rfl
/-- Open of players in a row, in an empty room. -/
theorem open_pl {most : Int} {id a n : Nat} (t : Int) (hm : 1 ≤ most) (hid : okN id) (ha : 1 ≤ a) (ha2 : a ≤ 1000) (h1 : 1 ≤ n) (h8 : n ≤ 8) : openE most [] id (pl a n) = 0 ∧ openL most [] id t (pl a n) = [⟨id, t, pl a n, []⟩] := by
  have hb : badB id (pl a n) = false := by
    unfold badB
    rw [decide_eq_false_iff_not]
    intro h
    apply h
    refine ⟨hid, fun x hx => ?_⟩
    have := pl_mem'.1 hx
    exact ⟨by omega, by omega⟩
  have hc : clashB [] (pl a n) = false := by
    unfold clashB
    rw [decide_eq_false_iff_not]
    intro h
    exact h ⟨pl_nodup a n, fun x _ => rfl⟩
  have he : openE most [] id (pl a n) = 0 := by
    unfold openE
    rw [hb, hc, pl_len, if_neg (by decide), if_neg (by omega), if_neg (by decide), if_neg (by simp), if_neg (by simp; omega)]
  exact ⟨he, by unfold openL; rw [if_pos he, ins_nil]⟩
end Go.Proofs.Ytemjmnpclknfaaa.P
