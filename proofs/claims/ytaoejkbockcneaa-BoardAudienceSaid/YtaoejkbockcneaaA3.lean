/- Board: slices.Compact of a sorted row of one's own. -/
import Derived.Test.YtaoejkbockcneaaVA
import Derived.Test.YtaoejkbockcneaaA2
import Derived.Shelf.SlicesE.Compact
import Derived.Shelf.Lay
import Derived.Ground.SlgnProg
import Derived.Lib.OwnBridge
namespace Go.Proofs
open Go.Shelf
shelf_lay_g SlLaysE.n43 Slgn 43 at Try 63 as Ytaoejkbockcneaa.cmU
namespace Ytaoejkbockcneaa
open Go.RowKit Go.Lib
set_option linter.unusedVariables false

theorem zeroU (w : World) : (zeroValue 26).run Try.prog w = .ok (.int .u32 0) w := by kernel_rfl
theorem comp_nil (w : World) : Calls Try.prog 63 #[.slice none 0 0] w fun r w' => r = .returned (.slice none 0 0) ∧ w' = w := by
  go_enter Try.func63, Try.ntmps63
  go_wp2
  go_ret
  exact ⟨rfl, rfl⟩
theorem un_int (l : List Nat) : (l.map (fun x : Nat => (x : Int))).map (Value.int .u32) = un l := by unfold un; rw [List.map_map]; rfl
/-- What Compact leaves of a sorted row of one's own. -/
theorem comp_own (B : Nat) (v : Value) (l : List Nat) (w : World) (h : w.ownsRow B 26 1 v l.length (un l)) (hs : l.Pairwise (· ≤ ·)) :
    Calls Try.prog 63 #[v] w fun r w' => ∃ v' zs, r = .returned v' ∧ w'.ownsRow B 26 1 v' zs.length (un zs) ∧ zs.Pairwise (· < ·) ∧ (∀ y, y ∈ zs ↔ y ∈ l) ∧ Below B w w' := by
  by_cases hv : v = .slice none 0 0
  · subst hv
    have hl : l = [] := by
      rcases h.2 with ⟨_, h0⟩ | ⟨g, cap, cur, e, _⟩
      · exact List.eq_nil_of_length_eq_zero h0
      · cases e
    subst hl
    exact (comp_nil w).mono fun r w' ⟨h1, h2⟩ => ⟨_, [], h1, by rw [h2]; exact h, List.Pairwise.nil, fun y => Iff.rfl, by rw [h2]; exact Below.refl _ _⟩
  · rw [← un_int] at h
    obtain ⟨g, cap, rfl, hg, hgs, hn, hm, hlen, hH⟩ := holds_of_ownsRow h hv
    obtain ⟨zi, hzi⟩ : ∃ zi, zi = l.map (fun x : Nat => (x : Int)) := ⟨_, rfl⟩
    rw [← hzi] at h hH hlen
    have hsz : zi.toArray.size = l.length := by simp [hlen]
    have hsi : zi.Pairwise (· ≤ ·) := by rw [hzi]; exact List.pairwise_map.2 (hs.imp fun {a b} h => by omega)
    obtain ⟨c1, c2⟩ := comp_sorted zi hsi
    have hc := AnyE.slices_Compact (α := Int) cmU (Value.int .u32) (fun _ => rfl) (EqlAt.intD _ _ .u32) (NeqAt.intD _ _ .u32) 0 zeroU g 0 cap zi.toArray w hH (by rw [hsz]; simp only [maxLen] at hm; omega) (by rw [hsz]; exact hn)
    obtain ⟨ys, hys⟩ : ∃ ys, ys = compactUpTo zi.toArray zi.toArray.size := ⟨_, rfl⟩
    rw [← hys] at hc c1 c2
    have hle : ys.length ≤ l.length := by
      have h1 : ys.length ≤ zi.toArray.size := by rw [hys]; unfold compactUpTo; rw [List.length_map]; exact Nat.le_trans (List.length_filter_le _ _) (by simp)
      rw [hsz] at h1
      exact h1
    have hnn : ∀ x ∈ ys, 0 ≤ x := fun x hx => by
      have := (c2 x).1 hx
      rw [hzi] at this
      obtain ⟨y, _, rfl⟩ := List.mem_map.1 this
      omega
    obtain ⟨zs, hzs⟩ : ∃ zs : List Nat, zs = ys.map Int.toNat := ⟨_, rfl⟩
    have hun : un zs = ys.map (Value.int .u32) := by
      rw [hzs]
      unfold un
      rw [List.map_map]
      refine List.map_congr_left fun x hx => ?_
      have := hnn x hx
      show Value.int .u32 ((x.toNat : Nat) : Int) = _
      rw [show ((x.toNat : Nat) : Int) = x by omega]
    have hzl : zs.length = ys.length := by rw [hzs, List.length_map]
    rw [hsz] at hc
    refine hc.mono ?_
    rintro r w' ⟨rfl, q, rfl⟩
    refine ⟨_, zs, rfl, ?_, ?_, ?_, below_putRow (Below.refl _ _) hg⟩
    · have := ownsRow_putRow (q := q) (k := ys.length) (ys := ys ++ List.replicate (l.length - ys.length) 0) h (by simp; omega) hle
      rw [List.take_left] at this
      rw [hun, hzl]
      exact this
    · rw [hzs, List.pairwise_map]
      refine List.Pairwise.imp_of_mem (fun {a b} ha hb hab => ?_) c1
      have := hnn a ha
      have := hnn b hb
      omega
    · intro y
      rw [hzs, List.mem_map]
      constructor
      · rintro ⟨x, hx, rfl⟩
        have := (c2 x).1 hx
        rw [hzi] at this
        obtain ⟨z, hz, rfl⟩ := List.mem_map.1 this
        simpa using hz
      · intro hy
        exact ⟨(y : Int), (c2 _).2 (by rw [hzi]; exact List.mem_map.2 ⟨y, hy, rfl⟩), by simp⟩
end Ytaoejkbockcneaa
end Go.Proofs
