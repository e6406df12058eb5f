/- Rack: rows of things of several cells: copies, appends; slices.Insert of one thing at things: at the end. -/
import Derived.Test.YtemjmnpclknfaaaGreatR1
import Derived.Laws.AppendOwn
import Derived.Laws.IdiomCopy
import Derived.Laws.NewBlocks
import Derived.Shelf.Spec.SlicesInsert
import Derived.Lib.AppendZerosOnto
namespace Go.Proofs.YtemjmnpclknfaaaGreat.T
open Go.RowKit
set_option maxRecDepth 20000

theorem run_copy_cellsK {P : Program} (w : World) (dT sT ty elem : TypeId) (b o dLen dCap : Nat) (a : Addr) (sLen sCap k : Nat) (cs : List Value)
    (hu : P.underlying dT = some (.slice elem)) (hs : (P.info? elem).map (·.size) = some k) (hn : cs.length = Nat.min sLen dLen * k)
    (hsrc : ∀ j v, cs[j]? = some v → w.cell? (a.add j) = some v) (hc : ∀ j, j < cs.length → (w.cell? ⟨b, o + j, none⟩).isSome = true) (hf : ∀ j, j < cs.length → w.frozen? ⟨b, o + j, none⟩ = false) (h1 : ∀ v ∈ cs, v.oneCell' = true) :
    (Builtin.copy_ #[dT, sT] ty #[.slice (some ⟨b, o, none⟩) dLen dCap, .slice (some a) sLen sCap]).run P w = .ok (goInt (Nat.min sLen dLen)) (w.setCells b o cs) := by
  have hl := run_loadCells_list (P := P) w a cs hsrc
  have hst := run_storeCells_cells (P := P) b o cs 0 w (by simpa using hc) (by simpa using hf) h1
  cases hq : P.info? elem with
  | none => simp [hq] at hs
  | some i =>
    have hi : i.size = k := by simpa [hq] using hs
    simp [Builtin.copy_, run_underlying hu, Builtin.lenOf, Builtin.firstCells, sizeOf, typeInfo, hq, hi, ← hn, hl, hst]

theorem info72 : (Tryz.prog.info? 39).map (fun i => (i.zero, i.size, i.bytes)) = some (some (.agg #[.int .u32 0, .int .i64 0, .slice none 0 0, .int .i64 0, .int .i64 0]), 5, 56) := by kernel_rfl
set_option linter.unusedSimpArgs false in
set_option maxHeartbeats 1000000 in
theorem insM_end (base n G : Nat) (v : Value) (us xs : List Value) (w : World) (hl : n ≤ 1000) (hbase : base ≤ w.heap.size) (hown : w.ownsRow base 39 5 v n xs) (hus : us.length = 5) (hG : w.heap[G]? = some (.cells us.toArray 39 (0, 0))) (hu : ∀ u ∈ us, u.oneCell' = true) :
    Calls Tryz.prog 77 #[v, .int .i64 (n : Int), .slice (some ⟨G, 0, none⟩) 1 1] w fun r w' => ∃ v', r = .returned v' ∧ w'.ownsRow base 39 5 v' (n + 1) (xs ++ us) ∧ w.grownBy w' v.ownBlock := by
  obtain ⟨i0, hi0, hz0, hz1, hz2⟩ := info_parts info72
  have hAP : ∀ ty, ∃ v' w', (Builtin.append_ #[59, 59] ty #[v, .slice (some ⟨G, 0, none⟩) 1 1]).run Tryz.prog w = .ok v' w' ∧ w'.ownsRow base 39 5 v' (n + 1) (xs ++ us) ∧ w.grownBy w' v.ownBlock := fun ty => by
    obtain ⟨v', w', hr, h2, h3, _⟩ := run_append_own (P := Tryz.prog) w base 59 ty 39 i0 _ 5 56 Tryz.underlying59 hi0 hz0 hz1 hz2 rfl (by decide) v n xs hown ⟨G, 0, none⟩ 1 1 us (by omega) (fun j y hy => by
      rw [Addr.add_lit, cell_of_row w G _ _ _ _ hG, Nat.zero_add, ← hy]
      simp) hu (by unfold maxLen; omega) (by omega) hbase
    exact ⟨v', w', hr, h2, h3⟩
  obtain ⟨v', w', hr, h2, h3⟩ := hAP 59
  have H2 := Lib.hid h2
  have H3 := Lib.hid h3
  have hn1 : ¬((1 : Int) = 0) := by omega
  rcases hown.2 with ⟨rfl, h0⟩ | ⟨g, cap, cur, rfl, hbg, hh, hnc, hcm, hcs, ht⟩
  · subst h0
    clear hAP h2 h3 hown hG
    go_enter Tryz.func77, Tryz.ntmps77
    go_wp2_with (at_builtin; refine Lib.wpList_append_run _ rfl _ _ _ _ rfl _ _ rfl rfl _ _ hr ?_)
    go_ret
    exact ⟨_, rfl, H2.out, H3.out⟩
  · clear hAP h2 h3 hown hG hh hcs ht
    by_cases hcn : cap = n
    · subst hcn
      go_enter Tryz.func77, Tryz.ntmps77
      go_wp2_with (at_builtin; refine Lib.wpList_append_run _ rfl _ _ _ _ rfl _ _ rfl rfl _ _ hr ?_)
      go_ret
      exact ⟨_, rfl, H2.out, H3.out⟩
    · go_enter Tryz.func77, Tryz.ntmps77
      go_wp2_with (at_builtin; refine Lib.wpList_append_run _ rfl _ _ _ _ rfl _ _ rfl rfl _ _ hr ?_)
      go_ret
      exact ⟨_, rfl, H2.out, H3.out⟩
end Go.Proofs.YtemjmnpclknfaaaGreat.T
