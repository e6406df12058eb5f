/- Fill: an ask: is it great, its mode, its rows, its tickets. -/
import Derived.Test.YtccabdhfnjlbdaaFD
namespace Go.Proofs.Ytccabdhfnjlbdaa
open Go.RowKit
set_option maxRecDepth 20000
set_option linter.unusedVariables false

/-- An ask's eight cells. -/
abbrev aC (m : Mo) (now : Int) (L R : Value) : Array Value := #[.int .i64 m.k, .int .i64 m.b, .int .i64 m.s, .int .i64 m.c, .int .i64 m.e, .int .i64 now, L, R]

def GreatPost (l : List Tk) (rows : List Rw) (nl n : Nat) (r : Ending) : Prop := ∃ t : Bool, r = .returned (.bool t) ∧ (t = false → nl ≤ 20 ∧ n ≤ 20 ∧ (∀ x ∈ l, x.n ≤ 10) ∧ ∀ x ∈ rows, x.n ≤ 10)

set_option maxHeartbeats 4000000 in
theorem great_any (m : Mo) (now : Int) (L : Option Addr) (nl cl : Nat) (l : List Tk) (A : Option Addr) (n c : Nat) (rows : List Rw) (w : World) (hnl : nl = l.length) (hL : Ts w w.heap.size L l) (hn : n = rows.length) (hE : Rs w w.heap.size A rows) (hll : nl ≤ 9223372036854775807) (hlr : n ≤ 9223372036854775807) :
    Calls Try.prog 7 #[.agg (aC m now (.slice L nl cl) (.slice A n c))] w fun r w' => GreatPost l rows nl n r ∧ Below w.heap.size w w' := by
  obtain ⟨w0, hw0⟩ : ∃ w0, w0 = w.alloc (.cells (aC m now (.slice L nl cl) (.slice A n c)) 27) := ⟨_, rfl⟩
  have hb0 : Below w.heap.size w w0 := by rw [hw0]; exact (Below.refl _ _).alloc (Nat.le_refl _) _
  have hp0 : w0.heap[w.heap.size]? = some (.cells (aC m now (.slice L nl cl) (.slice A n c)) 27 (0, 0)) := by rw [hw0]; exact heap_alloc_new w _
  have c6 := cell_of_row w0 w.heap.size 6 _ _ _ hp0
  have c7 := cell_of_row w0 w.heap.size 7 _ _ _ hp0
  simp at c6 c7
  have HL := Lib.hid (hL.later hb0 (Nat.le_refl _))
  have HE := Lib.hid (hE.later hb0 (Nat.le_refl _))
  have HNL := Lib.hid hnl
  have HN := Lib.hid hn
  have H0 := Lib.hid hw0
  have HB0 := Lib.hid hb0
  clear hw0 hb0 hp0 hnl hL hn hE
  by_cases h1 : 20 < nl
  · go_enter Try.func7, Try.ntmps7
    go_upto_region 1 with (fail)
    rw [← H0.out]
    go_wp2
    go_ret
    exact ⟨⟨true, rfl, fun h => by cases h⟩, HB0.out⟩
  · by_cases h2 : 20 < n
    · go_enter Try.func7, Try.ntmps7
      go_upto_region 1 with (fail)
      rw [← H0.out]
      go_wp2
      go_ret
      exact ⟨⟨true, rfl, fun h => by cases h⟩, HB0.out⟩
    · go_enter Try.func7, Try.ntmps7
      go_upto_region 1 with (fail)
      rw [← H0.out]
      go_wp2_with fail
      go_loopw [3] (fun u wr => ∃ k : Nat, k ≤ nl ∧ u = .int .i64 (k : Int) ∧ Hid (∀ x ∈ l.take k, x.n ≤ 10) ∧ wr = w0) (fun u _ => nl - (intOf u).toNat)
      case atStart => exact ⟨0, by omega, rfl, (by intro x hx; rw [List.take_zero] at hx; cases hx), by first | rfl | trivial⟩
      case round =>
        obtain ⟨k, hk, rfl, HV, rfl⟩ := hrel
        by_cases hlt : k < nl
        · obtain ⟨t, hy⟩ : ∃ t, l[k]? = some t := ⟨l[k]'(by rw [← HNL.out]; exact hlt), List.getElem?_eq_getElem _⟩
          obtain ⟨b1, o1, rfl, hb1, ha1⟩ := HL.out (by have := HNL.out; omega)
          obtain ⟨x, y, P, cp, d0, d1, d2, d3, d4⟩ := ha1 k t hy
          have HY := Lib.hid hy
          obtain ⟨tn, tr, ts⟩ := t
          simp only at d2 d3 d4
          clear ha1 hy hb1
          by_cases h10 : tn ≤ 10
          · go_wp2
            go_roundw
            case rel =>
              refine ⟨k + 1, by omega, by go_num, fun x hx => ?_, by first | rfl | trivial⟩
              rw [List.take_add_one, HY.out] at hx
              rcases List.mem_append.1 hx with h | h
              · exact HV.out x h
              · simp at h
                subst h
                exact h10
            case measure => simp [intOf] <;> omega
          · have h10' : 10 < tn := by omega
            go_wp2
            go_ret
            exact ⟨⟨true, rfl, fun h => by cases h⟩, HB0.out⟩
        · have hkn : k = nl := by omega
          subst hkn
          have HF : Hid (∀ x ∈ l, x.n ≤ 10) := by
            have h := HV.out
            rw [List.take_of_length_le (by rw [← HNL.out]; exact Nat.le_refl _)] at h
            exact h
          go_wp2_with fail
          go_loopw [4] (fun u wx => ∃ j : Nat, j ≤ n ∧ u = .int .i64 (j : Int) ∧ Hid (∀ x ∈ rows.take j, x.n ≤ 10) ∧ wx = wr) (fun u _ => n - (intOf u).toNat)
          case atStart => exact ⟨0, by omega, rfl, (by intro x hx; rw [List.take_zero] at hx; cases hx), by first | rfl | trivial⟩
          case round =>
            obtain ⟨j, hj, rfl, HW, rfl⟩ := hrel
            by_cases hlt2 : j < n
            · obtain ⟨e, hy⟩ : ∃ e, rows[j]? = some e := ⟨rows[j]'(by rw [← HN.out]; exact hlt2), List.getElem?_eq_getElem _⟩
              obtain ⟨b1, o1, rfl, hb1, ha1⟩ := HE.out (by have := HN.out; omega)
              obtain ⟨P, cp, d0, d1, d2, d3⟩ := ha1 j e hy
              have HY := Lib.hid hy
              obtain ⟨et, en, er, ev⟩ := e
              simp only at d0 d1 d2 d3
              clear ha1 hy hb1
              by_cases h10 : en ≤ 10
              · go_wp2
                go_roundw
                case rel =>
                  refine ⟨j + 1, by omega, by go_num, fun x hx => ?_, by first | rfl | trivial⟩
                  rw [List.take_add_one, HY.out] at hx
                  rcases List.mem_append.1 hx with h | h
                  · exact HW.out x h
                  · simp at h
                    subst h
                    exact h10
                case measure => simp [intOf] <;> omega
              · have h10' : 10 < en := by omega
                go_wp2
                go_ret
                exact ⟨⟨true, rfl, fun h => by cases h⟩, HB0.out⟩
            · have hjn : j = n := by omega
              subst hjn
              have HG : Hid (∀ x ∈ rows, x.n ≤ 10) := by
                have h := HW.out
                rw [List.take_of_length_le (by rw [← HN.out]; exact Nat.le_refl _)] at h
                exact h
              go_wp2
              go_ret
              exact ⟨⟨false, rfl, fun _ => ⟨by omega, by omega, HF.out, HG.out⟩⟩, HB0.out⟩

set_option maxHeartbeats 2000000 in
theorem mode_any (m : Mo) (now : Int) (L A : Option Addr) (nl cl n c : Nat) (w : World) : Calls Try.prog 12 #[.agg (aC m now (.slice L nl cl) (.slice A n c))] w fun r w' => r = .returned m.v ∧ Below w.heap.size w w' := by
  obtain ⟨k, b, s, cc, e⟩ := m
  obtain ⟨w0, hw0⟩ : ∃ w0, w0 = (w.alloc (.cells (aC ⟨k, b, s, cc, e⟩ now (.slice L nl cl) (.slice A n c)) 27)).alloc (.cells (mCells 0 0 0 0 0) 35) := ⟨_, rfl⟩
  have hb0 : Below w.heap.size w w0 := by rw [hw0]; exact ((Below.refl _ _).alloc (Nat.le_refl _) _).alloc (by simp) _
  have hp0 : w0.heap[w.heap.size]? = some (.cells (aC ⟨k, b, s, cc, e⟩ now (.slice L nl cl) (.slice A n c)) 27 (0, 0)) := by rw [hw0]; exact (Below.heap_alloc _ _ _ (by simp)).trans (heap_alloc_new w _)
  have hq0 : w0.heap[w.heap.size + 1]? = some (.cells (mCells 0 0 0 0 0) 35 (0, 0)) := by
    have := heap_alloc_new (w.alloc (.cells (aC ⟨k, b, s, cc, e⟩ now (.slice L nl cl) (.slice A n c)) 27)) (.cells (mCells 0 0 0 0 0) 35)
    rw [World.size_alloc] at this
    rw [hw0]; exact this
  have hs0 : w0.heap.size = w.heap.size + 2 := by rw [hw0]; simp
  obtain ⟨w1, hw1⟩ : ∃ w1, w1 = w0.alloc (.cells (mCells k b s cc e) 23) := ⟨_, rfl⟩
  have hb1 : Below w.heap.size w w1 := by rw [hw1]; exact hb0.alloc (by omega) _
  have hr1 : w1.heap[w.heap.size + 2]? = some (.cells (mCells k b s cc e) 23 (0, 0)) := by rw [hw1, ← hs0]; exact heap_alloc_new w0 _
  have hq1 : w1.heap[w.heap.size + 1]? = some (.cells (mCells 0 0 0 0 0) 35 (0, 0)) := by rw [hw1]; exact (Below.heap_alloc _ _ _ (by omega)).trans hq0
  have p0 := cell_of_row w0 w.heap.size 0 _ _ _ hp0
  have p1 := cell_of_row w0 w.heap.size 1 _ _ _ hp0
  have p2 := cell_of_row w0 w.heap.size 2 _ _ _ hp0
  have p3 := cell_of_row w0 w.heap.size 3 _ _ _ hp0
  have p4 := cell_of_row w0 w.heap.size 4 _ _ _ hp0
  have f1 : ∀ i, w1.frozen? ⟨w.heap.size + 1, i, none⟩ = false := fun i => frozen_of_row w1 _ i _ _ hq1
  have c0 := cell_of_row w1 (w.heap.size + 2) 0 _ _ _ hr1
  have c1 := cell_of_row w1 (w.heap.size + 2) 1 _ _ _ hr1
  have c2 := cell_of_row w1 (w.heap.size + 2) 2 _ _ _ hr1
  have c3 := cell_of_row w1 (w.heap.size + 2) 3 _ _ _ hr1
  have c4 := cell_of_row w1 (w.heap.size + 2) 4 _ _ _ hr1
  have d0 := cell_of_row w1 (w.heap.size + 1) 0 _ _ _ hq1
  have d1 := cell_of_row w1 (w.heap.size + 1) 1 _ _ _ hq1
  have d2 := cell_of_row w1 (w.heap.size + 1) 2 _ _ _ hq1
  have d3 := cell_of_row w1 (w.heap.size + 1) 3 _ _ _ hq1
  have d4 := cell_of_row w1 (w.heap.size + 1) 4 _ _ _ hq1
  simp at p0 p1 p2 p3 p4 c0 c1 c2 c3 c4 d0 d1 d2 d3 d4
  have H0 := Lib.hid hw0
  have H1 := Lib.hid hw1
  have HS0 := Lib.hid hs0
  clear hw0 hw1 hp0 hq0 hr1 hq1 hs0
  go_enter Try.func12, Try.ntmps12
  go_upto_region 1 with (fail)
  rw [← H0.out]
  go_upto_region 2 with (fail)
  rw [← H1.out]
  rw [HS0.out]
  go_wp2
  exact bodyPost_ret (v := mV k b s cc e) (by simp [results, Try.results12, go_sem, d0, d1, d2, d3, d4]) rfl ⟨rfl, ((((hb1.setCell (by simp) _).setCell (by simp) _).setCell (by simp) _).setCell (by simp) _).setCell (by simp) _⟩

def RowsPost (w : World) (rows : List Rw) (n : Nat) (r : Ending) (w' : World) : Prop :=
  ∃ (A' : Option Addr) (c' : Nat) (lf : List FW), r = .returned (.slice A' n c') ∧ lf.map (·.e) = rows ∧ w'.ownsRow w.heap.size 55 4 (.slice A' n c') n (gr lf) ∧ Below w.heap.size w w'
def TixPost (w : World) (l : List Tk) (n : Nat) (r : Ending) (w' : World) : Prop :=
  ∃ (A' : Option Addr) (c' : Nat) (lf : List FT), r = .returned (.slice A' n c') ∧ lf.map (·.t) = l ∧ w'.ownsRow w.heap.size 44 5 (.slice A' n c') n (fr lf) ∧ Below w.heap.size w w'

theorem own_after {w W : World} {base T s m : Nat} {v : Value} {xs : List Value} (h : w.ownsRow base T s v m xs) (hk : ∀ g, v.ownBlock = some g → W.heap[g]? = w.heap[g]?) : W.ownsRow base T s v m xs := by
  refine ⟨h.1, ?_⟩
  rcases h.2 with h2 | ⟨g, cap, cur, e, h3⟩
  · exact .inl h2
  · subst e
    exact .inr ⟨g, cap, cur, rfl, h3.1, (hk g rfl).trans h3.2.1, h3.2.2⟩
theorem own_lt {w : World} {base T s m : Nat} {v : Value} {xs : List Value} (h : w.ownsRow base T s v m xs) : ∀ g, v.ownBlock = some g → base ≤ g ∧ g < w.heap.size := by
  intro g hg
  rcases h.2 with ⟨rfl, _⟩ | ⟨g', cap, cur, e, h3⟩
  · cases hg
  · subst e
    injection hg with hg
    subst hg
    exact ⟨h3.1, lt_of_block h3.2.1⟩
theorem own_low {w : World} {b b' T s m : Nat} {v : Value} {xs : List Value} (h : w.ownsRow b T s v m xs) (hb : b' ≤ b) : w.ownsRow b' T s v m xs := by
  refine ⟨h.1, ?_⟩
  rcases h.2 with h | ⟨g, cap, cur, h1, h2, h3⟩
  · exact .inl h
  · exact .inr ⟨g, cap, cur, h1, Nat.le_trans hb h2, h3⟩

set_option linter.unusedSimpArgs false in
set_option maxHeartbeats 8000000 in
theorem rows_any (m : Mo) (now : Int) (O A : Option Addr) (no co n c : Nat) (l : List Rw) (w : World) (hn : n = l.length) (hE : Rr w w.heap.size A l) (hl : n ≤ 100) (hs : ∀ t ∈ l, t.n ≤ 10) :
    Calls Try.prog 9 #[.agg (aC m now (.slice O no co) (.slice A n c))] w fun r w' => RowsPost w l n r w' := by
  obtain ⟨w0, hw0⟩ : ∃ w0, w0 = w.alloc (.cells (aC m now (.slice O no co) (.slice A n c)) 27) := ⟨_, rfl⟩
  have hb0 : Below w.heap.size w w0 := by rw [hw0]; exact (Below.refl _ _).alloc (Nat.le_refl _) _
  have hp0 : w0.heap[w.heap.size]? = some (.cells (aC m now (.slice O no co) (.slice A n c)) 27 (0, 0)) := by rw [hw0]; exact heap_alloc_new w _
  have HCA : Hid (∀ W, Below w0.heap.size w0 W → W.cell? ⟨w.heap.size, 7, none⟩ = some (.slice A n c)) := fun W hW => cell_of_row W _ 7 _ _ _ ((hW.block _ (lt_of_block hp0)).trans hp0)
  have HE := Lib.hid (hE.later hb0 (Nat.le_refl _))
  have HN := Lib.hid hn
  have HS := Lib.hid hs
  have H0 := Lib.hid hw0
  have HB0 := Lib.hid hb0
  have HBr : Hid (Below w0.heap.size w0 w0) := Below.refl _ _
  have HWW : Hid (w.heap.size ≤ w0.heap.size) := hb0.size
  clear hn hE hs hw0 hb0 hp0
  go_enter Try.func9, Try.ntmps9
  go_upto_region 1 with (fail)
  rw [← H0.out]
  go_wp2_with fail
  go_loopw [3, 4] (fun o u wr => ∃ (k : Nat) (lf : List FW), k ≤ n ∧ u = .int .i64 (k : Int) ∧ Hid (lf.map (·.e) = l.take k ∧ wr.ownsRow w0.heap.size 55 4 o k (gr lf) ∧ Below w0.heap.size w0 wr)) (fun _ u _ => n - (intOf u).toNat)
  case atStart => exact ⟨0, [], by omega, rfl, rfl, World.ownsRow_nil w0 _ 55 4, HBr.out⟩
  case round =>
    obtain ⟨k, lf, hk, rfl, HV⟩ := hrel
    obtain ⟨B, c2, rfl⟩ := own_form HV.out.2.1
    have hca := HCA.out wr HV.out.2.2
    by_cases hlt : k < n
    · obtain ⟨t, hy⟩ : ∃ t, l[k]? = some t := ⟨l[k]'(by rw [← HN.out]; exact hlt), List.getElem?_eq_getElem _⟩
      obtain ⟨b1, o1, rfl, hb1, ha1⟩ := (HE.out.below HV.out.2.2) (by have := HN.out; omega)
      obtain ⟨P, cp, ⟨d0, d1, d2, d3⟩, hu⟩ := ha1 k t hy
      have hsn := HS.out t (List.mem_of_getElem? hy)
      have HTK : Hid (l.take (k + 1) = l.take k ++ [t]) := by simp only [Hid]; rw [List.take_add_one, hy]; rfl
      obtain ⟨tt, tn, tr, tv⟩ := t
      simp only at d0 d1 d2 d3 hu hsn
      obtain ⟨w2, hw2⟩ : ∃ w2, w2 = wr.alloc (.cells #[.int .i64 tt, .slice P tn cp, .int .i64 tr, .int .i64 tv] 57) := ⟨_, rfl⟩
      obtain ⟨X, hX⟩ : ∃ X, X = wr.heap.size := ⟨_, rfl⟩
      have hg2 : w2.heap[X]? = some (.cells #[.int .i64 tt, .slice P tn cp, .int .i64 tr, .int .i64 tv] 57 (0, 0)) := by rw [hw2, hX]; exact heap_alloc_new wr _
      have hb2 : Below wr.heap.size wr w2 := by rw [hw2]; exact (Below.refl _ _).alloc (Nat.le_refl _) _
      have HB2 : Hid (Below w0.heap.size w0 w2) := HV.out.2.2.trans (hb2.mono HV.out.2.2.size)
      have HU2 : Hid (Us w2 w0.heap.size P tn) := hu.below (hb2.mono HV.out.2.2.size)
      have HO2 : Hid (w2.ownsRow w0.heap.size 55 4 (.slice B k c2) k (gr lf)) := own_after HV.out.2.1 fun g hg => hb2.block g (own_lt HV.out.2.1 g hg).2
      have HWS : Hid (w0.heap.size ≤ X) := by rw [hX]; exact HV.out.2.2.size
      have HCE : Hid (∀ W : World, (W.heap[X]? = w2.heap[X]?) → W.cell? ⟨X, 0, none⟩ = some (.int .i64 tt) ∧ W.cell? ⟨X, 1, none⟩ = some (.slice P tn cp) ∧ W.cell? ⟨X, 2, none⟩ = some (.int .i64 tr) ∧ W.cell? ⟨X, 3, none⟩ = some (.int .i64 tv)) := fun W hW => by
        have e1 := hW.trans hg2
        exact ⟨cell_of_row W _ 0 _ _ _ e1, cell_of_row W _ 1 _ _ _ e1, cell_of_row W _ 2 _ _ _ e1, cell_of_row W _ 3 _ _ _ e1⟩
      have HXL : Hid (X < w2.heap.size) := lt_of_block hg2
      have HXO : Hid ((Value.slice B k c2).ownBlock ≠ some X) := fun h => by
        have := (own_lt HV.out.2.1 X h).2
        omega
      have HBS : Hid (Below w2.heap.size w2 w2) := Below.refl _ _
      have H2 := Lib.hid hw2
      have HXE := Lib.hid hX
      clear ha1 hy hb1 hw2 hX hg2 hb2 hu
      go_upto_region 6 with (fail)
      rw [← H2.out]
      rw [← HXE.out]
      clear H2 HXE d0 d1 d2 d3
      have HDp : Hid (Below w2.heap.size w2 w2.drew) := HBS.out.drew
      refine wp_region_held_drew (S := fun W : World => W.cell? ⟨X, 0, none⟩ = some (.int .i64 tt) ∧ W.cell? ⟨X, 1, none⟩ = some (.slice P tn cp) ∧ W.cell? ⟨X, 2, none⟩ = some (.int .i64 tr) ∧ W.cell? ⟨X, 3, none⟩ = some (.int .i64 tv)) (by kernel_rfl) (HCE.out _ (HDp.out.block X HXL.out)) (fun hHeld => ?_)
      obtain ⟨W0, hW0⟩ : ∃ W0, W0 = w2.drew := ⟨_, rfl⟩
      rw [← hW0] at hHeld HDp ⊢
      clear hW0
      refine wpAnyH_take (i := 0) (oi := ?oi0p) (v := ?v0p) ?hi0p ?hs0p ?hf0p ?hr0p ?hQ0p ?hy0p ?hS0p ?h0p
      case hi0p => exact (by simp only [List.getElem?_toArray, List.getElem?_cons_zero]; rfl)
      case hs0p => kernel_rfl
      case hf0p => kernel_rfl
      case hr0p => kernel_rfl
      case hQ0p => exact fun _ _ _ h => h
      case hy0p =>
        refine Or.inl ⟨rfl, ?_⟩
        intro W hSw
        obtain ⟨y0, y1, y2, y3⟩ := hSw
        go_simp
        try with_reducible rfl
      case hS0p => assumption
      try simp only [Act.put, List.setIfInBounds_toArray, List.set_cons_zero, List.set_cons_succ]
      refine wpAnyH_take (i := 1) (oi := ?oi1p) (v := ?v1p) ?hi1p ?hs1p ?hf1p ?hr1p ?hQ1p ?hy1p ?hS1p ?h1p
      case hi1p => exact (by simp only [List.getElem?_toArray, List.getElem?_cons_succ, List.getElem?_cons_zero]; rfl)
      case hs1p => kernel_rfl
      case hf1p => kernel_rfl
      case hr1p => kernel_rfl
      case hQ1p => exact fun _ _ _ h => h
      case hy1p =>
        refine Or.inl ⟨rfl, ?_⟩
        intro W hSw
        obtain ⟨y0, y1, y2, y3⟩ := hSw
        go_simp
        try with_reducible rfl
      case hS1p => assumption
      try simp only [Act.put, List.setIfInBounds_toArray, List.set_cons_zero, List.set_cons_succ]
      refine wpAnyH_take (i := 2) (oi := ?oi2p) (v := ?v2p) ?hi2p ?hs2p ?hf2p ?hr2p ?hQ2p ?hy2p ?hS2p ?h2p
      case hi2p => exact (by simp only [List.getElem?_toArray, List.getElem?_cons_succ, List.getElem?_cons_zero]; rfl)
      case hs2p => kernel_rfl
      case hf2p => kernel_rfl
      case hr2p => kernel_rfl
      case hQ2p => exact fun _ _ _ h => h
      case hy2p =>
        refine Or.inl ⟨rfl, ?_⟩
        intro W hSw
        obtain ⟨y0, y1, y2, y3⟩ := hSw
        go_simp
        try with_reducible rfl
      case hS2p => assumption
      try simp only [Act.put, List.setIfInBounds_toArray, List.set_cons_zero, List.set_cons_succ]
      refine wpAnyH_take (i := 4) (oi := ?oi4p) (v := ?v4p) ?hi4p ?hs4p ?hf4p ?hr4p ?hQ4p ?hy4p ?hS4p ?h4p
      case hi4p => exact (by simp only [List.getElem?_toArray, List.getElem?_cons_succ, List.getElem?_cons_zero]; rfl)
      case hs4p => kernel_rfl
      case hf4p => kernel_rfl
      case hr4p => kernel_rfl
      case hQ4p => exact fun _ _ _ h => h
      case hy4p =>
        refine Or.inl ⟨rfl, ?_⟩
        intro W hSw
        obtain ⟨y0, y1, y2, y3⟩ := hSw
        go_simp
        try with_reducible rfl
      case hS4p => assumption
      try simp only [Act.put, List.setIfInBounds_toArray, List.set_cons_zero, List.set_cons_succ]
      refine wpAnyH_take (i := 5) (oi := ?oi5p) (v := ?v5p) ?hi5p ?hs5p ?hf5p ?hr5p ?hQ5p ?hy5p ?hS5p ?h5p
      case hi5p => exact (by simp only [List.getElem?_toArray, List.getElem?_cons_succ, List.getElem?_cons_zero]; rfl)
      case hs5p => kernel_rfl
      case hf5p => kernel_rfl
      case hr5p => kernel_rfl
      case hQ5p => exact fun _ _ _ h => h
      case hy5p =>
        refine Or.inl ⟨rfl, ?_⟩
        intro W hSw
        obtain ⟨y0, y1, y2, y3⟩ := hSw
        go_simp
        try with_reducible rfl
      case hS5p => assumption
      try simp only [Act.put, List.setIfInBounds_toArray, List.set_cons_zero, List.set_cons_succ]
      refine wpAnyH_take (i := 7) (oi := ?oi7p) (v := ?v7p) ?hi7p ?hs7p ?hf7p ?hr7p ?hQ7p ?hy7p ?hS7p ?h7p
      case hi7p => exact (by simp only [List.getElem?_toArray, List.getElem?_cons_succ, List.getElem?_cons_zero]; rfl)
      case hs7p => kernel_rfl
      case hf7p => kernel_rfl
      case hr7p => kernel_rfl
      case hQ7p => exact fun _ _ _ h => h
      case hy7p =>
        refine Or.inl ⟨rfl, ?_⟩
        intro W hSw
        obtain ⟨y0, y1, y2, y3⟩ := hSw
        go_simp
        try with_reducible rfl
      case hS7p => assumption
      try simp only [Act.put, List.setIfInBounds_toArray, List.set_cons_zero, List.set_cons_succ]
      refine wpAnyH_take (i := 8) (oi := ?oi8p) (v := ?v8p) ?hi8p ?hs8p ?hf8p ?hr8p ?hQ8p ?hy8p ?hS8p ?h8p
      case hi8p => exact (by simp only [List.getElem?_toArray, List.getElem?_cons_succ, List.getElem?_cons_zero]; rfl)
      case hs8p => kernel_rfl
      case hf8p => kernel_rfl
      case hr8p => kernel_rfl
      case hQ8p => exact fun _ _ _ h => h
      case hy8p =>
        refine Or.inl ⟨rfl, ?_⟩
        intro W hSw
        obtain ⟨y0, y1, y2, y3⟩ := hSw
        go_simp
        try with_reducible rfl
      case hS8p => assumption
      try simp only [Act.put, List.setIfInBounds_toArray, List.set_cons_zero, List.set_cons_succ]
      refine wpAnyH_take (i := 9) (oi := ?oi9p) (v := ?v9p) ?hi9p ?hs9p ?hf9p ?hr9p ?hQ9p ?hy9p ?hS9p ?h9p
      case hi9p => exact (by simp only [List.getElem?_toArray, List.getElem?_cons_succ, List.getElem?_cons_zero]; rfl)
      case hs9p => kernel_rfl
      case hf9p => kernel_rfl
      case hr9p => kernel_rfl
      case hQ9p => exact fun _ _ _ h => h
      case hy9p =>
        refine Or.inl ⟨rfl, ?_⟩
        intro W hSw
        obtain ⟨y0, y1, y2, y3⟩ := hSw
        go_simp
        try with_reducible rfl
      case hS9p => assumption
      try simp only [Act.put, List.setIfInBounds_toArray, List.set_cons_zero, List.set_cons_succ]
      refine wpAnyH_take (i := 10) (oi := ?oi10p) (v := ?v10p) ?hi10p ?hs10p ?hf10p ?hr10p ?hQ10p ?hy10p ?hS10p ?h10p
      case hi10p => exact (by simp only [List.getElem?_toArray, List.getElem?_cons_succ, List.getElem?_cons_zero]; rfl)
      case hs10p => kernel_rfl
      case hf10p => kernel_rfl
      case hr10p => kernel_rfl
      case hQ10p => exact fun _ _ _ h => h
      case hy10p =>
        refine Or.inl ⟨rfl, ?_⟩
        intro W hSw
        obtain ⟨y0, y1, y2, y3⟩ := hSw
        go_simp
        try with_reducible rfl
      case hS10p => assumption
      try simp only [Act.put, List.setIfInBounds_toArray, List.set_cons_zero, List.set_cons_succ]
      refine wpAnyH_ready (rs := [3]) (by kernel_rfl) (by simp) ?_
      refine AllReadyH.cons (o := _) rfl (fun K hK => ?_) AllReadyH.nil
      go_simp
      obtain ⟨W1, hW1⟩ : ∃ W1, W1 = W0.alloc (.cells #[] 41) := ⟨_, rfl⟩
      rw [← hW1]
      have HGU : Hid (W1.heap[W0.heap.size]? = some (.cells #[] 41 (0, 0))) := by rw [hW1]; exact heap_alloc_new W0 _
      have HD1 : Hid (Below w2.heap.size w2 W1) := by rw [hW1]; exact HDp.out.alloc HDp.out.size _
      clear hW1
      refine hK.out _ _ (HCE.out _ (HD1.out.block X HXL.out)) (fun hHeld => ?_)
      clear hK K
      try simp only [Act.put, List.setIfInBounds_toArray, List.set_cons_zero, List.set_cons_succ]
      refine wpAnyH_ready (rs := [6]) (by kernel_rfl) (by simp) ?_
      refine AllReadyH.cons (o := _) rfl (fun K hK => ?_) AllReadyH.nil
      refine step_append_us rfl _ _ rfl w0.heap.size W0.heap.size tn cp P rfl rfl HGU.out (HU2.out.below (HD1.out.mono HB2.out.size)) (by omega) ?_
      intro P9 c9 W2 hg9
      change K (Act.put _ (some 24) (.slice P9 tn c9)) W2
      have HD2 : Hid (Below w2.heap.size w2 W2) := HD1.out.grown hg9 HD1.out.size (fun g hg => by injection hg with hg; rw [← hg]; exact HDp.out.size)
      clear hg9
      refine hK.out _ _ (HCE.out _ (HD2.out.block X HXL.out)) (fun hHeld => ?_)
      clear hK K
      try simp only [Act.put, List.setIfInBounds_toArray, List.set_cons_zero, List.set_cons_succ]
      refine wpAnyH_take (i := 11) (oi := ?oi11p) (v := ?v11p) ?hi11p ?hs11p ?hf11p ?hr11p ?hQ11p ?hy11p ?hS11p ?h11p
      case hi11p => exact (by simp only [List.getElem?_toArray, List.getElem?_cons_succ, List.getElem?_cons_zero]; rfl)
      case hs11p => kernel_rfl
      case hf11p => kernel_rfl
      case hr11p => kernel_rfl
      case hQ11p => exact fun _ _ _ h => h
      case hy11p =>
        refine Or.inl ⟨rfl, ?_⟩
        intro W hSw
        obtain ⟨y0, y1, y2, y3⟩ := hSw
        go_simp
        try with_reducible rfl
      case hS11p => assumption
      try simp only [Act.put, List.setIfInBounds_toArray, List.set_cons_zero, List.set_cons_succ]
      refine wpAnyH_ready (rs := [12]) (by kernel_rfl) (by simp) ?_
      refine AllReadyH.cons (o := _) rfl (fun K hK => ?_) AllReadyH.nil
      go_simp
      obtain ⟨W3, hW3⟩ : ∃ W3, W3 = W2.alloc (.cells #[.int .i64 tt, .slice P9 tn c9, .int .i64 tr, .int .i64 tv] 55) := ⟨_, rfl⟩
      rw [← hW3]
      have HG3 : Hid (W3.heap[W2.heap.size]? = some (.cells (gc ⟨P9, c9, ⟨tt, tn, tr, tv⟩⟩).toArray 55 (0, 0))) := by rw [hW3]; exact heap_alloc_new W2 _
      have HD3 : Hid (Below w2.heap.size w2 W3) := by rw [hW3]; exact HD2.out.alloc HD2.out.size _
      clear hW3
      refine hK.out _ _ (HCE.out _ (HD3.out.block X HXL.out)) (fun hHeld => ?_)
      clear hK K
      try simp only [Act.put, List.setIfInBounds_toArray, List.set_cons_zero, List.set_cons_succ]
      refine wpAnyH_ready (rs := [13]) (by kernel_rfl) (by simp) ?_
      refine AllReadyH.cons (o := _) rfl (fun K hK => ?_) AllReadyH.nil
      have hown : W3.ownsRow w0.heap.size 55 4 (.slice B k c2) k (gr lf) := own_after HO2.out fun g hg => HD3.out.block g (own_lt HO2.out g hg).2
      refine step_append_gr rfl _ _ rfl w0.heap.size W2.heap.size (.slice B k c2) k (gr lf) ⟨P9, c9, ⟨tt, tn, tr, tv⟩⟩ rfl rfl hown HG3.out (by omega) (Nat.le_trans HB2.out.size HD3.out.size) ?_
      intro v9 W4 ho9 hg9 _
      change K (Act.put _ (some 31) v9) W4
      have HFIN : Hid (W4.ownsRow w0.heap.size 55 4 v9 (k + 1) (gr lf ++ gc ⟨P9, c9, ⟨tt, tn, tr, tv⟩⟩) ∧ Below w0.heap.size w0 W4) := ⟨ho9, (HB2.out.trans (HD3.out.mono HB2.out.size)).grown hg9 (Nat.le_trans HB2.out.size HD3.out.size) (fun g hg => (own_lt hown g hg).1)⟩
      have hX4 : W4.heap[X]? = w2.heap[X]? := (hg9.block X (Nat.lt_of_lt_of_le HXL.out HD3.out.size) (fun h => HXO.out h.symm)).trans (HD3.out.block X HXL.out)
      obtain ⟨B9, d9, rfl⟩ := own_form ho9
      clear ho9 hg9 hown
      refine hK.out _ _ (HCE.out _ hX4) (fun hHeld => ?_)
      clear hK K
      try simp only [Act.put, List.setIfInBounds_toArray, List.set_cons_zero, List.set_cons_succ]
      refine wpAnyH_take (i := 14) (oi := ?oi14p) (v := ?v14p) ?hi14p ?hs14p ?hf14p ?hr14p ?hQ14p ?hy14p ?hS14p ?h14p
      case hi14p => exact (by simp only [List.getElem?_toArray, List.getElem?_cons_succ, List.getElem?_cons_zero]; rfl)
      case hs14p => kernel_rfl
      case hf14p => kernel_rfl
      case hr14p => kernel_rfl
      case hQ14p => exact fun _ _ _ h => h
      case hy14p =>
        refine Or.inl ⟨rfl, ?_⟩
        intro W hSw
        obtain ⟨y0, y1, y2, y3⟩ := hSw
        go_simp
        try with_reducible rfl
      case hS14p => assumption
      try simp only [Act.put, List.setIfInBounds_toArray, List.set_cons_zero, List.set_cons_succ]
      refine wpAnyH_done (by kernel_rfl) ?_ _
      go_wp2
      go_roundw
      case rel => exact ⟨k + 1, lf ++ [⟨P9, c9, ⟨tt, tn, tr, tv⟩⟩], by omega, by go_num, by rw [List.map_append, HV.out.1, HTK.out]; rfl, by rw [gr_snoc]; exact HFIN.out.1, HFIN.out.2⟩
      case measure => simp [intOf] <;> omega
    · have hkn : k = n := by omega
      subst hkn
      have HZ : Hid (lf.map (·.e) = l) := by
        have h := HV.out.1
        rw [List.take_of_length_le (by rw [← HN.out]; exact Nat.le_refl _)] at h
        exact h
      have HO : Hid (wr.ownsRow w.heap.size 55 4 (.slice B k c2) k (gr lf)) := own_low HV.out.2.1 HWW.out
      go_wp2
      go_ret
      exact ⟨_, _, lf, rfl, HZ.out, HO.out, HB0.out.trans (HV.out.2.2.mono HB0.out.size)⟩

set_option linter.unusedSimpArgs false in
set_option maxHeartbeats 8000000 in
theorem tickets_any (m : Mo) (now : Int) (O A : Option Addr) (no co n c : Nat) (l : List Tk) (w : World) (hn : n = l.length) (hE : Tr w w.heap.size A l) (hl : n ≤ 100) (hs : ∀ t ∈ l, t.n ≤ 10) :
    Calls Try.prog 14 #[.agg (aC m now (.slice A n c) (.slice O no co))] w fun r w' => TixPost w l n r w' := by
  obtain ⟨w0, hw0⟩ : ∃ w0, w0 = w.alloc (.cells (aC m now (.slice A n c) (.slice O no co)) 27) := ⟨_, rfl⟩
  have hb0 : Below w.heap.size w w0 := by rw [hw0]; exact (Below.refl _ _).alloc (Nat.le_refl _) _
  have hp0 : w0.heap[w.heap.size]? = some (.cells (aC m now (.slice A n c) (.slice O no co)) 27 (0, 0)) := by rw [hw0]; exact heap_alloc_new w _
  have HCA : Hid (∀ W, Below w0.heap.size w0 W → W.cell? ⟨w.heap.size, 6, none⟩ = some (.slice A n c)) := fun W hW => cell_of_row W _ 6 _ _ _ ((hW.block _ (lt_of_block hp0)).trans hp0)
  have HE := Lib.hid (hE.later hb0 (Nat.le_refl _))
  have HN := Lib.hid hn
  have HS := Lib.hid hs
  have H0 := Lib.hid hw0
  have HB0 := Lib.hid hb0
  have HBr : Hid (Below w0.heap.size w0 w0) := Below.refl _ _
  have HWW : Hid (w.heap.size ≤ w0.heap.size) := hb0.size
  clear hn hE hs hw0 hb0 hp0
  go_enter Try.func14, Try.ntmps14
  go_upto_region 1 with (fail)
  rw [← H0.out]
  go_wp2_with fail
  go_loopw [3, 4] (fun o u wr => ∃ (k : Nat) (lf : List FT), k ≤ n ∧ u = .int .i64 (k : Int) ∧ Hid (lf.map (·.t) = l.take k ∧ wr.ownsRow w0.heap.size 44 5 o k (fr lf) ∧ Below w0.heap.size w0 wr)) (fun _ u _ => n - (intOf u).toNat)
  case atStart => exact ⟨0, [], by omega, rfl, rfl, World.ownsRow_nil w0 _ 44 5, HBr.out⟩
  case round =>
    obtain ⟨k, lf, hk, rfl, HV⟩ := hrel
    obtain ⟨B, c2, rfl⟩ := own_form HV.out.2.1
    have hca := HCA.out wr HV.out.2.2
    by_cases hlt : k < n
    · obtain ⟨t, hy⟩ : ∃ t, l[k]? = some t := ⟨l[k]'(by rw [← HN.out]; exact hlt), List.getElem?_eq_getElem _⟩
      obtain ⟨b1, o1, rfl, hb1, ha1⟩ := (HE.out.below HV.out.2.2) (by have := HN.out; omega)
      obtain ⟨x, y, P, cp, ⟨d0, d1, d2, d3, d4⟩, hu⟩ := ha1 k t hy
      have hsn := HS.out t (List.mem_of_getElem? hy)
      have HTK : Hid (l.take (k + 1) = l.take k ++ [t]) := by simp only [Hid]; rw [List.take_add_one, hy]; rfl
      obtain ⟨tn, tr, ts⟩ := t
      simp only at d0 d1 d2 d3 d4 hu hsn
      obtain ⟨w2, hw2⟩ : ∃ w2, w2 = wr.alloc (.cells #[.int .u32 x, .int .i64 y, .slice P tn cp, .int .i64 tr, .int .i64 ts] 46) := ⟨_, rfl⟩
      obtain ⟨X, hX⟩ : ∃ X, X = wr.heap.size := ⟨_, rfl⟩
      have hg2 : w2.heap[X]? = some (.cells #[.int .u32 x, .int .i64 y, .slice P tn cp, .int .i64 tr, .int .i64 ts] 46 (0, 0)) := by rw [hw2, hX]; exact heap_alloc_new wr _
      have hb2 : Below wr.heap.size wr w2 := by rw [hw2]; exact (Below.refl _ _).alloc (Nat.le_refl _) _
      have HB2 : Hid (Below w0.heap.size w0 w2) := HV.out.2.2.trans (hb2.mono HV.out.2.2.size)
      have HU2 : Hid (Us w2 w0.heap.size P tn) := hu.below (hb2.mono HV.out.2.2.size)
      have HO2 : Hid (w2.ownsRow w0.heap.size 44 5 (.slice B k c2) k (fr lf)) := own_after HV.out.2.1 fun g hg => hb2.block g (own_lt HV.out.2.1 g hg).2
      have HWS : Hid (w0.heap.size ≤ X) := by rw [hX]; exact HV.out.2.2.size
      have HCE : Hid (∀ W : World, (W.heap[X]? = w2.heap[X]?) → W.cell? ⟨X, 0, none⟩ = some (.int .u32 x) ∧ W.cell? ⟨X, 1, none⟩ = some (.int .i64 y) ∧ W.cell? ⟨X, 2, none⟩ = some (.slice P tn cp) ∧ W.cell? ⟨X, 3, none⟩ = some (.int .i64 tr) ∧ W.cell? ⟨X, 4, none⟩ = some (.int .i64 ts)) := fun W hW => by
        have e1 := hW.trans hg2
        exact ⟨cell_of_row W _ 0 _ _ _ e1, cell_of_row W _ 1 _ _ _ e1, cell_of_row W _ 2 _ _ _ e1, cell_of_row W _ 3 _ _ _ e1, cell_of_row W _ 4 _ _ _ e1⟩
      have HXL : Hid (X < w2.heap.size) := lt_of_block hg2
      have HXO : Hid ((Value.slice B k c2).ownBlock ≠ some X) := fun h => by
        have := (own_lt HV.out.2.1 X h).2
        omega
      have HBS : Hid (Below w2.heap.size w2 w2) := Below.refl _ _
      have H2 := Lib.hid hw2
      have HXE := Lib.hid hX
      clear ha1 hy hb1 hw2 hX hg2 hb2 hu
      go_upto_region 6 with (fail)
      rw [← H2.out]
      rw [← HXE.out]
      clear H2 HXE d0 d1 d2 d3 d4
      have HDp : Hid (Below w2.heap.size w2 w2.drew) := HBS.out.drew
      refine wp_region_held_drew (S := fun W : World => W.cell? ⟨X, 0, none⟩ = some (.int .u32 x) ∧ W.cell? ⟨X, 1, none⟩ = some (.int .i64 y) ∧ W.cell? ⟨X, 2, none⟩ = some (.slice P tn cp) ∧ W.cell? ⟨X, 3, none⟩ = some (.int .i64 tr) ∧ W.cell? ⟨X, 4, none⟩ = some (.int .i64 ts)) (by kernel_rfl) (HCE.out _ (HDp.out.block X HXL.out)) (fun hHeld => ?_)
      obtain ⟨W0, hW0⟩ : ∃ W0, W0 = w2.drew := ⟨_, rfl⟩
      rw [← hW0] at hHeld HDp ⊢
      clear hW0
      refine wpAnyH_take (i := 0) (oi := ?oi0p) (v := ?v0p) ?hi0p ?hs0p ?hf0p ?hr0p ?hQ0p ?hy0p ?hS0p ?h0p
      case hi0p => exact (by simp only [List.getElem?_toArray, List.getElem?_cons_zero]; rfl)
      case hs0p => kernel_rfl
      case hf0p => kernel_rfl
      case hr0p => kernel_rfl
      case hQ0p => exact fun _ _ _ h => h
      case hy0p =>
        refine Or.inl ⟨rfl, ?_⟩
        intro W hSw
        obtain ⟨y0, y1, y2, y3, y4⟩ := hSw
        go_simp
        try with_reducible rfl
      case hS0p => assumption
      try simp only [Act.put, List.setIfInBounds_toArray, List.set_cons_zero, List.set_cons_succ]
      refine wpAnyH_take (i := 1) (oi := ?oi1p) (v := ?v1p) ?hi1p ?hs1p ?hf1p ?hr1p ?hQ1p ?hy1p ?hS1p ?h1p
      case hi1p => exact (by simp only [List.getElem?_toArray, List.getElem?_cons_succ, List.getElem?_cons_zero]; rfl)
      case hs1p => kernel_rfl
      case hf1p => kernel_rfl
      case hr1p => kernel_rfl
      case hQ1p => exact fun _ _ _ h => h
      case hy1p =>
        refine Or.inl ⟨rfl, ?_⟩
        intro W hSw
        obtain ⟨y0, y1, y2, y3, y4⟩ := hSw
        go_simp
        try with_reducible rfl
      case hS1p => assumption
      try simp only [Act.put, List.setIfInBounds_toArray, List.set_cons_zero, List.set_cons_succ]
      refine wpAnyH_take (i := 2) (oi := ?oi2p) (v := ?v2p) ?hi2p ?hs2p ?hf2p ?hr2p ?hQ2p ?hy2p ?hS2p ?h2p
      case hi2p => exact (by simp only [List.getElem?_toArray, List.getElem?_cons_succ, List.getElem?_cons_zero]; rfl)
      case hs2p => kernel_rfl
      case hf2p => kernel_rfl
      case hr2p => kernel_rfl
      case hQ2p => exact fun _ _ _ h => h
      case hy2p =>
        refine Or.inl ⟨rfl, ?_⟩
        intro W hSw
        obtain ⟨y0, y1, y2, y3, y4⟩ := hSw
        go_simp
        try with_reducible rfl
      case hS2p => assumption
      try simp only [Act.put, List.setIfInBounds_toArray, List.set_cons_zero, List.set_cons_succ]
      refine wpAnyH_take (i := 3) (oi := ?oi3p) (v := ?v3p) ?hi3p ?hs3p ?hf3p ?hr3p ?hQ3p ?hy3p ?hS3p ?h3p
      case hi3p => exact (by simp only [List.getElem?_toArray, List.getElem?_cons_succ, List.getElem?_cons_zero]; rfl)
      case hs3p => kernel_rfl
      case hf3p => kernel_rfl
      case hr3p => kernel_rfl
      case hQ3p => exact fun _ _ _ h => h
      case hy3p =>
        refine Or.inl ⟨rfl, ?_⟩
        intro W hSw
        obtain ⟨y0, y1, y2, y3, y4⟩ := hSw
        go_simp
        try with_reducible rfl
      case hS3p => assumption
      try simp only [Act.put, List.setIfInBounds_toArray, List.set_cons_zero, List.set_cons_succ]
      refine wpAnyH_take (i := 4) (oi := ?oi4p) (v := ?v4p) ?hi4p ?hs4p ?hf4p ?hr4p ?hQ4p ?hy4p ?hS4p ?h4p
      case hi4p => exact (by simp only [List.getElem?_toArray, List.getElem?_cons_succ, List.getElem?_cons_zero]; rfl)
      case hs4p => kernel_rfl
      case hf4p => kernel_rfl
      case hr4p => kernel_rfl
      case hQ4p => exact fun _ _ _ h => h
      case hy4p =>
        refine Or.inl ⟨rfl, ?_⟩
        intro W hSw
        obtain ⟨y0, y1, y2, y3, y4⟩ := hSw
        go_simp
        try with_reducible rfl
      case hS4p => assumption
      try simp only [Act.put, List.setIfInBounds_toArray, List.set_cons_zero, List.set_cons_succ]
      refine wpAnyH_take (i := 6) (oi := ?oi6p) (v := ?v6p) ?hi6p ?hs6p ?hf6p ?hr6p ?hQ6p ?hy6p ?hS6p ?h6p
      case hi6p => exact (by simp only [List.getElem?_toArray, List.getElem?_cons_succ, List.getElem?_cons_zero]; rfl)
      case hs6p => kernel_rfl
      case hf6p => kernel_rfl
      case hr6p => kernel_rfl
      case hQ6p => exact fun _ _ _ h => h
      case hy6p =>
        refine Or.inl ⟨rfl, ?_⟩
        intro W hSw
        obtain ⟨y0, y1, y2, y3, y4⟩ := hSw
        go_simp
        try with_reducible rfl
      case hS6p => assumption
      try simp only [Act.put, List.setIfInBounds_toArray, List.set_cons_zero, List.set_cons_succ]
      refine wpAnyH_take (i := 7) (oi := ?oi7p) (v := ?v7p) ?hi7p ?hs7p ?hf7p ?hr7p ?hQ7p ?hy7p ?hS7p ?h7p
      case hi7p => exact (by simp only [List.getElem?_toArray, List.getElem?_cons_succ, List.getElem?_cons_zero]; rfl)
      case hs7p => kernel_rfl
      case hf7p => kernel_rfl
      case hr7p => kernel_rfl
      case hQ7p => exact fun _ _ _ h => h
      case hy7p =>
        refine Or.inl ⟨rfl, ?_⟩
        intro W hSw
        obtain ⟨y0, y1, y2, y3, y4⟩ := hSw
        go_simp
        try with_reducible rfl
      case hS7p => assumption
      try simp only [Act.put, List.setIfInBounds_toArray, List.set_cons_zero, List.set_cons_succ]
      refine wpAnyH_take (i := 9) (oi := ?oi9p) (v := ?v9p) ?hi9p ?hs9p ?hf9p ?hr9p ?hQ9p ?hy9p ?hS9p ?h9p
      case hi9p => exact (by simp only [List.getElem?_toArray, List.getElem?_cons_succ, List.getElem?_cons_zero]; rfl)
      case hs9p => kernel_rfl
      case hf9p => kernel_rfl
      case hr9p => kernel_rfl
      case hQ9p => exact fun _ _ _ h => h
      case hy9p =>
        refine Or.inl ⟨rfl, ?_⟩
        intro W hSw
        obtain ⟨y0, y1, y2, y3, y4⟩ := hSw
        go_simp
        try with_reducible rfl
      case hS9p => assumption
      try simp only [Act.put, List.setIfInBounds_toArray, List.set_cons_zero, List.set_cons_succ]
      refine wpAnyH_take (i := 10) (oi := ?oi10p) (v := ?v10p) ?hi10p ?hs10p ?hf10p ?hr10p ?hQ10p ?hy10p ?hS10p ?h10p
      case hi10p => exact (by simp only [List.getElem?_toArray, List.getElem?_cons_succ, List.getElem?_cons_zero]; rfl)
      case hs10p => kernel_rfl
      case hf10p => kernel_rfl
      case hr10p => kernel_rfl
      case hQ10p => exact fun _ _ _ h => h
      case hy10p =>
        refine Or.inl ⟨rfl, ?_⟩
        intro W hSw
        obtain ⟨y0, y1, y2, y3, y4⟩ := hSw
        go_simp
        try with_reducible rfl
      case hS10p => assumption
      try simp only [Act.put, List.setIfInBounds_toArray, List.set_cons_zero, List.set_cons_succ]
      refine wpAnyH_take (i := 11) (oi := ?oi11p) (v := ?v11p) ?hi11p ?hs11p ?hf11p ?hr11p ?hQ11p ?hy11p ?hS11p ?h11p
      case hi11p => exact (by simp only [List.getElem?_toArray, List.getElem?_cons_succ, List.getElem?_cons_zero]; rfl)
      case hs11p => kernel_rfl
      case hf11p => kernel_rfl
      case hr11p => kernel_rfl
      case hQ11p => exact fun _ _ _ h => h
      case hy11p =>
        refine Or.inl ⟨rfl, ?_⟩
        intro W hSw
        obtain ⟨y0, y1, y2, y3, y4⟩ := hSw
        go_simp
        try with_reducible rfl
      case hS11p => assumption
      try simp only [Act.put, List.setIfInBounds_toArray, List.set_cons_zero, List.set_cons_succ]
      refine wpAnyH_take (i := 12) (oi := ?oi12p) (v := ?v12p) ?hi12p ?hs12p ?hf12p ?hr12p ?hQ12p ?hy12p ?hS12p ?h12p
      case hi12p => exact (by simp only [List.getElem?_toArray, List.getElem?_cons_succ, List.getElem?_cons_zero]; rfl)
      case hs12p => kernel_rfl
      case hf12p => kernel_rfl
      case hr12p => kernel_rfl
      case hQ12p => exact fun _ _ _ h => h
      case hy12p =>
        refine Or.inl ⟨rfl, ?_⟩
        intro W hSw
        obtain ⟨y0, y1, y2, y3, y4⟩ := hSw
        go_simp
        try with_reducible rfl
      case hS12p => assumption
      try simp only [Act.put, List.setIfInBounds_toArray, List.set_cons_zero, List.set_cons_succ]
      refine wpAnyH_ready (rs := [5]) (by kernel_rfl) (by simp) ?_
      refine AllReadyH.cons (o := _) rfl (fun K hK => ?_) AllReadyH.nil
      go_simp
      obtain ⟨W1, hW1⟩ : ∃ W1, W1 = W0.alloc (.cells #[] 41) := ⟨_, rfl⟩
      rw [← hW1]
      have HGU : Hid (W1.heap[W0.heap.size]? = some (.cells #[] 41 (0, 0))) := by rw [hW1]; exact heap_alloc_new W0 _
      have HD1 : Hid (Below w2.heap.size w2 W1) := by rw [hW1]; exact HDp.out.alloc HDp.out.size _
      clear hW1
      refine hK.out _ _ (HCE.out _ (HD1.out.block X HXL.out)) (fun hHeld => ?_)
      clear hK K
      try simp only [Act.put, List.setIfInBounds_toArray, List.set_cons_zero, List.set_cons_succ]
      refine wpAnyH_ready (rs := [8]) (by kernel_rfl) (by simp) ?_
      refine AllReadyH.cons (o := _) rfl (fun K hK => ?_) AllReadyH.nil
      refine step_append_us rfl _ _ rfl w0.heap.size W0.heap.size tn cp P rfl rfl HGU.out (HU2.out.below (HD1.out.mono HB2.out.size)) (by omega) ?_
      intro P9 c9 W2 hg9
      change K (Act.put _ (some 26) (.slice P9 tn c9)) W2
      have HD2 : Hid (Below w2.heap.size w2 W2) := HD1.out.grown hg9 HD1.out.size (fun g hg => by injection hg with hg; rw [← hg]; exact HDp.out.size)
      clear hg9
      refine hK.out _ _ (HCE.out _ (HD2.out.block X HXL.out)) (fun hHeld => ?_)
      clear hK K
      try simp only [Act.put, List.setIfInBounds_toArray, List.set_cons_zero, List.set_cons_succ]
      refine wpAnyH_take (i := 13) (oi := ?oi13p) (v := ?v13p) ?hi13p ?hs13p ?hf13p ?hr13p ?hQ13p ?hy13p ?hS13p ?h13p
      case hi13p => exact (by simp only [List.getElem?_toArray, List.getElem?_cons_succ, List.getElem?_cons_zero]; rfl)
      case hs13p => kernel_rfl
      case hf13p => kernel_rfl
      case hr13p => kernel_rfl
      case hQ13p => exact fun _ _ _ h => h
      case hy13p =>
        refine Or.inl ⟨rfl, ?_⟩
        intro W hSw
        obtain ⟨y0, y1, y2, y3, y4⟩ := hSw
        go_simp
        try with_reducible rfl
      case hS13p => assumption
      try simp only [Act.put, List.setIfInBounds_toArray, List.set_cons_zero, List.set_cons_succ]
      refine wpAnyH_ready (rs := [14]) (by kernel_rfl) (by simp) ?_
      refine AllReadyH.cons (o := _) rfl (fun K hK => ?_) AllReadyH.nil
      go_simp
      obtain ⟨W3, hW3⟩ : ∃ W3, W3 = W2.alloc (.cells #[.int .u32 x, .int .i64 y, .slice P9 tn c9, .int .i64 tr, .int .i64 ts] 44) := ⟨_, rfl⟩
      rw [← hW3]
      have HG3 : Hid (W3.heap[W2.heap.size]? = some (.cells (fc ⟨x, y, P9, c9, ⟨tn, tr, ts⟩⟩).toArray 44 (0, 0))) := by rw [hW3]; exact heap_alloc_new W2 _
      have HD3 : Hid (Below w2.heap.size w2 W3) := by rw [hW3]; exact HD2.out.alloc HD2.out.size _
      clear hW3
      refine hK.out _ _ (HCE.out _ (HD3.out.block X HXL.out)) (fun hHeld => ?_)
      clear hK K
      try simp only [Act.put, List.setIfInBounds_toArray, List.set_cons_zero, List.set_cons_succ]
      refine wpAnyH_ready (rs := [15]) (by kernel_rfl) (by simp) ?_
      refine AllReadyH.cons (o := _) rfl (fun K hK => ?_) AllReadyH.nil
      have hown : W3.ownsRow w0.heap.size 44 5 (.slice B k c2) k (fr lf) := own_after HO2.out fun g hg => HD3.out.block g (own_lt HO2.out g hg).2
      refine step_append_fr rfl _ _ rfl w0.heap.size W2.heap.size (.slice B k c2) k (fr lf) ⟨x, y, P9, c9, ⟨tn, tr, ts⟩⟩ rfl rfl hown HG3.out (by omega) (Nat.le_trans HB2.out.size HD3.out.size) ?_
      intro v9 W4 ho9 hg9 _
      change K (Act.put _ (some 33) v9) W4
      have HFIN : Hid (W4.ownsRow w0.heap.size 44 5 v9 (k + 1) (fr lf ++ fc ⟨x, y, P9, c9, ⟨tn, tr, ts⟩⟩) ∧ Below w0.heap.size w0 W4) := ⟨ho9, (HB2.out.trans (HD3.out.mono HB2.out.size)).grown hg9 (Nat.le_trans HB2.out.size HD3.out.size) (fun g hg => (own_lt hown g hg).1)⟩
      have hX4 : W4.heap[X]? = w2.heap[X]? := (hg9.block X (Nat.lt_of_lt_of_le HXL.out HD3.out.size) (fun h => HXO.out h.symm)).trans (HD3.out.block X HXL.out)
      obtain ⟨B9, d9, rfl⟩ := own_form ho9
      clear ho9 hg9 hown
      refine hK.out _ _ (HCE.out _ hX4) (fun hHeld => ?_)
      clear hK K
      try simp only [Act.put, List.setIfInBounds_toArray, List.set_cons_zero, List.set_cons_succ]
      refine wpAnyH_take (i := 16) (oi := ?oi16p) (v := ?v16p) ?hi16p ?hs16p ?hf16p ?hr16p ?hQ16p ?hy16p ?hS16p ?h16p
      case hi16p => exact (by simp only [List.getElem?_toArray, List.getElem?_cons_succ, List.getElem?_cons_zero]; rfl)
      case hs16p => kernel_rfl
      case hf16p => kernel_rfl
      case hr16p => kernel_rfl
      case hQ16p => exact fun _ _ _ h => h
      case hy16p =>
        refine Or.inl ⟨rfl, ?_⟩
        intro W hSw
        obtain ⟨y0, y1, y2, y3, y4⟩ := hSw
        go_simp
        try with_reducible rfl
      case hS16p => assumption
      try simp only [Act.put, List.setIfInBounds_toArray, List.set_cons_zero, List.set_cons_succ]
      refine wpAnyH_done (by kernel_rfl) ?_ _
      go_wp2
      go_roundw
      case rel => exact ⟨k + 1, lf ++ [⟨x, y, P9, c9, ⟨tn, tr, ts⟩⟩], by omega, by go_num, by rw [List.map_append, HV.out.1, HTK.out]; rfl, by rw [fr_snoc]; exact HFIN.out.1, HFIN.out.2⟩
      case measure => simp [intOf] <;> omega
    · have hkn : k = n := by omega
      subst hkn
      have HZ : Hid (lf.map (·.t) = l) := by
        have h := HV.out.1
        rw [List.take_of_length_le (by rw [← HN.out]; exact Nat.le_refl _)] at h
        exact h
      have HO : Hid (wr.ownsRow w.heap.size 44 5 (.slice B k c2) k (fr lf)) := own_low HV.out.2.1 HWW.out
      go_wp2
      go_ret
      exact ⟨_, _, lf, rfl, HZ.out, HO.out, HB0.out.trans (HV.out.2.2.mono HB0.out.size)⟩
end Go.Proofs.Ytccabdhfnjlbdaa
