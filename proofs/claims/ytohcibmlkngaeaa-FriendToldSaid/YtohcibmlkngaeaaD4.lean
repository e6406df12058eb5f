/- Friend: the document's rising. -/
import Derived.Test.YtohcibmlkngaeaaD3
namespace Go.Proofs.Ytohcibmlkngaeaa
open Go.RowKit Go.Maps
set_option maxRecDepth 20000
set_option linter.unusedVariables false
set_option linter.unusedSimpArgs false

theorem up_iff (l : List Nat) : Up l ↔ l.Pairwise (· < ·) := by
  rw [List.pairwise_iff_getElem]
  constructor
  · intro h i j hi hj hij
    exact h i j _ _ hij (List.getElem?_eq_getElem hi) (List.getElem?_eq_getElem hj)
  · intro h i j x y hij hx hy
    obtain ⟨h1, rfl⟩ := List.getElem?_eq_some_iff.1 hx
    obtain ⟨h2, rfl⟩ := List.getElem?_eq_some_iff.1 hy
    exact h i j h1 h2 hij
theorem pl_exists (x : Nat) : ∀ ids : List Nat, ids.Pairwise (· < ·) → ∃ p, p ≤ ids.length ∧ (∀ y ∈ ids.take p, y < x) ∧ (∀ y ∈ ids.drop p, x ≤ y)
  | [], _ => ⟨0, by simp, by simp, by simp⟩
  | y :: l, h => by
    rw [List.pairwise_cons] at h
    by_cases hy : y < x
    · obtain ⟨p, h1, h2, h3⟩ := pl_exists x l h.2
      refine ⟨p + 1, by simp; omega, fun z hz => ?_, by simpa using h3⟩
      rw [List.take_succ_cons, List.mem_cons] at hz
      rcases hz with rfl | hz
      · exact hy
      · exact h2 z hz
    · refine ⟨0, by simp, by simp, fun z hz => ?_⟩
      rw [List.drop_zero, List.mem_cons] at hz
      rcases hz with rfl | hz
      · omega
      · have := h.1 z hz
        omega
theorem put_exists {most : Int} {ps : V.Ps} {x : Nat} (z : Int) (hu : Up (ps.map (·.1))) (hx : okN x) (hl : (ps.length : Int) < most) :
    ∃ qs, V.PutR most ps x z 0 qs ∧ Up (qs.map (·.1)) ∧ (∀ y, y ∈ qs.map (·.1) ↔ y = x ∨ y ∈ ps.map (·.1)) ∧ qs.length ≤ ps.length + 1 := by
  by_cases hm : x ∈ ps.map (·.1)
  · obtain ⟨p, hp⟩ := List.getElem?_of_mem hm
    have e : (ps.set p (x, z)).map (·.1) = ps.map (·.1) := by
      rw [List.map_set]
      apply List.ext_getElem?
      intro i
      rw [List.getElem?_set]
      split
      · rename_i h
        subst h
        split
        · exact hp.symm
        · rename_i h2
          rw [List.getElem?_eq_none (by omega)]
      · rfl
    refine ⟨ps.set p (x, z), .inl ⟨rfl, p, hp, rfl⟩, by rw [e]; exact hu, fun y => ?_, by simp⟩
    rw [e]
    exact ⟨.inr, fun h => h.elim (fun h => by rw [h]; exact hm) id⟩
  · obtain ⟨p, h1, h2, h3⟩ := pl_exists x _ ((up_iff _).1 hu)
    have e : (ps.take p ++ [(x, z)] ++ ps.drop p).map (·.1) = (ps.map (·.1)).take p ++ [x] ++ (ps.map (·.1)).drop p := by
      simp [List.map_take, List.map_drop]
    refine ⟨_, .inr (.inr (.inr ⟨rfl, hm, hx, hl, p, ⟨h1, fun j y hj hy => ?_, fun j y hj hy => ?_⟩, rfl⟩)), ?_, fun y => ?_, ?_⟩
    · exact h2 y (List.mem_of_getElem? (i := j) (by rw [List.getElem?_take_of_lt hj]; exact hy))
    · exact h3 y (List.mem_of_getElem? (i := j - p) (by rw [List.getElem?_drop, show p + (j - p) = j by omega]; exact hy))
    · rw [e, up_iff, List.pairwise_append, List.pairwise_append]
      have hp := (up_iff _).1 hu
      refine ⟨⟨hp.sublist (List.take_sublist _ _), by simp, fun y hy w hw => ?_⟩, hp.sublist (List.drop_sublist _ _), fun y hy w hw => ?_⟩
      · rw [List.mem_singleton] at hw
        rw [hw]
        exact h2 y hy
      · have hwx := h3 w hw
        have hne : w ≠ x := fun e => hm (by rw [← e]; exact List.mem_of_mem_drop hw)
        rw [List.mem_append, List.mem_singleton] at hy
        rcases hy with hy | rfl
        · have := h2 y hy
          omega
        · omega
    · rw [e, List.mem_append, List.mem_append, List.mem_singleton]
      conv => rhs; rw [← List.take_append_drop p (ps.map (·.1)), List.mem_append]
      constructor
      · rintro ((h | h) | h)
        · exact .inr (.inl h)
        · exact .inl h
        · exact .inr (.inr h)
      · rintro (h | h | h)
        · exact .inl (.inr h)
        · exact .inl (.inl h)
        · exact .inr h
    · simp
      omega
theorem two_row {W : World} {T : Nat} {a b : Value} (v1 v2 : Value) (h : W.heap[T]? = some (.cells #[a, b] 76 (0, 0))) : ((W.setCell ⟨T, 0, none⟩ v1).setCell ⟨T, 1, none⟩ v2).heap[T]? = some (.cells #[v1, v2] 76 (0, 0)) := by
  have h1 := heap_setCell_same W T 0 _ 76 v1 h
  have h2 := heap_setCell_same _ T 1 _ 76 v2 h1
  simpa using h2
theorem two_other {W : World} {T g : Nat} (v1 v2 : Value) (hg : g ≠ T) : ((W.setCell ⟨T, 0, none⟩ v1).setCell ⟨T, 1, none⟩ v2).heap[g]? = W.heap[g]? := (Below.heap_setCell _ _ _ _ hg).trans (Below.heap_setCell _ _ _ _ hg)

/-- The rack at R while numbers are laid into it. -/
structure Rk (w : World) (R n k : Nat) (xs : List Nat) (W : World) : Prop where
  ex : ∃ (m : Nat) (B : Option Addr) (c2 : Nat) (rows ps : V.Ps), W.heap[R]? = some (.cells #[.slice B m c2, .int .i64 (n : Int)] 76 (0, 0)) ∧ m = rows.length ∧ rows.Perm ps ∧ W.ownsRow (R + 1) 86 2 (.slice B m c2) m (V.rr rows) ∧ Up (ps.map (·.1)) ∧ (∀ y ∈ ps.map (·.1), okN y) ∧ (∀ y, y ∈ ps.map (·.1) ↔ y ∈ xs.take k) ∧ ps.length ≤ k
  below : Below w.heap.size w W
  low : w.heap.size ≤ R ∧ R < W.heap.size

set_option maxHeartbeats 8000000 in
theorem rising_any (base : Nat) (v : Value) (xs : List Nat) (w : World) (h : Ow base v xs w) (hok : ∀ x ∈ xs, okN x) (hl : xs.length ≤ 500) :
    Calls Try.prog 45 #[v] w fun r w' => ∃ v' zs, r = .returned v' ∧ Ow w.heap.size v' zs w' ∧ zs.Pairwise (· < ·) ∧ (∀ x, x ∈ zs ↔ x ∈ xs) ∧ Below w.heap.size w w' := by
  obtain ⟨A, c, rfl⟩ := own_form1 h
  obtain ⟨n, hn⟩ : ∃ n, n = xs.length := ⟨_, rfl⟩
  rw [← hn]
  obtain ⟨R, hR⟩ : ∃ R, R = w.heap.size := ⟨_, rfl⟩
  obtain ⟨w0, hw0⟩ : ∃ w0, w0 = w.alloc (.cells #[.slice none 0 0, .int .i64 (n : Int)] 76) := ⟨_, rfl⟩
  have hb0 : Below w.heap.size w w0 := by rw [hw0]; exact (Below.refl _ _).alloc (Nat.le_refl _) _
  have hp0 : w0.heap[R]? = some (.cells #[.slice none 0 0, .int .i64 (n : Int)] 76 (0, 0)) := by rw [hw0, hR]; exact heap_alloc_new w _
  have HR0 : Hid (Rk w R n 0 xs w0) := ⟨⟨0, none, 0, [], [], hp0, rfl, List.Perm.refl _, World.ownsRow_nil w0 _ 86 2, fun i j x y _ h => by simp at h, by simp, by simp, Nat.le_refl _⟩, hb0, by omega, lt_of_block hp0⟩
  have HN := Lib.hid hn
  have HRR := Lib.hid hR
  have H0 := Lib.hid hw0
  have HOK := Lib.hid hok
  have HL : Hid (n ≤ 500) := by rw [hn]; exact hl
  have HAT : Hid (∀ k x, xs[k]? = some x → ∃ b, A = some ⟨b, 0, none⟩ ∧ b < w.heap.size ∧ w.cell? ⟨b, k, none⟩ = some (u x)) := fun k x hx => by
    have hc := fun g => h.cells (g := g)
    have hlt := h.lt
    rcases h.2 with ⟨h1, h2⟩ | ⟨g, cap, cur, h1, _⟩
    · have := (List.getElem?_eq_some_iff.1 hx).1
      omega
    · injection h1 with h1 _ _
      subst h1
      refine ⟨g, rfl, (hlt g rfl).2, ?_⟩
      have := hc g rfl k (u x) (by unfold un; rw [List.getElem?_map, hx]; rfl)
      rwa [Go.WideShapes.add_plain, Nat.zero_add] at this
  clear hw0 hb0 hp0 hn hok hl h
  go_enter Try.func45, Try.ntmps45
  go_upto_region 2 with (fail)
  rw [← H0.out, ← hR]
  clear hR
  go_wp2_with fail
  go_loopw [4] (fun x wr => ∃ k : Nat, k ≤ n ∧ x = .int .i64 (k : Int) ∧ Hid (Rk w R n k xs wr)) (fun x _ => n - (intOf x).toNat)
  case atStart => exact ⟨0, by omega, rfl, HR0⟩
  case round =>
    obtain ⟨k, hk, rfl, HV⟩ := hrel
    obtain ⟨m, B, c2, rows, ps, hrow, hm, hperm, hown, hup, hokp, hmem, hlen⟩ := HV.out.ex
    have HROW := Lib.hid hrow
    have HSM : Hid (m = rows.length ∧ m ≤ 900 ∧ ps.length ≤ k) := ⟨hm, by rw [hm, hperm.length_eq]; have := HL.out; omega, hlen⟩
    have HPS := Lib.hid (And.intro hperm (And.intro hup (And.intro hokp hmem)))
    have HOW := Lib.hid hown
    clear hrow hm hperm hown hup hokp hmem hlen
    by_cases hlt : k < n
    · obtain ⟨x, hx⟩ : ∃ x, xs[k]? = some x := ⟨xs[k]'(by rw [← HN.out]; exact hlt), List.getElem?_eq_getElem _⟩
      have hxok : okN x := HOK.out x (List.mem_of_getElem? hx)
      obtain ⟨qs, hq1, hq2, hq3, hq4⟩ := put_exists (most := (n : Int)) 0 HPS.out.2.1 hxok (by have := HSM.out.2.2; omega)
      obtain ⟨b, rfl, hb, hc⟩ := HAT.out k x hx
      have HCE : Hid (∀ W, Below w.heap.size w W → (fun W : World => W.cell? ⟨b, 0 + k, none⟩ = some (u x)) W) := fun W hW => (by rw [Nat.zero_add]; exact (hW.cell (p := ⟨b, _, none⟩) hb).trans hc)
      have HQ : Hid (V.PutR (n : Int) ps x 0 0 qs) := hq1
      have HTK : Hid (xs.take (k + 1) = xs.take k ++ [x]) := by simp only [Hid]; rw [List.take_add_one, hx]; rfl
      have HQF : Hid (Up (qs.map (·.1)) ∧ (∀ y ∈ qs.map (·.1), okN y) ∧ (∀ y, y ∈ qs.map (·.1) ↔ y ∈ xs.take (k + 1)) ∧ qs.length ≤ k + 1) := ⟨hq2, fun y hy => by
        rcases (hq3 y).1 hy with rfl | hy
        · exact hxok
        · exact HPS.out.2.2.1 y hy, fun y => by
        rw [hq3 y, HPS.out.2.2.2 y, HTK.out, List.mem_append, List.mem_singleton]
        exact Or.comm, by have := HSM.out.2.2; omega⟩
      have hd := HCE.out wr HV.out.below
      clear hx hxok hq1 hq2 hq3 hq4 hb hc
      go_upto_region 5 with (fail)
      clear hd
      refine wp_region_held_drew (S := fun W : World => W.cell? ⟨b, 0 + k, none⟩ = some (u x)) (by kernel_rfl) (HCE.out _ HV.out.below.drew) (fun hHeld => ?_)
      obtain ⟨W0, hW0⟩ : ∃ W0, W0 = wr.drew := ⟨_, rfl⟩
      have HW0 : Hid (Below w.heap.size w W0 ∧ W0.heap[R]? = some (.cells #[.slice B m c2, .int .i64 (n : Int)] 76 (0, 0)) ∧ W0.ownsRow (R + 1) 86 2 (.slice B m c2) m (V.rr rows) ∧ R < W0.heap.size) := by rw [hW0]; exact ⟨HV.out.below.drew, HROW.out, HOW.out, HV.out.low.2⟩
      rw [← hW0] at hHeld ⊢
      clear hW0
      refine wpAnyH_take (i := 1) (oi := ?oi1) (v := ?v1) ?hi1 ?hs1 ?hf1 ?hr1 ?hQ1 ?hy1 ?hS1 ?h1
      case hi1 => exact (by simp only [List.getElem?_toArray, List.getElem?_cons_succ, List.getElem?_cons_zero]; rfl)
      case hs1 => kernel_rfl
      case hf1 => kernel_rfl
      case hr1 => kernel_rfl
      case hQ1 => exact fun _ _ _ h => h
      case hy1 =>
        refine Or.inl ⟨rfl, ?_⟩
        intro W hSw
        simp only [Nat.zero_add] at hSw
        go_simp
        try with_reducible rfl
      case hS1 => assumption
      try simp only [Act.put, List.setIfInBounds_toArray, List.set_cons_zero, List.set_cons_succ]
      refine wpAnyH_take (i := 2) (oi := ?oi2) (v := ?v2) ?hi2 ?hs2 ?hf2 ?hr2 ?hQ2 ?hy2 ?hS2 ?h2
      case hi2 => exact (by simp only [List.getElem?_toArray, List.getElem?_cons_succ, List.getElem?_cons_zero]; rfl)
      case hs2 => kernel_rfl
      case hf2 => kernel_rfl
      case hr2 => kernel_rfl
      case hQ2 => exact fun _ _ _ h => h
      case hy2 =>
        refine Or.inl ⟨rfl, ?_⟩
        intro W hSw
        simp only [Nat.zero_add] at hSw
        go_simp
        try with_reducible rfl
      case hS2 => assumption
      try simp only [Act.put, List.setIfInBounds_toArray, List.set_cons_zero, List.set_cons_succ]
      refine wpAnyH_take (i := 3) (oi := ?oi3) (v := ?v3) ?hi3 ?hs3 ?hf3 ?hr3 ?hQ3 ?hy3 ?hS3 ?h3
      case hi3 => exact (by simp only [List.getElem?_toArray, List.getElem?_cons_succ, List.getElem?_cons_zero]; rfl)
      case hs3 => kernel_rfl
      case hf3 => kernel_rfl
      case hr3 => kernel_rfl
      case hQ3 => exact fun _ _ _ h => h
      case hy3 =>
        refine Or.inl ⟨rfl, ?_⟩
        intro W hSw
        simp only [Nat.zero_add] at hSw
        go_simp
        try with_reducible rfl
      case hS3 => assumption
      try simp only [Act.put, List.setIfInBounds_toArray, List.set_cons_zero, List.set_cons_succ]
      refine wpAnyH_take (i := 4) (oi := ?oi4) (v := ?v4) ?hi4 ?hs4 ?hf4 ?hr4 ?hQ4 ?hy4 ?hS4 ?h4
      case hi4 => exact (by simp only [List.getElem?_toArray, List.getElem?_cons_succ, List.getElem?_cons_zero]; rfl)
      case hs4 => kernel_rfl
      case hf4 => kernel_rfl
      case hr4 => kernel_rfl
      case hQ4 => exact fun _ _ _ h => h
      case hy4 =>
        refine Or.inl ⟨rfl, ?_⟩
        intro W hSw
        simp only [Nat.zero_add] at hSw
        go_simp
        try with_reducible rfl
      case hS4 => assumption
      try simp only [Act.put, List.setIfInBounds_toArray, List.set_cons_zero, List.set_cons_succ]
      have z0 := cell_of_row W0 R 0 _ _ _ HW0.out.2.1
      have z1 := cell_of_row W0 R 1 _ _ _ HW0.out.2.1
      simp at z0 z1
      refine wpAnyH_ready (rs := [0]) (by kernel_rfl) (by simp) ?_
      refine AllReadyH.cons (o := _) rfl (fun K hK => ?_) AllReadyH.nil
      go_simp
      refine hK.out _ _ (HCE.out _ HW0.out.1) (fun hHeld => ?_)
      clear hK K z0 z1
      try simp only [Act.put, List.setIfInBounds_toArray, List.set_cons_zero, List.set_cons_succ]
      refine wpAnyH_ready (rs := [5]) (by kernel_rfl) (by simp) ?_
      refine AllReadyH.cons (o := _) rfl (fun K hK => ?_) AllReadyH.nil
      go_simp
      refine (V.rput_any (R + 1) B m c2 (n : Int) x 0 0 rows ps qs W0 HSM.out.1 HW0.out.2.2.1 (by have := HW0.out.2.2.2; omega) HSM.out.2.1 HPS.out.1 HPS.out.2.1 HPS.out.2.2.1 HQ.out).mono ?_
      rintro r w3 ⟨B3, m3, c3, l3, rfl, hm3, hp3, ho3, hb3⟩
      have HR3 : Hid (w3.heap[R]? = some (.cells #[.slice B m c2, .int .i64 (n : Int)] 76 (0, 0))) := (hb3.block R HW0.out.2.2.2).trans HW0.out.2.1
      have HB3 : Hid (Below w.heap.size w w3) := HW0.out.1.trans (hb3.mono HW0.out.1.size)
      have HO3 := Lib.hid ho3
      have HM3 := Lib.hid (And.intro hm3 hp3)
      clear hm3 hp3 ho3 hb3
      unfold V.rV
      refine hK.out _ _ (HCE.out _ HB3.out) (fun hHeld => ?_)
      clear hK K
      try simp only [Act.put, List.setIfInBounds_toArray, List.set_cons_zero, List.set_cons_succ]
      refine wpAnyH_take (i := 6) (oi := ?oi6b) (v := ?v6b) ?hi6b ?hs6b ?hf6b ?hr6b ?hQ6b ?hy6b ?hS6b ?h6b
      case hi6b => exact (by simp only [List.getElem?_toArray, List.getElem?_cons_succ, List.getElem?_cons_zero]; rfl)
      case hs6b => kernel_rfl
      case hf6b => kernel_rfl
      case hr6b => kernel_rfl
      case hQ6b => exact fun _ _ _ h => h
      case hy6b =>
        refine Or.inl ⟨rfl, ?_⟩
        intro W hSw
        simp only [Nat.zero_add] at hSw
        go_simp
        try with_reducible rfl
      case hS6b => assumption
      try simp only [Act.put, List.setIfInBounds_toArray, List.set_cons_zero, List.set_cons_succ]
      refine wpAnyH_take (i := 7) (oi := ?oi7b) (v := ?v7b) ?hi7b ?hs7b ?hf7b ?hr7b ?hQ7b ?hy7b ?hS7b ?h7b
      case hi7b => exact (by simp only [List.getElem?_toArray, List.getElem?_cons_succ, List.getElem?_cons_zero]; rfl)
      case hs7b => kernel_rfl
      case hf7b => kernel_rfl
      case hr7b => kernel_rfl
      case hQ7b => exact fun _ _ _ h => h
      case hy7b =>
        refine Or.inl ⟨rfl, ?_⟩
        intro W hSw
        simp only [Nat.zero_add] at hSw
        go_simp
        try with_reducible rfl
      case hS7b => assumption
      try simp only [Act.put, List.setIfInBounds_toArray, List.set_cons_zero, List.set_cons_succ]
      refine wpAnyH_take (i := 8) (oi := ?oi8b) (v := ?v8b) ?hi8b ?hs8b ?hf8b ?hr8b ?hQ8b ?hy8b ?hS8b ?h8b
      case hi8b => exact (by simp only [List.getElem?_toArray, List.getElem?_cons_succ, List.getElem?_cons_zero]; rfl)
      case hs8b => kernel_rfl
      case hf8b => kernel_rfl
      case hr8b => kernel_rfl
      case hQ8b => exact fun _ _ _ h => h
      case hy8b =>
        refine Or.inl ⟨rfl, ?_⟩
        intro W hSw
        simp only [Nat.zero_add] at hSw
        go_simp
        try with_reducible rfl
      case hS8b => assumption
      try simp only [Act.put, List.setIfInBounds_toArray, List.set_cons_zero, List.set_cons_succ]
      refine wpAnyH_ready (rs := [9]) (by kernel_rfl) (by simp) ?_
      refine AllReadyH.cons (o := _) rfl (fun K hK => ?_) AllReadyH.nil
      have hq4 := HR3.out
      have z0 := cell_of_row w3 R 0 _ _ _ hq4
      have z1 := cell_of_row w3 R 1 _ _ _ hq4
      simp at z0 z1
      have zf : ∀ i, w3.frozen? ⟨R, i, none⟩ = false := fun i => frozen_of_row w3 _ i _ _ hq4
      clear hq4
      go_simp
      clear z0 z1 zf
      obtain ⟨W5, hW5⟩ : ∃ W5, W5 = ((w3.setCell ⟨R, 0, none⟩ (.slice B3 m3 c3)).setCell ⟨R, 1, none⟩ (.int .i64 (n : Int))) := ⟨_, rfl⟩
      have HV5 : Hid (Rk w R n (k + 1) xs W5) := by
        have e1 := two_row (.slice B3 m3 c3) (.int .i64 (n : Int)) HR3.out
        have hlo := HV.out.low.1
        refine ⟨⟨m3, B3, c3, l3, qs, by rw [hW5]; exact e1, HM3.out.1, HM3.out.2, ?_, HQF.out⟩, by rw [hW5]; exact (HB3.out.setCell hlo _).setCell hlo _, hlo, by rw [hW5]; exact lt_of_block e1⟩
        rw [hW5]
        exact V.own2_after HO3.out fun g hg => two_other _ _ (by have := (V.own2_lt HO3.out g hg).1; omega)
      rw [← hW5]
      clear hW5
      refine hK.out _ _ (HCE.out _ HV5.out.below) (fun hHeld => ?_)
      clear hK K
      try simp only [Act.put, List.setIfInBounds_toArray, List.set_cons_zero, List.set_cons_succ]
      refine wpAnyH_done (by kernel_rfl) ?_ _
      have hn5 : n ≤ 500 := HL.out
      go_wp2_with fail
      go_roundw
      case rel => exact ⟨k + 1, by omega, by go_num, HV5⟩
      case measure => simp [intOf] <;> omega
    · obtain rfl : k = n := by omega
      have z0 := cell_of_row wr R 0 _ _ _ HROW.out
      have z1 := cell_of_row wr R 1 _ _ _ HROW.out
      simp at z0 z1
      have HC := Lib.hid (V.rids_any B m c2 (k : Int) rows ps wr HSM.out.1 (V.Rs.of_own HOW.out) HSM.out.2.1 HPS.out.1 HPS.out.2.1 HPS.out.2.2.1)
      have HX : Hid (∀ y, y ∈ ps.map (·.1) ↔ y ∈ xs) := fun y => by
        rw [HPS.out.2.2.2 y, List.take_of_length_le (by rw [← HN.out]; exact Nat.le_refl _)]
      go_wp2_with fail
      refine HC.out.mono ?_
      rintro r w5 ⟨v', rfl, ho, hb⟩
      have HO : Hid (Ow w.heap.size v' (ps.map (·.1)) w5) := Ow.base (B := wr.heap.size) ho HV.out.below.size
      have HB5 : Hid (Below w.heap.size w w5) := HV.out.below.trans (hb.mono HV.out.below.size)
      clear ho hb
      go_wp2
      go_ret
      exact ⟨_, _, rfl, HO.out, (up_iff _).1 HPS.out.2.1, HX.out, HB5.out⟩
end Go.Proofs.Ytohcibmlkngaeaa
