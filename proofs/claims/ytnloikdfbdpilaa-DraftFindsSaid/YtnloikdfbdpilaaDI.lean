/- Draft: small; own. -/
import Derived.Test.YtnloikdfbdpilaaDH
namespace Go.Proofs.Ytnloikdfbdpilaa
open Go.RowKit
set_option maxRecDepth 20000
set_option linter.unusedVariables false

set_option maxHeartbeats 2000000 in
theorem small_any (A : Option Addr) (n c : Nat) (l : List Tk) (w : World) (hn : n = l.length) (hE : Ts w w.heap.size A l) (hl : n ≤ 1000) :
    Calls Try.prog 9 #[.slice A n c] w fun r w' => (∃ t : Bool, r = .returned (.bool t) ∧ (t = true ↔ ∀ x ∈ l, x.n ≤ 10)) ∧ w' = w := by
  have HE := Lib.hid hE
  have HN := Lib.hid hn
  clear hE hn
  go_enter Try.func9, Try.ntmps9
  go_wp2
  go_loopw [3] (fun u wr => ∃ k : Nat, k ≤ n ∧ u = .int .i64 (k : Int) ∧ Hid (∀ x ∈ l.take k, x.n ≤ 10) ∧ wr = w) (fun u _ => n - (intOf u).toNat)
  case atStart => exact ⟨0, by omega, rfl, (by intro x hx; rw [List.take_zero] at hx; cases hx), by first | rfl | trivial⟩
  case round =>
    obtain ⟨k, hk, rfl, HV, rfl⟩ := hrel
    by_cases hlt : k < n
    · obtain ⟨t, hy⟩ : ∃ t, l[k]? = some t := ⟨l[k]'(by rw [← HN.out]; exact hlt), List.getElem?_eq_getElem _⟩
      obtain ⟨b1, o1, rfl, hb1, ha1⟩ := HE.out (by have := HN.out; omega)
      obtain ⟨x, y, P, cp, d0, d1, d2, d3, d4⟩ := ha1 k t hy
      have HY := Lib.hid hy
      obtain ⟨tn, tr, ts⟩ := t
      simp only at d2 d3 d4
      clear ha1 hy hb1
      by_cases h10 : tn ≤ 10
      · go_wp2
        go_roundw
        case rel =>
          refine ⟨k + 1, by omega, by go_num, fun x hx => ?_, by first | rfl | trivial⟩
          rw [List.take_add_one, HY.out] at hx
          rcases List.mem_append.1 hx with h | h
          · exact HV.out x h
          · simp at h
            subst h
            exact h10
        case measure => simp [intOf] <;> omega
      · have HF : Hid (¬ ∀ x ∈ l, x.n ≤ 10) := fun h => h10 (h _ (List.mem_of_getElem? HY.out))
        have h10' : 10 < tn := by omega
        go_wp2
        go_ret
        exact ⟨⟨false, rfl, ⟨(fun h => (by cases h)), fun h => absurd h HF.out⟩⟩, by first | rfl | trivial⟩
    · have hkn : k = n := by omega
      subst hkn
      have HF : Hid (∀ x ∈ l, x.n ≤ 10) := by
        have h := HV.out
        rw [List.take_of_length_le (by rw [← HN.out]; omega)] at h
        exact h
      go_wp2
      go_ret
      exact ⟨⟨true, rfl, ⟨fun _ => HF.out, fun _ => rfl⟩⟩, by first | rfl | trivial⟩

/-- A ticket's five cells. -/
structure FT where
  x : Int
  y : Int
  P : Option Addr
  c : Nat
  t : Tk
def fc (e : FT) : List Value := [.int .u32 e.x, .int .i64 e.y, .slice e.P e.t.n e.c, .int .i64 e.t.r, .int .i64 e.t.s]
def fr (l : List FT) : List Value := l.flatMap fc
theorem fr_len (l : List FT) : (fr l).length = l.length * 5 := by
  induction l with
  | nil => rfl
  | cons e l ih =>
    unfold fr at ih ⊢
    rw [List.flatMap_cons, List.length_append, ih, List.length_cons]
    simp [fc]
    omega
theorem fr_get : ∀ (l : List FT) (i : Nat) (e : FT) (j : Nat), l[i]? = some e → j < 5 → (fr l)[i * 5 + j]? = (fc e)[j]?
  | [], i, e, j, h, _ => by simp at h
  | x :: l, 0, e, j, h, hj => by
    simp at h
    subst h
    unfold fr
    rw [List.flatMap_cons, List.getElem?_append_left (by simp [fc]; omega)]
    simp
  | x :: l, i + 1, e, j, h, hj => by
    have ih := fr_get l i e j (by simpa using h) hj
    unfold fr at ih ⊢
    rw [List.flatMap_cons, List.getElem?_append_right (by simp [fc]; omega)]
    simp only [show (fc x).length = 5 from rfl, show (i + 1) * 5 + j - 5 = i * 5 + j by omega]
    exact ih
theorem fr_snoc (l : List FT) (e : FT) : fr (l ++ [e]) = fr l ++ fc e := by simp [fr]
theorem Ts.of_own {w : World} {base m c : Nat} {A : Option Addr} {l : List FT} (h : w.ownsRow base 56 5 (.slice A m c) m (fr l)) : Ts w w.heap.size A (l.map (·.t)) := fun hl => by
  have hlen := h.1
  rw [fr_len] at hlen
  rw [List.length_map] at hl
  rcases h.2 with ⟨_, h0⟩ | ⟨g, cap, cur, e1, _, hh, _, _, _, ht⟩
  · omega
  · injection e1 with e1 _ _
    subst e1
    refine ⟨g, 0, rfl, lt_of_block hh, fun i t he => ?_⟩
    rw [List.getElem?_map] at he
    obtain ⟨e, hel, rfl⟩ := Option.map_eq_some_iff.1 he
    have hil := (List.getElem?_eq_some_iff.1 hel).1
    have hc : ∀ j u, j < 5 → (fc e)[j]? = some u → w.cell? ⟨g, 0 + i * 5 + j, none⟩ = some u := fun j u hj hu => by
      rw [cell_of_row w g _ _ _ _ hh, ← Array.getElem?_toList, Nat.zero_add, ← hu, ← fr_get l i e j hel hj, ← ht, List.getElem?_take, if_pos (by omega)]
    exact ⟨e.x, e.y, e.P, e.c, hc 0 _ (by decide) rfl, hc 1 _ (by decide) rfl, hc 2 _ (by decide) rfl, hc 3 _ (by decide) rfl, hc 4 _ (by decide) rfl⟩
theorem info56 : (Try.prog.info? 56).map (fun i => (i.zero, i.size, i.bytes)) = some (some (.agg #[.int .u32 0, .int .i64 0, .slice none 0 0, .int .i64 0, .int .i64 0]), 5, 56) := by kernel_rfl
theorem info27 : (Try.prog.info? 27).map (fun i => (i.zero, i.size, i.bytes)) = some (some (.int .u32 0), 1, 4) := by kernel_rfl
theorem run_append_ft (w : World) (base G ty m : Nat) (v : Value) (xs : List Value) (e : FT) (hown : w.ownsRow base 56 5 v m xs) (hG : w.heap[G]? = some (.cells (fc e).toArray 56 (0, 0))) (hm : m ≤ 1000) (hbase : base ≤ w.heap.size) :
    ∃ v' w', (Builtin.append_ #[34, 34] ty #[v, .slice (some ⟨G, 0, none⟩) 1 1]).run Try.prog w = .ok v' w' ∧ w'.ownsRow base 56 5 v' (m + 1) (xs ++ fc e) ∧ w.grownBy w' v.ownBlock := by
  obtain ⟨i0, hi, hz0, hz1, hz2⟩ := info_parts info56
  obtain ⟨v', w', hr, h2, h3, _⟩ := run_append_own (P := Try.prog) w base 34 ty 56 i0 _ 5 _ Try.underlying34 hi hz0 hz1 hz2 rfl (by decide) v m xs hown ⟨G, 0, none⟩ 1 1 (fc e) rfl (fun j u hu => by
    have := cell_of_row w G j _ _ _ hG
    rw [List.getElem?_toArray, hu] at this
    rw [← this, Go.WideShapes.add_plain, Nat.zero_add]) (by
    intro u hu
    simp only [fc, List.mem_cons, List.not_mem_nil, or_false] at hu
    rcases hu with rfl | rfl | rfl | rfl | rfl <;> rfl) (by unfold maxLen; omega) (by omega) hbase
  exact ⟨v', w', hr, h2, h3⟩
theorem step_append_ft {w : World} {ops : Array Oper} {o : Oper} {a : Act} {K : Act → World → Prop} {Q : Exit → Act → World → Prop} {E : Prop} (hgd : o.guard = none) (s x : Operand)
    (ho : o.op = .call { callee := .builtin .append, args := #[s, x], argTypes := #[34, 34] }) (base G : Nat) (v : Value) (m : Nat) (xs : List Value) (e : FT) (hs : a.eval s = v) (hx : a.eval x = .slice (some ⟨G, 0, none⟩) 1 1)
    (hown : w.ownsRow base 56 5 v m xs) (hG : w.heap[G]? = some (.cells (fc e).toArray 56 (0, 0))) (hm : m ≤ 1000) (hbase : base ≤ w.heap.size)
    (h : ∀ v' w', w'.ownsRow base 56 5 v' (m + 1) (xs ++ fc e) → w.grownBy w' v.ownBlock → K (a.put o.dst v') w') :
    if Region.wanted o (yielded ops a.tmps) = true then Oper.wp Try.prog o a w K Q else E := by
  have hw : Region.wanted o (yielded ops a.tmps) = true := by simp [Region.wanted, hgd]
  rw [if_pos hw]
  obtain ⟨v', w', hr, h2, h3⟩ := run_append_ft w base G o.type m v xs e hown hG hm hbase
  unfold Oper.wp execOp
  simp only [ho, resolve, invoke, builtin, Sem.run_bind, Sem.run_pure, Result.andThen_ok, List.map_toArray, List.map_cons, List.map_nil, hs, hx, hr]
  exact h v' w' h2 h3
theorem run_append_us (w : World) (B g ty n c : Nat) (P : Option Addr) (hg : w.heap[g]? = some (.cells #[] 27 (0, 0))) (hu : Us w B P n) (hn : n ≤ 1000) :
    ∃ P' c' w', (Builtin.append_ #[28, 28] ty #[.slice (some ⟨g, 0, none⟩) 0 0, .slice P n c]).run Try.prog w = .ok (.slice P' n c') w' ∧ w.grownBy w' (some g) := by
  have hown : w.ownsRow g 27 1 (.slice (some ⟨g, 0, none⟩) 0 0) 0 [] := ⟨rfl, .inr ⟨g, 0, #[], rfl, Nat.le_refl _, hg, Nat.le_refl _, Nat.zero_le _, rfl, rfl⟩⟩
  obtain ⟨i, hi, hz0, hz1, hz2⟩ := info_parts info27
  rcases P with _ | ad
  · have hn0 : n = 0 := by
      rcases Nat.eq_zero_or_pos n with h | h
      · exact h
      · obtain ⟨b, o, hA, _⟩ := hu h
        cases hA
    subst hn0
    refine ⟨some ⟨g, 0, none⟩, 0, w, ?_, World.grownBy.refl w _⟩
    simp [Builtin.append_, run_underlying Try.underlying28, sizeOf, typeInfo, hi, Builtin.lenOf, Builtin.firstCells, storeCells]
  · obtain ⟨f, hf⟩ : ∃ f : Nat → Int, ∀ j, j < n → w.cell? (ad.add j) = some (.int .u32 (f j)) := by
      by_cases h0 : 0 < n
      · obtain ⟨b, o, hA, _, hc⟩ := hu h0
        injection hA with hA
        subst hA
        obtain ⟨f, hf⟩ := Deep.choose_lt hc
        exact ⟨f, fun j hj => by rw [Go.WideShapes.add_plain]; exact hf j hj⟩
      · exact ⟨fun _ => 0, fun j hj => absurd hj (by omega)⟩
    obtain ⟨v', w', hr, h2, h3, _⟩ := run_append_own (P := Try.prog) w g 28 ty 27 i _ 1 _ Try.underlying28 hi hz0 hz1 hz2 rfl (by decide) (.slice (some ⟨g, 0, none⟩) 0 0) 0 [] hown ad n c ((List.range n).map fun j => .int .u32 (f j)) (by simp) (fun j u hu => by
      rw [List.getElem?_map] at hu
      obtain ⟨j', hj', rfl⟩ := Option.map_eq_some_iff.1 hu
      obtain ⟨hin, rfl⟩ := List.getElem?_eq_some_iff.1 hj'
      simp at hin ⊢
      exact hf j hin) (by
      intro u hu
      obtain ⟨j, _, rfl⟩ := List.mem_map.1 hu
      rfl) (by unfold maxLen; omega) (by omega) (Nat.le_of_lt (lt_of_block hg))
    obtain ⟨P', c', rfl⟩ := own_form h2
    rw [Nat.zero_add] at hr
    exact ⟨P', c', w', hr, h3⟩
theorem step_append_us {w : World} {ops : Array Oper} {o : Oper} {a : Act} {K : Act → World → Prop} {Q : Exit → Act → World → Prop} {E : Prop} (hgd : o.guard = none) (s x : Operand)
    (ho : o.op = .call { callee := .builtin .append, args := #[s, x], argTypes := #[28, 28] }) (B g n c : Nat) (P : Option Addr) (hs : a.eval s = .slice (some ⟨g, 0, none⟩) 0 0) (hx : a.eval x = .slice P n c)
    (hg : w.heap[g]? = some (.cells #[] 27 (0, 0))) (hu : Us w B P n) (hn : n ≤ 1000)
    (h : ∀ P' c' w', w.grownBy w' (some g) → K (a.put o.dst (.slice P' n c')) w') :
    if Region.wanted o (yielded ops a.tmps) = true then Oper.wp Try.prog o a w K Q else E := by
  have hw : Region.wanted o (yielded ops a.tmps) = true := by simp [Region.wanted, hgd]
  rw [if_pos hw]
  obtain ⟨P', c', w', hr, h3⟩ := run_append_us w B g o.type n c P hg hu hn
  unfold Oper.wp execOp
  simp only [ho, resolve, invoke, builtin, Sem.run_bind, Sem.run_pure, Result.andThen_ok, List.map_toArray, List.map_cons, List.map_nil, hs, hx, hr]
  exact h P' c' w' h3

set_option linter.unusedSimpArgs false in
set_option maxHeartbeats 8000000 in
theorem own_any (A : Option Addr) (n c : Nat) (l : List Tk) (w : World) (hn : n = l.length) (hE : Tr w w.heap.size A l) (hl : n ≤ 100) (hs : ∀ t ∈ l, t.n ≤ 10) :
    Calls Try.prog 14 #[.slice A n c] w fun r w' => (∃ A' c', r = .returned (.slice A' n c') ∧ Ts w' w'.heap.size A' l) ∧ Below w.heap.size w w' := by
  have HE := Lib.hid hE
  have HN := Lib.hid hn
  have HS := Lib.hid hs
  have HBr : Hid (Below w.heap.size w w) := Below.refl _ _
  clear hE hn hs
  go_enter Try.func14, Try.ntmps14
  go_wp2_with fail
  go_loopw [3, 4] (fun o u wr => ∃ (k : Nat) (lf : List FT), k ≤ n ∧ u = .int .i64 (k : Int) ∧ Hid (lf.map (·.t) = l.take k ∧ wr.ownsRow w.heap.size 56 5 o k (fr lf) ∧ Below w.heap.size w wr)) (fun _ u _ => n - (intOf u).toNat)
  case atStart => exact ⟨0, [], by omega, rfl, rfl, World.ownsRow_nil w _ 56 5, HBr.out⟩
  case round =>
    obtain ⟨k, lf, hk, rfl, HV⟩ := hrel
    obtain ⟨B, c2, rfl⟩ := own_form HV.out.2.1
    by_cases hlt : k < n
    · obtain ⟨t, hy⟩ : ∃ t, l[k]? = some t := ⟨l[k]'(by rw [← HN.out]; exact hlt), List.getElem?_eq_getElem _⟩
      obtain ⟨b1, o1, rfl, hb1, ha1⟩ := (HE.out.below HV.out.2.2) (by have := HN.out; omega)
      obtain ⟨x, y, P, cp, ⟨d0, d1, d2, d3, d4⟩, hu⟩ := ha1 k t hy
      have hsn := HS.out t (List.mem_of_getElem? hy)
      have HTK : Hid (l.take (k + 1) = l.take k ++ [t]) := by simp only [Hid]; rw [List.take_add_one, hy]; rfl
      obtain ⟨tn, tr, ts⟩ := t
      simp only at d2 d3 d4 hu hsn
      obtain ⟨w2, hw2⟩ : ∃ w2, w2 = wr.alloc (.cells #[.int .u32 x, .int .i64 y, .slice P tn cp, .int .i64 tr, .int .i64 ts] 30) := ⟨_, rfl⟩
      obtain ⟨X, hX⟩ : ∃ X, X = wr.heap.size := ⟨_, rfl⟩
      have hg2 : w2.heap[X]? = some (.cells #[.int .u32 x, .int .i64 y, .slice P tn cp, .int .i64 tr, .int .i64 ts] 30 (0, 0)) := by rw [hw2, hX]; exact heap_alloc_new wr _
      have hb2 : Below wr.heap.size wr w2 := by rw [hw2]; exact (Below.refl _ _).alloc (Nat.le_refl _) _
      have HB2 : Hid (Below w.heap.size w w2) := HV.out.2.2.trans (hb2.mono HV.out.2.2.size)
      have HU2 : Hid (Us w2 w.heap.size P tn) := hu.below (hb2.mono HV.out.2.2.size)
      have HO2 : Hid (w2.ownsRow w.heap.size 56 5 (.slice B k c2) k (fr lf)) := own_after HV.out.2.1 fun g hg => hb2.block g (own_lt HV.out.2.1 g hg).2
      have HWS : Hid (w.heap.size ≤ X) := by rw [hX]; exact HV.out.2.2.size
      have HCE : Hid (∀ W : World, (W.heap[X]? = w2.heap[X]?) → W.cell? ⟨X, 0, none⟩ = some (.int .u32 x) ∧ W.cell? ⟨X, 1, none⟩ = some (.int .i64 y) ∧ W.cell? ⟨X, 2, none⟩ = some (.slice P tn cp) ∧ W.cell? ⟨X, 3, none⟩ = some (.int .i64 tr) ∧ W.cell? ⟨X, 4, none⟩ = some (.int .i64 ts)) := fun W hW => by
        have e1 := hW.trans hg2
        exact ⟨cell_of_row W _ 0 _ _ _ e1, cell_of_row W _ 1 _ _ _ e1, cell_of_row W _ 2 _ _ _ e1, cell_of_row W _ 3 _ _ _ e1, cell_of_row W _ 4 _ _ _ e1⟩
      have HXL : Hid (X < w2.heap.size) := lt_of_block hg2
      have HXO : Hid ((Value.slice B k c2).ownBlock ≠ some X) := fun h => by
        have := (own_lt HV.out.2.1 X h).2
        omega
      have HBS : Hid (Below w2.heap.size w2 w2) := Below.refl _ _
      have H2 := Lib.hid hw2
      have HXE := Lib.hid hX
      clear ha1 hy hb1 hw2 hX hg2 hb2 hu
      go_upto_region 6 with (fail)
      rw [← H2.out]
      rw [← HXE.out]
      clear H2 HXE d0 d1 d2 d3 d4
      have HDp : Hid (Below w2.heap.size w2 w2.drew) := HBS.out.drew
      refine wp_region_held_drew (S := fun W : World => W.cell? ⟨X, 0, none⟩ = some (.int .u32 x) ∧ W.cell? ⟨X, 1, none⟩ = some (.int .i64 y) ∧ W.cell? ⟨X, 2, none⟩ = some (.slice P tn cp) ∧ W.cell? ⟨X, 3, none⟩ = some (.int .i64 tr) ∧ W.cell? ⟨X, 4, none⟩ = some (.int .i64 ts)) (by kernel_rfl) (HCE.out _ (HDp.out.block X HXL.out)) (fun hHeld => ?_)
      obtain ⟨W0, hW0⟩ : ∃ W0, W0 = w2.drew := ⟨_, rfl⟩
      rw [← hW0] at hHeld HDp ⊢
      clear hW0
      refine wpAnyH_take (i := 0) (oi := ?oi0p) (v := ?v0p) ?hi0p ?hs0p ?hf0p ?hr0p ?hQ0p ?hy0p ?hS0p ?h0p
      case hi0p => exact (by simp only [List.getElem?_toArray, List.getElem?_cons_zero]; rfl)
      case hs0p => kernel_rfl
      case hf0p => kernel_rfl
      case hr0p => kernel_rfl
      case hQ0p => exact fun _ _ _ h => h
      case hy0p =>
        refine Or.inl ⟨rfl, ?_⟩
        intro W hSw
        obtain ⟨y0, y1, y2, y3, y4⟩ := hSw
        go_simp
        try with_reducible rfl
      case hS0p => assumption
      try simp only [Act.put, List.setIfInBounds_toArray, List.set_cons_zero, List.set_cons_succ]
      refine wpAnyH_take (i := 1) (oi := ?oi1p) (v := ?v1p) ?hi1p ?hs1p ?hf1p ?hr1p ?hQ1p ?hy1p ?hS1p ?h1p
      case hi1p => exact (by simp only [List.getElem?_toArray, List.getElem?_cons_succ, List.getElem?_cons_zero]; rfl)
      case hs1p => kernel_rfl
      case hf1p => kernel_rfl
      case hr1p => kernel_rfl
      case hQ1p => exact fun _ _ _ h => h
      case hy1p =>
        refine Or.inl ⟨rfl, ?_⟩
        intro W hSw
        obtain ⟨y0, y1, y2, y3, y4⟩ := hSw
        go_simp
        try with_reducible rfl
      case hS1p => assumption
      try simp only [Act.put, List.setIfInBounds_toArray, List.set_cons_zero, List.set_cons_succ]
      refine wpAnyH_take (i := 2) (oi := ?oi2p) (v := ?v2p) ?hi2p ?hs2p ?hf2p ?hr2p ?hQ2p ?hy2p ?hS2p ?h2p
      case hi2p => exact (by simp only [List.getElem?_toArray, List.getElem?_cons_succ, List.getElem?_cons_zero]; rfl)
      case hs2p => kernel_rfl
      case hf2p => kernel_rfl
      case hr2p => kernel_rfl
      case hQ2p => exact fun _ _ _ h => h
      case hy2p =>
        refine Or.inl ⟨rfl, ?_⟩
        intro W hSw
        obtain ⟨y0, y1, y2, y3, y4⟩ := hSw
        go_simp
        try with_reducible rfl
      case hS2p => assumption
      try simp only [Act.put, List.setIfInBounds_toArray, List.set_cons_zero, List.set_cons_succ]
      refine wpAnyH_take (i := 3) (oi := ?oi3p) (v := ?v3p) ?hi3p ?hs3p ?hf3p ?hr3p ?hQ3p ?hy3p ?hS3p ?h3p
      case hi3p => exact (by simp only [List.getElem?_toArray, List.getElem?_cons_succ, List.getElem?_cons_zero]; rfl)
      case hs3p => kernel_rfl
      case hf3p => kernel_rfl
      case hr3p => kernel_rfl
      case hQ3p => exact fun _ _ _ h => h
      case hy3p =>
        refine Or.inl ⟨rfl, ?_⟩
        intro W hSw
        obtain ⟨y0, y1, y2, y3, y4⟩ := hSw
        go_simp
        try with_reducible rfl
      case hS3p => assumption
      try simp only [Act.put, List.setIfInBounds_toArray, List.set_cons_zero, List.set_cons_succ]
      refine wpAnyH_take (i := 4) (oi := ?oi4p) (v := ?v4p) ?hi4p ?hs4p ?hf4p ?hr4p ?hQ4p ?hy4p ?hS4p ?h4p
      case hi4p => exact (by simp only [List.getElem?_toArray, List.getElem?_cons_succ, List.getElem?_cons_zero]; rfl)
      case hs4p => kernel_rfl
      case hf4p => kernel_rfl
      case hr4p => kernel_rfl
      case hQ4p => exact fun _ _ _ h => h
      case hy4p =>
        refine Or.inl ⟨rfl, ?_⟩
        intro W hSw
        obtain ⟨y0, y1, y2, y3, y4⟩ := hSw
        go_simp
        try with_reducible rfl
      case hS4p => assumption
      try simp only [Act.put, List.setIfInBounds_toArray, List.set_cons_zero, List.set_cons_succ]
      refine wpAnyH_take (i := 6) (oi := ?oi6p) (v := ?v6p) ?hi6p ?hs6p ?hf6p ?hr6p ?hQ6p ?hy6p ?hS6p ?h6p
      case hi6p => exact (by simp only [List.getElem?_toArray, List.getElem?_cons_succ, List.getElem?_cons_zero]; rfl)
      case hs6p => kernel_rfl
      case hf6p => kernel_rfl
      case hr6p => kernel_rfl
      case hQ6p => exact fun _ _ _ h => h
      case hy6p =>
        refine Or.inl ⟨rfl, ?_⟩
        intro W hSw
        obtain ⟨y0, y1, y2, y3, y4⟩ := hSw
        go_simp
        try with_reducible rfl
      case hS6p => assumption
      try simp only [Act.put, List.setIfInBounds_toArray, List.set_cons_zero, List.set_cons_succ]
      refine wpAnyH_take (i := 7) (oi := ?oi7p) (v := ?v7p) ?hi7p ?hs7p ?hf7p ?hr7p ?hQ7p ?hy7p ?hS7p ?h7p
      case hi7p => exact (by simp only [List.getElem?_toArray, List.getElem?_cons_succ, List.getElem?_cons_zero]; rfl)
      case hs7p => kernel_rfl
      case hf7p => kernel_rfl
      case hr7p => kernel_rfl
      case hQ7p => exact fun _ _ _ h => h
      case hy7p =>
        refine Or.inl ⟨rfl, ?_⟩
        intro W hSw
        obtain ⟨y0, y1, y2, y3, y4⟩ := hSw
        go_simp
        try with_reducible rfl
      case hS7p => assumption
      try simp only [Act.put, List.setIfInBounds_toArray, List.set_cons_zero, List.set_cons_succ]
      refine wpAnyH_take (i := 9) (oi := ?oi9p) (v := ?v9p) ?hi9p ?hs9p ?hf9p ?hr9p ?hQ9p ?hy9p ?hS9p ?h9p
      case hi9p => exact (by simp only [List.getElem?_toArray, List.getElem?_cons_succ, List.getElem?_cons_zero]; rfl)
      case hs9p => kernel_rfl
      case hf9p => kernel_rfl
      case hr9p => kernel_rfl
      case hQ9p => exact fun _ _ _ h => h
      case hy9p =>
        refine Or.inl ⟨rfl, ?_⟩
        intro W hSw
        obtain ⟨y0, y1, y2, y3, y4⟩ := hSw
        go_simp
        try with_reducible rfl
      case hS9p => assumption
      try simp only [Act.put, List.setIfInBounds_toArray, List.set_cons_zero, List.set_cons_succ]
      refine wpAnyH_take (i := 10) (oi := ?oi10p) (v := ?v10p) ?hi10p ?hs10p ?hf10p ?hr10p ?hQ10p ?hy10p ?hS10p ?h10p
      case hi10p => exact (by simp only [List.getElem?_toArray, List.getElem?_cons_succ, List.getElem?_cons_zero]; rfl)
      case hs10p => kernel_rfl
      case hf10p => kernel_rfl
      case hr10p => kernel_rfl
      case hQ10p => exact fun _ _ _ h => h
      case hy10p =>
        refine Or.inl ⟨rfl, ?_⟩
        intro W hSw
        obtain ⟨y0, y1, y2, y3, y4⟩ := hSw
        go_simp
        try with_reducible rfl
      case hS10p => assumption
      try simp only [Act.put, List.setIfInBounds_toArray, List.set_cons_zero, List.set_cons_succ]
      refine wpAnyH_take (i := 11) (oi := ?oi11p) (v := ?v11p) ?hi11p ?hs11p ?hf11p ?hr11p ?hQ11p ?hy11p ?hS11p ?h11p
      case hi11p => exact (by simp only [List.getElem?_toArray, List.getElem?_cons_succ, List.getElem?_cons_zero]; rfl)
      case hs11p => kernel_rfl
      case hf11p => kernel_rfl
      case hr11p => kernel_rfl
      case hQ11p => exact fun _ _ _ h => h
      case hy11p =>
        refine Or.inl ⟨rfl, ?_⟩
        intro W hSw
        obtain ⟨y0, y1, y2, y3, y4⟩ := hSw
        go_simp
        try with_reducible rfl
      case hS11p => assumption
      try simp only [Act.put, List.setIfInBounds_toArray, List.set_cons_zero, List.set_cons_succ]
      refine wpAnyH_take (i := 12) (oi := ?oi12p) (v := ?v12p) ?hi12p ?hs12p ?hf12p ?hr12p ?hQ12p ?hy12p ?hS12p ?h12p
      case hi12p => exact (by simp only [List.getElem?_toArray, List.getElem?_cons_succ, List.getElem?_cons_zero]; rfl)
      case hs12p => kernel_rfl
      case hf12p => kernel_rfl
      case hr12p => kernel_rfl
      case hQ12p => exact fun _ _ _ h => h
      case hy12p =>
        refine Or.inl ⟨rfl, ?_⟩
        intro W hSw
        obtain ⟨y0, y1, y2, y3, y4⟩ := hSw
        go_simp
        try with_reducible rfl
      case hS12p => assumption
      try simp only [Act.put, List.setIfInBounds_toArray, List.set_cons_zero, List.set_cons_succ]
      refine wpAnyH_ready (rs := [5]) (by kernel_rfl) (by simp) ?_
      refine AllReadyH.cons (o := _) rfl (fun K hK => ?_) AllReadyH.nil
      go_simp
      obtain ⟨W1, hW1⟩ : ∃ W1, W1 = W0.alloc (.cells #[] 27) := ⟨_, rfl⟩
      rw [← hW1]
      have HGU : Hid (W1.heap[W0.heap.size]? = some (.cells #[] 27 (0, 0))) := by rw [hW1]; exact heap_alloc_new W0 _
      have HD1 : Hid (Below w2.heap.size w2 W1) := by rw [hW1]; exact HDp.out.alloc HDp.out.size _
      clear hW1
      refine hK.out _ _ (HCE.out _ (HD1.out.block X HXL.out)) (fun hHeld => ?_)
      clear hK K
      try simp only [Act.put, List.setIfInBounds_toArray, List.set_cons_zero, List.set_cons_succ]
      refine wpAnyH_ready (rs := [8]) (by kernel_rfl) (by simp) ?_
      refine AllReadyH.cons (o := _) rfl (fun K hK => ?_) AllReadyH.nil
      refine step_append_us rfl _ _ rfl w.heap.size W0.heap.size tn cp P rfl rfl HGU.out (HU2.out.below (HD1.out.mono HB2.out.size)) (by omega) ?_
      intro P9 c9 W2 hg9
      change K (Act.put _ (some 24) (.slice P9 tn c9)) W2
      have HD2 : Hid (Below w2.heap.size w2 W2) := HD1.out.grown hg9 HD1.out.size (fun g hg => by injection hg with hg; rw [← hg]; exact HDp.out.size)
      clear hg9
      refine hK.out _ _ (HCE.out _ (HD2.out.block X HXL.out)) (fun hHeld => ?_)
      clear hK K
      try simp only [Act.put, List.setIfInBounds_toArray, List.set_cons_zero, List.set_cons_succ]
      refine wpAnyH_take (i := 13) (oi := ?oi13p) (v := ?v13p) ?hi13p ?hs13p ?hf13p ?hr13p ?hQ13p ?hy13p ?hS13p ?h13p
      case hi13p => exact (by simp only [List.getElem?_toArray, List.getElem?_cons_succ, List.getElem?_cons_zero]; rfl)
      case hs13p => kernel_rfl
      case hf13p => kernel_rfl
      case hr13p => kernel_rfl
      case hQ13p => exact fun _ _ _ h => h
      case hy13p =>
        refine Or.inl ⟨rfl, ?_⟩
        intro W hSw
        obtain ⟨y0, y1, y2, y3, y4⟩ := hSw
        go_simp
        try with_reducible rfl
      case hS13p => assumption
      try simp only [Act.put, List.setIfInBounds_toArray, List.set_cons_zero, List.set_cons_succ]
      refine wpAnyH_ready (rs := [14]) (by kernel_rfl) (by simp) ?_
      refine AllReadyH.cons (o := _) rfl (fun K hK => ?_) AllReadyH.nil
      go_simp
      obtain ⟨W3, hW3⟩ : ∃ W3, W3 = W2.alloc (.cells #[.int .u32 x, .int .i64 y, .slice P9 tn c9, .int .i64 tr, .int .i64 ts] 56) := ⟨_, rfl⟩
      rw [← hW3]
      have HG3 : Hid (W3.heap[W2.heap.size]? = some (.cells (fc ⟨x, y, P9, c9, ⟨tn, tr, ts⟩⟩).toArray 56 (0, 0))) := by rw [hW3]; exact heap_alloc_new W2 _
      have HD3 : Hid (Below w2.heap.size w2 W3) := by rw [hW3]; exact HD2.out.alloc HD2.out.size _
      clear hW3
      refine hK.out _ _ (HCE.out _ (HD3.out.block X HXL.out)) (fun hHeld => ?_)
      clear hK K
      try simp only [Act.put, List.setIfInBounds_toArray, List.set_cons_zero, List.set_cons_succ]
      refine wpAnyH_ready (rs := [15]) (by kernel_rfl) (by simp) ?_
      refine AllReadyH.cons (o := _) rfl (fun K hK => ?_) AllReadyH.nil
      have hown : W3.ownsRow w.heap.size 56 5 (.slice B k c2) k (fr lf) := own_after HO2.out fun g hg => HD3.out.block g (own_lt HO2.out g hg).2
      refine step_append_ft rfl _ _ rfl w.heap.size W2.heap.size (.slice B k c2) k (fr lf) ⟨x, y, P9, c9, ⟨tn, tr, ts⟩⟩ rfl rfl hown HG3.out (by omega) (Nat.le_trans HB2.out.size HD3.out.size) ?_
      intro v9 W4 ho9 hg9
      change K (Act.put _ (some 31) v9) W4
      have HFIN : Hid (W4.ownsRow w.heap.size 56 5 v9 (k + 1) (fr lf ++ fc ⟨x, y, P9, c9, ⟨tn, tr, ts⟩⟩) ∧ Below w.heap.size w W4) := ⟨ho9, (HB2.out.trans (HD3.out.mono HB2.out.size)).grown hg9 (Nat.le_trans HB2.out.size HD3.out.size) (fun g hg => (own_lt hown g hg).1)⟩
      have hX4 : W4.heap[X]? = w2.heap[X]? := (hg9.block X (Nat.lt_of_lt_of_le HXL.out HD3.out.size) (fun h => HXO.out h.symm)).trans (HD3.out.block X HXL.out)
      obtain ⟨B9, d9, rfl⟩ := own_form ho9
      clear ho9 hg9 hown
      refine hK.out _ _ (HCE.out _ hX4) (fun hHeld => ?_)
      clear hK K
      try simp only [Act.put, List.setIfInBounds_toArray, List.set_cons_zero, List.set_cons_succ]
      refine wpAnyH_take (i := 16) (oi := ?oi16p) (v := ?v16p) ?hi16p ?hs16p ?hf16p ?hr16p ?hQ16p ?hy16p ?hS16p ?h16p
      case hi16p => exact (by simp only [List.getElem?_toArray, List.getElem?_cons_succ, List.getElem?_cons_zero]; rfl)
      case hs16p => kernel_rfl
      case hf16p => kernel_rfl
      case hr16p => kernel_rfl
      case hQ16p => exact fun _ _ _ h => h
      case hy16p =>
        refine Or.inl ⟨rfl, ?_⟩
        intro W hSw
        obtain ⟨y0, y1, y2, y3, y4⟩ := hSw
        go_simp
        try with_reducible rfl
      case hS16p => assumption
      try simp only [Act.put, List.setIfInBounds_toArray, List.set_cons_zero, List.set_cons_succ]
      refine wpAnyH_done (by kernel_rfl) ?_ _
      go_wp2
      go_roundw
      case rel => exact ⟨k + 1, lf ++ [⟨x, y, P9, c9, ⟨tn, tr, ts⟩⟩], by omega, by go_num, by rw [List.map_append, HV.out.1, HTK.out]; rfl, by rw [fr_snoc]; exact HFIN.out.1, HFIN.out.2⟩
      case measure => simp [intOf] <;> omega
    · have hkn : k = n := by omega
      subst hkn
      have HZ : Hid (Ts wr wr.heap.size B l) := by
        have h := Ts.of_own HV.out.2.1
        rw [HV.out.1, List.take_of_length_le (by rw [← HN.out]; exact Nat.le_refl _)] at h
        exact h
      go_wp2
      go_ret
      exact ⟨⟨_, _, rfl, HZ.out⟩, HV.out.2.2⟩
end Go.Proofs.Ytnloikdfbdpilaa
