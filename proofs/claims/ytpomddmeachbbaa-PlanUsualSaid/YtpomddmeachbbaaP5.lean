/- Plan: appends of modes; Clone; Usual. -/
import Derived.Test.YtpomddmeachbbaaP3
import Derived.Laws.AppendOwn
import Derived.Lib.SliceRun
namespace Go.Proofs.Ytpomddmeachbbaa
open Go.RowKit
set_option maxRecDepth 20000

def mr (l : List Md) : List Value := l.flatMap mc
theorem mr_len (l : List Md) : (mr l).length = l.length * 5 := by
  induction l with
  | nil => rfl
  | cons e l ih =>
    unfold mr at ih ⊢
    rw [List.flatMap_cons, List.length_append, ih, List.length_cons]
    simp [mc]
    omega
theorem mr_get : ∀ (l : List Md) (i : Nat) (e : Md) (j : Nat), l[i]? = some e → j < 5 → (mr l)[i * 5 + j]? = (mc e)[j]?
  | [], i, e, j, h, _ => by simp at h
  | x :: l, 0, e, j, h, hj => by
    simp at h
    subst h
    unfold mr
    rw [List.flatMap_cons, List.getElem?_append_left (by simp [mc]; omega)]
    simp
  | x :: l, i + 1, e, j, h, hj => by
    have ih := mr_get l i e j (by simpa using h) hj
    unfold mr at ih ⊢
    rw [List.flatMap_cons, List.getElem?_append_right (by simp [mc]; omega)]
    simp only [show (mc x).length = 5 from rfl, show (i + 1) * 5 + j - 5 = i * 5 + j by omega]
    exact ih
theorem mr_append (l l' : List Md) : mr (l ++ l') = mr l ++ mr l' := by simp [mr]
theorem mr_one (l : List Md) : ∀ u ∈ mr l, u.oneCell' = true := by
  intro u hu
  obtain ⟨m, _, hm⟩ := List.mem_flatMap.1 hu
  simp only [mc, List.mem_cons, List.not_mem_nil, or_false] at hm
  rcases hm with rfl | rfl | rfl | rfl | rfl <;> rfl
theorem own_form5 {w : World} {base T m : Nat} {v : Value} {xs : List Value} (h : w.ownsRow base T 5 v m xs) : ∃ A c, v = .slice A m c := by
  rcases h.2 with ⟨rfl, rfl⟩ | ⟨g, cap, cur, rfl, _⟩
  · exact ⟨none, 0, rfl⟩
  · exact ⟨_, cap, rfl⟩
theorem Ms.of_own {w : World} {base T m c : Nat} {A : Option Addr} {l : List Md} (h : w.ownsRow base T 5 (.slice A m c) m (mr l)) : Ms w w.heap.size A l := fun hl => by
  have hcells := fun g => h.cells (g := g)
  have hlt := h.lt
  have hlen := h.1
  rw [mr_len] at hlen
  rcases h.2 with ⟨_, h0⟩ | ⟨g, cap, cur, e1, _, _, _, _⟩
  · omega
  · injection e1 with e1 _ _
    subst e1
    refine ⟨g, 0, rfl, (hlt g rfl).2, fun i e he => ?_⟩
    have hc : ∀ j, j < 5 → w.cell? ⟨g, 0 + i * 5 + j, none⟩ = (mc e)[j]? := fun j hj => by
      obtain ⟨u, hu⟩ : ∃ u, (mc e)[j]? = some u := ⟨(mc e)[j]'(by simpa [mc] using hj), List.getElem?_eq_getElem _⟩
      have := hcells g rfl (i * 5 + j) u (by rw [mr_get l i e j he hj, hu])
      rw [Go.WideShapes.add_plain, ← Nat.add_assoc] at this
      rw [hu, ← this]
    exact ⟨by simpa [mc] using hc 0 (by omega), by simpa [mc] using hc 1 (by omega), by simpa [mc] using hc 2 (by omega), by simpa [mc] using hc 3 (by omega), by simpa [mc] using hc 4 (by omega)⟩
/-- What is read at the cells of a row of modes. -/
theorem Ms.cells {w : World} {B : Nat} {ad : Addr} {l : List Md} (h : Ms w B (some ad) l) : ∀ j u, (mr l)[j]? = some u → w.cell? (ad.add j) = some u := fun j u hu => by
  have hj := (List.getElem?_eq_some_iff.1 hu).1
  rw [mr_len] at hj
  obtain ⟨b, o, hA, _, hc⟩ := h (by omega)
  injection hA with hA
  subst hA
  obtain ⟨i, r, hi, rfl⟩ : ∃ i r, r < 5 ∧ j = i * 5 + r := ⟨j / 5, j % 5, by omega, by omega⟩
  obtain ⟨m, hm⟩ : ∃ m, l[i]? = some m := ⟨l[i]'(by omega), List.getElem?_eq_getElem _⟩
  rw [mr_get l i m r hm hi] at hu
  obtain ⟨h0, h1, h2, h3, h4⟩ := hc i m hm
  rw [Go.WideShapes.add_plain, ← Nat.add_assoc]
  rcases r with _ | _ | _ | _ | _ | r
  · simp [mc] at hu; subst hu; exact h0
  · simp [mc] at hu; subst hu; exact h1
  · simp [mc] at hu; subst hu; exact h2
  · simp [mc] at hu; subst hu; exact h3
  · simp [mc] at hu; subst hu; exact h4
  · omega

theorem Ms.kept {w W : World} {B B' : Nat} {A : Option Addr} {l : List Md} (h : Ms w B A l) (hB : B ≤ B') (hk : ∀ ad, A = some ad → W.heap[ad.block]? = w.heap[ad.block]?) : Ms W B' A l := fun hl => by
  obtain ⟨b, o, rfl, h1, h2⟩ := h hl
  have hb := hk _ rfl
  refine ⟨b, o, rfl, Nat.lt_of_lt_of_le h1 hB, fun i m hi => ?_⟩
  obtain ⟨c0, c1, c2, c3, c4⟩ := h2 i m hi
  have e : ∀ p, W.cell? ⟨b, p, none⟩ = w.cell? ⟨b, p, none⟩ := fun p => World.cell?_of_block hb
  exact ⟨(e _).trans c0, (e _).trans c1, (e _).trans c2, (e _).trans c3, (e _).trans c4⟩
theorem info35 : (Try.prog.info? 35).map (fun i => (i.zero, i.size, i.bytes)) = some (some (mV 0 0 0 0 0), 5, 40) := by kernel_rfl
theorem info26 : (Try.prog.info? 26).map (fun i => (i.zero, i.size, i.bytes)) = some (some (mV 0 0 0 0 0), 5, 40) := by kernel_rfl
theorem run_append_md (S T : Nat) (hST : (S = 29 ∧ T = 35) ∨ (S = 22 ∧ T = 26)) (w : World) (base ty c : Nat) (v : Value) (xs l : List Md) (A : Option Addr)
    (hown : w.ownsRow base T 5 v xs.length (mr xs)) (hy : Ms w w.heap.size A l) (hlen : xs.length + l.length ≤ 100000) (hbase : base ≤ w.heap.size) :
    ∃ v' w', (Builtin.append_ #[S, S] ty #[v, .slice A l.length c]).run Try.prog w = .ok v' w' ∧ w'.ownsRow base T 5 v' (xs ++ l).length (mr (xs ++ l)) ∧ w.grownBy w' v.ownBlock := by
  rcases A with _ | ad
  · have hl0 : l = [] := by
      rcases l with _ | ⟨y, l⟩
      · rfl
      · obtain ⟨b, o, hA, _⟩ := hy (by simp)
        cases hA
    subst hl0
    refine ⟨v, w, ?_, by simpa using hown, World.grownBy.refl w _⟩
    rcases hST with ⟨rfl, rfl⟩ | ⟨rfl, rfl⟩
    · obtain ⟨i, hi, hz0, hz1, hz2⟩ := info_parts info35
      rcases hown.2 with ⟨rfl, _⟩ | ⟨g, cap, cur, rfl, _, _, hnc, _⟩
      · simp [Builtin.append_, run_underlying Try.underlying29, sizeOf, typeInfo, hi, Builtin.lenOf, Builtin.firstCells]
      · simp [Builtin.append_, run_underlying Try.underlying29, sizeOf, typeInfo, hi, Builtin.lenOf, Builtin.firstCells, hnc, storeCells]
    · obtain ⟨i, hi, hz0, hz1, hz2⟩ := info_parts info26
      rcases hown.2 with ⟨rfl, _⟩ | ⟨g, cap, cur, rfl, _, _, hnc, _⟩
      · simp [Builtin.append_, run_underlying Try.underlying22, sizeOf, typeInfo, hi, Builtin.lenOf, Builtin.firstCells]
      · simp [Builtin.append_, run_underlying Try.underlying22, sizeOf, typeInfo, hi, Builtin.lenOf, Builtin.firstCells, hnc, storeCells]
  · rcases hST with ⟨rfl, rfl⟩ | ⟨rfl, rfl⟩
    · obtain ⟨i, hi, hz0, hz1, hz2⟩ := info_parts info35
      obtain ⟨v', w', hrun, h2, h3, _⟩ := run_append_own (P := Try.prog) w base 29 ty 35 i _ 5 40 Try.underlying29 hi hz0 hz1 hz2 rfl (by decide) v xs.length (mr xs) hown ad l.length c (mr l) (mr_len l) hy.cells (mr_one l) (by unfold maxLen; omega) (by omega) hbase
      exact ⟨v', w', hrun, by simpa [mr_append] using h2, h3⟩
    · obtain ⟨i, hi, hz0, hz1, hz2⟩ := info_parts info26
      obtain ⟨v', w', hrun, h2, h3, _⟩ := run_append_own (P := Try.prog) w base 22 ty 26 i _ 5 40 Try.underlying22 hi hz0 hz1 hz2 rfl (by decide) v xs.length (mr xs) hown ad l.length c (mr l) (mr_len l) hy.cells (mr_one l) (by unfold maxLen; omega) (by omega) hbase
      exact ⟨v', w', hrun, by simpa [mr_append] using h2, h3⟩
theorem wpList_append_md {w : World} {ops : Array Oper} {rest : List Oper} {op : Oper} {a : Act} {Q : Exit → Act → World → Prop} (hgd : op.guard = none) (S T : Nat) (hST : (S = 29 ∧ T = 35) ∨ (S = 22 ∧ T = 26)) (s x : Operand)
    (ho : op.op = .call { callee := .builtin .append, args := #[s, x], argTypes := #[S, S] }) (base c n : Nat) (v : Value) (xs l : List Md) (A : Option Addr) (hs : a.eval s = v) (hx : a.eval x = .slice A n c) (hn : n = l.length)
    (hown : w.ownsRow base T 5 v xs.length (mr xs)) (hy : Ms w w.heap.size A l) (hlen : xs.length + l.length ≤ 100000) (hbase : base ≤ w.heap.size)
    (h : ∀ v' w', w'.ownsRow base T 5 v' (xs ++ l).length (mr (xs ++ l)) → w.grownBy w' v.ownBlock → wpList Try.prog ops Q rest (a.put op.dst v') w') : wpList Try.prog ops Q (op :: rest) a w := by
  refine wpList_plain hgd fun K hK => ?_
  obtain ⟨v', w', hr, h2, h3⟩ := run_append_md S T hST w base op.type c v xs l A hown hy hlen hbase
  unfold Oper.wp execOp
  simp only [ho, resolve, invoke, builtin, Sem.run_bind, Sem.run_pure, Result.andThen_ok, List.map_toArray, List.map_cons, List.map_nil, hs, hx, hn, hr]
  exact hK _ _ (h v' w' h2 h3)

set_option maxHeartbeats 2000000 in
theorem clone_any (A : Option Addr) (n c : Nat) (l : List Md) (w : World) (hn : n = l.length) (hM : Ms w w.heap.size A l) (hl : n ≤ 1000) :
    Calls Try.prog 46 #[.slice A n c] w fun r w' => ∃ B c', r = .returned (.slice B n c') ∧ Ms w' w'.heap.size B l ∧ Below w.heap.size w w' ∧ ∀ ad, B = some ad → w.heap.size ≤ ad.block := by
  rcases A with _ | ad
  · have hl0 : l = [] := by
      rcases l with _ | ⟨y, l⟩
      · rfl
      · obtain ⟨b, o, hA, _⟩ := hM (by simp)
        cases hA
    subst hl0
    subst hn
    have hq : ∀ W : World, (binOp .eql 29 (.slice none 0 c) (.slice none 0 0)).run Try.prog W = .ok (.bool true) W := fun W => Lib.run_eql_slice_nil W _ _ none 0 c 0 0 Try.underlying29
    go_enter Try.func46, Try.ntmps46
    go_wp2
    go_ret
    exact ⟨none, 0, rfl, fun h => by simp at h, Below.refl _ _, fun ad h => by cases h⟩
  · have hb0 : Below w.heap.size w (w.alloc (.cells #[] 35)) := (Below.refl _ _).alloc (Nat.le_refl _) _
    have hM0 : Ms (w.alloc (.cells #[] 35)) (w.alloc (.cells #[] 35)).heap.size (some ad) l := (hM.below hb0).mono (by simp)
    have hown : (w.alloc (.cells #[] 35)).ownsRow w.heap.size 35 5 (.slice (some ⟨w.heap.size, 0, none⟩) 0 0) ([] : List Md).length (mr []) :=
      ⟨rfl, .inr ⟨w.heap.size, 0, #[], rfl, Nat.le_refl _, heap_alloc_new w _, Nat.le_refl _, Nat.zero_le _, rfl, rfl⟩⟩
    have hs0 : w.heap.size ≤ (w.alloc (.cells #[] 35)).heap.size := by simp
    have HN := Lib.hid hn
    have hl0 : 0 + l.length ≤ 100000 := by omega
    clear hn
    have hq : ∀ (W : World) (n c : Nat), (binOp .eql 29 (.slice (some ad) n c) (.slice none 0 0)).run Try.prog W = .ok (.bool false) W := fun W n c => Lib.run_eql_slice_nil W _ _ (some ad) n c 0 0 Try.underlying29
    go_enter Try.func46, Try.ntmps46
    go_wp2_with (at_builtin; refine wpList_append_md rfl 29 35 (.inl ⟨rfl, rfl⟩) (.tmp 5) (.tmp 6) rfl w.heap.size c n (.slice (some ⟨w.heap.size, 0, none⟩) 0 0) [] l (some ad) rfl rfl HN.out hown hM0 hl0 hs0 ?_; intro v2 w2 hown2 hg2; rw [List.nil_append, ← HN.out] at hown2; obtain ⟨B2, c2, rfl⟩ := own_form5 hown2)
    go_ret
    exact ⟨B2, c2, rfl, Ms.of_own hown2, hb0.grown hg2 hs0 (fun g hg => by have h : w.heap.size = g := Option.some.inj hg; omega), fun ad h => (hown2.lt ad.block (by rw [h]; rfl)).1⟩
def usualC : Cfg := ⟨[116, 105, 108, 116], 16, 16, 8, 4, 100, 50, 20, 10, 15, 30, 20, 8192⟩

set_option maxHeartbeats 4000000 in
theorem usual_any (A : Option Addr) (n c : Nat) (l : List Md) (w : World) (hn : n = l.length) (hM : Ms w w.heap.size A l) (hl : n ≤ 1000) :
    Calls Try.prog 22 #[.slice A n c] w fun r w' => ∃ B c', r = .returned (.agg (usualC.cells (.slice B n c'))) ∧ Ms w' w'.heap.size B l ∧ Below w.heap.size w w' := by
  obtain ⟨w0, hw0⟩ : ∃ w0, w0 = w.alloc (.cells #[sV [], .int .i64 0, .int .i64 0, .int .i64 0, .int .i64 0, .int .i64 0, .int .i64 0, .int .i64 0, .int .i64 0, .int .i64 0, .int .i64 0, .int .i64 0, .int .i64 0, .slice none 0 0] 31) := ⟨_, rfl⟩
  have hb0 : Below w.heap.size w w0 := by rw [hw0]; exact (Below.refl _ _).alloc (Nat.le_refl _) _
  have hq0 : w0.heap[w.heap.size]? = some (.cells #[sV [], .int .i64 0, .int .i64 0, .int .i64 0, .int .i64 0, .int .i64 0, .int .i64 0, .int .i64 0, .int .i64 0, .int .i64 0, .int .i64 0, .int .i64 0, .int .i64 0, .slice none 0 0] 31 (0, 0)) := by rw [hw0]; exact heap_alloc_new w _
  have hM0 : Ms w0 w0.heap.size A l := (hM.below hb0).mono hb0.size
  have H0 := Lib.hid hw0
  have HC := Lib.hid (clone_any A n c l w0 hn hM0 hl)
  clear hw0 hn hl
  go_enter Try.func22, Try.ntmps22
  go_upto_region 1 with (fail)
  rw [← H0.out]
  go_wp2_with fail
  refine HC.out.mono ?_
  rintro r w1 ⟨B, c', rfl, hM1, hb1, hB1⟩
  have HB1 := Lib.hid hB1
  have HS1 : Hid (w.heap.size < w0.heap.size) := lt_of_block hq0
  clear hB1
  have hq1 := (hb1.block _ (lt_of_block hq0)).trans hq0
  have f0 : ∀ i, w1.frozen? ⟨w.heap.size, i, none⟩ = false := fun i => frozen_of_row w1 _ i _ _ hq1
  have d0 := cell_of_row w1 w.heap.size 0 _ _ _ hq1
  have d1 := cell_of_row w1 w.heap.size 1 _ _ _ hq1
  have d2 := cell_of_row w1 w.heap.size 2 _ _ _ hq1
  have d3 := cell_of_row w1 w.heap.size 3 _ _ _ hq1
  have d4 := cell_of_row w1 w.heap.size 4 _ _ _ hq1
  have d5 := cell_of_row w1 w.heap.size 5 _ _ _ hq1
  have d6 := cell_of_row w1 w.heap.size 6 _ _ _ hq1
  have d7 := cell_of_row w1 w.heap.size 7 _ _ _ hq1
  have d8 := cell_of_row w1 w.heap.size 8 _ _ _ hq1
  have d9 := cell_of_row w1 w.heap.size 9 _ _ _ hq1
  have d10 := cell_of_row w1 w.heap.size 10 _ _ _ hq1
  have d11 := cell_of_row w1 w.heap.size 11 _ _ _ hq1
  have d12 := cell_of_row w1 w.heap.size 12 _ _ _ hq1
  have d13 := cell_of_row w1 w.heap.size 13 _ _ _ hq1
  simp at d0 d1 d2 d3 d4 d5 d6 d7 d8 d9 d10 d11 d12 d13
  have HM1 := Lib.hid hM1
  have HB := Lib.hid (hb0.trans (hb1.mono hb0.size))
  clear hM1 hb1 hb0 hq1 hq0 hM0 hM HC
  go_wp2
  refine bodyPost_ret (v := .agg (usualC.cells (.slice B n c'))) (by simp [results, Try.results22, go_sem, usualC, d0, d1, d2, d3, d4, d5, d6, d7, d8, d9, d10, d11, d12, d13]) rfl ⟨B, c', rfl, Ms.kept HM1.out (by simp) (fun ad had => ?_), ?_⟩
  · have hne : ad.block ≠ w.heap.size := by have := HB1.out ad had; have := HS1.out; omega
    iterate 14 refine (Below.heap_setCell _ _ _ _ hne).trans ?_
    rfl
  · exact ((((((((((((((HB.out.setCell (by simp) _).setCell (by simp) _).setCell (by simp) _).setCell (by simp) _).setCell (by simp) _).setCell (by simp) _).setCell (by simp) _).setCell (by simp) _).setCell (by simp) _).setCell (by simp) _).setCell (by simp) _).setCell (by simp) _).setCell (by simp) _).setCell (by simp) _)
end Go.Proofs.Ytpomddmeachbbaa
