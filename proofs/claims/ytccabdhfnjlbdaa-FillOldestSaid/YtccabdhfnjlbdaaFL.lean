/- Fill: FillOldest's walk. -/
import Derived.Test.YtccabdhfnjlbdaaFK
namespace Go.Proofs.Ytccabdhfnjlbdaa
open Go.RowKit
set_option maxRecDepth 20000
set_option linter.unusedVariables false

theorem Ts.take {w : World} {B : Nat} {A : Option Addr} {l : List Tk} (h : Ts w B A l) (k : Nat) : Ts w B A (l.take k) := fun hl => by
  rw [List.length_take] at hl
  obtain ⟨b, o, h1, h2, h3⟩ := h (by omega)
  refine ⟨b, o, h1, h2, fun i t ht => ?_⟩
  have hi : i < k := by
    have := (List.getElem?_eq_some_iff.1 ht).1
    rw [List.length_take] at this
    omega
  rw [List.getElem?_take, if_pos hi] at ht
  exact h3 i t ht
theorem Ts.drop {w : World} {B g o m : Nat} {l : List Tk} {A' : Addr} (h : Ts w B (some ⟨g, o, none⟩) l) (hA : m < l.length → A' = ⟨g, o + m * 5, none⟩) : Ts w B (some A') (l.drop m) := fun hl => by
  rw [List.length_drop] at hl
  obtain ⟨b, o', h1, h2, h3⟩ := h (by omega)
  injection h1 with h1
  injection h1 with e1 e2 _
  subst e1 e2
  rw [hA (by omega)]
  refine ⟨g, o + m * 5, rfl, h2, fun i t ht => ?_⟩
  rw [List.getElem?_drop] at ht
  have := h3 (m + i) t ht
  rw [Nat.add_mul, ← Nat.add_assoc] at this
  exact this
theorem info44 : (Try.prog.info? 44).map (fun i => (i.zero, i.size, i.bytes)) = some (some (.agg #[.int .u32 0, .int .i64 0, .slice none 0 0, .int .i64 0, .int .i64 0]), 5, 56) := by kernel_rfl
theorem slice_take (A : Option Addr) (n c k : Nat) (hk : k ≤ n) (hnc : n ≤ c) (hA : (A = none ∧ c = 0) ∨ ∃ g o, A = some ⟨g, o, none⟩) :
    ∃ A' c', (∀ W, (Instr.slice 38 (.slice A n c) none (some (.int .i64 (k : Int))) none).run Try.prog W = .ok (.slice A' k c') W) ∧ (0 < k → A' = A) ∧ (∀ g o, A = some ⟨g, o, none⟩ → ∃ ad, A' = some ad) := by
  obtain ⟨i0, hi, _, hz1, _⟩ := info_parts info44
  have h1 : (k : Int) ≤ c := by omega
  rcases hA with ⟨rfl, rfl⟩ | ⟨g, o, rfl⟩
  · obtain rfl : n = 0 := by omega
    obtain rfl : k = 0 := by omega
    exact ⟨none, 0, fun W => by simp [Instr.slice, Sem.run_bind, run_underlying Try.underlying38, Instr.sliceBounds, run_sliceBound, sizeOf, typeInfo, hi], (fun h => absurd h (by omega)), fun g o h => by cases h⟩
  · refine ⟨some ⟨g, o, none⟩, c, fun W => ?_, (fun _ => rfl), fun _ _ _ => ⟨_, rfl⟩⟩
    by_cases hc : c = 0
    · subst hc
      obtain rfl : k = 0 := by omega
      simp [Instr.slice, Sem.run_bind, run_underlying Try.underlying38, Instr.sliceBounds, run_sliceBound, sizeOf, typeInfo, hi]
    · simp [Instr.slice, Sem.run_bind, run_underlying Try.underlying38, Instr.sliceBounds, run_sliceBound, sizeOf, typeInfo, hi, hz1, Addr.add_mid, h1, hc]
theorem slice_zero (g o n c : Nat) : ∀ W, (Instr.slice 38 (.slice (some ⟨g, o, none⟩) n c) none (some (.int .i64 0)) (some (.int .i64 0))).run Try.prog W = .ok (.slice (some ⟨g, o, none⟩) 0 0) W := fun W => by
  obtain ⟨i0, hi, _, hz1, _⟩ := info_parts info44
  simp [Instr.slice, Sem.run_bind, run_underlying Try.underlying38, Instr.sliceBounds, run_sliceBound, sizeOf, typeInfo, hi, hz1]
theorem slice_drop (g o n c m : Nat) (hm : m ≤ n) (hnc : n ≤ c) :
    ∃ A' c', (∀ W, (Instr.slice 38 (.slice (some ⟨g, o, none⟩) n c) (some (.int .i64 (m : Int))) none none).run Try.prog W = .ok (.slice (some A') (n - m) c') W) ∧ (m < n → A' = ⟨g, o + m * 5, none⟩) := by
  obtain ⟨i0, hi, _, hz1, _⟩ := info_parts info44
  have h1 : (m : Int) ≤ n := by omega
  by_cases hc : c = m
  · subst hc
    obtain rfl : n = c := by omega
    exact ⟨⟨g, o, none⟩, 0, fun W => by simp [Instr.slice, Sem.run_bind, run_underlying Try.underlying38, Instr.sliceBounds, run_sliceBound, sizeOf, typeInfo, hi], fun h => absurd h (by omega)⟩
  · exact ⟨⟨g, o + m * 5, none⟩, c - m, fun W => by simp [Instr.slice, Sem.run_bind, run_underlying Try.underlying38, Instr.sliceBounds, run_sliceBound, sizeOf, typeInfo, hi, hz1, Addr.add_mid, h1, hc], fun _ => rfl⟩
/-- A slice of none with no room, or a row of one's own. -/
def Ro (w : World) (B : Nat) (v : Value) (m : Nat) (lt : List FT) : Prop := (m = 0 ∧ lt = [] ∧ ∃ ad, v = .slice (some ad) 0 0) ∨ (lt.length = m ∧ w.ownsRow B 44 5 v m (fr lt))
theorem Ro.form {w : World} {B m : Nat} {v : Value} {lt : List FT} (h : Ro w B v m lt) : ∃ A c, v = .slice A m c ∧ Ts w w.heap.size A (lt.map (·.t)) := by
  rcases h with ⟨rfl, rfl, ad, rfl⟩ | ⟨hl, ho⟩
  · exact ⟨_, _, rfl, fun h => by simp at h⟩
  · obtain ⟨A, c, rfl⟩ := own_form ho
    exact ⟨A, c, rfl, Ts.of_own ho⟩
theorem run_app (w : World) (B ty m n c : Nat) (v : Value) (xs ys : List FT) (ad : Addr) (hR : Ro w B v m xs) (hn : ys.length = n) (hc : 0 < n → ∀ j u, (fr ys)[j]? = some u → w.cell? (ad.add j) = some u) (hm : m + n ≤ 1000) (hB : B ≤ w.heap.size) :
    ∃ v' w', (Builtin.append_ #[38, 38] ty #[v, .slice (some ad) n c]).run Try.prog w = .ok v' w' ∧ Ro w' B v' (m + n) (xs ++ ys) ∧ Below B w w' := by
  obtain ⟨i0, hi, hz0, hz1, hz2⟩ := info_parts info44
  have hcells : ∀ j u, (fr ys)[j]? = some u → w.cell? (ad.add j) = some u := fun j u hj => by
    by_cases h0 : 0 < n
    · exact hc h0 j u hj
    · obtain rfl : ys = [] := List.eq_nil_of_length_eq_zero (by omega)
      simp [fr] at hj
  rcases hR with ⟨rfl, rfl, a9, rfl⟩ | ⟨hl, ho⟩
  · by_cases h0 : n = 0
    · subst h0
      obtain rfl : ys = [] := List.eq_nil_of_length_eq_zero hn
      refine ⟨.slice (some a9) 0 0, w, ?_, .inl ⟨rfl, rfl, a9, rfl⟩, Below.refl _ _⟩
      simp [Builtin.append_, run_underlying Try.underlying38, sizeOf, typeInfo, hi, Builtin.lenOf, Builtin.firstCells, loadCells, loadCellsFrom, storeCells]
    · have hr := run_append_grow (P := Try.prog) w 38 ty 44 i0 _ Try.underlying38 hi hz0 a9 0 0 [] (by simp) (by simp) ad n c (fr ys) (by rw [fr_len, hz1, hn]) hcells (by omega) (by omega) (growslice_fits (by omega) (by rw [hz2]; omega))
      rw [Nat.zero_add] at hr ⊢
      refine ⟨_, _, hr, .inr ⟨by simp [hn], ?_, ?_⟩, (Below.refl _ _).drew.alloc hB _⟩
      · rw [List.nil_append, fr_len, hn]
      · right
        have hge := grownCap_ge w n 0 44
        have hle := grownCap_le_maxLen w n 0 44 (by unfold maxLen; omega)
        refine ⟨w.heap.size, _, _, rfl, hB, heap_alloc_new w.drew _, hge, hle, ?_, ?_⟩
        · simp only [Array.size_append, List.size_toArray, size_zeroCells, fr_len, hn, List.length_nil]
          simp [Value.cells]
          omega
        · simp only [Array.toList_append, List.nil_append]
          rw [show n * 5 = (fr ys).length by rw [fr_len, hn]]
          exact List.take_left
  · obtain ⟨v', w', hr, h2, h3, _⟩ := run_append_own (P := Try.prog) w B 38 ty 44 i0 _ 5 _ Try.underlying38 hi hz0 hz1 hz2 rfl (by decide) v m (fr xs) ho ad n c (fr ys) (by rw [fr_len, hn]) hcells (fr_one ys) (by unfold maxLen; omega) (by omega) hB
    exact ⟨v', w', hr, .inr ⟨by rw [List.length_append, hl, hn], by rw [fr_append]; exact h2⟩, (Below.refl _ _).grown h3 hB (fun g hg => (own_lt ho g hg).1)⟩
theorem step_app {w : World} {ops : Array Oper} {o : Oper} {a : Act} {K : Act → World → Prop} {Q : Exit → Act → World → Prop} {E : Prop} (hgd : o.guard = none) (s x : Operand)
    (ho : o.op = .call { callee := .builtin .append, args := #[s, x], argTypes := #[38, 38] }) (B m n c : Nat) (v : Value) (xs ys : List FT) (ad : Addr) (hs : a.eval s = v) (hx : a.eval x = .slice (some ad) n c)
    (hR : Ro w B v m xs) (hn : ys.length = n) (hc : 0 < n → ∀ j u, (fr ys)[j]? = some u → w.cell? (ad.add j) = some u) (hm : m + n ≤ 1000) (hB : B ≤ w.heap.size)
    (h : ∀ v' w', Ro w' B v' (m + n) (xs ++ ys) → Below B w w' → K (a.put o.dst v') w') :
    if Region.wanted o (yielded ops a.tmps) = true then Oper.wp Try.prog o a w K Q else E := by
  have hw : Region.wanted o (yielded ops a.tmps) = true := by simp [Region.wanted, hgd]
  rw [if_pos hw]
  obtain ⟨v', w', hr, h2, h3⟩ := run_app w B o.type m n c v xs ys ad hR hn hc hm hB
  unfold Oper.wp execOp
  simp only [ho, resolve, invoke, builtin, Sem.run_bind, Sem.run_pure, Result.andThen_ok, List.map_toArray, List.map_cons, List.map_nil, hs, hx, hr]
  exact h v' w' h2 h3
/-- The cells of a row of one's own, from an element on. -/
theorem own_cells {w : World} {B g m c : Nat} {lt : List FT} (h : w.ownsRow B 44 5 (.slice (some ⟨g, 0, none⟩) m c) m (fr lt)) : ∀ j u, (fr lt)[j]? = some u → w.cell? ⟨g, j, none⟩ = some u := fun j u hj => by
  have := h.cells (g := g) rfl j u hj
  rw [Go.WideShapes.add_plain, Nat.zero_add] at this
  exact this
theorem findR_rest {m : Mo} {now : Int} {rows : List Rw} {l : List Tk} {k : Nat} (hk : k ≤ l.length) (hall : ∀ x ∈ l.take k, okP m now rows x = false) (D : List Tk) :
    (findR m now rows D = (0, 0, false) ∧ findR m now rows (l.take k ++ D) = (0, 0, false)) ∨
    ∃ (j : Nat) (tm : Int), j ≤ D.length ∧ findR m now rows D = ((j : Int), tm, true) ∧ findR m now rows (l.take k ++ D) = ((j : Int) + k, tm, true) := by
  rcases find_says m now rows D with ⟨hno, hf⟩ | ⟨j, t, hj, hok, hb, hf⟩
  · refine .inl ⟨hf, findR_none fun t ht => ?_⟩
    rcases List.mem_append.1 ht with h | h
    · exact hall t h
    · exact hno t h
  · have hlen : (l.take k).length = k := by rw [List.length_take]; omega
    refine .inr ⟨j, _, Nat.le_of_lt (List.getElem?_eq_some_iff.1 hj).1, hf, ?_⟩
    have h := findR_some (m := m) (now := now) (rows := rows) (l := l.take k ++ D) (k := k + j) (t := t) (by rw [List.getElem?_append_right (by omega), hlen, Nat.add_sub_cancel_left]; exact hj) hok (fun x hx => by
      rw [List.take_append, hlen, Nat.add_sub_cancel_left] at hx
      rcases List.mem_append.1 hx with h | h
      · exact hall x (List.mem_of_mem_take h)
      · exact hb x h)
    rw [h]
    have : ((k + j : Nat) : Int) = (j : Int) + k := by omega
    rw [this]

set_option maxHeartbeats 16000000 in
theorem oldest_walk (m : Mo) (now : Int) (L A : Option Addr) (cl c : Nat) (l : List Tk) (rows : List Rw) (w : World) (hnow : In64 now) (hL : Tr w w.heap.size L l) (hA : Rr w w.heap.size A rows) (hll : l.length ≤ 9223372036854775807) (hlr : rows.length ≤ 9223372036854775807) (hs : ∀ t ∈ l, In64 t.r ∧ In64 t.s) :
    Calls Try.prog 6 #[.agg (aC m now (.slice L l.length cl) (.slice A rows.length c))] w fun r w' => r = .returned (.bool true) ∧ Below w.heap.size w w' := by
  obtain ⟨nl, hnl⟩ : ∃ n, n = l.length := ⟨_, rfl⟩
  obtain ⟨n, hn⟩ : ∃ n, n = rows.length := ⟨_, rfl⟩
  rw [← hnl] at hll ⊢
  rw [← hn] at hlr ⊢
  obtain ⟨w0, hw0⟩ : ∃ w0, w0 = w.alloc (.cells (aC m now (.slice L nl cl) (.slice A n c)) 27) := ⟨_, rfl⟩
  have hb0 : Below w.heap.size w w0 := by rw [hw0]; exact (Below.refl _ _).alloc (Nat.le_refl _) _
  have hp0 : w0.heap[w.heap.size]? = some (.cells (aC m now (.slice L nl cl) (.slice A n c)) 27 (0, 0)) := by rw [hw0]; exact heap_alloc_new w _
  have HCE : Hid (∀ W, Below w0.heap.size w0 W → W.cell? ⟨w.heap.size, 0, none⟩ = some (.int .i64 m.k) ∧ W.cell? ⟨w.heap.size, 1, none⟩ = some (.int .i64 m.b) ∧ W.cell? ⟨w.heap.size, 2, none⟩ = some (.int .i64 m.s) ∧ W.cell? ⟨w.heap.size, 3, none⟩ = some (.int .i64 m.c) ∧ W.cell? ⟨w.heap.size, 4, none⟩ = some (.int .i64 m.e) ∧ W.cell? ⟨w.heap.size, 5, none⟩ = some (.int .i64 now) ∧ W.cell? ⟨w.heap.size, 6, none⟩ = some (.slice L nl cl) ∧ W.cell? ⟨w.heap.size, 7, none⟩ = some (.slice A n c)) := fun W hW => by
    have e0 := (hW.block _ (lt_of_block hp0)).trans hp0
    exact ⟨cell_of_row W _ 0 _ _ _ e0, cell_of_row W _ 1 _ _ _ e0, cell_of_row W _ 2 _ _ _ e0, cell_of_row W _ 3 _ _ _ e0, cell_of_row W _ 4 _ _ _ e0, cell_of_row W _ 5 _ _ _ e0, cell_of_row W _ 6 _ _ _ e0, cell_of_row W _ 7 _ _ _ e0⟩
  have hL0 := hL.later hb0 (Nat.le_refl _)
  have hA0 := hA.later hb0 (Nat.le_refl _)
  have HG := Lib.hid (great_any m now L nl cl l A n c rows w0 hnl hL0.ts hn hA0.rs hll hlr)
  have H0 := Lib.hid hw0
  have HWL : Hid (w.heap.size < w0.heap.size) := lt_of_block hp0
  have HB0 := Lib.hid hb0
  have HBS : Hid (Below w0.heap.size w0 w0) := Below.refl _ _
  obtain ⟨y0, y1, y2, y3, y4, y5, y6, y7⟩ := HCE.out w0 HBS.out
  have HNL := Lib.hid hnl
  have HNN := Lib.hid hn
  have HL0 := Lib.hid hL0
  have HA0 := Lib.hid hA0
  have HSS := Lib.hid hs
  have HNW := Lib.hid hnow
  clear hnl hn hL hA hs hnow hw0 hb0 hp0 hL0 hA0
  go_enter Try.func6, Try.ntmps6
  go_upto_region 1 with (fail)
  rw [← H0.out]
  go_wp2_with fail
  refine HG.out.mono ?_
  rintro r w1 ⟨⟨g, rfl, hg⟩, hb1⟩
  have HB1 := Lib.hid hb1
  clear hb1 y0 y1 y2 y3 y4 y5 y6 y7
  cases g
  · obtain ⟨hg1, hg2, hg3, hg4⟩ := hg rfl
    have HG3 := Lib.hid hg3
    have HG4 := Lib.hid hg4
    have HLN : Hid (∀ t ∈ l, t.n ≤ 10 ∧ In64 t.s) := fun t ht => ⟨hg3 t ht, (HSS.out t ht).2⟩
    have HMO : Hid (∀ W, Calls Try.prog 12 #[.agg (aC m now (.slice L nl cl) (.slice A n c))] W fun r w' => r = .returned m.v ∧ Below W.heap.size W w') := fun W => mode_any m now L A nl cl n c W
    have HTX : Hid (∀ W, Below w0.heap.size w0 W → Calls Try.prog 14 #[.agg (aC m now (.slice L nl cl) (.slice A n c))] W fun r w' => TP l nl r w' ∧ Below W.heap.size W w') := fun W hW =>
      (tickets_any m now A L n c nl cl l W HNL.out (HL0.out.later hW (Nat.le_refl _)) (by omega) HG3.out).mono fun r w' h => h.tp
    have HRX : Hid (∀ W, Below w0.heap.size w0 W → Calls Try.prog 9 #[.agg (aC m now (.slice L nl cl) (.slice A n c))] W fun r w' => RP rows n r w' ∧ Below W.heap.size W w') := fun W hW =>
      (rows_any m now L A nl cl n c rows W HNN.out (HA0.out.later hW (Nat.le_refl _)) (by omega) HG4.out).mono fun r w' h => h.rp
    have HAW : Hid (∀ W, Calls Try.prog 17 #[] W fun r w' => r = .returned (.bool true) ∧ Below W.heap.size W w') := fun W => fawake W
    clear hg hg3 hg4
    have HRO : Hid (∀ W, Below w0.heap.size w0 W → Calls Try.prog 9 #[.agg (aC m now (.slice L nl cl) (.slice A n c))] W fun r w' => RowsPost W rows n r w') := fun W hW => rows_any m now L A nl cl n c rows W HNN.out (HA0.out.later hW (Nat.le_refl _)) (by omega) HG4.out
    have HTO : Hid (∀ W, Below w0.heap.size w0 W → Calls Try.prog 14 #[.agg (aC m now (.slice L nl cl) (.slice A n c))] W fun r w' => TixPost W l nl r w') := fun W hW => tickets_any m now A L n c nl cl l W HNL.out (HL0.out.later hW (Nat.le_refl _)) (by omega) HG3.out
    have HRT : Hid (∀ W A2 c2, Rs W W.heap.size A2 rows → Calls Try.prog 8 #[.slice A2 n c2] W fun r w' => r = .returned (.tuple #[.int .i64 (takP 1 rows), .int .i64 (takP 2 rows)]) ∧ Below W.heap.size W w') := fun W A2 c2 h => taken_any A2 n c2 rows W HNN.out h HG4.out (by omega)
    have HFD : Hid (∀ W A' j c' A2 c2 (l' : List Tk), j = l'.length → j ≤ 100 → (∀ t ∈ l', t ∈ l) → Ts W W.heap.size A' l' → Rs W W.heap.size A2 rows → Calls Try.prog 18 #[m.v, .int .i64 now, .slice A' j c', .slice A2 n c2] W fun r w' => r = .returned (fR (findR m now rows l')) ∧ Below W.heap.size W w') := fun W A' j c' A2 c2 l' hj hj1 hsub h1 h2 =>
      find_any m now A' j c' l' A2 n c2 rows W hj h1 (by omega) (fun t ht => HLN.out t (hsub t ht)) HNN.out h2 HG4.out (by omega) HNW.out
    go_upto_region 3 with (fail)
    go_cut [3, 4, 5] (fun a b d wx => ∃ (Gm : Nat) (A6 : Option Addr) (c6 : Nat) (A7 : Option Addr) (c7 : Nat) (lf : List FW) (lt : List FT), a = .pointer (some ⟨Gm, 0, none⟩) ∧ b = .slice A6 n c6 ∧ d = .slice A7 nl c7 ∧ Hid (Mem w0.heap.size m rows l n nl Gm A6 c6 A7 c7 lf lt wx ∧ Below w0.heap.size w0 wx))
    case first =>
      have HB5 : Hid (Below w0.heap.size w0 w1.drew) := HB1.out.drew
      refine wp_region_held_drew (S := fun W : World => W.cell? ⟨w.heap.size, 0, none⟩ = some (.int .i64 m.k) ∧ W.cell? ⟨w.heap.size, 1, none⟩ = some (.int .i64 m.b) ∧ W.cell? ⟨w.heap.size, 2, none⟩ = some (.int .i64 m.s) ∧ W.cell? ⟨w.heap.size, 3, none⟩ = some (.int .i64 m.c) ∧ W.cell? ⟨w.heap.size, 4, none⟩ = some (.int .i64 m.e) ∧ W.cell? ⟨w.heap.size, 5, none⟩ = some (.int .i64 now) ∧ W.cell? ⟨w.heap.size, 6, none⟩ = some (.slice L nl cl) ∧ W.cell? ⟨w.heap.size, 7, none⟩ = some (.slice A n c)) (by kernel_rfl) (HCE.out _ (HB5.out)) (fun hHeld => ?_)
      obtain ⟨w5, hW0⟩ : ∃ W0, W0 = w1.drew := ⟨_, rfl⟩
      rw [← hW0] at hHeld HB5 ⊢
      clear hW0
      refine wpAnyH_take (i := 0) (oi := ?oi0p) (v := ?v0p) ?hi0p ?hs0p ?hf0p ?hr0p ?hQ0p ?hy0p ?hS0p ?h0p
      case hi0p => exact (by simp only [List.getElem?_toArray, List.getElem?_cons_zero]; rfl)
      case hs0p => kernel_rfl
      case hf0p => kernel_rfl
      case hr0p => kernel_rfl
      case hQ0p => exact fun _ _ _ h => h
      case hy0p =>
        refine Or.inl ⟨rfl, ?_⟩
        intro W hSw
        obtain ⟨y0, y1, y2, y3, y4, y5, y6, y7⟩ := hSw
        go_simp
        try with_reducible rfl
      case hS0p => assumption
      try simp only [Act.put, List.setIfInBounds_toArray, List.set_cons_zero, List.set_cons_succ]
      refine wpAnyH_take (i := 2) (oi := ?oi2p) (v := ?v2p) ?hi2p ?hs2p ?hf2p ?hr2p ?hQ2p ?hy2p ?hS2p ?h2p
      case hi2p => exact (by simp only [List.getElem?_toArray, List.getElem?_cons_succ, List.getElem?_cons_zero]; rfl)
      case hs2p => kernel_rfl
      case hf2p => kernel_rfl
      case hr2p => kernel_rfl
      case hQ2p => exact fun _ _ _ h => h
      case hy2p =>
        refine Or.inl ⟨rfl, ?_⟩
        intro W hSw
        obtain ⟨y0, y1, y2, y3, y4, y5, y6, y7⟩ := hSw
        go_simp
        try with_reducible rfl
      case hS2p => assumption
      try simp only [Act.put, List.setIfInBounds_toArray, List.set_cons_zero, List.set_cons_succ]
      refine wpAnyH_take (i := 4) (oi := ?oi4p) (v := ?v4p) ?hi4p ?hs4p ?hf4p ?hr4p ?hQ4p ?hy4p ?hS4p ?h4p
      case hi4p => exact (by simp only [List.getElem?_toArray, List.getElem?_cons_succ, List.getElem?_cons_zero]; rfl)
      case hs4p => kernel_rfl
      case hf4p => kernel_rfl
      case hr4p => kernel_rfl
      case hQ4p => exact fun _ _ _ h => h
      case hy4p =>
        refine Or.inl ⟨rfl, ?_⟩
        intro W hSw
        obtain ⟨y0, y1, y2, y3, y4, y5, y6, y7⟩ := hSw
        go_simp
        try with_reducible rfl
      case hS4p => assumption
      try simp only [Act.put, List.setIfInBounds_toArray, List.set_cons_zero, List.set_cons_succ]
      refine wpAnyH_ready (rs := [1, 6]) (by kernel_rfl) (by simp) ?_
      refine AllReadyH.cons (o := _) rfl (fun K hK => ?_) (AllReadyH.cons (o := _) rfl (fun K hK => ?_) AllReadyH.nil)
      · go_simp
        refine (HMO.out w5).mono ?_
        rintro r w38 ⟨rfl, hb38⟩
        have HB38 := Lib.hid (HB5.out.trans (hb38.mono HB5.out.size))
        clear hb38
        refine hK.out _ _ (HCE.out _ (HB38.out)) (fun hHeld => ?_)
        clear hK K
        try simp only [Act.put, List.setIfInBounds_toArray, List.set_cons_zero, List.set_cons_succ]
        refine wpAnyH_ready (rs := [3, 6]) (by kernel_rfl) (by simp) ?_
        refine AllReadyH.cons (o := _) rfl (fun K hK => ?_) (AllReadyH.cons (o := _) rfl (fun K hK => ?_) AllReadyH.nil)
        · go_simp
          refine (HRO.out w38 HB38.out).mono ?_
          rintro r w39 ⟨A6, c6, lf, rfl, hrm, hro, hb39⟩
          have HB39 := Lib.hid (HB38.out.trans (hb39.mono HB38.out.size))
          have HR39 : Hid (w39.ownsRow w0.heap.size 55 4 (.slice A6 n c6) n (gr lf)) := own_low hro HB38.out.size
          have HRM := Lib.hid hrm
          clear hrm hro
          clear hb39
          refine hK.out _ _ (HCE.out _ (HB39.out)) (fun hHeld => ?_)
          clear hK K
          try simp only [Act.put, List.setIfInBounds_toArray, List.set_cons_zero, List.set_cons_succ]
          refine wpAnyH_ready (rs := [5, 6]) (by kernel_rfl) (by simp) ?_
          refine AllReadyH.cons (o := _) rfl (fun K hK => ?_) (AllReadyH.cons (o := _) rfl (fun K hK => ?_) AllReadyH.nil)
          · go_simp
            refine (HTO.out w39 HB39.out).mono ?_
            rintro r w40 ⟨A7, c7, lt, rfl, htm, hto, hb40⟩
            have HB40 := Lib.hid (HB39.out.trans (hb40.mono HB39.out.size))
            have HT40 : Hid (w40.ownsRow w0.heap.size 44 5 (.slice A7 nl c7) nl (fr lt)) := own_low hto HB39.out.size
            have HTM := Lib.hid htm
            clear htm hto
            have HR40 : Hid (w40.ownsRow w0.heap.size 55 4 (.slice A6 n c6) n (gr lf)) := own_after HR39.out fun g hg => hb40.block g (own_lt HR39.out g hg).2
            clear hb40
            refine hK.out _ _ (HCE.out _ (HB40.out)) (fun hHeld => ?_)
            clear hK K
            try simp only [Act.put, List.setIfInBounds_toArray, List.set_cons_zero, List.set_cons_succ]
            refine wpAnyH_ready (rs := [6]) (by kernel_rfl) (by simp) ?_
            refine AllReadyH.cons (o := _) rfl (fun K hK => ?_) AllReadyH.nil
            go_simp
            refine hK.out _ _ (HCE.out _ ((HB40.out.alloc HB40.out.size _))) (fun hHeld => ?_)
            clear hK K
            try simp only [Act.put, List.setIfInBounds_toArray, List.set_cons_zero, List.set_cons_succ]
            obtain ⟨Gm, hg41⟩ : ∃ Gm, Gm = w40.heap.size := ⟨_, rfl⟩
            obtain ⟨w41, hw41⟩ : ∃ w41, w41 = w40.alloc (.cells (mCells 0 0 0 0 0) 35) := ⟨_, rfl⟩
            have HM41 : Hid (w41.heap[Gm]? = some (.cells (mCells 0 0 0 0 0) 35 (0, 0))) := by rw [hw41, hg41]; exact heap_alloc_new w40 _
            have HB41 : Hid (Below w0.heap.size w0 w41) := by rw [hw41]; exact HB40.out.alloc HB40.out.size _
            have LGm : Hid (w0.heap.size ≤ Gm) := by rw [hg41]; exact HB40.out.size
            have hb41 : Below w40.heap.size w40 w41 := by rw [hw41]; exact (Below.refl _ _).alloc (Nat.le_refl _) _
            have HR41 : Hid (w41.ownsRow w0.heap.size 55 4 (.slice A6 n c6) n (gr lf)) := own_after HR40.out fun g hg => hb41.block g (own_lt HR40.out g hg).2
            have HT41 : Hid (w41.ownsRow w0.heap.size 44 5 (.slice A7 nl c7) nl (fr lt)) := own_after HT40.out fun g hg => hb41.block g (own_lt HT40.out g hg).2
            rw [← hw41, ← hg41]
            clear hw41 hg41 hb41
            refine wpAnyH_ready (rs := [7]) (by kernel_rfl) (by simp) ?_
            refine AllReadyH.cons (o := _) rfl (fun K hK => ?_) AllReadyH.nil
            have q0 := cell_of_row w41 Gm 0 _ _ _ HM41.out
            have q1 := cell_of_row w41 Gm 1 _ _ _ HM41.out
            have q2 := cell_of_row w41 Gm 2 _ _ _ HM41.out
            have q3 := cell_of_row w41 Gm 3 _ _ _ HM41.out
            have q4 := cell_of_row w41 Gm 4 _ _ _ HM41.out
            have fG : ∀ i, w41.frozen? ⟨Gm, i, none⟩ = false := fun i => frozen_of_row w41 _ i _ _ HM41.out
            simp at q0 q1 q2 q3 q4
            go_simp
            obtain ⟨w42, hw42⟩ : ∃ w9, w9 = (((((w41.setCell ⟨Gm, 0, none⟩ (.int .i64 m.k)).setCell ⟨Gm, 1, none⟩ (.int .i64 m.b)).setCell ⟨Gm, 2, none⟩ (.int .i64 m.s)).setCell ⟨Gm, 3, none⟩ (.int .i64 m.c)).setCell ⟨Gm, 4, none⟩ (.int .i64 m.e)) := ⟨_, rfl⟩
            rw [← hw42]
            have HM42 : Hid (w42.heap[Gm]? = some (.cells m.cells 35 (0, 0))) := by rw [hw42]; exact five _ _ _ _ _ HM41.out
            have HB42 : Hid (Below w0.heap.size w0 w42) := by rw [hw42]; exact five_below _ _ _ _ _ HB41.out LGm.out
            have HR42 : Hid (w42.ownsRow w0.heap.size 55 4 (.slice A6 n c6) n (gr lf)) := own_after HR41.out fun g hg => by rw [hw42]; exact five_far _ _ _ _ _ (fun e => own_ne HR41.out HM41.out (by decide) (by rw [hg, e]))
            have HT42 : Hid (w42.ownsRow w0.heap.size 44 5 (.slice A7 nl c7) nl (fr lt)) := own_after HT41.out fun g hg => by rw [hw42]; exact five_far _ _ _ _ _ (fun e => own_ne HT41.out HM41.out (by decide) (by rw [hg, e]))
            clear hw42 q0 q1 q2 q3 q4 fG
            refine hK.out _ _ (HCE.out _ (HB42.out)) (fun hHeld => ?_)
            clear hK K
            try simp only [Act.put, List.setIfInBounds_toArray, List.set_cons_zero, List.set_cons_succ]
            refine wpAnyH_take (i := 8) (oi := ?oi8e42) (v := ?v8e42) ?hi8e42 ?hs8e42 ?hf8e42 ?hr8e42 ?hQ8e42 ?hy8e42 ?hS8e42 ?h8e42
            case hi8e42 => exact (by simp only [List.getElem?_toArray, List.getElem?_cons_succ, List.getElem?_cons_zero]; rfl)
            case hs8e42 => kernel_rfl
            case hf8e42 => kernel_rfl
            case hr8e42 => kernel_rfl
            case hQ8e42 => exact fun _ _ _ h => h
            case hy8e42 =>
              refine Or.inl ⟨rfl, ?_⟩
              intro W hSw
              obtain ⟨y0, y1, y2, y3, y4, y5, y6, y7⟩ := hSw
              go_simp
              try with_reducible rfl
            case hS8e42 => assumption
            try simp only [Act.put, List.setIfInBounds_toArray, List.set_cons_zero, List.set_cons_succ]
            refine wpAnyH_take (i := 9) (oi := ?oi9f42) (v := ?v9f42) ?hi9f42 ?hs9f42 ?hf9f42 ?hr9f42 ?hQ9f42 ?hy9f42 ?hS9f42 ?h9f42
            case hi9f42 => exact (by simp only [List.getElem?_toArray, List.getElem?_cons_succ, List.getElem?_cons_zero]; rfl)
            case hs9f42 => kernel_rfl
            case hf9f42 => kernel_rfl
            case hr9f42 => kernel_rfl
            case hQ9f42 => exact fun _ _ _ h => h
            case hy9f42 =>
              refine Or.inl ⟨rfl, ?_⟩
              intro W hSw
              obtain ⟨y0, y1, y2, y3, y4, y5, y6, y7⟩ := hSw
              go_simp
              try with_reducible rfl
            case hS9f42 => assumption
            try simp only [Act.put, List.setIfInBounds_toArray, List.set_cons_zero, List.set_cons_succ]
            refine wpAnyH_done (by kernel_rfl) ?_ _
            try go_wp2_with fail
            go_meet
            exact ⟨Gm, A6, c6, A7, c7, lf, lt, rfl, rfl, rfl, Lib.hid ⟨⟨HM42.out, LGm.out, HR42.out, HRM.out, HT42.out, HTM.out⟩, HB42.out⟩⟩
          · go_simp
            refine hK.out _ _ (HCE.out _ ((HB39.out.alloc HB39.out.size _))) (fun hHeld => ?_)
            clear hK K
            try simp only [Act.put, List.setIfInBounds_toArray, List.set_cons_zero, List.set_cons_succ]
            obtain ⟨Gm, hg43⟩ : ∃ Gm, Gm = w39.heap.size := ⟨_, rfl⟩
            obtain ⟨w43, hw43⟩ : ∃ w43, w43 = w39.alloc (.cells (mCells 0 0 0 0 0) 35) := ⟨_, rfl⟩
            have HM43 : Hid (w43.heap[Gm]? = some (.cells (mCells 0 0 0 0 0) 35 (0, 0))) := by rw [hw43, hg43]; exact heap_alloc_new w39 _
            have HB43 : Hid (Below w0.heap.size w0 w43) := by rw [hw43]; exact HB39.out.alloc HB39.out.size _
            have LGm : Hid (w0.heap.size ≤ Gm) := by rw [hg43]; exact HB39.out.size
            have hb43 : Below w39.heap.size w39 w43 := by rw [hw43]; exact (Below.refl _ _).alloc (Nat.le_refl _) _
            have HR43 : Hid (w43.ownsRow w0.heap.size 55 4 (.slice A6 n c6) n (gr lf)) := own_after HR39.out fun g hg => hb43.block g (own_lt HR39.out g hg).2
            rw [← hw43, ← hg43]
            clear hw43 hg43 hb43
            refine wpAnyH_ready (rs := [5]) (by kernel_rfl) (by simp) ?_
            refine AllReadyH.cons (o := _) rfl (fun K hK => ?_) AllReadyH.nil
            go_simp
            refine (HTO.out w43 HB43.out).mono ?_
            rintro r w44 ⟨A7, c7, lt, rfl, htm, hto, hb44⟩
            have HB44 := Lib.hid (HB43.out.trans (hb44.mono HB43.out.size))
            have HT44 : Hid (w44.ownsRow w0.heap.size 44 5 (.slice A7 nl c7) nl (fr lt)) := own_low hto HB43.out.size
            have HTM := Lib.hid htm
            clear htm hto
            have HR44 : Hid (w44.ownsRow w0.heap.size 55 4 (.slice A6 n c6) n (gr lf)) := own_after HR43.out fun g hg => hb44.block g (own_lt HR43.out g hg).2
            have HM44 : Hid (w44.heap[Gm]? = some (.cells (mCells 0 0 0 0 0) 35 (0, 0))) := (hb44.block Gm (lt_of_block HM43.out)).trans HM43.out
            clear hb44
            refine hK.out _ _ (HCE.out _ (HB44.out)) (fun hHeld => ?_)
            clear hK K
            try simp only [Act.put, List.setIfInBounds_toArray, List.set_cons_zero, List.set_cons_succ]
            refine wpAnyH_ready (rs := [7]) (by kernel_rfl) (by simp) ?_
            refine AllReadyH.cons (o := _) rfl (fun K hK => ?_) AllReadyH.nil
            have q0 := cell_of_row w44 Gm 0 _ _ _ HM44.out
            have q1 := cell_of_row w44 Gm 1 _ _ _ HM44.out
            have q2 := cell_of_row w44 Gm 2 _ _ _ HM44.out
            have q3 := cell_of_row w44 Gm 3 _ _ _ HM44.out
            have q4 := cell_of_row w44 Gm 4 _ _ _ HM44.out
            have fG : ∀ i, w44.frozen? ⟨Gm, i, none⟩ = false := fun i => frozen_of_row w44 _ i _ _ HM44.out
            simp at q0 q1 q2 q3 q4
            go_simp
            obtain ⟨w45, hw45⟩ : ∃ w9, w9 = (((((w44.setCell ⟨Gm, 0, none⟩ (.int .i64 m.k)).setCell ⟨Gm, 1, none⟩ (.int .i64 m.b)).setCell ⟨Gm, 2, none⟩ (.int .i64 m.s)).setCell ⟨Gm, 3, none⟩ (.int .i64 m.c)).setCell ⟨Gm, 4, none⟩ (.int .i64 m.e)) := ⟨_, rfl⟩
            rw [← hw45]
            have HM45 : Hid (w45.heap[Gm]? = some (.cells m.cells 35 (0, 0))) := by rw [hw45]; exact five _ _ _ _ _ HM44.out
            have HB45 : Hid (Below w0.heap.size w0 w45) := by rw [hw45]; exact five_below _ _ _ _ _ HB44.out LGm.out
            have HR45 : Hid (w45.ownsRow w0.heap.size 55 4 (.slice A6 n c6) n (gr lf)) := own_after HR44.out fun g hg => by rw [hw45]; exact five_far _ _ _ _ _ (fun e => own_ne HR44.out HM44.out (by decide) (by rw [hg, e]))
            have HT45 : Hid (w45.ownsRow w0.heap.size 44 5 (.slice A7 nl c7) nl (fr lt)) := own_after HT44.out fun g hg => by rw [hw45]; exact five_far _ _ _ _ _ (fun e => own_ne HT44.out HM44.out (by decide) (by rw [hg, e]))
            clear hw45 q0 q1 q2 q3 q4 fG
            refine hK.out _ _ (HCE.out _ (HB45.out)) (fun hHeld => ?_)
            clear hK K
            try simp only [Act.put, List.setIfInBounds_toArray, List.set_cons_zero, List.set_cons_succ]
            refine wpAnyH_take (i := 8) (oi := ?oi8e45) (v := ?v8e45) ?hi8e45 ?hs8e45 ?hf8e45 ?hr8e45 ?hQ8e45 ?hy8e45 ?hS8e45 ?h8e45
            case hi8e45 => exact (by simp only [List.getElem?_toArray, List.getElem?_cons_succ, List.getElem?_cons_zero]; rfl)
            case hs8e45 => kernel_rfl
            case hf8e45 => kernel_rfl
            case hr8e45 => kernel_rfl
            case hQ8e45 => exact fun _ _ _ h => h
            case hy8e45 =>
              refine Or.inl ⟨rfl, ?_⟩
              intro W hSw
              obtain ⟨y0, y1, y2, y3, y4, y5, y6, y7⟩ := hSw
              go_simp
              try with_reducible rfl
            case hS8e45 => assumption
            try simp only [Act.put, List.setIfInBounds_toArray, List.set_cons_zero, List.set_cons_succ]
            refine wpAnyH_take (i := 9) (oi := ?oi9f45) (v := ?v9f45) ?hi9f45 ?hs9f45 ?hf9f45 ?hr9f45 ?hQ9f45 ?hy9f45 ?hS9f45 ?h9f45
            case hi9f45 => exact (by simp only [List.getElem?_toArray, List.getElem?_cons_succ, List.getElem?_cons_zero]; rfl)
            case hs9f45 => kernel_rfl
            case hf9f45 => kernel_rfl
            case hr9f45 => kernel_rfl
            case hQ9f45 => exact fun _ _ _ h => h
            case hy9f45 =>
              refine Or.inl ⟨rfl, ?_⟩
              intro W hSw
              obtain ⟨y0, y1, y2, y3, y4, y5, y6, y7⟩ := hSw
              go_simp
              try with_reducible rfl
            case hS9f45 => assumption
            try simp only [Act.put, List.setIfInBounds_toArray, List.set_cons_zero, List.set_cons_succ]
            refine wpAnyH_done (by kernel_rfl) ?_ _
            try go_wp2_with fail
            go_meet
            exact ⟨Gm, A6, c6, A7, c7, lf, lt, rfl, rfl, rfl, Lib.hid ⟨⟨HM45.out, LGm.out, HR45.out, HRM.out, HT45.out, HTM.out⟩, HB45.out⟩⟩
        · go_simp
          refine hK.out _ _ (HCE.out _ ((HB38.out.alloc HB38.out.size _))) (fun hHeld => ?_)
          clear hK K
          try simp only [Act.put, List.setIfInBounds_toArray, List.set_cons_zero, List.set_cons_succ]
          obtain ⟨Gm, hg46⟩ : ∃ Gm, Gm = w38.heap.size := ⟨_, rfl⟩
          obtain ⟨w46, hw46⟩ : ∃ w46, w46 = w38.alloc (.cells (mCells 0 0 0 0 0) 35) := ⟨_, rfl⟩
          have HM46 : Hid (w46.heap[Gm]? = some (.cells (mCells 0 0 0 0 0) 35 (0, 0))) := by rw [hw46, hg46]; exact heap_alloc_new w38 _
          have HB46 : Hid (Below w0.heap.size w0 w46) := by rw [hw46]; exact HB38.out.alloc HB38.out.size _
          have LGm : Hid (w0.heap.size ≤ Gm) := by rw [hg46]; exact HB38.out.size
          have hb46 : Below w38.heap.size w38 w46 := by rw [hw46]; exact (Below.refl _ _).alloc (Nat.le_refl _) _
          rw [← hw46, ← hg46]
          clear hw46 hg46 hb46
          refine wpAnyH_ready (rs := [3]) (by kernel_rfl) (by simp) ?_
          refine AllReadyH.cons (o := _) rfl (fun K hK => ?_) AllReadyH.nil
          go_simp
          refine (HRO.out w46 HB46.out).mono ?_
          rintro r w47 ⟨A6, c6, lf, rfl, hrm, hro, hb47⟩
          have HB47 := Lib.hid (HB46.out.trans (hb47.mono HB46.out.size))
          have HR47 : Hid (w47.ownsRow w0.heap.size 55 4 (.slice A6 n c6) n (gr lf)) := own_low hro HB46.out.size
          have HRM := Lib.hid hrm
          clear hrm hro
          have HM47 : Hid (w47.heap[Gm]? = some (.cells (mCells 0 0 0 0 0) 35 (0, 0))) := (hb47.block Gm (lt_of_block HM46.out)).trans HM46.out
          clear hb47
          refine hK.out _ _ (HCE.out _ (HB47.out)) (fun hHeld => ?_)
          clear hK K
          try simp only [Act.put, List.setIfInBounds_toArray, List.set_cons_zero, List.set_cons_succ]
          refine wpAnyH_ready (rs := [5]) (by kernel_rfl) (by simp) ?_
          refine AllReadyH.cons (o := _) rfl (fun K hK => ?_) AllReadyH.nil
          go_simp
          refine (HTO.out w47 HB47.out).mono ?_
          rintro r w48 ⟨A7, c7, lt, rfl, htm, hto, hb48⟩
          have HB48 := Lib.hid (HB47.out.trans (hb48.mono HB47.out.size))
          have HT48 : Hid (w48.ownsRow w0.heap.size 44 5 (.slice A7 nl c7) nl (fr lt)) := own_low hto HB47.out.size
          have HTM := Lib.hid htm
          clear htm hto
          have HR48 : Hid (w48.ownsRow w0.heap.size 55 4 (.slice A6 n c6) n (gr lf)) := own_after HR47.out fun g hg => hb48.block g (own_lt HR47.out g hg).2
          have HM48 : Hid (w48.heap[Gm]? = some (.cells (mCells 0 0 0 0 0) 35 (0, 0))) := (hb48.block Gm (lt_of_block HM47.out)).trans HM47.out
          clear hb48
          refine hK.out _ _ (HCE.out _ (HB48.out)) (fun hHeld => ?_)
          clear hK K
          try simp only [Act.put, List.setIfInBounds_toArray, List.set_cons_zero, List.set_cons_succ]
          refine wpAnyH_ready (rs := [7]) (by kernel_rfl) (by simp) ?_
          refine AllReadyH.cons (o := _) rfl (fun K hK => ?_) AllReadyH.nil
          have q0 := cell_of_row w48 Gm 0 _ _ _ HM48.out
          have q1 := cell_of_row w48 Gm 1 _ _ _ HM48.out
          have q2 := cell_of_row w48 Gm 2 _ _ _ HM48.out
          have q3 := cell_of_row w48 Gm 3 _ _ _ HM48.out
          have q4 := cell_of_row w48 Gm 4 _ _ _ HM48.out
          have fG : ∀ i, w48.frozen? ⟨Gm, i, none⟩ = false := fun i => frozen_of_row w48 _ i _ _ HM48.out
          simp at q0 q1 q2 q3 q4
          go_simp
          obtain ⟨w49, hw49⟩ : ∃ w9, w9 = (((((w48.setCell ⟨Gm, 0, none⟩ (.int .i64 m.k)).setCell ⟨Gm, 1, none⟩ (.int .i64 m.b)).setCell ⟨Gm, 2, none⟩ (.int .i64 m.s)).setCell ⟨Gm, 3, none⟩ (.int .i64 m.c)).setCell ⟨Gm, 4, none⟩ (.int .i64 m.e)) := ⟨_, rfl⟩
          rw [← hw49]
          have HM49 : Hid (w49.heap[Gm]? = some (.cells m.cells 35 (0, 0))) := by rw [hw49]; exact five _ _ _ _ _ HM48.out
          have HB49 : Hid (Below w0.heap.size w0 w49) := by rw [hw49]; exact five_below _ _ _ _ _ HB48.out LGm.out
          have HR49 : Hid (w49.ownsRow w0.heap.size 55 4 (.slice A6 n c6) n (gr lf)) := own_after HR48.out fun g hg => by rw [hw49]; exact five_far _ _ _ _ _ (fun e => own_ne HR48.out HM48.out (by decide) (by rw [hg, e]))
          have HT49 : Hid (w49.ownsRow w0.heap.size 44 5 (.slice A7 nl c7) nl (fr lt)) := own_after HT48.out fun g hg => by rw [hw49]; exact five_far _ _ _ _ _ (fun e => own_ne HT48.out HM48.out (by decide) (by rw [hg, e]))
          clear hw49 q0 q1 q2 q3 q4 fG
          refine hK.out _ _ (HCE.out _ (HB49.out)) (fun hHeld => ?_)
          clear hK K
          try simp only [Act.put, List.setIfInBounds_toArray, List.set_cons_zero, List.set_cons_succ]
          refine wpAnyH_take (i := 8) (oi := ?oi8e49) (v := ?v8e49) ?hi8e49 ?hs8e49 ?hf8e49 ?hr8e49 ?hQ8e49 ?hy8e49 ?hS8e49 ?h8e49
          case hi8e49 => exact (by simp only [List.getElem?_toArray, List.getElem?_cons_succ, List.getElem?_cons_zero]; rfl)
          case hs8e49 => kernel_rfl
          case hf8e49 => kernel_rfl
          case hr8e49 => kernel_rfl
          case hQ8e49 => exact fun _ _ _ h => h
          case hy8e49 =>
            refine Or.inl ⟨rfl, ?_⟩
            intro W hSw
            obtain ⟨y0, y1, y2, y3, y4, y5, y6, y7⟩ := hSw
            go_simp
            try with_reducible rfl
          case hS8e49 => assumption
          try simp only [Act.put, List.setIfInBounds_toArray, List.set_cons_zero, List.set_cons_succ]
          refine wpAnyH_take (i := 9) (oi := ?oi9f49) (v := ?v9f49) ?hi9f49 ?hs9f49 ?hf9f49 ?hr9f49 ?hQ9f49 ?hy9f49 ?hS9f49 ?h9f49
          case hi9f49 => exact (by simp only [List.getElem?_toArray, List.getElem?_cons_succ, List.getElem?_cons_zero]; rfl)
          case hs9f49 => kernel_rfl
          case hf9f49 => kernel_rfl
          case hr9f49 => kernel_rfl
          case hQ9f49 => exact fun _ _ _ h => h
          case hy9f49 =>
            refine Or.inl ⟨rfl, ?_⟩
            intro W hSw
            obtain ⟨y0, y1, y2, y3, y4, y5, y6, y7⟩ := hSw
            go_simp
            try with_reducible rfl
          case hS9f49 => assumption
          try simp only [Act.put, List.setIfInBounds_toArray, List.set_cons_zero, List.set_cons_succ]
          refine wpAnyH_done (by kernel_rfl) ?_ _
          try go_wp2_with fail
          go_meet
          exact ⟨Gm, A6, c6, A7, c7, lf, lt, rfl, rfl, rfl, Lib.hid ⟨⟨HM49.out, LGm.out, HR49.out, HRM.out, HT49.out, HTM.out⟩, HB49.out⟩⟩
      · go_simp
        refine hK.out _ _ (HCE.out _ ((HB5.out.alloc HB5.out.size _))) (fun hHeld => ?_)
        clear hK K
        try simp only [Act.put, List.setIfInBounds_toArray, List.set_cons_zero, List.set_cons_succ]
        obtain ⟨Gm, hg50⟩ : ∃ Gm, Gm = w5.heap.size := ⟨_, rfl⟩
        obtain ⟨w50, hw50⟩ : ∃ w50, w50 = w5.alloc (.cells (mCells 0 0 0 0 0) 35) := ⟨_, rfl⟩
        have HM50 : Hid (w50.heap[Gm]? = some (.cells (mCells 0 0 0 0 0) 35 (0, 0))) := by rw [hw50, hg50]; exact heap_alloc_new w5 _
        have HB50 : Hid (Below w0.heap.size w0 w50) := by rw [hw50]; exact HB5.out.alloc HB5.out.size _
        have LGm : Hid (w0.heap.size ≤ Gm) := by rw [hg50]; exact HB5.out.size
        have hb50 : Below w5.heap.size w5 w50 := by rw [hw50]; exact (Below.refl _ _).alloc (Nat.le_refl _) _
        rw [← hw50, ← hg50]
        clear hw50 hg50 hb50
        refine wpAnyH_ready (rs := [1]) (by kernel_rfl) (by simp) ?_
        refine AllReadyH.cons (o := _) rfl (fun K hK => ?_) AllReadyH.nil
        go_simp
        refine (HMO.out w50).mono ?_
        rintro r w51 ⟨rfl, hb51⟩
        have HB51 := Lib.hid (HB50.out.trans (hb51.mono HB50.out.size))
        have HM51 : Hid (w51.heap[Gm]? = some (.cells (mCells 0 0 0 0 0) 35 (0, 0))) := (hb51.block Gm (lt_of_block HM50.out)).trans HM50.out
        clear hb51
        refine hK.out _ _ (HCE.out _ (HB51.out)) (fun hHeld => ?_)
        clear hK K
        try simp only [Act.put, List.setIfInBounds_toArray, List.set_cons_zero, List.set_cons_succ]
        refine wpAnyH_ready (rs := [3]) (by kernel_rfl) (by simp) ?_
        refine AllReadyH.cons (o := _) rfl (fun K hK => ?_) AllReadyH.nil
        go_simp
        refine (HRO.out w51 HB51.out).mono ?_
        rintro r w52 ⟨A6, c6, lf, rfl, hrm, hro, hb52⟩
        have HB52 := Lib.hid (HB51.out.trans (hb52.mono HB51.out.size))
        have HR52 : Hid (w52.ownsRow w0.heap.size 55 4 (.slice A6 n c6) n (gr lf)) := own_low hro HB51.out.size
        have HRM := Lib.hid hrm
        clear hrm hro
        have HM52 : Hid (w52.heap[Gm]? = some (.cells (mCells 0 0 0 0 0) 35 (0, 0))) := (hb52.block Gm (lt_of_block HM51.out)).trans HM51.out
        clear hb52
        refine hK.out _ _ (HCE.out _ (HB52.out)) (fun hHeld => ?_)
        clear hK K
        try simp only [Act.put, List.setIfInBounds_toArray, List.set_cons_zero, List.set_cons_succ]
        refine wpAnyH_ready (rs := [5]) (by kernel_rfl) (by simp) ?_
        refine AllReadyH.cons (o := _) rfl (fun K hK => ?_) AllReadyH.nil
        go_simp
        refine (HTO.out w52 HB52.out).mono ?_
        rintro r w53 ⟨A7, c7, lt, rfl, htm, hto, hb53⟩
        have HB53 := Lib.hid (HB52.out.trans (hb53.mono HB52.out.size))
        have HT53 : Hid (w53.ownsRow w0.heap.size 44 5 (.slice A7 nl c7) nl (fr lt)) := own_low hto HB52.out.size
        have HTM := Lib.hid htm
        clear htm hto
        have HR53 : Hid (w53.ownsRow w0.heap.size 55 4 (.slice A6 n c6) n (gr lf)) := own_after HR52.out fun g hg => hb53.block g (own_lt HR52.out g hg).2
        have HM53 : Hid (w53.heap[Gm]? = some (.cells (mCells 0 0 0 0 0) 35 (0, 0))) := (hb53.block Gm (lt_of_block HM52.out)).trans HM52.out
        clear hb53
        refine hK.out _ _ (HCE.out _ (HB53.out)) (fun hHeld => ?_)
        clear hK K
        try simp only [Act.put, List.setIfInBounds_toArray, List.set_cons_zero, List.set_cons_succ]
        refine wpAnyH_ready (rs := [7]) (by kernel_rfl) (by simp) ?_
        refine AllReadyH.cons (o := _) rfl (fun K hK => ?_) AllReadyH.nil
        have q0 := cell_of_row w53 Gm 0 _ _ _ HM53.out
        have q1 := cell_of_row w53 Gm 1 _ _ _ HM53.out
        have q2 := cell_of_row w53 Gm 2 _ _ _ HM53.out
        have q3 := cell_of_row w53 Gm 3 _ _ _ HM53.out
        have q4 := cell_of_row w53 Gm 4 _ _ _ HM53.out
        have fG : ∀ i, w53.frozen? ⟨Gm, i, none⟩ = false := fun i => frozen_of_row w53 _ i _ _ HM53.out
        simp at q0 q1 q2 q3 q4
        go_simp
        obtain ⟨w54, hw54⟩ : ∃ w9, w9 = (((((w53.setCell ⟨Gm, 0, none⟩ (.int .i64 m.k)).setCell ⟨Gm, 1, none⟩ (.int .i64 m.b)).setCell ⟨Gm, 2, none⟩ (.int .i64 m.s)).setCell ⟨Gm, 3, none⟩ (.int .i64 m.c)).setCell ⟨Gm, 4, none⟩ (.int .i64 m.e)) := ⟨_, rfl⟩
        rw [← hw54]
        have HM54 : Hid (w54.heap[Gm]? = some (.cells m.cells 35 (0, 0))) := by rw [hw54]; exact five _ _ _ _ _ HM53.out
        have HB54 : Hid (Below w0.heap.size w0 w54) := by rw [hw54]; exact five_below _ _ _ _ _ HB53.out LGm.out
        have HR54 : Hid (w54.ownsRow w0.heap.size 55 4 (.slice A6 n c6) n (gr lf)) := own_after HR53.out fun g hg => by rw [hw54]; exact five_far _ _ _ _ _ (fun e => own_ne HR53.out HM53.out (by decide) (by rw [hg, e]))
        have HT54 : Hid (w54.ownsRow w0.heap.size 44 5 (.slice A7 nl c7) nl (fr lt)) := own_after HT53.out fun g hg => by rw [hw54]; exact five_far _ _ _ _ _ (fun e => own_ne HT53.out HM53.out (by decide) (by rw [hg, e]))
        clear hw54 q0 q1 q2 q3 q4 fG
        refine hK.out _ _ (HCE.out _ (HB54.out)) (fun hHeld => ?_)
        clear hK K
        try simp only [Act.put, List.setIfInBounds_toArray, List.set_cons_zero, List.set_cons_succ]
        refine wpAnyH_take (i := 8) (oi := ?oi8e54) (v := ?v8e54) ?hi8e54 ?hs8e54 ?hf8e54 ?hr8e54 ?hQ8e54 ?hy8e54 ?hS8e54 ?h8e54
        case hi8e54 => exact (by simp only [List.getElem?_toArray, List.getElem?_cons_succ, List.getElem?_cons_zero]; rfl)
        case hs8e54 => kernel_rfl
        case hf8e54 => kernel_rfl
        case hr8e54 => kernel_rfl
        case hQ8e54 => exact fun _ _ _ h => h
        case hy8e54 =>
          refine Or.inl ⟨rfl, ?_⟩
          intro W hSw
          obtain ⟨y0, y1, y2, y3, y4, y5, y6, y7⟩ := hSw
          go_simp
          try with_reducible rfl
        case hS8e54 => assumption
        try simp only [Act.put, List.setIfInBounds_toArray, List.set_cons_zero, List.set_cons_succ]
        refine wpAnyH_take (i := 9) (oi := ?oi9f54) (v := ?v9f54) ?hi9f54 ?hs9f54 ?hf9f54 ?hr9f54 ?hQ9f54 ?hy9f54 ?hS9f54 ?h9f54
        case hi9f54 => exact (by simp only [List.getElem?_toArray, List.getElem?_cons_succ, List.getElem?_cons_zero]; rfl)
        case hs9f54 => kernel_rfl
        case hf9f54 => kernel_rfl
        case hr9f54 => kernel_rfl
        case hQ9f54 => exact fun _ _ _ h => h
        case hy9f54 =>
          refine Or.inl ⟨rfl, ?_⟩
          intro W hSw
          obtain ⟨y0, y1, y2, y3, y4, y5, y6, y7⟩ := hSw
          go_simp
          try with_reducible rfl
        case hS9f54 => assumption
        try simp only [Act.put, List.setIfInBounds_toArray, List.set_cons_zero, List.set_cons_succ]
        refine wpAnyH_done (by kernel_rfl) ?_ _
        try go_wp2_with fail
        go_meet
        exact ⟨Gm, A6, c6, A7, c7, lf, lt, rfl, rfl, rfl, Lib.hid ⟨⟨HM54.out, LGm.out, HR54.out, HRM.out, HT54.out, HTM.out⟩, HB54.out⟩⟩
    case rest =>
      rename World => wx
      obtain ⟨Gm, A6, c6, A7, c7, lf, lt, rfl, rfl, rfl, HXX⟩ := hcut
      have HM3 := Lib.hid HXX.out.1
      have HB3 := Lib.hid HXX.out.2
      clear HXX
      obtain ⟨y0, y1, y2, y3, y4, y5, y6, y7⟩ := HCE.out wx HB3.out
      obtain ⟨z0, z1, z2, z3, z4⟩ := HM3.out.md
      have HF3 := Lib.hid (HFD.out wx A7 nl c7 A6 c6 l HNL.out (by omega) (fun t h => h) HM3.out.ts HM3.out.rs)
      rcases find_says m now rows l with ⟨hno, hf⟩ | ⟨k, t, hk, hok, hall, hf⟩
      · have HFL : Hid (findR m now rows l = (0, 0, false)) := hf
        rw [hf] at HF3
        simp only [fR] at HF3
        clear hno hf
        go_wp2_with fail
        refine HF3.out.mono ?_
        rintro r w4 ⟨rfl, hb4⟩
        have HB4 := Lib.hid (HB3.out.trans (hb4.mono HB3.out.size))
        have HM4 := Lib.hid (HM3.out.later hb4)
        clear hb4 y0 y1 y2 y3 y4 y5 y6 y7 z0 z1 z2 z3 z4
        obtain ⟨hnc, hA7⟩ : nl ≤ c7 ∧ ((A7 = none ∧ c7 = 0) ∨ ∃ g o, A7 = some ⟨g, o, none⟩) := by
          rcases HM4.out.2.2.2.2.1.2 with ⟨e1, h0⟩ | ⟨g, cap, cur, e1, _, _, hc, _⟩
          · injection e1 with e1 e2 e3
            exact ⟨by omega, .inl ⟨e1, e3⟩⟩
          · injection e1 with e1 _ e3
            subst e3
            exact ⟨hc, .inr ⟨g, 0, e1⟩⟩
        obtain ⟨A8, c8, hsl, hA8, -⟩ := slice_take A7 nl c7 nl (Nat.le_refl _) hnc hA7
        have HSL := Lib.hid hsl
        have HTK : Hid (Ts w4 w4.heap.size A8 l) := fun h => by
          have := HNL.out
          rw [hA8 (by omega)]
          exact HM4.out.ts h
        have HFD2 : Hid (∀ W A' c', Ts W W.heap.size A' l → Rs W W.heap.size A6 rows → Calls Try.prog 18 #[m.v, .int .i64 now, .slice A' nl c', .slice A6 n c6] W fun r w' => r = .returned (.tuple #[.int .i64 0, .int .i64 0, .bool false]) ∧ Below W.heap.size W w') := fun W A' c' h1 h2 =>
          (HFD.out W A' nl c' A6 c6 l HNL.out (by omega) (fun t h => h) h1 h2).mono fun r w' h => ⟨by rw [h.1, HFL.out], h.2⟩
        clear hnc hA7 hsl hA8
        have HBS4 : Hid (Below w4.heap.size w4 w4) := Below.refl _ _
        have HCF : Hid (∀ W, Below w4.heap.size w4 W → (fun W : World => (W.cell? ⟨Gm, 0, none⟩ = some (.int .i64 m.k) ∧ W.cell? ⟨Gm, 1, none⟩ = some (.int .i64 m.b) ∧ W.cell? ⟨Gm, 2, none⟩ = some (.int .i64 m.s) ∧ W.cell? ⟨Gm, 3, none⟩ = some (.int .i64 m.c) ∧ W.cell? ⟨Gm, 4, none⟩ = some (.int .i64 m.e)) ∧ W.cell? ⟨w.heap.size, 5, none⟩ = some (.int .i64 now)) W) := fun W hW => ⟨(HM4.out.later hW).md, (HCE.out W (HB4.out.trans (hW.mono HB4.out.size))).2.2.2.2.2.1⟩
        go_upto_region 9 with (fail)
        have HDn : Hid (Below w4.heap.size w4 w4.drew) := HBS4.out.drew
        refine wp_region_held_drew (S := fun W : World => (W.cell? ⟨Gm, 0, none⟩ = some (.int .i64 m.k) ∧ W.cell? ⟨Gm, 1, none⟩ = some (.int .i64 m.b) ∧ W.cell? ⟨Gm, 2, none⟩ = some (.int .i64 m.s) ∧ W.cell? ⟨Gm, 3, none⟩ = some (.int .i64 m.c) ∧ W.cell? ⟨Gm, 4, none⟩ = some (.int .i64 m.e)) ∧ W.cell? ⟨w.heap.size, 5, none⟩ = some (.int .i64 now)) (by kernel_rfl) (HCF.out _ (HDn.out)) (fun hHeld => ?_)
        obtain ⟨Wn0, hW0⟩ : ∃ W0, W0 = w4.drew := ⟨_, rfl⟩
        rw [← hW0] at hHeld HDn ⊢
        clear hW0
        refine wpAnyH_take (i := 0) (oi := ?oi0n) (v := ?v0n) ?hi0n ?hs0n ?hf0n ?hr0n ?hQ0n ?hy0n ?hS0n ?h0n
        case hi0n => exact (by simp only [List.getElem?_toArray, List.getElem?_cons_zero]; rfl)
        case hs0n => kernel_rfl
        case hf0n => kernel_rfl
        case hr0n => kernel_rfl
        case hQ0n => exact fun _ _ _ h => h
        case hy0n =>
          refine Or.inl ⟨rfl, ?_⟩
          intro W hSw
          obtain ⟨⟨z0, z1, z2, z3, z4⟩, z5⟩ := hSw
          go_simp
          try with_reducible rfl
        case hS0n => assumption
        try simp only [Act.put, List.setIfInBounds_toArray, List.set_cons_zero, List.set_cons_succ]
        refine wpAnyH_take (i := 1) (oi := ?oi1n) (v := ?v1n) ?hi1n ?hs1n ?hf1n ?hr1n ?hQ1n ?hy1n ?hS1n ?h1n
        case hi1n => exact (by simp only [List.getElem?_toArray, List.getElem?_cons_succ, List.getElem?_cons_zero]; rfl)
        case hs1n => kernel_rfl
        case hf1n => kernel_rfl
        case hr1n => kernel_rfl
        case hQ1n => exact fun _ _ _ h => h
        case hy1n =>
          refine Or.inl ⟨rfl, ?_⟩
          intro W hSw
          obtain ⟨⟨z0, z1, z2, z3, z4⟩, z5⟩ := hSw
          go_simp
          try with_reducible rfl
        case hS1n => assumption
        try simp only [Act.put, List.setIfInBounds_toArray, List.set_cons_zero, List.set_cons_succ]
        refine wpAnyH_take (i := 2) (oi := ?oi2n) (v := ?v2n) ?hi2n ?hs2n ?hf2n ?hr2n ?hQ2n ?hy2n ?hS2n ?h2n
        case hi2n => exact (by simp only [List.getElem?_toArray, List.getElem?_cons_succ, List.getElem?_cons_zero]; rfl)
        case hs2n => kernel_rfl
        case hf2n => kernel_rfl
        case hr2n => kernel_rfl
        case hQ2n => exact fun _ _ _ h => h
        case hy2n =>
          refine Or.inl ⟨rfl, ?_⟩
          intro W hSw
          obtain ⟨⟨z0, z1, z2, z3, z4⟩, z5⟩ := hSw
          go_simp
          try with_reducible rfl
        case hS2n => assumption
        try simp only [Act.put, List.setIfInBounds_toArray, List.set_cons_zero, List.set_cons_succ]
        refine wpAnyH_take (i := 3) (oi := ?oi3n) (v := ?v3n) ?hi3n ?hs3n ?hf3n ?hr3n ?hQ3n ?hy3n ?hS3n ?h3n
        case hi3n => exact (by simp only [List.getElem?_toArray, List.getElem?_cons_succ, List.getElem?_cons_zero]; rfl)
        case hs3n => kernel_rfl
        case hf3n => kernel_rfl
        case hr3n => kernel_rfl
        case hQ3n => exact fun _ _ _ h => h
        case hy3n =>
          refine Or.inl ⟨rfl, ?_⟩
          intro W hSw
          obtain ⟨⟨z0, z1, z2, z3, z4⟩, z5⟩ := hSw
          go_simp
          try with_reducible rfl
        case hS3n => assumption
        try simp only [Act.put, List.setIfInBounds_toArray, List.set_cons_zero, List.set_cons_succ]
        refine wpAnyH_take (i := 4) (oi := ?oi4n) (v := ?v4n) ?hi4n ?hs4n ?hf4n ?hr4n ?hQ4n ?hy4n ?hS4n ?h4n
        case hi4n => exact (by simp only [List.getElem?_toArray, List.getElem?_cons_succ, List.getElem?_cons_zero]; rfl)
        case hs4n => kernel_rfl
        case hf4n => kernel_rfl
        case hr4n => kernel_rfl
        case hQ4n => exact fun _ _ _ h => h
        case hy4n =>
          refine Or.inl ⟨rfl, ?_⟩
          intro W hSw
          obtain ⟨⟨z0, z1, z2, z3, z4⟩, z5⟩ := hSw
          go_simp
          try with_reducible rfl
        case hS4n => assumption
        try simp only [Act.put, List.setIfInBounds_toArray, List.set_cons_zero, List.set_cons_succ]
        refine wpAnyH_take (i := 5) (oi := ?oi5n) (v := (.slice A8 nl c8)) ?hi5n ?hs5n ?hf5n ?hr5n ?hQ5n ?hy5n ?hS5n ?h5n
        case hi5n => exact (by simp only [List.getElem?_toArray, List.getElem?_cons_succ, List.getElem?_cons_zero]; rfl)
        case hs5n => kernel_rfl
        case hf5n => kernel_rfl
        case hr5n => kernel_rfl
        case hQ5n => exact fun _ _ _ h => h
        case hy5n =>
          refine Or.inl ⟨rfl, ?_⟩
          intro W hSw
          have z9 := HSL.out W
          go_simp
          try simp [z9]
        case hS5n => assumption
        try simp only [Act.put, List.setIfInBounds_toArray, List.set_cons_zero, List.set_cons_succ]
        refine wpAnyH_take (i := 6) (oi := ?oi6n) (v := ?v6n) ?hi6n ?hs6n ?hf6n ?hr6n ?hQ6n ?hy6n ?hS6n ?h6n
        case hi6n => exact (by simp only [List.getElem?_toArray, List.getElem?_cons_succ, List.getElem?_cons_zero]; rfl)
        case hs6n => kernel_rfl
        case hf6n => kernel_rfl
        case hr6n => kernel_rfl
        case hQ6n => exact fun _ _ _ h => h
        case hy6n =>
          refine Or.inl ⟨rfl, ?_⟩
          intro W hSw
          obtain ⟨⟨z0, z1, z2, z3, z4⟩, z5⟩ := hSw
          go_simp
          try with_reducible rfl
        case hS6n => assumption
        try simp only [Act.put, List.setIfInBounds_toArray, List.set_cons_zero, List.set_cons_succ]
        refine wpAnyH_ready (rs := [7]) (by kernel_rfl) (by simp) ?_
        refine AllReadyH.cons (o := _) rfl (fun K hK => ?_) AllReadyH.nil
        go_simp
        refine (HFD2.out Wn0 A8 c8 (HTK.out.later HDn.out (Nat.le_refl _)) (HM4.out.rs.later HDn.out (Nat.le_refl _))).mono ?_
        rintro r Wn1 ⟨rfl, hbq⟩
        have HBn1 := Lib.hid (HDn.out.trans (hbq.mono HDn.out.size))
        clear hbq
        refine hK.out _ _ (HCF.out _ (HBn1.out)) (fun hHeld => ?_)
        clear hK K
        try simp only [Act.put, List.setIfInBounds_toArray, List.set_cons_zero, List.set_cons_succ]
        refine wpAnyH_take (i := 8) (oi := ?oi8n) (v := ?v8n) ?hi8n ?hs8n ?hf8n ?hr8n ?hQ8n ?hy8n ?hS8n ?h8n
        case hi8n => exact (by simp only [List.getElem?_toArray, List.getElem?_cons_succ, List.getElem?_cons_zero]; rfl)
        case hs8n => kernel_rfl
        case hf8n => kernel_rfl
        case hr8n => kernel_rfl
        case hQ8n => exact fun _ _ _ h => h
        case hy8n =>
          refine Or.inl ⟨rfl, ?_⟩
          intro W hSw
          obtain ⟨⟨z0, z1, z2, z3, z4⟩, z5⟩ := hSw
          go_simp
          try with_reducible rfl
        case hS8n => assumption
        try simp only [Act.put, List.setIfInBounds_toArray, List.set_cons_zero, List.set_cons_succ]
        refine wpAnyH_take (i := 9) (oi := ?oi9n) (v := ?v9n) ?hi9n ?hs9n ?hf9n ?hr9n ?hQ9n ?hy9n ?hS9n ?h9n
        case hi9n => exact (by simp only [List.getElem?_toArray, List.getElem?_cons_succ, List.getElem?_cons_zero]; rfl)
        case hs9n => kernel_rfl
        case hf9n => kernel_rfl
        case hr9n => kernel_rfl
        case hQ9n => exact fun _ _ _ h => h
        case hy9n =>
          refine Or.inl ⟨rfl, ?_⟩
          intro W hSw
          obtain ⟨⟨z0, z1, z2, z3, z4⟩, z5⟩ := hSw
          go_simp
          try with_reducible rfl
        case hS9n => assumption
        try simp only [Act.put, List.setIfInBounds_toArray, List.set_cons_zero, List.set_cons_succ]
        refine wpAnyH_take (i := 10) (oi := ?oi10n) (v := ?v10n) ?hi10n ?hs10n ?hf10n ?hr10n ?hQ10n ?hy10n ?hS10n ?h10n
        case hi10n => exact (by simp only [List.getElem?_toArray, List.getElem?_cons_succ, List.getElem?_cons_zero]; rfl)
        case hs10n => kernel_rfl
        case hf10n => kernel_rfl
        case hr10n => kernel_rfl
        case hQ10n => exact fun _ _ _ h => h
        case hy10n =>
          refine Or.inl ⟨rfl, ?_⟩
          intro W hSw
          obtain ⟨⟨z0, z1, z2, z3, z4⟩, z5⟩ := hSw
          go_simp
          try with_reducible rfl
        case hS10n => assumption
        try simp only [Act.put, List.setIfInBounds_toArray, List.set_cons_zero, List.set_cons_succ]
        refine wpAnyH_take (i := 11) (oi := ?oi11n) (v := ?v11n) ?hi11n ?hs11n ?hf11n ?hr11n ?hQ11n ?hy11n ?hS11n ?h11n
        case hi11n => exact (by simp only [List.getElem?_toArray, List.getElem?_cons_succ, List.getElem?_cons_zero]; rfl)
        case hs11n => kernel_rfl
        case hf11n => kernel_rfl
        case hr11n => kernel_rfl
        case hQ11n => exact fun _ _ _ h => h
        case hy11n =>
          refine Or.inl ⟨rfl, ?_⟩
          intro W hSw
          obtain ⟨⟨z0, z1, z2, z3, z4⟩, z5⟩ := hSw
          go_simp
          try with_reducible rfl
        case hS11n => assumption
        try simp only [Act.put, List.setIfInBounds_toArray, List.set_cons_zero, List.set_cons_succ]
        refine wpAnyH_take (i := 12) (oi := ?oi12n) (v := ?v12n) ?hi12n ?hs12n ?hf12n ?hr12n ?hQ12n ?hy12n ?hS12n ?h12n
        case hi12n => exact (by simp only [List.getElem?_toArray, List.getElem?_cons_succ, List.getElem?_cons_zero]; rfl)
        case hs12n => kernel_rfl
        case hf12n => kernel_rfl
        case hr12n => kernel_rfl
        case hQ12n => exact fun _ _ _ h => h
        case hy12n =>
          refine Or.inl ⟨rfl, ?_⟩
          intro W hSw
          obtain ⟨⟨z0, z1, z2, z3, z4⟩, z5⟩ := hSw
          go_simp
          try with_reducible rfl
        case hS12n => assumption
        try simp only [Act.put, List.setIfInBounds_toArray, List.set_cons_zero, List.set_cons_succ]
        refine wpAnyH_take (i := 13) (oi := ?oi13n) (v := ?v13n) ?hi13n ?hs13n ?hf13n ?hr13n ?hQ13n ?hy13n ?hS13n ?h13n
        case hi13n => exact (by simp only [List.getElem?_toArray, List.getElem?_cons_succ, List.getElem?_cons_zero]; rfl)
        case hs13n => kernel_rfl
        case hf13n => kernel_rfl
        case hr13n => kernel_rfl
        case hQ13n => exact fun _ _ _ h => h
        case hy13n =>
          refine Or.inl ⟨rfl, ?_⟩
          intro W hSw
          obtain ⟨⟨z0, z1, z2, z3, z4⟩, z5⟩ := hSw
          go_simp
          try with_reducible rfl
        case hS13n => assumption
        try simp only [Act.put, List.setIfInBounds_toArray, List.set_cons_zero, List.set_cons_succ]
        refine wpAnyH_take (i := 14) (oi := ?oi14n) (v := ?v14n) ?hi14n ?hs14n ?hf14n ?hr14n ?hQ14n ?hy14n ?hS14n ?h14n
        case hi14n => exact (by simp only [List.getElem?_toArray, List.getElem?_cons_succ, List.getElem?_cons_zero]; rfl)
        case hs14n => kernel_rfl
        case hf14n => kernel_rfl
        case hr14n => kernel_rfl
        case hQ14n => exact fun _ _ _ h => h
        case hy14n =>
          refine Or.inl ⟨rfl, ?_⟩
          intro W hSw
          obtain ⟨⟨z0, z1, z2, z3, z4⟩, z5⟩ := hSw
          go_simp
          try with_reducible rfl
        case hS14n => assumption
        try simp only [Act.put, List.setIfInBounds_toArray, List.set_cons_zero, List.set_cons_succ]
        refine wpAnyH_done (by kernel_rfl) ?_ _
        have HBF : Hid (Below w0.heap.size w0 Wn1) := HB4.out.trans (HBn1.out.mono HB4.out.size)
        go_wp2_with fail
        refine (HAW.out Wn1).mono ?_
        rintro r wz ⟨rfl, hbz⟩
        have HBz : Hid (Below w0.heap.size w0 wz) := HBF.out.trans (hbz.mono HBF.out.size)
        clear hbz
        go_wp2
        go_ret
        exact ⟨rfl, HB0.out.trans (HBz.out.mono HB0.out.size)⟩
      · have hkn : k < nl := by rw [HNL.out]; exact (List.getElem?_eq_some_iff.1 hk).1
        have HKN := Lib.hid hkn
        rw [hf] at HF3
        simp only [fR] at HF3
        have HALL := Lib.hid hall
        clear hk hok hall hf
        go_wp2_with fail
        refine HF3.out.mono ?_
        rintro r w4 ⟨rfl, hb4⟩
        have HB4 := Lib.hid (HB3.out.trans (hb4.mono HB3.out.size))
        have HM4 := Lib.hid (HM3.out.later hb4)
        clear hb4 y0 y1 y2 y3 y4 y5 y6 y7 z0 z1 z2 z3 z4
        obtain ⟨g7, hnc, rfl⟩ : ∃ g7, nl ≤ c7 ∧ A7 = some ⟨g7, 0, none⟩ := by
          rcases HM4.out.2.2.2.2.1.2 with ⟨e1, h0⟩ | ⟨g, cap, cur, e1, _, _, hc, _⟩
          · have := HKN.out; omega
          · injection e1 with e1 _ e3
            subst e3
            exact ⟨g, hc, e1⟩
        obtain ⟨A8, c8, hsl, hA8, hA8s⟩ := slice_take (some ⟨g7, 0, none⟩) nl c7 k (by omega) hnc (.inr ⟨g7, 0, rfl⟩)
        have HSL := Lib.hid hsl
        have HA8 := Lib.hid hA8
        have HA8S : Hid (∃ ad, A8 = some ad) := hA8s g7 0 rfl
        have HTK : Hid (Ts w4 w4.heap.size A8 (l.take k)) := fun h => by
          rw [List.length_take] at h
          rw [hA8 (by omega)]
          exact HM4.out.ts.take k (by rw [List.length_take]; exact h)
        obtain ⟨AD, cd, hsd, hAD⟩ := slice_drop g7 0 nl c7 (k + 1) (by omega) hnc
        obtain ⟨nd, hnd⟩ : ∃ nd, nd = nl - (k + 1) := ⟨_, rfl⟩
        rw [← hnd] at hsd
        have HSD : Hid (∀ W, (Instr.slice 38 (.slice (some ⟨g7, 0, none⟩) nl c7) (some (.int .i64 ((k : Int) + 1))) none none).run Try.prog W = .ok (.slice (some AD) nd cd) W) := fun W => by
          have h := hsd W
          push_cast at h
          exact h
        have HND : Hid (nd = (l.drop (k + 1)).length) := by simp only [Hid]; rw [List.length_drop, ← HNL.out]; exact hnd
        have HND1 : Hid (nd ≤ 20 ∧ nd ≤ 100 ∧ k + nd ≤ 1000) := by simp only [Hid]; omega
        have HADE : Hid (0 < nd → AD = ⟨g7, 0 + (k + 1) * 5, none⟩) := fun h => hAD (by omega)
        have HTD : Hid (Ts w4 w4.heap.size (some AD) (l.drop (k + 1))) := HM4.out.ts.drop (fun h => hAD (by have := HNL.out; omega))
        have HSUB : Hid (∀ t ∈ l.drop (k + 1), t ∈ l) := fun t h => List.mem_of_mem_drop h
        have HLK : Hid (k = (l.take k).length) := by simp only [Hid]; rw [List.length_take, ← HNL.out]; omega
        have HSZ : Hid (∀ W, (Instr.slice 38 (.slice (some ⟨g7, 0, none⟩) nl c7) none (some (.int .i64 0)) (some (.int .i64 0))).run Try.prog W = .ok (.slice (some ⟨g7, 0, none⟩) 0 0) W) := slice_zero g7 0 nl c7
        have HLTL : Hid (lt.length = nl) := fr_of_own HM4.out.2.2.2.2.1
        have HLTK : Hid ((lt.take k).length = k) := by simp only [Hid]; rw [List.length_take, HLTL.out]; omega
        have HLTD : Hid ((lt.drop (k + 1)).length = nd) := by simp only [Hid]; rw [List.length_drop, HLTL.out]; exact hnd.symm
        have HOC : Hid (∀ W, Below w4.heap.size w4 W → ∀ j u, (fr lt)[j]? = some u → W.cell? ⟨g7, j, none⟩ = some u) := fun W hW => own_cells (HM4.out.later hW).2.2.2.2.1
        have hrest := findR_rest (m := m) (now := now) (rows := rows) (l := l) (k := k) (by have := HNL.out; omega) HALL.out (l.drop (k + 1))
        have HTAKE : Hid (findR m now rows (l.take k) = (0, 0, false)) := findR_none HALL.out
        obtain ⟨xk, hxk⟩ : ∃ x, x = findR m now rows (l.take k) := ⟨_, rfl⟩
        have HFK : Hid (∀ W A' c', Ts W W.heap.size A' (l.take k) → Rs W W.heap.size A6 rows → Calls Try.prog 18 #[m.v, .int .i64 now, .slice A' k c', .slice A6 n c6] W fun r w' => r = .returned (.tuple #[.int .i64 0, .int .i64 0, .bool false]) ∧ Below W.heap.size W w') := fun W A' c' h1 h2 =>
          (HFD.out W A' k c' A6 c6 (l.take k) HLK.out (by omega) (fun t h => List.mem_of_mem_take h) h1 h2).mono fun r w' h => ⟨by rw [h.1, HTAKE.out], h.2⟩
        have HWK : Hid (IntKind.i64.wrap ((k : Int) + 1) = (k : Int) + 1) := by simp only [Hid]; rw [IntKind.wrap_i64]; omega
        clear hnc hsl hA8 hA8s hsd hAD hnd hxk xk
        have HBS4 : Hid (Below w4.heap.size w4 w4) := Below.refl _ _
        have HCF : Hid (∀ W, Below w4.heap.size w4 W → (fun W : World => (W.cell? ⟨Gm, 0, none⟩ = some (.int .i64 m.k) ∧ W.cell? ⟨Gm, 1, none⟩ = some (.int .i64 m.b) ∧ W.cell? ⟨Gm, 2, none⟩ = some (.int .i64 m.s) ∧ W.cell? ⟨Gm, 3, none⟩ = some (.int .i64 m.c) ∧ W.cell? ⟨Gm, 4, none⟩ = some (.int .i64 m.e)) ∧ W.cell? ⟨w.heap.size, 5, none⟩ = some (.int .i64 now)) W) := fun W hW => ⟨(HM4.out.later hW).md, (HCE.out W (HB4.out.trans (hW.mono HB4.out.size))).2.2.2.2.2.1⟩
        obtain ⟨da, db, dz, ra, rb, rz, hres, hd1, hd2⟩ : ∃ (da db : Int) (dz : Bool) (ra rb : Int) (rz : Bool), ((dz = false ∧ rz = false) ∨ (dz = true ∧ rz = true ∧ 0 ≤ da ∧ da ≤ 100 ∧ ra = da + k)) ∧ findR m now rows (l.drop (k + 1)) = (da, db, dz) ∧ findR m now rows (l.take k ++ l.drop (k + 1)) = (ra, rb, rz) := by
          rcases hrest with ⟨h1, h2⟩ | ⟨j, tm, hj, h1, h2⟩
          · exact ⟨0, 0, false, 0, 0, false, .inl ⟨rfl, rfl⟩, h1, h2⟩
          · exact ⟨j, tm, true, j + k, tm, true, .inr ⟨rfl, rfl, by omega, by rw [← HND.out] at hj; have := HND1.out; omega, rfl⟩, h1, h2⟩
        have HFDD : Hid (∀ W, Ts W W.heap.size (some AD) (l.drop (k + 1)) → Rs W W.heap.size A6 rows → Calls Try.prog 18 #[m.v, .int .i64 now, .slice (some AD) nd cd, .slice A6 n c6] W fun r w' => r = .returned (.tuple #[.int .i64 da, .int .i64 db, .bool dz]) ∧ Below W.heap.size W w') := fun W h1 h2 =>
          (HFD.out W (some AD) nd cd A6 c6 (l.drop (k + 1)) HND.out HND1.out.2.1 HSUB.out h1 h2).mono fun r w' h => ⟨by rw [h.1, hd1], h.2⟩
        have HFR : Hid (∀ W AR cr, Ts W W.heap.size AR (l.take k ++ l.drop (k + 1)) → Rs W W.heap.size A6 rows → Calls Try.prog 18 #[m.v, .int .i64 now, .slice AR (k + nd) cr, .slice A6 n c6] W fun r w' => r = .returned (.tuple #[.int .i64 ra, .int .i64 rb, .bool rz]) ∧ Below W.heap.size W w') := fun W AR cr h1 h2 =>
          (HFD.out W AR (k + nd) cr A6 c6 (l.take k ++ l.drop (k + 1)) (by rw [List.length_append, ← HLK.out, ← HND.out]) (by have := HND1.out; have := HKN.out; omega) (fun t h => by
            rcases List.mem_append.1 h with h | h
            · exact List.mem_of_mem_take h
            · exact List.mem_of_mem_drop h) h1 h2).mono fun r w' h => ⟨by rw [h.1, hd2], h.2⟩
        clear hrest hd1 hd2
        have HRES := Lib.hid hres
        clear hres
        go_upto_region 9 with (fail)
        have HDs : Hid (Below w4.heap.size w4 w4.drew) := HBS4.out.drew
        refine wp_region_held_drew (S := fun W : World => (W.cell? ⟨Gm, 0, none⟩ = some (.int .i64 m.k) ∧ W.cell? ⟨Gm, 1, none⟩ = some (.int .i64 m.b) ∧ W.cell? ⟨Gm, 2, none⟩ = some (.int .i64 m.s) ∧ W.cell? ⟨Gm, 3, none⟩ = some (.int .i64 m.c) ∧ W.cell? ⟨Gm, 4, none⟩ = some (.int .i64 m.e)) ∧ W.cell? ⟨w.heap.size, 5, none⟩ = some (.int .i64 now)) (by kernel_rfl) (HCF.out _ (HDs.out)) (fun hHeld => ?_)
        obtain ⟨Ws0, hW0⟩ : ∃ W0, W0 = w4.drew := ⟨_, rfl⟩
        rw [← hW0] at hHeld HDs ⊢
        clear hW0
        refine wpAnyH_take (i := 0) (oi := ?oi0s) (v := ?v0s) ?hi0s ?hs0s ?hf0s ?hr0s ?hQ0s ?hy0s ?hS0s ?h0s
        case hi0s => exact (by simp only [List.getElem?_toArray, List.getElem?_cons_zero]; rfl)
        case hs0s => kernel_rfl
        case hf0s => kernel_rfl
        case hr0s => kernel_rfl
        case hQ0s => exact fun _ _ _ h => h
        case hy0s =>
          refine Or.inl ⟨rfl, ?_⟩
          intro W hSw
          obtain ⟨⟨z0, z1, z2, z3, z4⟩, z5⟩ := hSw
          go_simp
          try with_reducible rfl
        case hS0s => assumption
        try simp only [Act.put, List.setIfInBounds_toArray, List.set_cons_zero, List.set_cons_succ]
        refine wpAnyH_take (i := 1) (oi := ?oi1s) (v := ?v1s) ?hi1s ?hs1s ?hf1s ?hr1s ?hQ1s ?hy1s ?hS1s ?h1s
        case hi1s => exact (by simp only [List.getElem?_toArray, List.getElem?_cons_succ, List.getElem?_cons_zero]; rfl)
        case hs1s => kernel_rfl
        case hf1s => kernel_rfl
        case hr1s => kernel_rfl
        case hQ1s => exact fun _ _ _ h => h
        case hy1s =>
          refine Or.inl ⟨rfl, ?_⟩
          intro W hSw
          obtain ⟨⟨z0, z1, z2, z3, z4⟩, z5⟩ := hSw
          go_simp
          try with_reducible rfl
        case hS1s => assumption
        try simp only [Act.put, List.setIfInBounds_toArray, List.set_cons_zero, List.set_cons_succ]
        refine wpAnyH_take (i := 2) (oi := ?oi2s) (v := ?v2s) ?hi2s ?hs2s ?hf2s ?hr2s ?hQ2s ?hy2s ?hS2s ?h2s
        case hi2s => exact (by simp only [List.getElem?_toArray, List.getElem?_cons_succ, List.getElem?_cons_zero]; rfl)
        case hs2s => kernel_rfl
        case hf2s => kernel_rfl
        case hr2s => kernel_rfl
        case hQ2s => exact fun _ _ _ h => h
        case hy2s =>
          refine Or.inl ⟨rfl, ?_⟩
          intro W hSw
          obtain ⟨⟨z0, z1, z2, z3, z4⟩, z5⟩ := hSw
          go_simp
          try with_reducible rfl
        case hS2s => assumption
        try simp only [Act.put, List.setIfInBounds_toArray, List.set_cons_zero, List.set_cons_succ]
        refine wpAnyH_take (i := 3) (oi := ?oi3s) (v := ?v3s) ?hi3s ?hs3s ?hf3s ?hr3s ?hQ3s ?hy3s ?hS3s ?h3s
        case hi3s => exact (by simp only [List.getElem?_toArray, List.getElem?_cons_succ, List.getElem?_cons_zero]; rfl)
        case hs3s => kernel_rfl
        case hf3s => kernel_rfl
        case hr3s => kernel_rfl
        case hQ3s => exact fun _ _ _ h => h
        case hy3s =>
          refine Or.inl ⟨rfl, ?_⟩
          intro W hSw
          obtain ⟨⟨z0, z1, z2, z3, z4⟩, z5⟩ := hSw
          go_simp
          try with_reducible rfl
        case hS3s => assumption
        try simp only [Act.put, List.setIfInBounds_toArray, List.set_cons_zero, List.set_cons_succ]
        refine wpAnyH_take (i := 4) (oi := ?oi4s) (v := ?v4s) ?hi4s ?hs4s ?hf4s ?hr4s ?hQ4s ?hy4s ?hS4s ?h4s
        case hi4s => exact (by simp only [List.getElem?_toArray, List.getElem?_cons_succ, List.getElem?_cons_zero]; rfl)
        case hs4s => kernel_rfl
        case hf4s => kernel_rfl
        case hr4s => kernel_rfl
        case hQ4s => exact fun _ _ _ h => h
        case hy4s =>
          refine Or.inl ⟨rfl, ?_⟩
          intro W hSw
          obtain ⟨⟨z0, z1, z2, z3, z4⟩, z5⟩ := hSw
          go_simp
          try with_reducible rfl
        case hS4s => assumption
        try simp only [Act.put, List.setIfInBounds_toArray, List.set_cons_zero, List.set_cons_succ]
        refine wpAnyH_take (i := 5) (oi := ?oi5s) (v := (.slice A8 k c8)) ?hi5s ?hs5s ?hf5s ?hr5s ?hQ5s ?hy5s ?hS5s ?h5s
        case hi5s => exact (by simp only [List.getElem?_toArray, List.getElem?_cons_succ, List.getElem?_cons_zero]; rfl)
        case hs5s => kernel_rfl
        case hf5s => kernel_rfl
        case hr5s => kernel_rfl
        case hQ5s => exact fun _ _ _ h => h
        case hy5s =>
          refine Or.inl ⟨rfl, ?_⟩
          intro W hSw
          have z9 := HSL.out W
          go_simp
          try simp [z9]
        case hS5s => assumption
        try simp only [Act.put, List.setIfInBounds_toArray, List.set_cons_zero, List.set_cons_succ]
        refine wpAnyH_take (i := 6) (oi := ?oi6s) (v := ?v6s) ?hi6s ?hs6s ?hf6s ?hr6s ?hQ6s ?hy6s ?hS6s ?h6s
        case hi6s => exact (by simp only [List.getElem?_toArray, List.getElem?_cons_succ, List.getElem?_cons_zero]; rfl)
        case hs6s => kernel_rfl
        case hf6s => kernel_rfl
        case hr6s => kernel_rfl
        case hQ6s => exact fun _ _ _ h => h
        case hy6s =>
          refine Or.inl ⟨rfl, ?_⟩
          intro W hSw
          obtain ⟨⟨z0, z1, z2, z3, z4⟩, z5⟩ := hSw
          go_simp
          try with_reducible rfl
        case hS6s => assumption
        try simp only [Act.put, List.setIfInBounds_toArray, List.set_cons_zero, List.set_cons_succ]
        refine wpAnyH_ready (rs := [7]) (by kernel_rfl) (by simp) ?_
        refine AllReadyH.cons (o := _) rfl (fun K hK => ?_) AllReadyH.nil
        go_simp
        refine (HFK.out Ws0 A8 c8 (HTK.out.later HDs.out (Nat.le_refl _)) (HM4.out.rs.later HDs.out (Nat.le_refl _))).mono ?_
        rintro r Ws1 ⟨rfl, hbq⟩
        have HBs1 := Lib.hid (HDs.out.trans (hbq.mono HDs.out.size))
        clear hbq
        refine hK.out _ _ (HCF.out _ (HBs1.out)) (fun hHeld => ?_)
        clear hK K
        try simp only [Act.put, List.setIfInBounds_toArray, List.set_cons_zero, List.set_cons_succ]
        refine wpAnyH_take (i := 8) (oi := ?oi8s) (v := ?v8s) ?hi8s ?hs8s ?hf8s ?hr8s ?hQ8s ?hy8s ?hS8s ?h8s
        case hi8s => exact (by simp only [List.getElem?_toArray, List.getElem?_cons_succ, List.getElem?_cons_zero]; rfl)
        case hs8s => kernel_rfl
        case hf8s => kernel_rfl
        case hr8s => kernel_rfl
        case hQ8s => exact fun _ _ _ h => h
        case hy8s =>
          refine Or.inl ⟨rfl, ?_⟩
          intro W hSw
          obtain ⟨⟨z0, z1, z2, z3, z4⟩, z5⟩ := hSw
          go_simp
          try with_reducible rfl
        case hS8s => assumption
        try simp only [Act.put, List.setIfInBounds_toArray, List.set_cons_zero, List.set_cons_succ]
        refine wpAnyH_take (i := 9) (oi := ?oi9s) (v := ?v9s) ?hi9s ?hs9s ?hf9s ?hr9s ?hQ9s ?hy9s ?hS9s ?h9s
        case hi9s => exact (by simp only [List.getElem?_toArray, List.getElem?_cons_succ, List.getElem?_cons_zero]; rfl)
        case hs9s => kernel_rfl
        case hf9s => kernel_rfl
        case hr9s => kernel_rfl
        case hQ9s => exact fun _ _ _ h => h
        case hy9s =>
          refine Or.inl ⟨rfl, ?_⟩
          intro W hSw
          obtain ⟨⟨z0, z1, z2, z3, z4⟩, z5⟩ := hSw
          go_simp
          try with_reducible rfl
        case hS9s => assumption
        try simp only [Act.put, List.setIfInBounds_toArray, List.set_cons_zero, List.set_cons_succ]
        refine wpAnyH_take (i := 10) (oi := ?oi10s) (v := ?v10s) ?hi10s ?hs10s ?hf10s ?hr10s ?hQ10s ?hy10s ?hS10s ?h10s
        case hi10s => exact (by simp only [List.getElem?_toArray, List.getElem?_cons_succ, List.getElem?_cons_zero]; rfl)
        case hs10s => kernel_rfl
        case hf10s => kernel_rfl
        case hr10s => kernel_rfl
        case hQ10s => exact fun _ _ _ h => h
        case hy10s =>
          refine Or.inl ⟨rfl, ?_⟩
          intro W hSw
          obtain ⟨⟨z0, z1, z2, z3, z4⟩, z5⟩ := hSw
          go_simp
          try with_reducible rfl
        case hS10s => assumption
        try simp only [Act.put, List.setIfInBounds_toArray, List.set_cons_zero, List.set_cons_succ]
        refine wpAnyH_take (i := 11) (oi := ?oi11s) (v := ?v11s) ?hi11s ?hs11s ?hf11s ?hr11s ?hQ11s ?hy11s ?hS11s ?h11s
        case hi11s => exact (by simp only [List.getElem?_toArray, List.getElem?_cons_succ, List.getElem?_cons_zero]; rfl)
        case hs11s => kernel_rfl
        case hf11s => kernel_rfl
        case hr11s => kernel_rfl
        case hQ11s => exact fun _ _ _ h => h
        case hy11s =>
          refine Or.inl ⟨rfl, ?_⟩
          intro W hSw
          obtain ⟨⟨z0, z1, z2, z3, z4⟩, z5⟩ := hSw
          go_simp
          try with_reducible rfl
        case hS11s => assumption
        try simp only [Act.put, List.setIfInBounds_toArray, List.set_cons_zero, List.set_cons_succ]
        refine wpAnyH_take (i := 12) (oi := ?oi12s) (v := ?v12s) ?hi12s ?hs12s ?hf12s ?hr12s ?hQ12s ?hy12s ?hS12s ?h12s
        case hi12s => exact (by simp only [List.getElem?_toArray, List.getElem?_cons_succ, List.getElem?_cons_zero]; rfl)
        case hs12s => kernel_rfl
        case hf12s => kernel_rfl
        case hr12s => kernel_rfl
        case hQ12s => exact fun _ _ _ h => h
        case hy12s =>
          refine Or.inl ⟨rfl, ?_⟩
          intro W hSw
          obtain ⟨⟨z0, z1, z2, z3, z4⟩, z5⟩ := hSw
          go_simp
          try with_reducible rfl
        case hS12s => assumption
        try simp only [Act.put, List.setIfInBounds_toArray, List.set_cons_zero, List.set_cons_succ]
        refine wpAnyH_take (i := 13) (oi := ?oi13s) (v := ?v13s) ?hi13s ?hs13s ?hf13s ?hr13s ?hQ13s ?hy13s ?hS13s ?h13s
        case hi13s => exact (by simp only [List.getElem?_toArray, List.getElem?_cons_succ, List.getElem?_cons_zero]; rfl)
        case hs13s => kernel_rfl
        case hf13s => kernel_rfl
        case hr13s => kernel_rfl
        case hQ13s => exact fun _ _ _ h => h
        case hy13s =>
          refine Or.inl ⟨rfl, ?_⟩
          intro W hSw
          obtain ⟨⟨z0, z1, z2, z3, z4⟩, z5⟩ := hSw
          go_simp
          try with_reducible rfl
        case hS13s => assumption
        try simp only [Act.put, List.setIfInBounds_toArray, List.set_cons_zero, List.set_cons_succ]
        refine wpAnyH_take (i := 14) (oi := ?oi14s) (v := ?v14s) ?hi14s ?hs14s ?hf14s ?hr14s ?hQ14s ?hy14s ?hS14s ?h14s
        case hi14s => exact (by simp only [List.getElem?_toArray, List.getElem?_cons_succ, List.getElem?_cons_zero]; rfl)
        case hs14s => kernel_rfl
        case hf14s => kernel_rfl
        case hr14s => kernel_rfl
        case hQ14s => exact fun _ _ _ h => h
        case hy14s =>
          refine Or.inl ⟨rfl, ?_⟩
          intro W hSw
          obtain ⟨⟨z0, z1, z2, z3, z4⟩, z5⟩ := hSw
          go_simp
          try with_reducible rfl
        case hS14s => assumption
        try simp only [Act.put, List.setIfInBounds_toArray, List.set_cons_zero, List.set_cons_succ]
        refine wpAnyH_done (by kernel_rfl) ?_ _
        go_upto_region 12 with (fail)
        have HDd : Hid (Below w4.heap.size w4 Ws1.drew) := HBs1.out.drew
        refine wp_region_held_drew (S := fun W : World => (W.cell? ⟨Gm, 0, none⟩ = some (.int .i64 m.k) ∧ W.cell? ⟨Gm, 1, none⟩ = some (.int .i64 m.b) ∧ W.cell? ⟨Gm, 2, none⟩ = some (.int .i64 m.s) ∧ W.cell? ⟨Gm, 3, none⟩ = some (.int .i64 m.c) ∧ W.cell? ⟨Gm, 4, none⟩ = some (.int .i64 m.e)) ∧ W.cell? ⟨w.heap.size, 5, none⟩ = some (.int .i64 now)) (by kernel_rfl) (HCF.out _ (HDd.out)) (fun hHeld => ?_)
        obtain ⟨Wd0, hW0⟩ : ∃ W0, W0 = Ws1.drew := ⟨_, rfl⟩
        rw [← hW0] at hHeld HDd ⊢
        clear hW0
        refine wpAnyH_take (i := 0) (oi := ?oi0d) (v := ?v0d) ?hi0d ?hs0d ?hf0d ?hr0d ?hQ0d ?hy0d ?hS0d ?h0d
        case hi0d => exact (by simp only [List.getElem?_toArray, List.getElem?_cons_zero]; rfl)
        case hs0d => kernel_rfl
        case hf0d => kernel_rfl
        case hr0d => kernel_rfl
        case hQ0d => exact fun _ _ _ h => h
        case hy0d =>
          refine Or.inl ⟨rfl, ?_⟩
          intro W hSw
          obtain ⟨⟨z0, z1, z2, z3, z4⟩, z5⟩ := hSw
          go_simp
          try with_reducible rfl
        case hS0d => assumption
        try simp only [Act.put, List.setIfInBounds_toArray, List.set_cons_zero, List.set_cons_succ]
        refine wpAnyH_take (i := 1) (oi := ?oi1d) (v := ?v1d) ?hi1d ?hs1d ?hf1d ?hr1d ?hQ1d ?hy1d ?hS1d ?h1d
        case hi1d => exact (by simp only [List.getElem?_toArray, List.getElem?_cons_succ, List.getElem?_cons_zero]; rfl)
        case hs1d => kernel_rfl
        case hf1d => kernel_rfl
        case hr1d => kernel_rfl
        case hQ1d => exact fun _ _ _ h => h
        case hy1d =>
          refine Or.inl ⟨rfl, ?_⟩
          intro W hSw
          obtain ⟨⟨z0, z1, z2, z3, z4⟩, z5⟩ := hSw
          go_simp
          try with_reducible rfl
        case hS1d => assumption
        try simp only [Act.put, List.setIfInBounds_toArray, List.set_cons_zero, List.set_cons_succ]
        refine wpAnyH_take (i := 2) (oi := ?oi2d) (v := ?v2d) ?hi2d ?hs2d ?hf2d ?hr2d ?hQ2d ?hy2d ?hS2d ?h2d
        case hi2d => exact (by simp only [List.getElem?_toArray, List.getElem?_cons_succ, List.getElem?_cons_zero]; rfl)
        case hs2d => kernel_rfl
        case hf2d => kernel_rfl
        case hr2d => kernel_rfl
        case hQ2d => exact fun _ _ _ h => h
        case hy2d =>
          refine Or.inl ⟨rfl, ?_⟩
          intro W hSw
          obtain ⟨⟨z0, z1, z2, z3, z4⟩, z5⟩ := hSw
          go_simp
          try with_reducible rfl
        case hS2d => assumption
        try simp only [Act.put, List.setIfInBounds_toArray, List.set_cons_zero, List.set_cons_succ]
        refine wpAnyH_take (i := 3) (oi := ?oi3d) (v := ?v3d) ?hi3d ?hs3d ?hf3d ?hr3d ?hQ3d ?hy3d ?hS3d ?h3d
        case hi3d => exact (by simp only [List.getElem?_toArray, List.getElem?_cons_succ, List.getElem?_cons_zero]; rfl)
        case hs3d => kernel_rfl
        case hf3d => kernel_rfl
        case hr3d => kernel_rfl
        case hQ3d => exact fun _ _ _ h => h
        case hy3d =>
          refine Or.inl ⟨rfl, ?_⟩
          intro W hSw
          obtain ⟨⟨z0, z1, z2, z3, z4⟩, z5⟩ := hSw
          go_simp
          try with_reducible rfl
        case hS3d => assumption
        try simp only [Act.put, List.setIfInBounds_toArray, List.set_cons_zero, List.set_cons_succ]
        refine wpAnyH_take (i := 4) (oi := ?oi4d) (v := ?v4d) ?hi4d ?hs4d ?hf4d ?hr4d ?hQ4d ?hy4d ?hS4d ?h4d
        case hi4d => exact (by simp only [List.getElem?_toArray, List.getElem?_cons_succ, List.getElem?_cons_zero]; rfl)
        case hs4d => kernel_rfl
        case hf4d => kernel_rfl
        case hr4d => kernel_rfl
        case hQ4d => exact fun _ _ _ h => h
        case hy4d =>
          refine Or.inl ⟨rfl, ?_⟩
          intro W hSw
          obtain ⟨⟨z0, z1, z2, z3, z4⟩, z5⟩ := hSw
          go_simp
          try with_reducible rfl
        case hS4d => assumption
        try simp only [Act.put, List.setIfInBounds_toArray, List.set_cons_zero, List.set_cons_succ]
        refine wpAnyH_take (i := 5) (oi := ?oi5d) (v := (.int .i64 ((k : Int) + 1))) ?hi5d ?hs5d ?hf5d ?hr5d ?hQ5d ?hy5d ?hS5d ?h5d
        case hi5d => exact (by simp only [List.getElem?_toArray, List.getElem?_cons_succ, List.getElem?_cons_zero]; rfl)
        case hs5d => kernel_rfl
        case hf5d => kernel_rfl
        case hr5d => kernel_rfl
        case hQ5d => exact fun _ _ _ h => h
        case hy5d =>
          refine Or.inl ⟨rfl, ?_⟩
          intro W hSw
          have z9 := HWK.out
          go_simp
          try simp [z9]
        case hS5d => assumption
        try simp only [Act.put, List.setIfInBounds_toArray, List.set_cons_zero, List.set_cons_succ]
        refine wpAnyH_take (i := 6) (oi := ?oi6d) (v := (.slice (some AD) nd cd)) ?hi6d ?hs6d ?hf6d ?hr6d ?hQ6d ?hy6d ?hS6d ?h6d
        case hi6d => exact (by simp only [List.getElem?_toArray, List.getElem?_cons_succ, List.getElem?_cons_zero]; rfl)
        case hs6d => kernel_rfl
        case hf6d => kernel_rfl
        case hr6d => kernel_rfl
        case hQ6d => exact fun _ _ _ h => h
        case hy6d =>
          refine Or.inl ⟨rfl, ?_⟩
          intro W hSw
          have z9 := HSD.out W
          go_simp
          try simp [z9]
        case hS6d => assumption
        try simp only [Act.put, List.setIfInBounds_toArray, List.set_cons_zero, List.set_cons_succ]
        refine wpAnyH_take (i := 7) (oi := ?oi7d) (v := ?v7d) ?hi7d ?hs7d ?hf7d ?hr7d ?hQ7d ?hy7d ?hS7d ?h7d
        case hi7d => exact (by simp only [List.getElem?_toArray, List.getElem?_cons_succ, List.getElem?_cons_zero]; rfl)
        case hs7d => kernel_rfl
        case hf7d => kernel_rfl
        case hr7d => kernel_rfl
        case hQ7d => exact fun _ _ _ h => h
        case hy7d =>
          refine Or.inl ⟨rfl, ?_⟩
          intro W hSw
          obtain ⟨⟨z0, z1, z2, z3, z4⟩, z5⟩ := hSw
          go_simp
          try with_reducible rfl
        case hS7d => assumption
        try simp only [Act.put, List.setIfInBounds_toArray, List.set_cons_zero, List.set_cons_succ]
        refine wpAnyH_ready (rs := [8]) (by kernel_rfl) (by simp) ?_
        refine AllReadyH.cons (o := _) rfl (fun K hK => ?_) AllReadyH.nil
        go_simp
        refine (HFDD.out Wd0 (HTD.out.later HDd.out (Nat.le_refl _)) (HM4.out.rs.later HDd.out (Nat.le_refl _))).mono ?_
        rintro r Wd1 ⟨rfl, hbq⟩
        have HBd1 := Lib.hid (HDd.out.trans (hbq.mono HDd.out.size))
        clear hbq
        refine hK.out _ _ (HCF.out _ (HBd1.out)) (fun hHeld => ?_)
        clear hK K
        try simp only [Act.put, List.setIfInBounds_toArray, List.set_cons_zero, List.set_cons_succ]
        refine wpAnyH_take (i := 9) (oi := ?oi9d) (v := ?v9d) ?hi9d ?hs9d ?hf9d ?hr9d ?hQ9d ?hy9d ?hS9d ?h9d
        case hi9d => exact (by simp only [List.getElem?_toArray, List.getElem?_cons_succ, List.getElem?_cons_zero]; rfl)
        case hs9d => kernel_rfl
        case hf9d => kernel_rfl
        case hr9d => kernel_rfl
        case hQ9d => exact fun _ _ _ h => h
        case hy9d =>
          refine Or.inl ⟨rfl, ?_⟩
          intro W hSw
          obtain ⟨⟨z0, z1, z2, z3, z4⟩, z5⟩ := hSw
          go_simp
          try with_reducible rfl
        case hS9d => assumption
        try simp only [Act.put, List.setIfInBounds_toArray, List.set_cons_zero, List.set_cons_succ]
        refine wpAnyH_take (i := 10) (oi := ?oi10d) (v := ?v10d) ?hi10d ?hs10d ?hf10d ?hr10d ?hQ10d ?hy10d ?hS10d ?h10d
        case hi10d => exact (by simp only [List.getElem?_toArray, List.getElem?_cons_succ, List.getElem?_cons_zero]; rfl)
        case hs10d => kernel_rfl
        case hf10d => kernel_rfl
        case hr10d => kernel_rfl
        case hQ10d => exact fun _ _ _ h => h
        case hy10d =>
          refine Or.inl ⟨rfl, ?_⟩
          intro W hSw
          obtain ⟨⟨z0, z1, z2, z3, z4⟩, z5⟩ := hSw
          go_simp
          try with_reducible rfl
        case hS10d => assumption
        try simp only [Act.put, List.setIfInBounds_toArray, List.set_cons_zero, List.set_cons_succ]
        refine wpAnyH_take (i := 11) (oi := ?oi11d) (v := ?v11d) ?hi11d ?hs11d ?hf11d ?hr11d ?hQ11d ?hy11d ?hS11d ?h11d
        case hi11d => exact (by simp only [List.getElem?_toArray, List.getElem?_cons_succ, List.getElem?_cons_zero]; rfl)
        case hs11d => kernel_rfl
        case hf11d => kernel_rfl
        case hr11d => kernel_rfl
        case hQ11d => exact fun _ _ _ h => h
        case hy11d =>
          refine Or.inl ⟨rfl, ?_⟩
          intro W hSw
          obtain ⟨⟨z0, z1, z2, z3, z4⟩, z5⟩ := hSw
          go_simp
          try with_reducible rfl
        case hS11d => assumption
        try simp only [Act.put, List.setIfInBounds_toArray, List.set_cons_zero, List.set_cons_succ]
        refine wpAnyH_take (i := 12) (oi := ?oi12d) (v := ?v12d) ?hi12d ?hs12d ?hf12d ?hr12d ?hQ12d ?hy12d ?hS12d ?h12d
        case hi12d => exact (by simp only [List.getElem?_toArray, List.getElem?_cons_succ, List.getElem?_cons_zero]; rfl)
        case hs12d => kernel_rfl
        case hf12d => kernel_rfl
        case hr12d => kernel_rfl
        case hQ12d => exact fun _ _ _ h => h
        case hy12d =>
          refine Or.inl ⟨rfl, ?_⟩
          intro W hSw
          obtain ⟨⟨z0, z1, z2, z3, z4⟩, z5⟩ := hSw
          go_simp
          try with_reducible rfl
        case hS12d => assumption
        try simp only [Act.put, List.setIfInBounds_toArray, List.set_cons_zero, List.set_cons_succ]
        refine wpAnyH_take (i := 13) (oi := ?oi13d) (v := ?v13d) ?hi13d ?hs13d ?hf13d ?hr13d ?hQ13d ?hy13d ?hS13d ?h13d
        case hi13d => exact (by simp only [List.getElem?_toArray, List.getElem?_cons_succ, List.getElem?_cons_zero]; rfl)
        case hs13d => kernel_rfl
        case hf13d => kernel_rfl
        case hr13d => kernel_rfl
        case hQ13d => exact fun _ _ _ h => h
        case hy13d =>
          refine Or.inl ⟨rfl, ?_⟩
          intro W hSw
          obtain ⟨⟨z0, z1, z2, z3, z4⟩, z5⟩ := hSw
          go_simp
          try with_reducible rfl
        case hS13d => assumption
        try simp only [Act.put, List.setIfInBounds_toArray, List.set_cons_zero, List.set_cons_succ]
        refine wpAnyH_take (i := 14) (oi := ?oi14d) (v := ?v14d) ?hi14d ?hs14d ?hf14d ?hr14d ?hQ14d ?hy14d ?hS14d ?h14d
        case hi14d => exact (by simp only [List.getElem?_toArray, List.getElem?_cons_succ, List.getElem?_cons_zero]; rfl)
        case hs14d => kernel_rfl
        case hf14d => kernel_rfl
        case hr14d => kernel_rfl
        case hQ14d => exact fun _ _ _ h => h
        case hy14d =>
          refine Or.inl ⟨rfl, ?_⟩
          intro W hSw
          obtain ⟨⟨z0, z1, z2, z3, z4⟩, z5⟩ := hSw
          go_simp
          try with_reducible rfl
        case hS14d => assumption
        try simp only [Act.put, List.setIfInBounds_toArray, List.set_cons_zero, List.set_cons_succ]
        refine wpAnyH_take (i := 15) (oi := ?oi15d) (v := ?v15d) ?hi15d ?hs15d ?hf15d ?hr15d ?hQ15d ?hy15d ?hS15d ?h15d
        case hi15d => exact (by simp only [List.getElem?_toArray, List.getElem?_cons_succ, List.getElem?_cons_zero]; rfl)
        case hs15d => kernel_rfl
        case hf15d => kernel_rfl
        case hr15d => kernel_rfl
        case hQ15d => exact fun _ _ _ h => h
        case hy15d =>
          refine Or.inl ⟨rfl, ?_⟩
          intro W hSw
          obtain ⟨⟨z0, z1, z2, z3, z4⟩, z5⟩ := hSw
          go_simp
          try with_reducible rfl
        case hS15d => assumption
        try simp only [Act.put, List.setIfInBounds_toArray, List.set_cons_zero, List.set_cons_succ]
        refine wpAnyH_done (by kernel_rfl) ?_ _
        go_upto_region 13 with (fail)
        have HDr : Hid (Below w4.heap.size w4 Wd1.drew) := HBd1.out.drew
        refine wp_region_held_drew (S := fun W : World => True) (by kernel_rfl) trivial (fun hHeld => ?_)
        obtain ⟨wr0, hW0⟩ : ∃ W0, W0 = Wd1.drew := ⟨_, rfl⟩
        rw [← hW0] at HDr ⊢
        clear hW0
        refine wpAnyH_take (i := 0) (oi := ?oi0a) (v := ?v0a) ?hi0a ?hs0a ?hf0a ?hr0a ?hQ0a ?hy0a ?hS0a ?h0a
        case hi0a => exact (by simp only [List.getElem?_toArray, List.getElem?_cons_zero]; rfl)
        case hs0a => kernel_rfl
        case hf0a => kernel_rfl
        case hr0a => kernel_rfl
        case hQ0a => exact fun _ _ _ h => h
        case hy0a =>
          refine Or.inl ⟨rfl, ?_⟩
          intro W hSw
          go_simp
          try with_reducible rfl
        case hS0a => assumption
        try simp only [Act.put, List.setIfInBounds_toArray, List.set_cons_zero, List.set_cons_succ]
        refine wpAnyH_take (i := 1) (oi := ?oi1a) (v := (.slice (some ⟨g7, 0, none⟩) 0 0)) ?hi1a ?hs1a ?hf1a ?hr1a ?hQ1a ?hy1a ?hS1a ?h1a
        case hi1a => exact (by simp only [List.getElem?_toArray, List.getElem?_cons_succ, List.getElem?_cons_zero]; rfl)
        case hs1a => kernel_rfl
        case hf1a => kernel_rfl
        case hr1a => kernel_rfl
        case hQ1a => exact fun _ _ _ h => h
        case hy1a =>
          refine Or.inl ⟨rfl, ?_⟩
          intro W hSw
          have z9 := HSZ.out W
          go_simp
          try simp [z9]
        case hS1a => assumption
        try simp only [Act.put, List.setIfInBounds_toArray, List.set_cons_zero, List.set_cons_succ]
        refine wpAnyH_take (i := 2) (oi := ?oi2a) (v := ?v2a) ?hi2a ?hs2a ?hf2a ?hr2a ?hQ2a ?hy2a ?hS2a ?h2a
        case hi2a => exact (by simp only [List.getElem?_toArray, List.getElem?_cons_succ, List.getElem?_cons_zero]; rfl)
        case hs2a => kernel_rfl
        case hf2a => kernel_rfl
        case hr2a => kernel_rfl
        case hQ2a => exact fun _ _ _ h => h
        case hy2a =>
          refine Or.inl ⟨rfl, ?_⟩
          intro W hSw
          go_simp
          try with_reducible rfl
        case hS2a => assumption
        try simp only [Act.put, List.setIfInBounds_toArray, List.set_cons_zero, List.set_cons_succ]
        refine wpAnyH_take (i := 3) (oi := ?oi3a) (v := ?v3a) ?hi3a ?hs3a ?hf3a ?hr3a ?hQ3a ?hy3a ?hS3a ?h3a
        case hi3a => exact (by simp only [List.getElem?_toArray, List.getElem?_cons_succ, List.getElem?_cons_zero]; rfl)
        case hs3a => kernel_rfl
        case hf3a => kernel_rfl
        case hr3a => kernel_rfl
        case hQ3a => exact fun _ _ _ h => h
        case hy3a =>
          refine Or.inl ⟨rfl, ?_⟩
          intro W hSw
          go_simp
          try with_reducible rfl
        case hS3a => assumption
        try simp only [Act.put, List.setIfInBounds_toArray, List.set_cons_zero, List.set_cons_succ]
        refine wpAnyH_take (i := 4) (oi := ?oi4a) (v := (.slice A8 k c8)) ?hi4a ?hs4a ?hf4a ?hr4a ?hQ4a ?hy4a ?hS4a ?h4a
        case hi4a => exact (by simp only [List.getElem?_toArray, List.getElem?_cons_succ, List.getElem?_cons_zero]; rfl)
        case hs4a => kernel_rfl
        case hf4a => kernel_rfl
        case hr4a => kernel_rfl
        case hQ4a => exact fun _ _ _ h => h
        case hy4a =>
          refine Or.inl ⟨rfl, ?_⟩
          intro W hSw
          have z9 := HSL.out W
          go_simp
          try simp [z9]
        case hS4a => assumption
        try simp only [Act.put, List.setIfInBounds_toArray, List.set_cons_zero, List.set_cons_succ]
        refine wpAnyH_take (i := 6) (oi := ?oi6a) (v := ?v6a) ?hi6a ?hs6a ?hf6a ?hr6a ?hQ6a ?hy6a ?hS6a ?h6a
        case hi6a => exact (by simp only [List.getElem?_toArray, List.getElem?_cons_succ, List.getElem?_cons_zero]; rfl)
        case hs6a => kernel_rfl
        case hf6a => kernel_rfl
        case hr6a => kernel_rfl
        case hQ6a => exact fun _ _ _ h => h
        case hy6a =>
          refine Or.inl ⟨rfl, ?_⟩
          intro W hSw
          go_simp
          try with_reducible rfl
        case hS6a => assumption
        try simp only [Act.put, List.setIfInBounds_toArray, List.set_cons_zero, List.set_cons_succ]
        refine wpAnyH_take (i := 7) (oi := ?oi7a) (v := ?v7a) ?hi7a ?hs7a ?hf7a ?hr7a ?hQ7a ?hy7a ?hS7a ?h7a
        case hi7a => exact (by simp only [List.getElem?_toArray, List.getElem?_cons_succ, List.getElem?_cons_zero]; rfl)
        case hs7a => kernel_rfl
        case hf7a => kernel_rfl
        case hr7a => kernel_rfl
        case hQ7a => exact fun _ _ _ h => h
        case hy7a =>
          refine Or.inl ⟨rfl, ?_⟩
          intro W hSw
          go_simp
          try with_reducible rfl
        case hS7a => assumption
        try simp only [Act.put, List.setIfInBounds_toArray, List.set_cons_zero, List.set_cons_succ]
        refine wpAnyH_take (i := 8) (oi := ?oi8a) (v := (.int .i64 ((k : Int) + 1))) ?hi8a ?hs8a ?hf8a ?hr8a ?hQ8a ?hy8a ?hS8a ?h8a
        case hi8a => exact (by simp only [List.getElem?_toArray, List.getElem?_cons_succ, List.getElem?_cons_zero]; rfl)
        case hs8a => kernel_rfl
        case hf8a => kernel_rfl
        case hr8a => kernel_rfl
        case hQ8a => exact fun _ _ _ h => h
        case hy8a =>
          refine Or.inl ⟨rfl, ?_⟩
          intro W hSw
          have z9 := HWK.out
          go_simp
          try simp [z9]
        case hS8a => assumption
        try simp only [Act.put, List.setIfInBounds_toArray, List.set_cons_zero, List.set_cons_succ]
        refine wpAnyH_take (i := 9) (oi := ?oi9a) (v := (.slice (some AD) nd cd)) ?hi9a ?hs9a ?hf9a ?hr9a ?hQ9a ?hy9a ?hS9a ?h9a
        case hi9a => exact (by simp only [List.getElem?_toArray, List.getElem?_cons_succ, List.getElem?_cons_zero]; rfl)
        case hs9a => kernel_rfl
        case hf9a => kernel_rfl
        case hr9a => kernel_rfl
        case hQ9a => exact fun _ _ _ h => h
        case hy9a =>
          refine Or.inl ⟨rfl, ?_⟩
          intro W hSw
          have z9 := HSD.out W
          go_simp
          try simp [z9]
        case hS9a => assumption
        try simp only [Act.put, List.setIfInBounds_toArray, List.set_cons_zero, List.set_cons_succ]
        refine wpAnyH_ready (rs := [5]) (by kernel_rfl) (by simp) ?_
        refine AllReadyH.cons (o := _) rfl (fun K hK => ?_) AllReadyH.nil
        obtain ⟨A80, hA80⟩ : ∃ ad, A8 = some ad := HA8S.out
        subst hA80
        refine step_app rfl _ _ rfl w4.heap.size 0 k c8 (.slice (some ⟨g7, 0, none⟩) 0 0) [] (lt.take k) A80 rfl rfl (.inl ⟨rfl, rfl, _, rfl⟩) HLTK.out (fun h0 j u hj => by
          have e := HA8.out h0
          injection e with e
          rw [e, Go.WideShapes.add_plain, Nat.zero_add]
          exact HOC.out _ HDr.out j u (by
            have hj2 := (List.getElem?_eq_some_iff.1 hj).1
            rw [fr_len, HLTK.out] at hj2
            rw [← List.take_append_drop k lt, fr_append, List.getElem?_append_left (by rw [fr_len, HLTK.out]; exact hj2)]
            exact hj)) (by omega) HDr.out.size ?_
        intro v5 wr1 hr1 hb1
        change K (Act.put _ (some 89) v5) wr1
        have HR1 : Hid (Ro wr1 w4.heap.size v5 k (lt.take k)) := by
          have h := hr1
          rw [Nat.zero_add, List.nil_append] at h
          exact h
        have HE1 : Hid (Below w4.heap.size w4 wr1) := HDr.out.trans hb1
        clear hr1 hb1
        obtain ⟨A5, c5, hv5, -⟩ := HR1.out.form
        subst hv5
        refine hK.out _ _ trivial (fun hHeld => ?_)
        clear hK K
        try simp only [Act.put, List.setIfInBounds_toArray, List.set_cons_zero, List.set_cons_succ]
        refine wpAnyH_ready (rs := [10]) (by kernel_rfl) (by simp) ?_
        refine AllReadyH.cons (o := _) rfl (fun K hK => ?_) AllReadyH.nil
        refine step_app rfl _ _ rfl w4.heap.size k nd cd (.slice A5 k c5) (lt.take k) (lt.drop (k + 1)) AD rfl rfl HR1.out HLTD.out (fun h0 j u hj => by
          rw [HADE.out h0, Go.WideShapes.add_plain]
          exact HOC.out _ HE1.out _ u (by
            have hlk : (fr (lt.take (k + 1))).length = (k + 1) * 5 := by rw [fr_len, List.length_take, HLTL.out]; have := HKN.out; rw [Nat.min_eq_left (by omega)]
            rw [Nat.zero_add, ← List.take_append_drop (k + 1) lt, fr_append, List.getElem?_append_right (by rw [hlk]; omega), hlk, Nat.add_sub_cancel_left]
            exact hj)) (by have := HND1.out; omega) HE1.out.size ?_
        intro v6 wr2 hr2 hb2
        change K (Act.put _ (some 94) v6) wr2
        have HR2 := Lib.hid hr2
        have HE2 : Hid (Below w4.heap.size w4 wr2) := HE1.out.trans hb2
        clear hr2 hb2
        obtain ⟨AR, cr, hv6, htr⟩ := HR2.out.form
        subst hv6
        have HTR : Hid (Ts wr2 wr2.heap.size AR (l.take k ++ l.drop (k + 1))) := by
          have h := htr
          rw [List.map_append, List.map_take, List.map_drop, HM4.out.2.2.2.2.2] at h
          exact h
        clear htr
        refine hK.out _ _ trivial (fun hHeld => ?_)
        clear hK K
        try simp only [Act.put, List.setIfInBounds_toArray, List.set_cons_zero, List.set_cons_succ]
        refine wpAnyH_take (i := 11) (oi := ?oi11a) (v := ?v11a) ?hi11a ?hs11a ?hf11a ?hr11a ?hQ11a ?hy11a ?hS11a ?h11a
        case hi11a => exact (by simp only [List.getElem?_toArray, List.getElem?_cons_succ, List.getElem?_cons_zero]; rfl)
        case hs11a => kernel_rfl
        case hf11a => kernel_rfl
        case hr11a => kernel_rfl
        case hQ11a => exact fun _ _ _ h => h
        case hy11a =>
          refine Or.inl ⟨rfl, ?_⟩
          intro W hSw
          go_simp
          try with_reducible rfl
        case hS11a => assumption
        try simp only [Act.put, List.setIfInBounds_toArray, List.set_cons_zero, List.set_cons_succ]
        refine wpAnyH_done (by kernel_rfl) ?_ _
        obtain ⟨⟨z0, z1, z2, z3, z4⟩, z5⟩ := HCF.out wr2 HE2.out
        go_wp2_with fail
        refine (HFR.out wr2 AR cr HTR.out (HM4.out.rs.later HE2.out (Nat.le_refl _))).mono ?_
        rintro r wt ⟨rfl, hbt⟩
        have HBF : Hid (Below w0.heap.size w0 wt) := HB4.out.trans ((HE2.out.trans (hbt.mono HE2.out.size)).mono HB4.out.size)
        clear hbt z0 z1 z2 z3 z4 z5
        rcases HRES.out with ⟨rfl, rfl⟩ | ⟨rfl, rfl, hda1, hda2, rfl⟩
        · skip
          go_wp2_with fail
          refine (HAW.out wt).mono ?_
          rintro r wz ⟨rfl, hbz⟩
          have HBz : Hid (Below w0.heap.size w0 wz) := HBF.out.trans (hbz.mono HBF.out.size)
          clear hbz
          go_wp2
          go_ret
          exact ⟨rfl, HB0.out.trans (HBz.out.mono HB0.out.size)⟩
        · have hkn2 : (k : Int) < 20 := by have := HKN.out; omega
          go_wp2_with fail
          refine (HAW.out wt).mono ?_
          rintro r wz ⟨rfl, hbz⟩
          have HBz : Hid (Below w0.heap.size w0 wz) := HBF.out.trans (hbz.mono HBF.out.size)
          clear hbz
          go_wp2
          go_ret
          exact ⟨rfl, HB0.out.trans (HBz.out.mono HB0.out.size)⟩
  · clear hg
    go_wp2
    go_ret
    exact ⟨rfl, HB0.out.trans (HB1.out.mono HB0.out.size)⟩
end Go.Proofs.Ytccabdhfnjlbdaa
