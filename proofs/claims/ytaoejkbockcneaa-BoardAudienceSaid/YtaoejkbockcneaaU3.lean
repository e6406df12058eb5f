/- Board: Flush of a board of one player at most. -/
import Derived.Test.YtaoejkbockcneaaU2
import Derived.Maps.RangeWalk
import Derived.Sort.OwnSorted
import Derived.Maps.AppendAt
namespace Go.Proofs.Ytaoejkbockcneaa.Bd
open Go.RowKit Go.Maps
set_option maxRecDepth 20000

theorem Dn_none {p : Nat} {s t : Int} (h : ∀ k, has (Dn p s t) k = false) : s = 0 ∧ t = 0 := by
  by_cases c : s = 0 ∧ t = 0
  · exact c
  · have := h (kl p)
    rw [Dn_some p s t c, has_eq] at this
    simp [Lit.sameKey] at this
theorem Dn_hit {p : Nat} {s t : Int} {x : Int} (h : has (Dn p s t) (.int .u32 x) = true) : x = p ∧ ¬ (s = 0 ∧ t = 0) := by
  by_cases c : s = 0 ∧ t = 0
  · rw [c.1, c.2, Dn_zero, has_eq] at h
    simp at h
  · rw [Dn_some p s t c, has_eq] at h
    simp [Lit.sameKey] at h
    exact ⟨h.symm, c⟩
theorem Dn_strike {p : Nat} {s t : Int} (z : Lit) : (has (Dn p s t) z && !z.sameKey (.int .u32 (p : Int))) = false := by
  by_cases c : s = 0 ∧ t = 0
  · rw [c.1, c.2, Dn_zero, has_eq]
    simp
  · rw [Dn_some p s t c, has_eq]
    cases z <;> simp [Lit.sameKey]
    intro h1 h2
    try exact ⟨h1.symm, h2.symm⟩

abbrev cc (l : List (Int × Int)) : List Value := l.flatMap fun x => [.int .u32 x.1, .int .i64 x.2]
/-- What a flush tells. -/
def Res (p : Nat) (s t : Int) : List (Int × Int) := if seen s = t then [] else [((p : Int), seen s)]
theorem Res_len (p : Nat) (s t : Int) : (Res p s t).length ≤ 1 := by unfold Res; split <;> simp
theorem Res_start {p : Nat} {s t : Int} (h : ∀ k, has (Dn p s t) k = false) : [] = Res p s t := by
  obtain ⟨rfl, rfl⟩ := Dn_none h
  rfl
def Inv (p : Nat) (s t : Int) (left : Lit → Bool) (ss : List (Int × Int)) : Prop := (left = has (Dn p s t) ∧ ss = []) ∨ ((∀ k, left k = false) ∧ ss = Res p s t)
theorem Inv.done {p : Nat} {s t : Int} {left : Lit → Bool} {ss : List (Int × Int)} (h : Inv p s t left ss) (hl : ∀ k, left k = false) : ss = Res p s t := by
  rcases h with ⟨rfl, rfl⟩ | ⟨_, h⟩
  · exact Res_start hl
  · exact h
theorem Inv.hit {p : Nat} {s t : Int} {left : Lit → Bool} {ss : List (Int × Int)} (h : Inv p s t left ss) {x : Int} (hl : left (.int .u32 x) = true) : x = p ∧ ss = [] ∧ ¬ (s = 0 ∧ t = 0) ∧ ∀ k, (left k && !k.sameKey (.int .u32 x)) = false := by
  rcases h with ⟨rfl, rfl⟩ | ⟨h, _⟩
  · obtain ⟨rfl, c⟩ := Dn_hit hl
    exact ⟨rfl, rfl, c, fun k => Dn_strike k⟩
  · rw [h] at hl
    cases hl
theorem info95 : (Try.prog.info? 95).map (fun i => (i.zero, i.size, i.bytes)) = some (some (.agg #[.int .u32 0, .int .i64 0]), 2, 16) := by kernel_rfl
theorem wpList_append_chg {w : World} {ops : Array Oper} {rest : List Oper} {op : Oper} {a : Act} {Q : Exit → Act → World → Prop} (hgd : op.guard = none) (s x : Operand)
    (ho : op.op = .call { callee := .builtin .append, args := #[s, x], argTypes := #[68, 68] }) (base G : Nat) (v : Value) (m : Nat) (l : List Value) (e1 e2 : Int) (hs : a.eval s = v) (hx : a.eval x = .slice (some ⟨G, 0, none⟩) 1 1)
    (hown : w.ownsRow base 95 2 v m l) (hG : w.heap[G]? = some (.cells #[.int .u32 e1, .int .i64 e2] 95 (0, 0))) (hm : m ≤ 1000) (hbase : base ≤ w.heap.size)
    (h : ∀ v' w', w'.ownsRow base 95 2 v' (m + 1) (l ++ [.int .u32 e1, .int .i64 e2]) → w.grownBy w' v.ownBlock → wpList Try.prog ops Q rest (a.put op.dst v') w') : wpList Try.prog ops Q (op :: rest) a w := by
  refine wpList_plain hgd fun K hK => ?_
  obtain ⟨i0, hi, hz0, hz1, hz2⟩ := info_parts info95
  obtain ⟨v', w', hr, h2, h3, _⟩ := run_append_own (P := Try.prog) w base 68 op.type 95 i0 _ 2 _ Try.underlying68 hi hz0 hz1 hz2 rfl (by decide) v m l hown ⟨G, 0, none⟩ 1 1 [.int .u32 e1, .int .i64 e2] rfl (fun j u hu => by
    have := cell_of_row w G j _ _ _ hG
    rw [List.getElem?_toArray, hu] at this
    rw [← this, Go.WideShapes.add_plain, Nat.zero_add]) (by
    intro u hu
    simp only [List.mem_cons, List.not_mem_nil, or_false] at hu
    rcases hu with rfl | rfl <;> rfl) (by unfold maxLen; omega) (by omega) hbase
  unfold Oper.wp execOp
  simp only [ho, resolve, invoke, builtin, Sem.run_bind, Sem.run_pure, Result.andThen_ok, List.map_toArray, List.map_cons, List.map_nil, hs, hx, hr]
  exact hK _ _ (h v' w' h2 h3)
/-- What a flush answers. -/
def Told (w w' : World) (p : Nat) (s t : Int) (v : Value) : Prop := (seen s = t ∧ ∃ a c, v = .slice a 0 c) ∨ (¬ seen s = t ∧ ∃ g c, v = .slice (some ⟨g, 0, none⟩) 1 c ∧ w.heap.size ≤ g ∧ w'.cell? ⟨g, 0, none⟩ = some (.int .u32 (p : Int)) ∧ w'.cell? ⟨g, 1, none⟩ = some (.int .i64 (seen s)))

set_option maxHeartbeats 8000000 in
theorem flush_any (L M cnt p : Nat) (s t : Int) (w : World) (hL : IsB w L M cnt (Dn p s t)) (hp : p < 4294967296) (hcnt : cnt ≤ 1000) :
    Calls Try.prog 31 #[.pointer (some ⟨L, 0, none⟩)] w fun r w' => (∃ v, r = .returned v ∧ Told w w' p s t v) ∧ IsB w' L M (cnt + 1) (Dn p s (seen s)) ∧ ChM M w w' := by
  have hML := hL.2.lt
  have hown := hL.2
  have c1 := cell_of_row w L 0 _ _ _ hL.1
  simp at c1
  obtain ⟨e, he⟩ : ∃ e, e = seen s := ⟨_, rfl⟩
  have HSN : Hid (∀ W, Calls Try.prog 36 #[.int .i64 s] W fun r w' => r = .returned (.int .i64 e) ∧ w' = W) := fun W => by rw [he]; exact seen_any s W
  have HE := Lib.hid he
  have HIL := Lib.hid hL
  clear he hL
  have HSO := Lib.hid sort_any
  go_enter Try.func31, Try.ntmps31
  go_wp2_with (first
    | (at_range; refine wpList_range_own _ rfl _ 114 rfl 26 120 K26 Try.underlying114 R M cnt _ rfl hown ?_; intro w0 hrg0 hg0 hs0)
    | go_in)
  go_frame
  go_loopw [3] (fun v wr => ∃ (left : Lit → Bool) (c : Nat) (ss : List (Int × Int)), wr.ranges Try.prog 26 R M w.heap.size cnt (Dn p s t) left c ∧ wr.ownsRow w.heap.size 95 2 v ss.length (cc ss) ∧ Inv p s t left ss ∧ Below w.heap.size w wr)
    (fun _ wr => wr.rangeLeft M w.heap.size)
  case atStart =>
    exact ⟨_, _, [], hrg0, World.ownsRow_nil _ _ _ _, Or.inl ⟨rfl, rfl⟩, (Below.refl _ _).grown hg0 (Nat.le_refl _) (fun j hj => by cases hj)⟩
  case round =>
    obtain ⟨left, c, ss, hrg, hrow, hI, hnx⟩ := hrel
    go_wp2_with (first
      | (at_next; refine wpList_next_ranges _ rfl _ rfl 26 K26 R (Value.int .u32) (fun st : Int × Int => nV st.1 st.2) (fun key kl hk => by obtain ⟨x, hx, _⟩ := Maps.keyOf_int_inv Try.underlying26 hk; exact ⟨x, hx⟩) (fun v y h => R_shape h) M w.heap.size cnt _ left c rfl hrg ?_ ?_)
      | go_in)
    · intro hc0 hl0
      obtain rfl := hI.done hl0
      by_cases hst : seen s = t
      · have hR : Res p s t = [] := by simp [Res, hst]
        rw [hR] at hrow
        have HX := Lib.hid hnx
        have HST := Lib.hid hst
        have HS0 := Lib.hid (fun a' c' f => sort_any a' 0 c' (by omega) f wr)
        have h0 := hrow.2
        clear hnx hst hI hl0 hrg hrow hown hrg0 hg0
        rcases h0 with ⟨rfl, hn0⟩ | ⟨g, cap, cur, rfl, hn0⟩ <;>
        · clear hn0
          go_wp2
          refine wp_loop_rounds 1 ?_
          rw [rounds_succ]
          go_wp2_with (go_at_call 50; refine (HS0.out _ _ _).mono ?_; rintro e w' ⟨rfl, rfl⟩)
          go_ret
          exact ⟨⟨_, rfl, Or.inl ⟨HST.out, _, _, rfl⟩⟩, by rw [HST.out]; exact ⟨(HIL.out.below HX.out).1, (HIL.out.below HX.out).2.mono (by omega)⟩, ChM.of_below HX.out⟩
      · have hR : Res p s t = [((p : Int), e)] := by simp [Res, hst, HE.out]
        rw [hR] at hrow
        rcases hrow.2 with ⟨rfl, hn0⟩ | ⟨g, cap, cur, rfl, hbase, hb, h1, h2, h3, h4⟩
        · simp at hn0
        have q0 : wr.cell? ⟨g, 0, none⟩ = some (.int .u32 (p : Int)) := by
          have h5 : (cur.toList.take 2)[0]? = some (.int .u32 (p : Int)) := by rw [show (2 : Nat) = [((p : Int), e)].length * 2 from rfl, h4]; rfl
          rw [List.getElem?_take_of_lt (by omega)] at h5
          rw [cell_of_row wr g 0 _ _ _ hb, ← h5, Array.getElem?_toList]
        have q1 : wr.cell? ⟨g, 1, none⟩ = some (.int .i64 e) := by
          have h5 : (cur.toList.take 2)[1]? = some (.int .i64 e) := by rw [show (2 : Nat) = [((p : Int), e)].length * 2 from rfl, h4]; rfl
          rw [List.getElem?_take_of_lt (by omega)] at h5
          rw [cell_of_row wr g 1 _ _ _ hb, ← h5, Array.getElem?_toList]
        have hglt := lt_of_block hb
        obtain ⟨w1, hw1⟩ : ∃ w1, w1 = wr.alloc (.cells #[.int .u32 (p : Int), .int .i64 e] 95) := ⟨_, rfl⟩
        have hb1 : Below wr.heap.size wr w1 := by rw [hw1]; exact (Below.refl _ _).alloc (Nat.le_refl _) _
        have hp1 : w1.heap[wr.heap.size]? = some (.cells #[.int .u32 (p : Int), .int .i64 e] 95 (0, 0)) := by rw [hw1]; exact heap_alloc_new wr _
        have hI1 := (HIL.out.below hnx).below hb1
        have HIW : Hid (∀ W, Below w1.heap.size w1 W → IsB W L M cnt (Dn p s t)) := fun W hW => hI1.below hW
        have HCE : Hid (∀ W, Below w1.heap.size w1 W → (fun W : World => W.cell? ⟨L, 0, none⟩ = some (.map (some M)) ∧ W.cell? ⟨wr.heap.size, 0, none⟩ = some (.int .u32 (p : Int)) ∧ W.cell? ⟨wr.heap.size, 1, none⟩ = some (.int .i64 e)) W) := fun W hW => by
          have e1 := (hI1.below hW).1
          have e2 := (hW.block _ (lt_of_block hp1)).trans hp1
          exact ⟨cell_of_row W _ 0 _ _ _ e1, cell_of_row W _ 0 _ _ _ e2, cell_of_row W _ 1 _ _ _ e2⟩
        have HLK : Hid (∀ W, Below w1.heap.size w1 W → (Instr.lookup 114 (.map (some M)) (.int .u32 (p : Int)) false).run Try.prog W = .ok (.agg #[.int .i64 s, .int .i64 t]) W) := fun W hW => by
          obtain ⟨v, ps, hlk, hv⟩ := (HIW.out W hW).2.lookup K26 Try.underlying114 (zero120 W) (R_mk 0 0) (key26 p hp)
          rw [Dn_at] at hv
          obtain rfl := R_inv hv
          exact hlk
        have HK : Hid (∀ W, Below w1.heap.size w1 W → Calls Try.prog 49 #[.pointer (some ⟨L, 0, none⟩), .int .u32 (p : Int), .agg #[.int .i64 s, .int .i64 e]] W fun r w' => r = .returned (.tuple #[]) ∧ IsB w' L M (cnt + 1) (Dn p s e) ∧ ChM M W w') := fun W hW => keep_any L M cnt p s t s e W (HIW.out W hW) hp hcnt
        have HSX : Hid (∀ W w5, Below w1.heap.size w1 W → IsB w5 L M (cnt + 1) (Dn p s e) → ChM M W w5 → (fun W : World => W.cell? ⟨L, 0, none⟩ = some (.map (some M)) ∧ W.cell? ⟨wr.heap.size, 0, none⟩ = some (.int .u32 (p : Int)) ∧ W.cell? ⟨wr.heap.size, 1, none⟩ = some (.int .i64 e)) w5) := fun W w5 hW hI5 hC5 => by
          have e2 := (hW.block _ (lt_of_block hp1)).trans hp1
          have hlt := lt_of_block e2
          have hne : wr.heap.size ≠ M := by have := hnx.size; omega
          have e3 := (hC5.2.1 _ hlt hne).trans e2
          exact ⟨cell_of_row w5 _ 0 _ _ _ hI5.1, cell_of_row w5 _ 0 _ _ _ e3, cell_of_row w5 _ 1 _ _ _ e3⟩
        have HS1 := Lib.hid (fun f W => sort_any (some ⟨g, 0, none⟩) 1 cap (by omega) f W)
        have HST := Lib.hid hst
        have HX := Lib.hid hnx
        have HH1 := Lib.hid hw1
        have HB1 := Lib.hid hb1
        have HG := Lib.hid (show w.heap.size ≤ g ∧ g < wr.heap.size ∧ g ≠ M from ⟨hbase, hglt, by omega⟩)
        have HQ := Lib.hid (show wr.cell? ⟨g, 0, none⟩ = some (.int .u32 (p : Int)) ∧ wr.cell? ⟨g, 1, none⟩ = some (.int .i64 e) from ⟨q0, q1⟩)
        clear hnx hst hI hl0 hrg hrow hown hrg0 hg0 hw1 hb1 hp1 hI1 hR hb h1 h2 h3 h4 hbase hglt
        go_wp2
        refine wp_loop_rounds 2 ?_
        rw [rounds_succ]
        go_upto_region 13 with (fail)
        rw [← HH1.out]
        clear q0 q1
        have HD : Hid (Below w1.heap.size w1 w1.drew) := (Below.refl _ _).drew
        refine wp_region_held_drew (S := fun W : World => W.cell? ⟨L, 0, none⟩ = some (.map (some M)) ∧ W.cell? ⟨wr.heap.size, 0, none⟩ = some (.int .u32 (p : Int)) ∧ W.cell? ⟨wr.heap.size, 1, none⟩ = some (.int .i64 e)) (by kernel_rfl) (HCE.out _ HD.out) (fun hHeld => ?_)
        obtain ⟨W0, hW0⟩ : ∃ W0, W0 = w1.drew := ⟨_, rfl⟩
        have HD0 : Hid (Below w1.heap.size w1 W0) := by rw [hW0]; exact HD.out
        rw [← hW0] at hHeld ⊢
        clear hW0
        refine wpAnyH_take (i := 0) (oi := ?oi0a) (v := ?v0a) ?hi0a ?hs0a ?hf0a ?hr0a ?hQ0a ?hy0a ?hS0a ?h0a
        case hi0a => exact (by simp only [List.getElem?_toArray, List.getElem?_cons_zero]; rfl)
        case hs0a => kernel_rfl
        case hf0a => kernel_rfl
        case hr0a => kernel_rfl
        case hQ0a => exact fun _ _ _ h => h
        case hy0a =>
          refine Or.inl ⟨rfl, ?_⟩
          intro W hSw
          obtain ⟨y1, y2, y3⟩ := hSw
          go_simp
          try with_reducible rfl
        case hS0a => assumption
        try simp only [Act.put, List.setIfInBounds_toArray, List.set_cons_zero, List.set_cons_succ]
        refine wpAnyH_take (i := 1) (oi := ?oi1a) (v := ?v1a) ?hi1a ?hs1a ?hf1a ?hr1a ?hQ1a ?hy1a ?hS1a ?h1a
        case hi1a => exact (by simp only [List.getElem?_toArray, List.getElem?_cons_succ, List.getElem?_cons_zero]; rfl)
        case hs1a => kernel_rfl
        case hf1a => kernel_rfl
        case hr1a => kernel_rfl
        case hQ1a => exact fun _ _ _ h => h
        case hy1a =>
          refine Or.inl ⟨rfl, ?_⟩
          intro W hSw
          obtain ⟨y1, y2, y3⟩ := hSw
          go_simp
          try with_reducible rfl
        case hS1a => assumption
        try simp only [Act.put, List.setIfInBounds_toArray, List.set_cons_zero, List.set_cons_succ]
        refine wpAnyH_take (i := 2) (oi := ?oi2a) (v := ?v2a) ?hi2a ?hs2a ?hf2a ?hr2a ?hQ2a ?hy2a ?hS2a ?h2a
        case hi2a => exact (by simp only [List.getElem?_toArray, List.getElem?_cons_succ, List.getElem?_cons_zero]; rfl)
        case hs2a => kernel_rfl
        case hf2a => kernel_rfl
        case hr2a => kernel_rfl
        case hQ2a => exact fun _ _ _ h => h
        case hy2a =>
          refine Or.inl ⟨rfl, ?_⟩
          intro W hSw
          obtain ⟨y1, y2, y3⟩ := hSw
          go_simp
          try with_reducible rfl
        case hS2a => assumption
        try simp only [Act.put, List.setIfInBounds_toArray, List.set_cons_zero, List.set_cons_succ]
        refine wpAnyH_take (i := 3) (oi := ?oi3a) (v := ?v3a) ?hi3a ?hs3a ?hf3a ?hr3a ?hQ3a ?hy3a ?hS3a ?h3a
        case hi3a => exact (by simp only [List.getElem?_toArray, List.getElem?_cons_succ, List.getElem?_cons_zero]; rfl)
        case hs3a => kernel_rfl
        case hf3a => kernel_rfl
        case hr3a => kernel_rfl
        case hQ3a => exact fun _ _ _ h => h
        case hy3a =>
          refine Or.inl ⟨rfl, ?_⟩
          intro W hSw
          obtain ⟨y1, y2, y3⟩ := hSw
          go_simp
          try with_reducible rfl
        case hS3a => assumption
        try simp only [Act.put, List.setIfInBounds_toArray, List.set_cons_zero, List.set_cons_succ]
        refine wpAnyH_take (i := 4) (oi := ?oi4a) (v := ?v4a) ?hi4a ?hs4a ?hf4a ?hr4a ?hQ4a ?hy4a ?hS4a ?h4a
        case hi4a => exact (by simp only [List.getElem?_toArray, List.getElem?_cons_succ, List.getElem?_cons_zero]; rfl)
        case hs4a => kernel_rfl
        case hf4a => kernel_rfl
        case hr4a => kernel_rfl
        case hQ4a => exact fun _ _ _ h => h
        case hy4a =>
          refine Or.inl ⟨rfl, ?_⟩
          intro W hSw
          obtain ⟨y1, y2, y3⟩ := hSw
          go_simp
          try with_reducible rfl
        case hS4a => assumption
        try simp only [Act.put, List.setIfInBounds_toArray, List.set_cons_zero, List.set_cons_succ]
        refine wpAnyH_take (i := 5) (oi := ?oi5a) (v := ?v5a) ?hi5a ?hs5a ?hf5a ?hr5a ?hQ5a ?hy5a ?hS5a ?h5a
        case hi5a => exact (by simp only [List.getElem?_toArray, List.getElem?_cons_succ, List.getElem?_cons_zero]; rfl)
        case hs5a => kernel_rfl
        case hf5a => kernel_rfl
        case hr5a => kernel_rfl
        case hQ5a => exact fun _ _ _ h => h
        case hy5a =>
          refine Or.inl ⟨rfl, ?_⟩
          intro W hSw
          obtain ⟨y1, y2, y3⟩ := hSw
          go_simp
          try with_reducible rfl
        case hS5a => assumption
        try simp only [Act.put, List.setIfInBounds_toArray, List.set_cons_zero, List.set_cons_succ]
        refine wpAnyH_take (i := 6) (oi := ?oi6a) (v := ?v6a) ?hi6a ?hs6a ?hf6a ?hr6a ?hQ6a ?hy6a ?hS6a ?h6a
        case hi6a => exact (by simp only [List.getElem?_toArray, List.getElem?_cons_succ, List.getElem?_cons_zero]; rfl)
        case hs6a => kernel_rfl
        case hf6a => kernel_rfl
        case hr6a => kernel_rfl
        case hQ6a => exact fun _ _ _ h => h
        case hy6a =>
          refine Or.inl ⟨rfl, ?_⟩
          intro W hSw
          obtain ⟨y1, y2, y3⟩ := hSw
          go_simp
          try with_reducible rfl
        case hS6a => assumption
        try simp only [Act.put, List.setIfInBounds_toArray, List.set_cons_zero, List.set_cons_succ]
        refine wpAnyH_take (i := 7) (oi := ?oi7a) (v := ?v7a) ?hi7a ?hs7a ?hf7a ?hr7a ?hQ7a ?hy7a ?hS7a ?h7a
        case hi7a => exact (by simp only [List.getElem?_toArray, List.getElem?_cons_succ, List.getElem?_cons_zero]; rfl)
        case hs7a => kernel_rfl
        case hf7a => kernel_rfl
        case hr7a => kernel_rfl
        case hQ7a => exact fun _ _ _ h => h
        case hy7a =>
          refine Or.inl ⟨rfl, ?_⟩
          intro W hSw
          obtain ⟨y1, y2, y3⟩ := hSw
          go_simp
          try with_reducible rfl
        case hS7a => assumption
        try simp only [Act.put, List.setIfInBounds_toArray, List.set_cons_zero, List.set_cons_succ]
        refine wpAnyH_take (i := 8) (oi := ?oi8a) (v := ?v8a) ?hi8a ?hs8a ?hf8a ?hr8a ?hQ8a ?hy8a ?hS8a ?h8a
        case hi8a => exact (by simp only [List.getElem?_toArray, List.getElem?_cons_succ, List.getElem?_cons_zero]; rfl)
        case hs8a => kernel_rfl
        case hf8a => kernel_rfl
        case hr8a => kernel_rfl
        case hQ8a => exact fun _ _ _ h => h
        case hy8a =>
          refine Or.inl ⟨rfl, ?_⟩
          intro W hSw
          obtain ⟨y1, y2, y3⟩ := hSw
          go_simp
          try with_reducible rfl
        case hS8a => assumption
        try simp only [Act.put, List.setIfInBounds_toArray, List.set_cons_zero, List.set_cons_succ]
        refine wpAnyH_take (i := 11) (oi := ?oi11a) (v := ?v11a) ?hi11a ?hs11a ?hf11a ?hr11a ?hQ11a ?hy11a ?hS11a ?h11a
        case hi11a => exact (by simp only [List.getElem?_toArray, List.getElem?_cons_succ, List.getElem?_cons_zero]; rfl)
        case hs11a => kernel_rfl
        case hf11a => kernel_rfl
        case hr11a => kernel_rfl
        case hQ11a => exact fun _ _ _ h => h
        case hy11a =>
          refine Or.inl ⟨rfl, ?_⟩
          intro W hSw
          obtain ⟨y1, y2, y3⟩ := hSw
          go_simp
          try with_reducible rfl
        case hS11a => assumption
        try simp only [Act.put, List.setIfInBounds_toArray, List.set_cons_zero, List.set_cons_succ]
        refine wpAnyH_take (i := 12) (oi := ?oi12a) (v := ?v12a) ?hi12a ?hs12a ?hf12a ?hr12a ?hQ12a ?hy12a ?hS12a ?h12a
        case hi12a => exact (by simp only [List.getElem?_toArray, List.getElem?_cons_succ, List.getElem?_cons_zero]; rfl)
        case hs12a => kernel_rfl
        case hf12a => kernel_rfl
        case hr12a => kernel_rfl
        case hQ12a => exact fun _ _ _ h => h
        case hy12a =>
          refine Or.inl ⟨rfl, ?_⟩
          intro W hSw
          obtain ⟨y1, y2, y3⟩ := hSw
          go_simp
          try with_reducible rfl
        case hS12a => assumption
        try simp only [Act.put, List.setIfInBounds_toArray, List.set_cons_zero, List.set_cons_succ]
        refine wpAnyH_ready (rs := [9]) (by kernel_rfl) (by simp) ?_
        refine AllReadyH.cons (o := _) rfl (fun K hK => ?_) AllReadyH.nil
        have hlk := HLK.out W0 HD0.out
        go_simp
        refine hK.out _ _ (HCE.out _ HD0.out) (fun hHeld => ?_)
        clear hK K hlk
        try simp only [Act.put, List.setIfInBounds_toArray, List.set_cons_zero, List.set_cons_succ]
        refine wpAnyH_take (i := 10) (oi := ?oi10a) (v := ?v10a) ?hi10a ?hs10a ?hf10a ?hr10a ?hQ10a ?hy10a ?hS10a ?h10a
        case hi10a => exact (by simp only [List.getElem?_toArray, List.getElem?_cons_succ, List.getElem?_cons_zero]; rfl)
        case hs10a => kernel_rfl
        case hf10a => kernel_rfl
        case hr10a => kernel_rfl
        case hQ10a => exact fun _ _ _ h => h
        case hy10a =>
          refine Or.inl ⟨rfl, ?_⟩
          intro W hSw
          have hf := fld0 s t W
          go_simp
          try with_reducible rfl
        case hS10a => assumption
        try simp only [Act.put, List.setIfInBounds_toArray, List.set_cons_zero, List.set_cons_succ]
        refine wpAnyH_take (i := 13) (oi := ?oi13a) (v := ?v13a) ?hi13a ?hs13a ?hf13a ?hr13a ?hQ13a ?hy13a ?hS13a ?h13a
        case hi13a => exact (by simp only [List.getElem?_toArray, List.getElem?_cons_succ, List.getElem?_cons_zero]; rfl)
        case hs13a => kernel_rfl
        case hf13a => kernel_rfl
        case hr13a => kernel_rfl
        case hQ13a => exact fun _ _ _ h => h
        case hy13a =>
          refine Or.inl ⟨rfl, ?_⟩
          intro W hSw
          obtain ⟨y1, y2, y3⟩ := hSw
          go_simp
          try with_reducible rfl
        case hS13a => assumption
        try simp only [Act.put, List.setIfInBounds_toArray, List.set_cons_zero, List.set_cons_succ]
        refine wpAnyH_ready (rs := [14]) (by kernel_rfl) (by simp) ?_
        refine AllReadyH.cons (o := _) rfl (fun K hK => ?_) AllReadyH.nil
        go_simp
        refine (HK.out W0 HD0.out).mono ?_
        rintro r w5 ⟨rfl, hI5, hC5⟩
        have HI5 := Lib.hid hI5
        have HC5 := Lib.hid hC5
        clear hI5 hC5
        refine hK.out _ _ (HSX.out W0 w5 HD0.out HI5.out HC5.out) (fun hHeld => ?_)
        clear hK K
        try simp only [Act.put, List.setIfInBounds_toArray, List.set_cons_zero, List.set_cons_succ]
        refine wpAnyH_done (by kernel_rfl) ?_ _
        have HGC : Hid (∀ i, w5.cell? ⟨g, i, none⟩ = wr.cell? ⟨g, i, none⟩) := fun i => by
          have q1 := HB1.out.size
          have q2 := HD0.out.size
          have q3 := HG.out.2.1
          unfold World.cell?
          rw [HC5.out.2.1 g (by omega) HG.out.2.2, HD0.out.block g (by omega), HB1.out.block g (by omega)]
        have HCC := Lib.hid ((ChM.of_below (HX.out.trans ((HB1.out.trans (HD0.out.mono HB1.out.size)).mono HX.out.size))).trans HC5.out)
        clear HLK HK HSX HCE HIW HD HD0
        (try simp only [Exit.inBlock, Exit.then])
        go_wp2_with (go_at_call 50; refine (HS1.out _ _).mono ?_; rintro e' w' ⟨rfl, rfl⟩)
        rw [rounds_succ]
        go_wp2_with (go_at_call 50; refine (HS1.out _ _).mono ?_; rintro e' w' ⟨rfl, rfl⟩)
        go_ret
        exact ⟨⟨_, rfl, Or.inr ⟨HST.out, g, cap, rfl, HG.out.1, (HGC.out 0).trans HQ.out.1, by rw [← HE.out]; exact (HGC.out 1).trans HQ.out.2⟩⟩, by rw [← HE.out]; exact HI5.out, HCC.out⟩
    · intro x sv tv kl' yd yp w2 cnt2 hkey hlk hv hat hrg2 hlt hg2 hs2 hen
      obtain ⟨x', ex, rfl, _⟩ := Maps.keyOf_int_inv Try.underlying26 hkey
      obtain rfl : x = x' := by injection ex
      obtain ⟨rfl, rfl, hne, hstr⟩ := hI.hit hlk
      rw [R_mk] at hv
      injection hv with hv
      injection hv with hv hv2
      have hat0 := hat (nD 0 0)
      rw [Dn_at, ← hv] at hat0
      obtain ⟨rfl, rfl⟩ := nD_inj hat0
      have hrow2 := hrow.kept hg2 (Or.inr (row_ne_iter hrow hrg).symm)
      change w2.ownsRow w.heap.size 95 2 _ 0 [] at hrow2
      obtain ⟨w3, hw3⟩ : ∃ w3, w3 = w2.alloc (.cells #[.int .i64 s, .int .i64 t] 120) := ⟨_, rfl⟩
      have hp3 : w3.heap[w2.heap.size]? = some (.cells #[.int .i64 s, .int .i64 t] 120 (0, 0)) := by rw [hw3]; exact heap_alloc_new w2 _
      have g0 := cell_of_row w3 w2.heap.size 0 _ _ _ hp3
      have g1 := cell_of_row w3 w2.heap.size 1 _ _ _ hp3
      simp at g0 g1
      have hrow3 := hrow2.alloc (.cells #[.int .i64 s, .int .i64 t] 120)
      rw [← hw3] at hrow3
      have hrg3 := hrg2.alloc (.cells #[.int .i64 s, .int .i64 t] 120)
      rw [← hw3] at hrg3
      have hb3 : Below w.heap.size w w3 := by rw [hw3]; exact (hnx.grown hg2 hnx.size (fun j hj => by cases hj; exact Nat.le_refl _)).alloc (by have := hnx.size; have := hg2.size; omega) _
      have HW3 := Lib.hid hw3
      have HROW := Lib.hid hrow3
      have HRG := Lib.hid hrg3
      have HBW := Lib.hid hb3
      have HSTR := Lib.hid hstr
      have hlast := hlt
      clear hw3 hp3 hrow hrow2 hrow3 hrg2 hrg3 hb3 hstr hat hat0 hv hv2 hlk hkey hnx hg2 hs2 hI hne hown hrg0 hg0
      by_cases het : e = t
      · have t1 : (e == t) = true := by simp [het]
        have HET : Hid (Res p s t = []) := by
          have : seen s = t := HE.out.symm.trans het
          show _ = _
          simp [Res, this]
        clear het
        go_upto_region 7 with (fail)
        rw [← HW3.out]
        go_wp2_with (first | (go_at_call 36; refine (HSN.out _).mono ?_; rintro r w' ⟨rfl, rfl⟩) | go_in)
        go_roundw
        case rel => exact ⟨_, cnt2, [], HRG.out, HROW.out, Or.inr ⟨HSTR.out, HET.out.symm⟩, HBW.out⟩
        case measure => rw [HRG.out.left_eq, hrg.left_eq]; exact hlast
      · have t1 : (e == t) = false := by simp [het]
        have HET : Hid (Res p s t = [((p : Int), e)]) := by
          have : ¬ seen s = t := fun h => het (HE.out.trans h)
          show _ = _
          simp [Res, this, HE.out]
        clear het
        go_upto_region 7 with (fail)
        rw [← HW3.out]
        go_wp2_with (first
          | (go_at_call 36; refine (HSN.out _).mono ?_; rintro r w' ⟨rfl, rfl⟩)
          | (at_builtin; refine wpList_append_chg rfl _ _ rfl w.heap.size w'.heap.size _ 0 [] (p : Int) e rfl rfl (HROW.out.alloc _) (heap_alloc_new _ _) (by omega) (by have := HBW.out.size; simp; omega) ?_; intro v' w5 hown5 hg5; go_frame)
          | go_in)
        have hrg5 := (HRG.out.alloc _).kept hg5 (row_ne_low HROW.out hML) (row_ne_iter HROW.out HRG.out)
        go_roundw
        case rel => exact ⟨_, cnt2, [((p : Int), e)], hrg5, hown5, Or.inr ⟨HSTR.out, HET.out.symm⟩, (HBW.out.alloc HBW.out.size _).grown hg5 (by have := HBW.out.size; simp; omega) (fun j hj => (HROW.out.lt j hj).1)⟩
        case measure => rw [hrg5.left_eq, hrg.left_eq]; exact hlast
end Go.Proofs.Ytaoejkbockcneaa.Bd
