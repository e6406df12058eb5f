/- Rack: the document's Add, Ids, Free. -/
import Derived.Test.YtbilkelbelimjaaKP
namespace Go.Proofs.Ytbilkelbelimjaa.D
open Go.RowKit
set_option maxRecDepth 20000

set_option linter.unusedSimpArgs false in
set_option maxHeartbeats 8000000 in
theorem radd_any (base : Nat) (A : Option Addr) (n c : Nat) (most : Int) (x : Nat) (z cd : Int) (l ps qs : Ps) (w : World) (hn : n = l.length) (hown : w.ownsRow base 96 2 (.slice A n c) n (rr l)) (hbase : base ≤ w.heap.size) (hl : n ≤ 900) (hpe : l.Perm ps) (hu : Up (ps.map (·.1))) (hok : ∀ y ∈ ps.map (·.1), okN y) (hP : AddR most ps x z cd qs) :
    Calls Try.prog 18 #[rV A n c most, .int .u32 (x : Int), .int .i64 z] w fun r w' => ∃ B m c' l', r = .returned (.tuple #[rV B m c' most, .int .i64 cd]) ∧ m = l'.length ∧ l'.Perm qs ∧ w'.ownsRow base 96 2 (.slice B m c') m (rr l') ∧ Below w.heap.size w w' := by
  unfold rV
  obtain ⟨T, hT⟩ : ∃ T, T = w.heap.size + 1 := ⟨_, rfl⟩
  obtain ⟨w0, hw0⟩ : ∃ w0, w0 = (w.alloc (.cells #[.slice A n c, .int .i64 most] 27)).alloc (.cells #[.slice none 0 0, .int .i64 0] 27) := ⟨_, rfl⟩
  have hs0 : w0.heap.size = T + 1 := by rw [hw0, hT]; simp
  have hb0 : Below w.heap.size w w0 := by rw [hw0]; exact ((Below.refl _ _).alloc (Nat.le_refl _) _).alloc (by simp) _
  have hp0 : w0.heap[w.heap.size]? = some (.cells #[.slice A n c, .int .i64 most] 27 (0, 0)) := by
    rw [hw0]
    exact (Below.heap_alloc _ _ _ (by simp)).trans (heap_alloc_new w _)
  have hz0 : w0.heap[T]? = some (.cells #[.slice none 0 0, .int .i64 0] 27 (0, 0)) := by
    have h := heap_alloc_new (w.alloc (.cells #[.slice A n c, .int .i64 most] 27)) (.cells #[.slice none 0 0, .int .i64 0] 27)
    rw [World.size_alloc] at h
    rw [hw0, hT]
    exact h
  have HT : Hid (T = w.heap.size + 1 ∧ w0.heap.size = T + 1) := ⟨hT, hs0⟩
  have H0 := Lib.hid hw0
  have HB0 := Lib.hid hb0
  have HP0 := Lib.hid hp0
  have HZ0 := Lib.hid hz0
  have HN := Lib.hid hn
  have HOW := Lib.hid hown
  have HOW0 : Hid (w0.ownsRow base 96 2 (.slice A n c) n (rr l)) := own2_after hown fun g hg => hb0.block g (own2_lt hown g hg).2
  have HR : Hid (Rs w0 w0.heap.size A l) := Rs.of_own HOW0.out
  have HFIN : Hid (∀ (W : World) (B : Option Addr) (m c2 b2 : Nat) (l2 : List (Nat × Int)), Below w.heap.size w W → W.heap[T]? = some (.cells #[.slice none 0 0, .int .i64 0] 27 (0, 0)) → W.ownsRow b2 96 2 (.slice B m c2) m (rr l2) → Fin w T B m c2 most b2 l2 ((W.setCell ⟨T, 0, none⟩ (.slice B m c2)).setCell ⟨T, 1, none⟩ (.int .i64 most))) := fun W B m c2 b2 l2 h1 h2 h3 => fin_of (by omega) h1 h2 h3
  clear hw0 hb0 hp0 hz0 hn hT hs0 hown
  have HPE := Lib.hid hpe
  have HU := Lib.hid hu
  have HMF : Hid (∀ y, y ∈ l.map (·.1) ↔ y ∈ ps.map (·.1)) := fun y => perm_fst hpe y
  have HBS := Lib.hid hbase
  have HOK := Lib.hid hok
  have HF0 := Lib.hid (find_any A n c most x l w0 HN.out HR.out (by omega))
  clear hpe hu hbase hok
  rcases hP with ⟨rfl, hx, hxo, hq⟩ | ⟨hx, hP⟩
  · have HQS := Lib.hid hq
    have HXO : Hid (1 ≤ x ∧ x ≤ 2147483647) := hxo
    have HXM : Hid (x ∈ l.map (·.1)) := (HMF.out x).2 hx
    clear hx hxo hq
    have hrd : decide (1 ≤ x ∧ x ≤ 2147483647) = true := by
      first | (rw [decide_eq_true_iff]; exact HXO.out) | (rw [decide_eq_false_iff_not]; exact HXO.out)
    have HRT := Lib.hid (rright_any x w0)
    rw [hrd] at HRT
    clear hrd
    go_enter Try.func18, Try.ntmps18
    go_upto_region 1 with (fail)
    rw [← H0.out, ← HT.out.1]
    go_wp2_with fail
    refine HRT.out.mono ?_
    rintro r w1 ⟨rfl, rfl⟩
    have b0 := cell_of_row w1 w.heap.size 0 _ _ _ HP0.out
    have b1 := cell_of_row w1 w.heap.size 1 _ _ _ HP0.out
    simp at b0 b1
    go_wp2_with fail
    refine HF0.out.mono ?_
    rintro r w2 ⟨⟨i, (⟨p', v', rfl, hp'⟩ | ⟨rfl, hno⟩), rfl⟩, hb2⟩
    · have HB2 := Lib.hid hb2
      have HOW2 : Hid (w2.ownsRow base 96 2 (.slice A n c) n (rr l)) := own2_after HOW0.out fun g hg => hb2.block g (own2_lt HOW0.out g hg).2
      have hpz : (p' : Int) ≥ 0 := by omega
      clear hp' hb2
      have hpW := (HB2.out.block _ (lt_of_block HP0.out)).trans HP0.out
      have hzW := (HB2.out.block _ (lt_of_block HZ0.out)).trans HZ0.out
      have p0 := cell_of_row w2 w.heap.size 0 _ _ _ hpW
      have p1 := cell_of_row w2 w.heap.size 1 _ _ _ hpW
      have z0 := cell_of_row w2 T 0 _ _ _ hzW
      have z1 := cell_of_row w2 T 1 _ _ _ hzW
      have fz : ∀ i, w2.frozen? ⟨T, i, none⟩ = false := fun i => frozen_of_row w2 _ i _ _ hzW
      simp at p0 p1 z0 z1
      have HZ2 := Lib.hid hzW
      clear hzW hpW
      have HF := Lib.hid (HFIN.out w2 A n c _ _ (HB0.out.trans (HB2.out.mono HB0.out.size)) HZ2.out (HOW2.out))
      have e0 := HF.out.c0
      have e1 := HF.out.c1
      go_wp2
      exact bodyPost_ret (v := .tuple #[rV A n c most, .int .i64 11]) (by simp [results, Try.results18, go_sem, rV, e0, e1]) rfl ⟨A, n, c, l, rfl, HN.out, by rw [HQS.out]; exact HPE.out, HF.out.own, HF.out.below⟩
    · exact absurd HXM.out (fun hm => by
        obtain ⟨e, he, hex⟩ := List.mem_map.1 hm
        exact hno e he hex)
  · have HX := Lib.hid hx
    have HPT := Lib.hid hP
    clear hx hP
    by_cases hxo : 1 ≤ x ∧ x ≤ 2147483647
    · have HXO := Lib.hid hxo
      clear hxo
      have hrd : decide (1 ≤ x ∧ x ≤ 2147483647) = true := by
        first | (rw [decide_eq_true_iff]; exact HXO.out) | (rw [decide_eq_false_iff_not]; exact HXO.out)
      have HRT := Lib.hid (rright_any x w0)
      rw [hrd] at HRT
      clear hrd
      go_enter Try.func18, Try.ntmps18
      go_upto_region 1 with (fail)
      rw [← H0.out, ← HT.out.1]
      go_wp2_with fail
      refine HRT.out.mono ?_
      rintro r w1 ⟨rfl, rfl⟩
      have b0 := cell_of_row w1 w.heap.size 0 _ _ _ HP0.out
      have b1 := cell_of_row w1 w.heap.size 1 _ _ _ HP0.out
      simp at b0 b1
      go_wp2_with fail
      refine HF0.out.mono ?_
      rintro r w2 ⟨⟨i, (⟨p', v', rfl, hp'⟩ | ⟨rfl, hno⟩), rfl⟩, hb2⟩
      · exact absurd ((HMF.out x).1 (List.mem_map.2 ⟨_, List.mem_of_getElem? hp', rfl⟩)) HX.out
      · have HB2 := Lib.hid hb2
        have HOW2 : Hid (w2.ownsRow base 96 2 (.slice A n c) n (rr l)) := own2_after HOW0.out fun g hg => hb2.block g (own2_lt HOW0.out g hg).2
        have b0' := cell_of_row w2 w.heap.size 0 _ _ _ ((HB2.out.block _ (lt_of_block HP0.out)).trans HP0.out)
        have b1' := cell_of_row w2 w.heap.size 1 _ _ _ ((HB2.out.block _ (lt_of_block HP0.out)).trans HP0.out)
        simp at b0' b1'
        clear hno hb2
        have HRP : Hid (Calls Try.prog 16 #[.agg #[.slice A n c, .int .i64 most], .int .u32 (x : Int), .int .i64 z] w2 fun r w' => ∃ B m c' l', r = .returned (.tuple #[.agg #[.slice B m c', .int .i64 most], .int .i64 cd]) ∧ m = l'.length ∧ l'.Perm qs ∧ w'.ownsRow base 96 2 (.slice B m c') m (rr l') ∧ Below w2.heap.size w2 w') := rput_any base A n c most x z cd l ps qs w2 HN.out HOW2.out (Nat.le_trans HBS.out (HB0.out.trans (HB2.out.mono HB0.out.size)).size) hl HPE.out HU.out HOK.out HPT.out
        go_wp2_with fail
        refine HRP.out.mono ?_
        rintro r w3 ⟨B, m, c2, l2, rfl, hm, hpm, hown3, hb3⟩
        have HB3 : Hid (Below w1.heap.size w1 w3) := (HB2.out).trans (hb3.mono (HB2.out).size)
        have HOW3 := Lib.hid hown3
        have HM3 := Lib.hid (And.intro hm hpm)
        clear hm hpm hown3 hb3
        have hpW := (HB3.out.block _ (lt_of_block HP0.out)).trans HP0.out
        have hzW := (HB3.out.block _ (lt_of_block HZ0.out)).trans HZ0.out
        have p0 := cell_of_row w3 w.heap.size 0 _ _ _ hpW
        have p1 := cell_of_row w3 w.heap.size 1 _ _ _ hpW
        have z0 := cell_of_row w3 T 0 _ _ _ hzW
        have z1 := cell_of_row w3 T 1 _ _ _ hzW
        have fz : ∀ i, w3.frozen? ⟨T, i, none⟩ = false := fun i => frozen_of_row w3 _ i _ _ hzW
        simp at p0 p1 z0 z1
        have HZ3 := Lib.hid hzW
        clear hzW hpW
        have HF := Lib.hid (HFIN.out w3 B m c2 base l2 (HB0.out.trans (HB3.out.mono HB0.out.size)) HZ3.out HOW3.out)
        have e0 := HF.out.c0
        have e1 := HF.out.c1
        go_wp2
        exact bodyPost_ret (v := .tuple #[rV B m c2 most, .int .i64 cd]) (by simp [results, Try.results18, go_sem, rV, e0, e1]) rfl ⟨B, m, c2, l2, rfl, HM3.out.1, HM3.out.2, HF.out.own, HF.out.below⟩
    · have HXO := Lib.hid hxo
      clear hxo
      have hrd : decide (1 ≤ x ∧ x ≤ 2147483647) = false := by
        first | (rw [decide_eq_true_iff]; exact HXO.out) | (rw [decide_eq_false_iff_not]; exact HXO.out)
      have HRT := Lib.hid (rright_any x w0)
      rw [hrd] at HRT
      clear hrd
      go_enter Try.func18, Try.ntmps18
      go_upto_region 1 with (fail)
      rw [← H0.out, ← HT.out.1]
      go_wp2_with fail
      refine HRT.out.mono ?_
      rintro r w1 ⟨rfl, rfl⟩
      have b0 := cell_of_row w1 w.heap.size 0 _ _ _ HP0.out
      have b1 := cell_of_row w1 w.heap.size 1 _ _ _ HP0.out
      simp at b0 b1
      have HBQ : Hid (Below w1.heap.size w1 w1) := Below.refl _ _
      have HRP : Hid (Calls Try.prog 16 #[.agg #[.slice A n c, .int .i64 most], .int .u32 (x : Int), .int .i64 z] w1 fun r w' => ∃ B m c' l', r = .returned (.tuple #[.agg #[.slice B m c', .int .i64 most], .int .i64 cd]) ∧ m = l'.length ∧ l'.Perm qs ∧ w'.ownsRow base 96 2 (.slice B m c') m (rr l') ∧ Below w1.heap.size w1 w') := rput_any base A n c most x z cd l ps qs w1 HN.out HOW0.out (Nat.le_trans HBS.out (HB0.out).size) hl HPE.out HU.out HOK.out HPT.out
      go_wp2_with fail
      refine HRP.out.mono ?_
      rintro r w3 ⟨B, m, c2, l2, rfl, hm, hpm, hown3, hb3⟩
      have HB3 : Hid (Below w1.heap.size w1 w3) := (HBQ.out).trans (hb3.mono (HBQ.out).size)
      have HOW3 := Lib.hid hown3
      have HM3 := Lib.hid (And.intro hm hpm)
      clear hm hpm hown3 hb3
      have hpW := (HB3.out.block _ (lt_of_block HP0.out)).trans HP0.out
      have hzW := (HB3.out.block _ (lt_of_block HZ0.out)).trans HZ0.out
      have p0 := cell_of_row w3 w.heap.size 0 _ _ _ hpW
      have p1 := cell_of_row w3 w.heap.size 1 _ _ _ hpW
      have z0 := cell_of_row w3 T 0 _ _ _ hzW
      have z1 := cell_of_row w3 T 1 _ _ _ hzW
      have fz : ∀ i, w3.frozen? ⟨T, i, none⟩ = false := fun i => frozen_of_row w3 _ i _ _ hzW
      simp at p0 p1 z0 z1
      have HZ3 := Lib.hid hzW
      clear hzW hpW
      have HF := Lib.hid (HFIN.out w3 B m c2 base l2 (HB0.out.trans (HB3.out.mono HB0.out.size)) HZ3.out HOW3.out)
      have e0 := HF.out.c0
      have e1 := HF.out.c1
      go_wp2
      exact bodyPost_ret (v := .tuple #[rV B m c2 most, .int .i64 cd]) (by simp [results, Try.results18, go_sem, rV, e0, e1]) rfl ⟨B, m, c2, l2, rfl, HM3.out.1, HM3.out.2, HF.out.own, HF.out.below⟩

theorem up_next {ids : List Nat} (hu : Up ids) (hok : ∀ y ∈ ids, okN y) {k m : Nat} (hk : k ≤ ids.length) (last : Nat) (hl : (k = 0 ∧ last = 0) ∨ (∃ j, k = j + 1 ∧ ids[j]? = some last)) (h : Z.Nx ids last m) : (k = ids.length ∧ m = 0) ∨ (ids[k]? = some m ∧ m ≠ 0) := by
  have below : ∀ (j y : Nat), ids[j]? = some y → y ≤ last → j < k := fun j y hj hy => by
    rcases hl with ⟨rfl, rfl⟩ | ⟨i, rfl, hi⟩
    · have := (hok y (List.mem_of_getElem? hj)).1
      omega
    · rcases Nat.lt_or_ge j (i + 1) with h1 | h1
      · exact h1
      · have := hu i j last y (by omega) hi hj
        omega
  have above : ∀ (j y : Nat), ids[j]? = some y → j < k → y ≤ last := fun j y hj hjk => by
    rcases hl with ⟨rfl, rfl⟩ | ⟨i, rfl, hi⟩
    · omega
    · rcases Nat.lt_or_ge j i with h1 | h1
      · exact Nat.le_of_lt (hu j i y last h1 hj hi)
      · have : j = i := by omega
        subst this
        rw [hj] at hi
        injection hi with hi
        omega
  rcases h with ⟨rfl, h0⟩ | ⟨h1, h2, h3⟩
  · left
    refine ⟨?_, rfl⟩
    rcases Nat.lt_or_ge k ids.length with h4 | h4
    · have := below k _ (List.getElem?_eq_getElem h4) (h0 _ (List.getElem_mem h4))
      omega
    · omega
  · right
    refine ⟨?_, by omega⟩
    obtain ⟨j, hj⟩ := List.getElem?_of_mem h2
    have hkj : k ≤ j := by
      rcases Nat.lt_or_ge j k with h4 | h4
      · have := above j m hj h4; omega
      · exact h4
    have hkl : k < ids.length := Nat.lt_of_le_of_lt hkj (List.getElem?_eq_some_iff.1 hj).1
    have hy := List.getElem?_eq_getElem hkl
    have hgt : last < ids[k] := by
      rcases Nat.lt_or_ge last ids[k] with h4 | h4
      · exact h4
      · have := below k _ hy h4; omega
    have h5 := h3 ids[k] (List.getElem_mem hkl) hgt
    rcases Nat.lt_or_ge k j with h6 | h6
    · have := hu k j _ m h6 hy hj
      omega
    · have : k = j := by omega
      rw [this]
      exact hj
theorem nx_perm {l ps : Ps} (h : l.Perm ps) {x m : Nat} (hn : Z.Nx (l.map (·.1)) x m) : Z.Nx (ps.map (·.1)) x m := by
  rcases hn with ⟨h1, h2⟩ | ⟨h1, h2, h3⟩
  · exact .inl ⟨h1, fun y hy => h2 y ((perm_fst h y).2 hy)⟩
  · exact .inr ⟨h1, (perm_fst h m).1 h2, fun y hy => h3 y ((perm_fst h y).2 hy)⟩
theorem nx_one {ids : List Nat} {x m m' : Nat} (h : Z.Nx ids x m) (h' : Z.Nx ids x m') : m = m' := by
  rcases h with ⟨h1, h2⟩ | ⟨h1, h2, h3⟩ <;> rcases h' with ⟨h4, h5⟩ | ⟨h4, h5, h6⟩
  · omega
  · have := h2 m' h5; omega
  · have := h5 m h2; omega
  · have := h3 m' h5 h4
    have := h6 m h2 h1
    omega

theorem own1_base {w : World} {base base' T m : Nat} {v : Value} {xs : List Value} (hb : base ≤ base') (h : w.ownsRow base' T 1 v m xs) : w.ownsRow base T 1 v m xs := by
  refine ⟨h.1, ?_⟩
  rcases h.2 with hn | ⟨g, cap, cur, rfl, hbg, rest⟩
  · exact .inl hn
  · exact .inr ⟨g, cap, cur, rfl, Nat.le_trans hb hbg, rest⟩
theorem wpList_append_u32 {w : World} {ops : Array Oper} {rest : List Oper} {op : Oper} {a : Act} {Q : Exit → Act → World → Prop} (hgd : op.guard = none) (s x : Operand)
    (ho : op.op = .call { callee := .builtin .append, args := #[s, x], argTypes := #[46, 46] }) (base G : Nat) (v : Value) (m : Nat) (xs : List Value) (y : Nat) (hs : a.eval s = v) (hx : a.eval x = .slice (some ⟨G, 0, none⟩) 1 1)
    (hown : w.ownsRow base 28 1 v m xs) (hG : w.heap[G]? = some (.cells #[.int .u32 (y : Int)] 28 (0, 0))) (hm : m ≤ 1000) (hbase : base ≤ w.heap.size)
    (h : ∀ v' w', w'.ownsRow base 28 1 v' (m + 1) (xs ++ [.int .u32 (y : Int)]) → w.grownBy w' v.ownBlock → wpList Try.prog ops Q rest (a.put op.dst v') w') : wpList Try.prog ops Q (op :: rest) a w := by
  refine wpList_plain hgd fun K hK => ?_
  obtain ⟨i0, hi, hz0, hz1, hz2⟩ := info_parts info28
  obtain ⟨v', w', hr, h2, h3, _⟩ := run_append_own (P := Try.prog) w base 46 op.type 28 i0 _ 1 _ Try.underlying46 hi hz0 hz1 hz2 rfl (by decide) v m xs hown ⟨G, 0, none⟩ 1 1 [.int .u32 (y : Int)] rfl (fun j u hu => by
    have := cell_of_row w G j _ _ _ hG
    rw [show (#[.int .u32 (y : Int)] : Array Value) = ([.int .u32 (y : Int)] : List Value).toArray from rfl, List.getElem?_toArray, hu] at this
    rw [← this, Go.WideShapes.add_plain, Nat.zero_add]) (by
    intro u hu
    simp only [List.mem_cons, List.not_mem_nil, or_false] at hu
    rw [hu]
    rfl) (by unfold maxLen; omega) (by omega) hbase
  unfold Oper.wp execOp
  simp only [ho, resolve, invoke, builtin, Sem.run_bind, Sem.run_pure, Result.andThen_ok, List.map_toArray, List.map_cons, List.map_nil, hs, hx, hr]
  exact hK _ _ (h v' w' h2 h3)

set_option linter.unusedSimpArgs false in
set_option maxHeartbeats 8000000 in
theorem rids_any (A : Option Addr) (n c : Nat) (most : Int) (l ps : Ps) (w : World) (hn : n = l.length) (hR : Rs w w.heap.size A l) (hl : n ≤ 900) (hpe : l.Perm ps) (hu : Up (ps.map (·.1))) (hok : ∀ y ∈ ps.map (·.1), okN y) :
    Calls Try.prog 65 #[rV A n c most] w fun r w' => ∃ v', r = .returned v' ∧ w'.ownsRow w.heap.size 28 1 v' (ps.map (·.1)).length (un (ps.map (·.1))) ∧ Below w.heap.size w w' := by
  unfold rV
  obtain ⟨w0, hw0⟩ : ∃ w0, w0 = w.alloc (.cells #[.slice A n c, .int .i64 most] 27) := ⟨_, rfl⟩
  have hb0 : Below w.heap.size w w0 := by rw [hw0]; exact (Below.refl _ _).alloc (Nat.le_refl _) _
  have hp0 : w0.heap[w.heap.size]? = some (.cells #[.slice A n c, .int .i64 most] 27 (0, 0)) := by rw [hw0]; exact heap_alloc_new w _
  have HR : Hid (Rs w0 w0.heap.size A l) := (hR.below hb0).mono hb0.size
  have H0 := Lib.hid hw0
  have HB0 := Lib.hid hb0
  have HP0 := Lib.hid hp0
  have HN := Lib.hid hn
  have HPE := Lib.hid hpe
  obtain ⟨ids, hids⟩ : ∃ ids, ids = ps.map (·.1) := ⟨_, rfl⟩
  rw [← hids] at hu hok ⊢
  have HU := Lib.hid hu
  have HOK := Lib.hid hok
  have HI : Hid (∀ x m, Z.Nx (l.map (·.1)) x m → Z.Nx ids x m) := fun x m h => by rw [hids]; exact nx_perm HPE.out h
  have hil : ids.length = n := by rw [hids, List.length_map, hn]; exact hpe.length_eq.symm
  have HIL := Lib.hid hil
  have HBr : Hid (Below w0.heap.size w0 w0) := Below.refl _ _
  obtain ⟨i0, hi0, hz0, hz1, hz2⟩ := info_parts info28
  have HNX := Lib.hid (rnext_any A n c most 0 l w0 hn HR.out (by omega))
  clear hw0 hb0 hn hR hpe hu hok hids hil
  go_enter Try.func65, Try.ntmps65
  go_upto_region 1 with (fail)
  rw [← H0.out]
  have p0 := cell_of_row w0 w.heap.size 0 _ _ _ HP0.out
  have p1 := cell_of_row w0 w.heap.size 1 _ _ _ HP0.out
  simp at p0 p1
  go_wp2_with fail
  refine HNX.out.mono ?_
  rintro r w1 ⟨⟨m1, hm1, rfl⟩, hb1⟩
  have HM1 : Hid ((0 = ids.length ∧ m1 = 0) ∨ (ids[0]? = some m1 ∧ m1 ≠ 0)) := up_next HU.out HOK.out (Nat.zero_le _) 0 (.inl ⟨rfl, rfl⟩) (HI.out _ _ hm1)
  have HB1 : Hid (Below w0.heap.size w0 w1) := hb1
  obtain ⟨b1, hbb1⟩ : ∃ b1, b1 = decide (m1 ≠ 0) := ⟨_, rfl⟩
  rw [← hbb1]
  have HBB1 := Lib.hid hbb1
  clear hm1 hb1 hp0 hbb1 p0 p1
  go_wp2_with fail
  go_loopw [3, 4, 5] (fun o u t wr => ∃ (k m : Nat) (b : Bool), k ≤ n ∧ u = .int .u32 (m : Int) ∧ t = .bool b ∧ Hid (b = decide (m ≠ 0)) ∧ Hid ((k = ids.length ∧ m = 0) ∨ (ids[k]? = some m ∧ m ≠ 0)) ∧ Hid (wr.ownsRow w0.heap.size 28 1 o k (un (ids.take k)) ∧ Below w0.heap.size w0 wr)) (fun o _ _ _ => n - (match o with | .slice _ m _ => m | _ => 0))
  case atStart => exact ⟨0, m1, b1, by omega, rfl, rfl, HBB1, HM1, World.ownsRow_nil w1 _ 28 1, HB1.out⟩
  case round =>
    obtain ⟨k, m, b, hk, rfl, rfl, HBB, HM, HV⟩ := hrel
    obtain ⟨B, c2, rfl⟩ := own_form1 HV.out.1
    by_cases hm0 : m = 0
    · have hk' : k = ids.length := by
        rcases HM.out with ⟨h1, _⟩ | ⟨_, h2⟩
        · exact h1
        · exact absurd hm0 h2
      have hb' : b = false := by rw [HBB.out, hm0]; rfl
      subst hb'
      have HRES : Hid (wr.ownsRow w.heap.size 28 1 (.slice B k c2) ids.length (un ids) ∧ Below w.heap.size w wr) := by
        have h1 := HV.out.1
        rw [hk', List.take_length] at h1
        exact ⟨by rw [hk']; exact own1_base HB0.out.size h1, HB0.out.trans (HV.out.2.mono HB0.out.size)⟩
      clear hk'
      go_wp2
      go_ret
      exact ⟨_, rfl, HRES.out.1, HRES.out.2⟩
    · have hb' : b = true := by rw [HBB.out]; simpa using hm0
      subst hb'
      have HK : Hid (ids[k]? = some m) := by
        rcases HM.out with ⟨_, h2⟩ | ⟨h1, _⟩
        · exact absurd h2 hm0
        · exact h1
      have hkn : k < n := by have := (List.getElem?_eq_some_iff.1 HK.out).1; have := HIL.out; omega
      obtain ⟨w2, hw2⟩ : ∃ w2, w2 = wr.alloc (.cells #[.int .u32 (m : Int)] 28) := ⟨_, rfl⟩
      have hg2 : w2.heap[wr.heap.size]? = some (.cells #[.int .u32 (m : Int)] 28 (0, 0)) := by rw [hw2]; exact heap_alloc_new wr _
      have hb2 : Below wr.heap.size wr w2 := by rw [hw2]; exact (Below.refl _ _).alloc (Nat.le_refl _) _
      have HO2 : Hid (w2.ownsRow w0.heap.size 28 1 (.slice B k c2) k (un (ids.take k))) := own_after HV.out.1 fun g hg => hb2.block g (ownlt HV.out.1 g hg).2
      have HB2 : Hid (Below w0.heap.size w0 w2) := HV.out.2.trans (hb2.mono HV.out.2.size)
      have HG2 := Lib.hid hg2
      have H2 := Lib.hid hw2
      have HSZ : Hid (w0.heap.size ≤ w2.heap.size) := HB2.out.size
      have HTK : Hid (un (ids.take (k + 1)) = un (ids.take k) ++ [.int .u32 (m : Int)]) := by simp only [Hid]; rw [List.take_add_one, HK.out]; simp [un]
      clear hg2 hb2 hw2
      have ht : Hid (∀ W : World, W = w2 → W.ownsRow w0.heap.size 28 1 (.slice B k c2) k (un (ids.take k)) ∧ W.heap[wr.heap.size]? = some (.cells #[.int .u32 (m : Int)] 28 (0, 0)) ∧ w0.heap.size ≤ W.heap.size) := fun W e => by rw [e]; exact ⟨HO2.out, HG2.out, HSZ.out⟩
      have HPB : Hid (∀ W, Below w0.heap.size w0 W → W.cell? ⟨w.heap.size, 0, none⟩ = some (.slice A n c) ∧ W.cell? ⟨w.heap.size, 1, none⟩ = some (.int .i64 most)) := fun W hW => by
        have e2 := (hW.block _ (lt_of_block HP0.out)).trans HP0.out
        exact ⟨cell_of_row W _ 0 _ _ _ e2, cell_of_row W _ 1 _ _ _ e2⟩
      go_upto_region 4 with (fail)
      go_wp2_with (at_builtin; refine wpList_append_u32 rfl (.tmp 12) (.tmp 14) rfl w0.heap.size wr.heap.size (.slice B k c2) k (un (ids.take k)) m rfl rfl (ht.out _ H2.out.symm).1 (ht.out _ H2.out.symm).2.1 (by omega) (ht.out _ H2.out.symm).2.2 ?_; intro v3 w3 hown3 hg3; rw [← H2.out] at hg3; rw [← HTK.out] at hown3; obtain ⟨B3, c3, rfl⟩ := own_form1 hown3; have HO3 := Lib.hid hown3; have HB3 : Hid (Below w0.heap.size w0 w3) := HB2.out.grown hg3 HB2.out.size (fun g h => (ownlt HO2.out g h).1); obtain ⟨p0, p1⟩ := HPB.out w3 HB3.out; clear hown3 hg3)
      refine (rnext_any A n c most m l w3 HN.out ((HR.out.below HB3.out).mono HB3.out.size) (by omega)).mono ?_
      rintro r w4 ⟨⟨m4, hm4, rfl⟩, hb4⟩
      have HM4 : Hid ((k + 1 = ids.length ∧ m4 = 0) ∨ (ids[k + 1]? = some m4 ∧ m4 ≠ 0)) := up_next HU.out HOK.out (by have := HIL.out; omega) m (.inr ⟨k, rfl, HK.out⟩) (HI.out _ _ hm4)
      have HV4 : Hid (w4.ownsRow w0.heap.size 28 1 (.slice B3 (k + 1) c3) (k + 1) (un (ids.take (k + 1))) ∧ Below w0.heap.size w0 w4) := ⟨own_after HO3.out fun g hg => hb4.block g (ownlt HO3.out g hg).2, HB3.out.trans (hb4.mono HB3.out.size)⟩
      obtain ⟨b4, hbb4⟩ : ∃ b4, b4 = decide (m4 ≠ 0) := ⟨_, rfl⟩
      rw [← hbb4]
      have HBB4 := Lib.hid hbb4
      clear hbb4 hm4 hb4 p0 p1
      go_wp2
      go_roundw
      case rel => exact ⟨k + 1, m4, b4, by omega, rfl, rfl, HBB4, HM4, HV4.out.1, HV4.out.2⟩
      case measure => simp; omega

/-- What the document's Free tells. -/
def FreeR (most : Int) (ps : Ps) (f : Nat) : Prop := (f = 0 ∧ most ≤ (ps.length : Int)) ∨ ((ps.length : Int) < most ∧ B.Fr (ps.map (·.1)) f)
set_option linter.unusedSimpArgs false in
set_option maxHeartbeats 8000000 in
theorem rfree_any (A : Option Addr) (n c : Nat) (most : Int) (l ps : Ps) (f : Nat) (w : World) (hn : n = l.length) (hR : Rs w w.heap.size A l) (hl : n ≤ 900) (hpe : l.Perm ps) (hF : FreeR most ps f) :
    Calls Try.prog 66 #[rV A n c most] w fun r w' => r = .returned (.int .u32 (f : Int)) ∧ Below w.heap.size w w' := by
  unfold rV
  obtain ⟨w0, hw0⟩ : ∃ w0, w0 = w.alloc (.cells #[.slice A n c, .int .i64 most] 27) := ⟨_, rfl⟩
  have hb0 : Below w.heap.size w w0 := by rw [hw0]; exact (Below.refl _ _).alloc (Nat.le_refl _) _
  have hp0 : w0.heap[w.heap.size]? = some (.cells #[.slice A n c, .int .i64 most] 27 (0, 0)) := by rw [hw0]; exact heap_alloc_new w _
  have HR : Hid (Rs w0 w0.heap.size A l) := (hR.below hb0).mono hb0.size
  have H0 := Lib.hid hw0
  have HB0 := Lib.hid hb0
  have HP0 := Lib.hid hp0
  have HN := Lib.hid hn
  have hnl : n = ps.length := by rw [hn]; exact hpe.length_eq
  have HMF : Hid (∀ y, y ∈ l.map (·.1) ↔ y ∈ ps.map (·.1)) := fun y => perm_fst hpe y
  have HBr : Hid (Below w0.heap.size w0 w0) := Below.refl _ _
  clear hw0 hb0 hn hR hpe hp0
  have p0 := cell_of_row w0 w.heap.size 0 _ _ _ HP0.out
  have p1 := cell_of_row w0 w.heap.size 1 _ _ _ HP0.out
  simp at p0 p1
  rcases hF with ⟨rfl, hfu⟩ | ⟨hro, hfr⟩
  · have hge : most ≤ (n : Int) := by omega
    clear hfu hnl
    go_enter Try.func66, Try.ntmps66
    go_upto_region 1 with (fail)
    rw [← H0.out]
    go_wp2
    go_ret
    exact ⟨rfl, HB0.out⟩
  · have hge : ¬ most ≤ (n : Int) := by omega
    have HFR := Lib.hid hfr
    have hfb : f ≤ 901 := by have := hfr.2.1; rw [List.length_map] at this; omega
    have hf1 := hfr.1
    clear hro hnl hfr
    go_enter Try.func66, Try.ntmps66
    go_upto_region 1 with (fail)
    rw [← H0.out]
    go_wp2_with fail
    clear p0 p1
    go_loopw [3] (fun u wr => ∃ k : Nat, 1 ≤ k ∧ k ≤ f ∧ u = .int .u32 (k : Int) ∧ Hid (Below w0.heap.size w0 wr)) (fun u _ => f - (intOf u).toNat)
    case atStart => exact ⟨1, by omega, hf1, rfl, HBr.out⟩
    case round =>
      obtain ⟨k, hk1, hkf, rfl, HV⟩ := hrel
      have p0 := cell_of_row wr w.heap.size 0 _ _ _ ((HV.out.block _ (lt_of_block HP0.out)).trans HP0.out)
      have p1 := cell_of_row wr w.heap.size 1 _ _ _ ((HV.out.block _ (lt_of_block HP0.out)).trans HP0.out)
      simp at p0 p1
      go_wp2_with fail
      refine (find_any A n c most k l wr HN.out ((HR.out.below HV.out).mono HV.out.size) (by omega)).mono ?_
      rintro r w2 ⟨⟨i, (⟨p', v', rfl, hp'⟩ | ⟨rfl, hno⟩), rfl⟩, hb2⟩
      · have HV2 : Hid (Below w0.heap.size w0 w2) := HV.out.trans (hb2.mono HV.out.size)
        have hkl : k < f := by
          rcases Nat.lt_or_ge k f with h | h
          · exact h
          · have : k = f := by omega
            subst this
            exact absurd ((HMF.out k).1 (List.mem_map.2 ⟨_, List.mem_of_getElem? hp', rfl⟩)) HFR.out.2.2.1
        have hpz : (p' : Int) ≥ 0 := by omega
        have hku : IntKind.u32.wrap ((k : Int) + 1) = (k : Int) + 1 := by rw [IntKind.wrap_u32]; omega
        clear hp' hb2
        go_wp2
        go_roundw
        case rel => exact ⟨k + 1, by omega, by omega, by go_num, HV2.out⟩
        case measure => simp [intOf] <;> omega
      · have hkl : k = f := by
          rcases Nat.lt_or_ge k f with h | h
          · have hm := (HMF.out k).2 (HFR.out.2.2.2 k hk1 h)
            obtain ⟨e, he, hex⟩ := List.mem_map.1 hm
            exact absurd hex (hno e he)
          · omega
        subst hkl
        have HV2 : Hid (Below w.heap.size w w2) := HB0.out.trans ((HV.out.trans (hb2.mono HV.out.size)).mono HB0.out.size)
        clear hb2 hno
        go_wp2
        go_ret
        exact ⟨rfl, HV2.out⟩
end Go.Proofs.Ytbilkelbelimjaa.D
