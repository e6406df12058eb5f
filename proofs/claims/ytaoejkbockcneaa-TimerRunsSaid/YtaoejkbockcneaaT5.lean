/- Timer: Push and Pop of a line; heap.Push, heap.Remove. -/
import Derived.Test.YtaoejkbockcneaaT4
namespace Go.Proofs.Ytaoejkbockcneaa
open Go.RowKit
set_option maxRecDepth 20000

theorem info104 : (Try.prog.info? 104).map (fun i => (i.zero, i.size, i.bytes)) = some (some (.pointer none), 1, 8) := by kernel_rfl
theorem own_base {w : World} {base base' T m : Nat} {v : Value} {xs : List Value} (hb : base ≤ base') (h : w.ownsRow base' T 1 v m xs) : w.ownsRow base T 1 v m xs := by
  refine ⟨h.1, ?_⟩
  rcases h.2 with hn | ⟨g, cap, cur, rfl, hbg, rest⟩
  · exact .inl hn
  · exact .inr ⟨g, cap, cur, rfl, Nat.le_trans hb hbg, rest⟩
theorem wpList_append_ptr {w : World} {ops : Array Oper} {rest : List Oper} {op : Oper} {a : Act} {Q : Exit → Act → World → Prop} (hgd : op.guard = none) (s x : Operand)
    (ho : op.op = .call { callee := .builtin .append, args := #[s, x], argTypes := #[100, 100] }) (base G : Nat) (v : Value) (m : Nat) (xs : List Value) (e : It) (hs : a.eval s = v) (hx : a.eval x = .slice (some ⟨G, 0, none⟩) 1 1)
    (hown : w.ownsRow base 104 1 v m xs) (hG : w.heap[G]? = some (.cells #[ptr e] 104 (0, 0))) (hm : m ≤ 1000) (hbase : base ≤ w.heap.size)
    (h : ∀ v' w', w'.ownsRow base 104 1 v' (m + 1) (xs ++ [ptr e]) → w.grownBy w' v.ownBlock → wpList Try.prog ops Q rest (a.put op.dst v') w') : wpList Try.prog ops Q (op :: rest) a w := by
  refine wpList_plain hgd fun K hK => ?_
  obtain ⟨i0, hi, hz0, hz1, hz2⟩ := info_parts info104
  obtain ⟨v', w', hr, h2, h3, _⟩ := run_append_own (P := Try.prog) w base 100 op.type 104 i0 _ 1 _ Try.underlying100 hi hz0 hz1 hz2 rfl (by decide) v m xs hown ⟨G, 0, none⟩ 1 1 [ptr e] rfl (fun j u hu => by
    have := cell_of_row w G j _ _ _ hG
    rw [show (#[ptr e] : Array Value) = ([ptr e] : List Value).toArray from rfl, List.getElem?_toArray, hu] at this
    rw [← this, Go.WideShapes.add_plain, Nat.zero_add]) (by
    intro u hu
    simp only [List.mem_cons, List.not_mem_nil, or_false] at hu
    rw [hu]
    rfl) (by unfold maxLen; omega) (by omega) hbase
  unfold Oper.wp execOp
  simp only [ho, resolve, invoke, builtin, Sem.run_bind, Sem.run_pure, Result.andThen_ok, List.map_toArray, List.map_cons, List.map_nil, hs, hx, hr]
  exact hK _ _ (h v' w' h2 h3)

theorem push_world {B0 Q M tn pl : Nat} {v v' : Value} {hp : List It} {e : It} {w w1 w2 w3 w' : World} (h : InQ w B0 Q M tn v hp) (he : w.heap[e.1]? = some (.cells (ic e pl) 106 (0, 0))) (hne : ∀ x ∈ hp, x.1 ≠ e.1) (hlo : B0 ≤ e.1)
    (h1 : w1 = w.setCell ⟨e.1, 4, none⟩ (.int .i64 (hp.length : Int))) (h2 : w2 = w1.alloc (.cells #[ptr e] 104)) (ho : w3.ownsRow B0 104 1 v' (hp.length + 1) (hp.map ptr ++ [ptr e])) (hg : w2.grownBy w3 v.ownBlock) (h4 : w' = w3.setCell ⟨Q, 0, none⟩ v') :
    InQ w' B0 Q M tn v' (hp ++ [e]) ∧ Ch 1 B0 w w' ∧ w3.heap[Q]? = some (.cells #[v, .map (some M), .int .u64 (tn : Int)] 103 (0, 0)) := by
  have e1 : ∀ k : Nat, k ≠ e.1 → w1.heap[k]? = w.heap[k]? := fun k hk => by rw [h1]; exact Below.heap_setCell _ _ _ _ hk
  have e2 : ∀ k : Nat, k < w1.heap.size → w2.heap[k]? = w1.heap[k]? := fun k hk => by rw [h2]; exact Below.heap_alloc _ _ _ hk
  have s1 : w1.heap.size = w.heap.size := by rw [h1]; exact World.size_setCell ..
  have s2 : w2.heap.size = w.heap.size + 1 := by rw [h2, World.size_alloc, s1]
  have ee1 : w1.heap[e.1]? = some (.cells (ic e hp.length) 106 (0, 0)) := by rw [h1]; exact heap_setCell_same w e.1 4 _ 106 _ he
  have own1 : w1.ownsRow B0 104 1 v hp.length (hp.map ptr) := own_after h.ln.own fun g hg => e1 g (fun hh => by
    obtain ⟨cur, hc⟩ := own_type h.ln.own hg
    exact type_ne hc he (by decide) hh)
  have own2 : w2.ownsRow B0 104 1 v hp.length (hp.map ptr) := own_after own1 fun g hg => e2 g (own1.lt g hg).2
  have k3 : ∀ (k : Nat) cc TT, w2.heap[k]? = some (.cells cc TT (0, 0)) → TT ≠ 104 → w3.heap[k]? = some (.cells cc TT (0, 0)) := fun k cc TT hk hT => (hg.block k (lt_of_block hk) (fun hh => by
    obtain ⟨cur, hc⟩ := own_type own2 hh.symm
    exact type_ne hk hc hT rfl)).trans hk
  have q2 : w2.heap[Q]? = some (.cells #[v, .map (some M), .int .u64 (tn : Int)] 103 (0, 0)) := (e2 Q (by rw [s1]; exact lt_of_block h.row)).trans ((e1 Q (type_ne h.row he (by decide))).trans h.row)
  have q3 := k3 Q _ 103 q2 (by decide)
  have q4 : w'.heap[Q]? = some (.cells #[v', .map (some M), .int .u64 (tn : Int)] 103 (0, 0)) := by rw [h4]; exact heap_setCell_same w3 Q 0 _ 103 _ q3
  have k4 : ∀ (k : Nat) cc TT, w3.heap[k]? = some (.cells cc TT (0, 0)) → TT ≠ 103 → w'.heap[k]? = some (.cells cc TT (0, 0)) := fun k cc TT hk hT => by rw [h4]; exact (Below.heap_setCell _ _ _ _ (type_ne hk q3 hT)).trans hk
  have lenE : (hp ++ [e]).length = hp.length + 1 := by simp
  refine ⟨⟨q4, ⟨?_, fun i x hx => ?_, fun i j a b hi hj hab => ?_, fun x hx => ?_⟩, h.lo⟩, ?_, q3⟩
  · rw [lenE, List.map_append]
    exact own_after ho fun g hg => by
      rw [h4]
      exact Below.heap_setCell _ _ _ _ (by
        obtain ⟨cur, hc⟩ := own_type ho hg
        exact type_ne hc q3 (by decide))
  · by_cases hil : i < hp.length
    · rw [List.getElem?_append_left hil] at hx
      have hx0 := h.ln.its i x hx
      have hx1 := (e1 x.1 (hne x (List.mem_of_getElem? hx))).trans hx0
      exact k4 _ _ 106 (k3 _ _ 106 ((e2 x.1 (lt_of_block hx1)).trans hx1) (by decide)) (by decide)
    · have hle := (List.getElem?_eq_some_iff.1 hx).1
      rw [lenE] at hle
      have : i = hp.length := by omega
      subst this
      rw [List.getElem?_append_right (Nat.le_refl _), Nat.sub_self] at hx
      simp at hx
      subst hx
      exact k4 _ _ 106 (k3 _ _ 106 ((e2 e.1 (lt_of_block ee1)).trans ee1) (by decide)) (by decide)
  · by_cases hil : i < hp.length
    · rw [List.getElem?_append_left hil] at hi
      by_cases hjl : j < hp.length
      · rw [List.getElem?_append_left hjl] at hj
        exact h.ln.nd i j a b hi hj hab
      · have := (List.getElem?_eq_some_iff.1 hj).1
        rw [lenE] at this
        have hjj : j = hp.length := by omega
        subst hjj
        rw [List.getElem?_append_right (Nat.le_refl _), Nat.sub_self] at hj
        simp at hj
        subst hj
        exact absurd hab (hne a (List.mem_of_getElem? hi))
    · have := (List.getElem?_eq_some_iff.1 hi).1
      rw [lenE] at this
      have hii : i = hp.length := by omega
      subst hii
      rw [List.getElem?_append_right (Nat.le_refl _), Nat.sub_self] at hi
      simp at hi
      subst hi
      by_cases hjl : j < hp.length
      · rw [List.getElem?_append_left hjl] at hj
        exact absurd hab.symm (hne b (List.mem_of_getElem? hj))
      · have := (List.getElem?_eq_some_iff.1 hj).1
        rw [lenE] at this
        omega
  · rcases List.mem_append.1 hx with hx | hx
    · exact h.ln.lo x hx
    · simp at hx
      subst hx
      exact hlo
  · have c1 : Ch 1 B0 w w1 := by rw [h1]; exact Ch.setCell he (.inr (.inr rfl)) hlo _ _
    have hB1 : B0 ≤ w1.heap.size := by rw [s1]; exact Nat.le_trans h.lo (Nat.le_of_lt (lt_of_block h.row))
    have c2 : Ch 1 B0 w1 w2 := by rw [h2]; exact Ch.of_below hB1 ((Below.refl _ _).alloc (Nat.le_refl _) _)
    have c3 : Ch 1 B0 w2 w3 := by
      refine ⟨(Below.refl _ _).grown hg (by omega) (fun g hg' => (own2.lt g hg').1), hg.size, fun g o hgo hok => (hg.block g (lt_of_block hgo) (fun hh => ?_)).trans hgo⟩
      obtain ⟨cur, hc⟩ := own_type own2 hh.symm
      rw [hc] at hgo
      injection hgo with hgo
      subst hgo
      simp [okT] at hok
    have c4 : Ch 1 B0 w3 w' := by rw [h4]; exact Ch.setCell q3 (.inl ⟨rfl, Nat.le_refl _⟩) h.lo _ _
    exact c1.trans (c2.trans (c3.trans c4))

set_option linter.unusedSimpArgs false in
set_option maxHeartbeats 4000000 in
theorem lpush_any {B0 Q M tn pl : Nat} (v : Value) (hp : List It) (e : It) (w : World) (h : InQ w B0 Q M tn v hp) (hn : hp.length ≤ 1000) (he : w.heap[e.1]? = some (.cells (ic e pl) 106 (0, 0))) (hne : ∀ x ∈ hp, x.1 ≠ e.1) (hlo : B0 ≤ e.1) :
    Calls Try.prog 122 #[.pointer (some ⟨Q, 0, none⟩), .iface 104 (.pointer (some ⟨e.1, 0, none⟩))] w fun r w' => r = .returned (.tuple #[]) ∧ ∃ v', InQ w' B0 Q M tn v' (hp ++ [e]) ∧ Ch 1 B0 w w' := by
  have HH := Lib.hid h
  have HE := Lib.hid he
  have HNE := Lib.hid hne
  obtain ⟨A, c, rfl⟩ := own_form h.ln.own
  obtain ⟨n, hnn⟩ : ∃ n, n = hp.length := ⟨_, rfl⟩
  have hrow := h.row
  rw [← hnn] at hrow hn
  have HNN := Lib.hid hnn
  have q0 := cell_of_row w Q 0 _ _ _ hrow
  have x4 := cell_of_row w e.1 4 _ _ _ he
  have f4 : ∀ i, w.frozen? ⟨e.1, i, none⟩ = false := fun i => frozen_of_row w _ i _ _ he
  simp [ic] at q0 x4
  obtain ⟨w1, hw1⟩ : ∃ w1, w1 = w.setCell ⟨e.1, 4, none⟩ (.int .i64 (n : Int)) := ⟨_, rfl⟩
  obtain ⟨w2, hw2⟩ : ∃ w2, w2 = w1.alloc (.cells #[.pointer (some ⟨e.1, 0, none⟩)] 104) := ⟨_, rfl⟩
  have hr1 : w1.heap[Q]? = some (.cells #[.slice A n c, .map (some M), .int .u64 (tn : Int)] 103 (0, 0)) := by rw [hw1]; exact (Below.heap_setCell _ _ _ _ (type_ne hrow he (by decide))).trans hrow
  have HO2 : Hid (w2.ownsRow B0 104 1 (.slice A n c) n (hp.map ptr)) := by
    have h0 := h.ln.own
    rw [← hnn] at h0
    refine own_after h0 fun g hg => ?_
    rw [hw2]
    have hgw : g < w1.heap.size := by rw [hw1, World.size_setCell]; exact (h0.lt g hg).2
    refine (Below.heap_alloc _ _ _ hgw).trans ?_
    rw [hw1]
    exact Below.heap_setCell _ _ _ _ (by
      obtain ⟨cur, hc⟩ := own_type h0 hg
      exact type_ne hc he (by decide))
  have HG2 : Hid (w2.heap[w1.heap.size]? = some (.cells #[ptr e] 104 (0, 0))) := by rw [hw2]; exact heap_alloc_new w1 _
  have HS2 : Hid (B0 ≤ w2.heap.size) := by
    simp only [Hid]
    rw [hw2, World.size_alloc, hw1, World.size_setCell]
    have := h.lo
    have := lt_of_block h.row
    omega
  have r0 := cell_of_row w1 Q 0 _ _ _ hr1
  simp at r0
  have H1 := Lib.hid hw1
  have H2 := Lib.hid hw2
  have hta : ∀ W : World, (Instr.typeAssert (.iface 104 (.pointer (some ⟨e.1, 0, none⟩))) 20 104 false).run Try.prog W = .ok (.pointer (some ⟨e.1, 0, none⟩)) W := fun W => by kernel_rfl
  clear h he hne hnn hrow hw1 hw2 hr1
  go_enter Try.func122, Try.ntmps122
  go_upto_region 2 with (fail)
  rw [← H1.out]
  clear q0 x4 f4
  have ht : Hid (∀ W : World, W = w2 → W.ownsRow B0 104 1 (.slice A n c) n (hp.map ptr) ∧ W.heap[w1.heap.size]? = some (.cells #[ptr e] 104 (0, 0)) ∧ B0 ≤ W.heap.size) := fun W e => by rw [e]; exact ⟨HO2.out, HG2.out, HS2.out⟩
  have HAFT : Hid (∀ (v3 : Value) (w3 : World), w3.ownsRow B0 104 1 v3 (n + 1) (hp.map ptr ++ [ptr e]) → w2.grownBy w3 (Value.ownBlock (.slice A n c)) → InQ (w3.setCell ⟨Q, 0, none⟩ v3) B0 Q M tn v3 (hp ++ [e]) ∧ Ch 1 B0 w (w3.setCell ⟨Q, 0, none⟩ v3) ∧ w3.cell? ⟨Q, 0, none⟩ = some (.slice A n c) ∧ ∀ i, w3.frozen? ⟨Q, i, none⟩ = false) := fun v3 w3 h1 h2 => by
    have hn' := HNN.out
    subst hn'
    have hw := push_world HH.out HE.out HNE.out hlo H1.out H2.out h1 h2 rfl
    exact ⟨hw.1, hw.2.1, by simpa using cell_of_row w3 Q 0 _ _ _ hw.2.2, fun i => frozen_of_row w3 _ i _ _ hw.2.2⟩
  go_wp2_with (at_builtin; refine wpList_append_ptr rfl (.tmp 17) (.tmp 19) rfl B0 w1.heap.size (.slice A n c) n (hp.map ptr) e rfl rfl (ht.out _ H2.out.symm).1 (ht.out _ H2.out.symm).2.1 (by omega) (ht.out _ H2.out.symm).2.2 ?_; intro v3 w3 hown3 hg3; obtain ⟨A3, c3, rfl⟩ := own_form hown3; have HPW := Lib.hid (HAFT.out _ w3 hown3 (by rw [H2.out]; exact hg3)); have q3 := HPW.out.2.2.1; have f3 := HPW.out.2.2.2; clear hown3 hg3)
  first | go_end0 | skip
  exact ⟨rfl, _, HPW.out.1, HPW.out.2.1⟩

theorem pop_world {B0 Q M tn : Nat} {hp : List It} {e : It} {g cap : Nat} {cur : Array Value} {w w1 w' : World} (h : InQ w B0 Q M tn (.slice (some ⟨g, 0, none⟩) (hp.length + 1) cap) (hp ++ [e])) (hg : w.heap[g]? = some (.cells cur 104 (0, 0)))
    (h1 : w1 = w.setCell ⟨g, hp.length, none⟩ (.pointer none)) (h2 : w' = w1.setCell ⟨Q, 0, none⟩ (.slice (some ⟨g, 0, none⟩) hp.length cap)) :
    InQ w' B0 Q M tn (.slice (some ⟨g, 0, none⟩) hp.length cap) hp ∧ Ch 1 B0 w w' ∧ w1.heap[Q]? = some (.cells #[.slice (some ⟨g, 0, none⟩) (hp.length + 1) cap, .map (some M), .int .u64 (tn : Int)] 103 (0, 0)) := by
  have lenE : (hp ++ [e]).length = hp.length + 1 := by simp
  have hown := h.ln.own
  rw [lenE] at hown
  rcases hown.2 with ⟨hv, h0⟩ | ⟨g', cap', cur', hv, hbg, hh, hnc, hcm, hcs, ht⟩
  · omega
  injection hv with hv1 _ hv3
  injection hv1 with hv1
  injection hv1 with hv1
  subst hv1 hv3
  rw [hg] at hh
  injection hh with hh
  injection hh with hh
  subst hh
  rw [Nat.mul_one] at hcs ht
  have k1 : ∀ k : Nat, k ≠ g → w1.heap[k]? = w.heap[k]? := fun k hk => by rw [h1]; exact Below.heap_setCell _ _ _ _ hk
  have k2 : ∀ k : Nat, k ≠ Q → w'.heap[k]? = w1.heap[k]? := fun k hk => by rw [h2]; exact Below.heap_setCell _ _ _ _ hk
  have hgQ : g ≠ Q := type_ne hg h.row (by decide)
  have g1 : w1.heap[g]? = some (.cells (cur.setIfInBounds hp.length (.pointer none)) 104 (0, 0)) := by rw [h1]; exact heap_setCell_same w g hp.length _ 104 _ hg
  have q1 := (k1 Q hgQ.symm).trans h.row
  have q2 : w'.heap[Q]? = some (.cells #[.slice (some ⟨g, 0, none⟩) hp.length cap, .map (some M), .int .u64 (tn : Int)] 103 (0, 0)) := by rw [h2]; exact heap_setCell_same w1 Q 0 _ 103 _ q1
  refine ⟨⟨q2, ⟨⟨by simp, .inr ⟨g, cap, _, rfl, hbg, (k2 g hgQ).trans g1, by omega, hcm, by simp; omega, ?_⟩⟩, fun i x hx => ?_, fun i j a b hi hj hab => ?_, fun x hx => h.ln.lo x (by simp [hx])⟩, h.lo⟩, ?_, q1⟩
  · rw [Nat.mul_one, Array.toList_setIfInBounds, List.take_set_of_le (Nat.le_refl _)]
    have h3 : (cur.toList.take (hp.length + 1)).take hp.length = ((hp ++ [e]).map ptr).take hp.length := by rw [ht]
    rw [List.take_take, Nat.min_eq_left (Nat.le_succ _), List.map_append, List.take_append_of_le_length (by simp)] at h3
    rw [h3, List.take_of_length_le (by simp)]
  · have hx0 := h.ln.its i x (by rw [List.getElem?_append_left (List.getElem?_eq_some_iff.1 hx).1]; exact hx)
    exact (k2 x.1 (type_ne hx0 h.row (by decide))).trans ((k1 x.1 (type_ne hx0 hg (by decide))).trans hx0)
  · exact h.ln.nd i j a b (by rw [List.getElem?_append_left (List.getElem?_eq_some_iff.1 hi).1]; exact hi) (by rw [List.getElem?_append_left (List.getElem?_eq_some_iff.1 hj).1]; exact hj) hab
  · have c1 : Ch 1 B0 w w1 := by rw [h1]; exact Ch.setCell hg (.inr (.inl rfl)) hbg _ _
    have c2 : Ch 1 B0 w1 w' := by rw [h2]; exact Ch.setCell q1 (.inl ⟨rfl, Nat.le_refl _⟩) h.lo _ _
    exact c1.trans c2

set_option linter.unusedSimpArgs false in
set_option maxHeartbeats 4000000 in
theorem lpop_any {B0 Q M tn : Nat} (v : Value) (hp : List It) (e : It) (w : World) (h : InQ w B0 Q M tn v (hp ++ [e])) (hn : hp.length ≤ 1000) :
    Calls Try.prog 121 #[.pointer (some ⟨Q, 0, none⟩)] w fun r w' => ∃ x v', r = .returned x ∧ InQ w' B0 Q M tn v' hp ∧ Ch 1 B0 w w' := by
  have lenE : (hp ++ [e]).length = hp.length + 1 := by simp
  have hown := h.ln.own
  rw [lenE] at hown
  have hcl := fun g => hown.cells (g := g)
  rcases hown.2 with ⟨hv, h0⟩ | ⟨g, cap, cur, rfl, hbg, hh, hnc, hcm, hcs, ht⟩
  · omega
  rw [Nat.mul_one] at hcs
  obtain ⟨n, hnn⟩ : ∃ n, n = hp.length := ⟨_, rfl⟩
  have hrow := h.row
  have hPW : ∀ w1 w', w1 = w.setCell ⟨g, n, none⟩ (.pointer none) → w' = w1.setCell ⟨Q, 0, none⟩ (.slice (some ⟨g, 0, none⟩) n cap) → InQ w' B0 Q M tn (.slice (some ⟨g, 0, none⟩) n cap) hp ∧ Ch 1 B0 w w' ∧ w1.heap[Q]? = some (.cells #[.slice (some ⟨g, 0, none⟩) (n + 1) cap, .map (some M), .int .u64 (tn : Int)] 103 (0, 0)) := fun w1 w' h1 h2 => by
    rw [hnn] at h1 h2 ⊢
    exact pop_world h hh h1 h2
  have cg : w.cell? ⟨g, n, none⟩ = some (.pointer (some ⟨e.1, 0, none⟩)) := by
    have := hcl g rfl n (ptr e) (by rw [hnn]; simp)
    rw [Go.WideShapes.add_plain, Nat.zero_add] at this
    exact this
  rw [← hnn] at hrow hnc hn
  have fg : ∀ i, w.frozen? ⟨g, i, none⟩ = false := fun i => frozen_of_row w _ i _ _ hh
  have q0 := cell_of_row w Q 0 _ _ _ hrow
  simp at q0
  obtain ⟨w1, hw1⟩ : ∃ w1, w1 = w.setCell ⟨g, n, none⟩ (.pointer none) := ⟨_, rfl⟩
  have HPW := Lib.hid (hPW w1 _ hw1 rfl)
  have q1 := cell_of_row w1 Q 0 _ _ _ HPW.out.2.2
  have f1 : ∀ i, w1.frozen? ⟨Q, i, none⟩ = false := fun i => frozen_of_row w1 _ i _ _ HPW.out.2.2
  simp at q1
  have H1 := Lib.hid hw1
  have e1 : ((n + 1 : Nat) : Int) - 1 = (n : Int) := by omega
  have e2 : (n : Int) ≤ (cap : Int) := by omega
  clear h lenE hown hcl hh hcm hcs ht hbg hrow hPW hnn hw1
  go_enter Try.func121, Try.ntmps121
  go_upto_region 4 with (fail)
  rw [← H1.out]
  clear q0 cg fg
  go_wp2
  go_ret
  exact ⟨_, _, rfl, HPW.out.1, HPW.out.2.1⟩
end Go.Proofs.Ytaoejkbockcneaa
