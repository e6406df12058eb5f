/- Draft: appends of entries; sides. -/
import Derived.Test.YtnloikdfbdpilaaD5
import Derived.Maps.AppendAt
namespace Go.Proofs.Ytnloikdfbdpilaa
open Go.RowKit
set_option maxRecDepth 20000

theorem info80 : (Try.prog.info? 80).map (fun i => (i.zero, i.size, i.bytes)) = some (some (.agg #[.int .i64 0, .int .i64 0, .int .i64 0, .int .i64 0]), 4, 32) := by kernel_rfl
theorem run_append_en (w : World) (base G ty m : Nat) (v : Value) (xs : List Value) (e : En) (hown : w.ownsRow base 80 4 v m xs) (hG : w.heap[G]? = some (.cells (ec e).toArray 80 (0, 0))) (hm : m ≤ 1000) (hbase : base ≤ w.heap.size) :
    ∃ v' w', (Builtin.append_ #[64, 64] ty #[v, .slice (some ⟨G, 0, none⟩) 1 1]).run Try.prog w = .ok v' w' ∧ w'.ownsRow base 80 4 v' (m + 1) (xs ++ ec e) ∧ w.grownBy w' v.ownBlock ∧ (v'.ownBlock = v.ownBlock ∨ v'.ownBlock = some w.heap.size) := by
  obtain ⟨i0, hi, hz0, hz1, hz2⟩ := info_parts info80
  obtain ⟨v', w', hr, h2, h3, _, h5⟩ := run_append_own_at (P := Try.prog) w base 64 ty 80 i0 _ 4 _ Try.underlying64 hi hz0 hz1 hz2 rfl (by decide) v m xs hown ⟨G, 0, none⟩ 1 1 (ec e) rfl (fun j u hu => by
    have := cell_of_row w G j _ _ _ hG
    rw [List.getElem?_toArray, hu] at this
    rw [← this, Go.WideShapes.add_plain, Nat.zero_add]) (by
    intro u hu
    simp only [ec, List.mem_cons, List.not_mem_nil, or_false] at hu
    rcases hu with rfl | rfl | rfl | rfl <;> rfl) (by unfold maxLen; omega) (by omega) hbase
  exact ⟨v', w', hr, h2, h3, h5⟩
theorem wpList_append_en {w : World} {ops : Array Oper} {rest : List Oper} {op : Oper} {a : Act} {Q : Exit → Act → World → Prop} (hgd : op.guard = none) (s x : Operand)
    (ho : op.op = .call { callee := .builtin .append, args := #[s, x], argTypes := #[64, 64] }) (base G : Nat) (v : Value) (m : Nat) (xs : List Value) (e : En) (hs : a.eval s = v) (hx : a.eval x = .slice (some ⟨G, 0, none⟩) 1 1)
    (hown : w.ownsRow base 80 4 v m xs) (hG : w.heap[G]? = some (.cells (ec e).toArray 80 (0, 0))) (hm : m ≤ 1000) (hbase : base ≤ w.heap.size)
    (h : ∀ v' w', w'.ownsRow base 80 4 v' (m + 1) (xs ++ ec e) → w.grownBy w' v.ownBlock → (v'.ownBlock = v.ownBlock ∨ v'.ownBlock = some w.heap.size) → wpList Try.prog ops Q rest (a.put op.dst v') w') : wpList Try.prog ops Q (op :: rest) a w := by
  refine wpList_plain hgd fun K hK => ?_
  obtain ⟨v', w', hr, h2, h3, h4⟩ := run_append_en w base G op.type m v xs e hown hG hm hbase
  unfold Oper.wp execOp
  simp only [ho, resolve, invoke, builtin, Sem.run_bind, Sem.run_pure, Result.andThen_ok, List.map_toArray, List.map_cons, List.map_nil, hs, hx, hr]
  exact hK _ _ (h v' w' h2 h3 h4)
theorem own_after {w W : World} {base T s m : Nat} {v : Value} {xs : List Value} (h : w.ownsRow base T s v m xs) (hk : ∀ g, v.ownBlock = some g → W.heap[g]? = w.heap[g]?) : W.ownsRow base T s v m xs := by
  refine ⟨h.1, ?_⟩
  rcases h.2 with h2 | ⟨g, cap, cur, e, h3⟩
  · exact .inl h2
  · subst e
    exact .inr ⟨g, cap, cur, rfl, h3.1, (hk g rfl).trans h3.2.1, h3.2.2⟩
theorem own_lt {w : World} {base T s m : Nat} {v : Value} {xs : List Value} (h : w.ownsRow base T s v m xs) : ∀ g, v.ownBlock = some g → base ≤ g ∧ g < w.heap.size := by
  intro g hg
  rcases h.2 with ⟨rfl, _⟩ | ⟨g', cap, cur, e, h3⟩
  · cases hg
  · subst e
    injection hg with hg
    subst hg
    exact ⟨h3.1, lt_of_block h3.2.1⟩

/-- Is the bit of the i-th of n not set? -/
def bitA (way n i : Nat) : Bool := decide (way / 2 ^ (n - 1 - i) % 2 = 0)
def sA (way n : Nat) (l : List En) : List En := (l.zipIdx.filter fun x => bitA way n x.2).map (·.1)
def sB (way n : Nat) (l : List En) : List En := (l.zipIdx.filter fun x => !bitA way n x.2).map (·.1)
theorem sA_snoc (way n : Nat) (l : List En) (k : Nat) (e : En) (h : l[k]? = some e) : sA way n (l.take (k + 1)) = sA way n (l.take k) ++ if bitA way n k then [e] else [] := by
  have hk := (List.getElem?_eq_some_iff.1 h).1
  rw [List.take_add_one, h]
  unfold sA
  simp only [Option.toList, List.zipIdx_append, List.filter_append, List.map_append, List.zipIdx_cons, List.zipIdx_nil, List.filter_cons, List.filter_nil, List.length_take, Nat.zero_add, Nat.min_eq_left (Nat.le_of_lt hk)]
  cases bitA way n k <;> rfl
theorem sB_snoc (way n : Nat) (l : List En) (k : Nat) (e : En) (h : l[k]? = some e) : sB way n (l.take (k + 1)) = sB way n (l.take k) ++ if bitA way n k then [] else [e] := by
  have hk := (List.getElem?_eq_some_iff.1 h).1
  rw [List.take_add_one, h]
  unfold sB
  simp only [Option.toList, List.zipIdx_append, List.filter_append, List.map_append, List.zipIdx_cons, List.zipIdx_nil, List.filter_cons, List.filter_nil, List.length_take, Nat.zero_add, Nat.min_eq_left (Nat.le_of_lt hk)]
  cases bitA way n k <;> rfl
theorem sA_len (way n : Nat) (l : List En) : (sA way n l).length ≤ l.length := by
  unfold sA
  rw [List.length_map]
  exact Nat.le_trans (List.length_filter_le _ _) (by rw [List.length_zipIdx]; exact Nat.le_refl _)
theorem sB_len (way n : Nat) (l : List En) : (sB way n l).length ≤ l.length := by
  unfold sB
  rw [List.length_map]
  exact Nat.le_trans (List.length_filter_le _ _) (by rw [List.length_zipIdx]; exact Nat.le_refl _)
theorem bit_and (x : Nat) (j : Nat) (hx : x < 1000) : bits BinOp.and IntKind.i64 ((x : Int) / 2 ^ j) 1 = ((x / 2 ^ j % 2 : Nat) : Int) := by
  have h1 : (x / 2 ^ j : Nat) ≤ x := Nat.div_le_self _ _
  have h2 : ((x : Int) / 2 ^ j) = ((x / 2 ^ j : Nat) : Int) := by push_cast; rfl
  rw [h2]
  obtain ⟨y, hy⟩ : ∃ y, y = x / 2 ^ j := ⟨_, rfl⟩
  rw [← hy] at h1 ⊢
  have := bits_nat .i64 62 (by decide) (fun n h0 h3 => by rw [IntKind.wrap_i64]; omega) y 1 (by omega) (by decide)
  rw [← Nat.and_one_is_mod]
  simpa using this.1

set_option linter.unusedSimpArgs false in
set_option maxHeartbeats 8000000 in
theorem sides_any (way : Nat) (A : Option Addr) (n c : Nat) (l : List En) (w : World) (hn : n = l.length) (hE : Es w w.heap.size A l) (hl : n ≤ 20) (hw : way < 1000) :
    Calls Try.prog 41 #[.int .i64 (way : Int), .slice A n c] w fun r w' => (∃ A1 c1 A2 c2, r = .returned (.tuple #[.slice A1 (sA way n l).length c1, .slice A2 (sB way n l).length c2]) ∧ Es w' w'.heap.size A1 (sA way n l) ∧ Es w' w'.heap.size A2 (sB way n l)) ∧ Below w.heap.size w w' := by
  have HE := Lib.hid hE
  have HN := Lib.hid hn
  have HBr : Hid (Below w.heap.size w w) := Below.refl _ _
  clear hE hn
  go_enter Try.func41, Try.ntmps41
  go_wp2_with fail
  go_loopw [4, 5, 10] (fun o o' u wr => ∃ (k : Nat), k ≤ n ∧ u = .int .i64 (k : Int) ∧ Hid (wr.ownsRow w.heap.size 80 4 o (sA way n (l.take k)).length (er (sA way n (l.take k))) ∧ wr.ownsRow w.heap.size 80 4 o' (sB way n (l.take k)).length (er (sB way n (l.take k))) ∧ (∀ g, o.ownBlock = some g → o'.ownBlock ≠ some g) ∧ Below w.heap.size w wr)) (fun _ _ u _ => n - (intOf u).toNat)
  case atStart => exact ⟨0, by omega, rfl, World.ownsRow_nil w _ 80 4, World.ownsRow_nil w _ 80 4, fun g hg => by simp [Value.ownBlock] at hg, HBr.out⟩
  case round =>
    obtain ⟨k, hk, rfl, HV⟩ := hrel
    obtain ⟨B, c2, rfl⟩ := own_form HV.out.1
    obtain ⟨B', c3, rfl⟩ := own_form HV.out.2.1
    by_cases hlt : k < n
    · obtain ⟨e, hy⟩ : ∃ e, l[k]? = some e := ⟨l[k]'(by rw [← HN.out]; exact hlt), List.getElem?_eq_getElem _⟩
      obtain ⟨b1, o1, rfl, hb1, ha1⟩ := (HE.out.below HV.out.2.2.2) (by have := HN.out; omega)
      obtain ⟨d0, d1, d2, d3⟩ := ha1 k _ hy
      have HSA := Lib.hid (sA_snoc way n l k e hy)
      have HSB := Lib.hid (sB_snoc way n l k e hy)
      have HBI : Hid (bits BinOp.and IntKind.i64 ((way : Int) / 2 ^ (n - 1 - k)) 1 = ((way / 2 ^ (n - 1 - k) % 2 : Nat) : Int)) := bit_and way _ hw
      obtain ⟨m1, hm1⟩ : ∃ m, m = (sA way n (l.take k)).length := ⟨_, rfl⟩
      obtain ⟨m2, hm2⟩ : ∃ m, m = (sB way n (l.take k)).length := ⟨_, rfl⟩
      have hmk1 : m1 ≤ k := by rw [hm1]; exact Nat.le_trans (sA_len ..) (by rw [List.length_take]; omega)
      have hmk2 : m2 ≤ k := by rw [hm2]; exact Nat.le_trans (sB_len ..) (by rw [List.length_take]; omega)
      rw [← hm1, ← hm2] at HV ⊢
      have HM1 := Lib.hid hm1
      have HM2 := Lib.hid hm2
      obtain ⟨w1, hw1⟩ : ∃ w1, w1 = wr.alloc (.cells (ec e).toArray 80) := ⟨_, rfl⟩
      have hg1 : w1.heap[wr.heap.size]? = some (.cells (ec e).toArray 80 (0, 0)) := by rw [hw1]; exact heap_alloc_new wr _
      have hb1' : Below wr.heap.size wr w1 := by rw [hw1]; exact (Below.refl _ _).alloc (Nat.le_refl _) _
      obtain ⟨w2, hw2⟩ : ∃ w2, w2 = w1.alloc (.cells (ec e).toArray 80) := ⟨_, rfl⟩
      have hg2 : w2.heap[w1.heap.size]? = some (.cells (ec e).toArray 80 (0, 0)) := by rw [hw2]; exact heap_alloc_new w1 _
      have hb2 : Below wr.heap.size wr w2 := by rw [hw2]; exact hb1'.alloc hb1'.size _
      have HB2 : Hid (Below w.heap.size w w2) := HV.out.2.2.2.trans (hb2.mono HV.out.2.2.2.size)
      have HSZ : Hid (w.heap.size ≤ w2.heap.size) := HB2.out.size
      have HG2 := Lib.hid hg2
      have g0 := cell_of_row w1 wr.heap.size 0 _ _ _ hg1
      have g1 := cell_of_row w1 wr.heap.size 1 _ _ _ hg1
      have g2 := cell_of_row w1 wr.heap.size 2 _ _ _ hg1
      have g3 := cell_of_row w1 wr.heap.size 3 _ _ _ hg1
      simp [ec] at g0 g1 g2 g3
      have H1 := Lib.hid hw1
      have H2 := Lib.hid hw2
      simp only [ec] at H1 H2
      clear hw1 hg1 hb1' hw2 hg2 hm1 hm2 ha1 hy hb1
      by_cases hz : way / 2 ^ (n - 1 - k) % 2 = 0
      · have HO2 : Hid (w2.ownsRow w.heap.size 80 4 (.slice B m1 c2) m1 (er (sA way n (l.take k))) ∧ w2.ownsRow w.heap.size 80 4 (.slice B' m2 c3) m2 (er (sB way n (l.take k)))) := ⟨own_after HV.out.1 fun g hg => hb2.block g (own_lt HV.out.1 g hg).2, own_after HV.out.2.1 fun g hg => hb2.block g (own_lt HV.out.2.1 g hg).2⟩
        have ht : Hid (∀ W : World, W = w2 → W.ownsRow w.heap.size 80 4 (.slice B m1 c2) m1 (er (sA way n (l.take k))) ∧ W.ownsRow w.heap.size 80 4 (.slice B' m2 c3) m2 (er (sB way n (l.take k))) ∧ W.heap[w1.heap.size]? = some (.cells (ec e).toArray 80 (0, 0)) ∧ w.heap.size ≤ W.heap.size) := fun W e' => by rw [e']; exact ⟨HO2.out.1, HO2.out.2, HG2.out, HSZ.out⟩
        clear hb2
        have hbz : (bits BinOp.and IntKind.i64 ((way : Int) / 2 ^ (n - 1 - k)) 1 == 0) = true := by rw [HBI.out, hz]; rfl
        have hne : ∀ g, (Value.slice B m1 c2).ownBlock = some g → (Value.slice B' m2 c3).ownBlock ≠ some g := fun g hg hg' => HV.out.2.2.1 g hg hg'
        have HBT : Hid (bitA way n k = true) := by simp only [Hid, bitA]; simp [hz]
        have HNE := Lib.hid hne
        clear hne
        go_upto_region 4 with (fail)
        rw [← H1.out]
        go_wp2_with (at_builtin; refine wpList_append_en rfl (.tmp 24) (.tmp 26) rfl w.heap.size w1.heap.size (.slice B m1 c2) m1 (er (sA way n (l.take k))) e rfl rfl (ht.out _ H2.out.symm).1 (ht.out _ H2.out.symm).2.2.1 (by omega) (ht.out _ H2.out.symm).2.2.2 ?_; intro v3 w3 hown3 hg3 hat3; rw [← H2.out] at hg3 hat3; obtain ⟨B3, c4, rfl⟩ := own_form hown3; have HO3 := Lib.hid hown3; have HB3 : Hid (Below w.heap.size w w3) := HB2.out.grown hg3 HB2.out.size (fun g h => (own_lt HO2.out.1 g h).1); have HP3 : Hid (w3.ownsRow w.heap.size 80 4 (.slice B' m2 c3) m2 (er (sB way n (l.take k)))) := own_after HO2.out.2 (fun g hg => hg3.block g (own_lt HO2.out.2 g hg).2 (fun h => HNE.out g h.symm hg)); have HAT : Hid (∀ g, (Value.slice B3 (m1 + 1) c4).ownBlock = some g → (Value.slice B' m2 c3).ownBlock ≠ some g) := (fun g hg hg' => hat3.elim (fun h => HNE.out g (h.symm.trans hg) hg') (fun h => absurd (own_lt HO2.out.2 g hg').2 (by rw [h] at hg; injection hg with hg; omega))); clear hown3 hg3 hat3)
        go_roundw
        case rel => exact ⟨k + 1, by omega, by go_num, by
          simp only [Hid]
          rw [HSA.out, HSB.out, HBT.out]
          simp only [if_true, Bool.false_eq_true, if_false, List.append_nil, List.length_append, List.length_cons, List.length_nil, er_snoc]
          rw [← HM1.out, ← HM2.out]
          exact ⟨HO3.out, HP3.out, HAT.out, HB3.out⟩⟩
        case measure => simp [intOf] <;> omega
      · have HO2 : Hid (w2.ownsRow w.heap.size 80 4 (.slice B' m2 c3) m2 (er (sB way n (l.take k))) ∧ w2.ownsRow w.heap.size 80 4 (.slice B m1 c2) m1 (er (sA way n (l.take k)))) := ⟨own_after HV.out.2.1 fun g hg => hb2.block g (own_lt HV.out.2.1 g hg).2, own_after HV.out.1 fun g hg => hb2.block g (own_lt HV.out.1 g hg).2⟩
        have ht : Hid (∀ W : World, W = w2 → W.ownsRow w.heap.size 80 4 (.slice B' m2 c3) m2 (er (sB way n (l.take k))) ∧ W.ownsRow w.heap.size 80 4 (.slice B m1 c2) m1 (er (sA way n (l.take k))) ∧ W.heap[w1.heap.size]? = some (.cells (ec e).toArray 80 (0, 0)) ∧ w.heap.size ≤ W.heap.size) := fun W e' => by rw [e']; exact ⟨HO2.out.1, HO2.out.2, HG2.out, HSZ.out⟩
        clear hb2
        have hbz : (bits BinOp.and IntKind.i64 ((way : Int) / 2 ^ (n - 1 - k)) 1 == 0) = false := by rw [HBI.out, show way / 2 ^ (n - 1 - k) % 2 = 1 by omega]; rfl
        have hne : ∀ g, (Value.slice B' m2 c3).ownBlock = some g → (Value.slice B m1 c2).ownBlock ≠ some g := fun g hg hg' => HV.out.2.2.1 g hg' hg
        have HBT : Hid (bitA way n k = false) := by simp only [Hid, bitA, decide_eq_false_iff_not]; exact hz
        have HNE := Lib.hid hne
        clear hne
        go_upto_region 4 with (fail)
        rw [← H1.out]
        go_wp2_with (at_builtin; refine wpList_append_en rfl (.tmp 28) (.tmp 30) rfl w.heap.size w1.heap.size (.slice B' m2 c3) m2 (er (sB way n (l.take k))) e rfl rfl (ht.out _ H2.out.symm).1 (ht.out _ H2.out.symm).2.2.1 (by omega) (ht.out _ H2.out.symm).2.2.2 ?_; intro v3 w3 hown3 hg3 hat3; rw [← H2.out] at hg3 hat3; obtain ⟨B3, c4, rfl⟩ := own_form hown3; have HO3 := Lib.hid hown3; have HB3 : Hid (Below w.heap.size w w3) := HB2.out.grown hg3 HB2.out.size (fun g h => (own_lt HO2.out.1 g h).1); have HP3 : Hid (w3.ownsRow w.heap.size 80 4 (.slice B m1 c2) m1 (er (sA way n (l.take k)))) := own_after HO2.out.2 (fun g hg => hg3.block g (own_lt HO2.out.2 g hg).2 (fun h => HNE.out g h.symm hg)); have HAT : Hid (∀ g, (Value.slice B3 (m2 + 1) c4).ownBlock = some g → (Value.slice B m1 c2).ownBlock ≠ some g) := (fun g hg hg' => hat3.elim (fun h => HNE.out g (h.symm.trans hg) hg') (fun h => absurd (own_lt HO2.out.2 g hg').2 (by rw [h] at hg; injection hg with hg; omega))); clear hown3 hg3 hat3)
        go_roundw
        case rel => exact ⟨k + 1, by omega, by go_num, by
          simp only [Hid]
          rw [HSA.out, HSB.out, HBT.out]
          simp only [if_true, Bool.false_eq_true, if_false, List.append_nil, List.length_append, List.length_cons, List.length_nil, er_snoc]
          rw [← HM1.out, ← HM2.out]
          exact ⟨HP3.out, HO3.out, fun g hg hg' => HAT.out g hg' hg, HB3.out⟩⟩
        case measure => simp [intOf] <;> omega
    · have hkn : k = n := by omega
      subst hkn
      have e : l.take k = l := List.take_of_length_le (by rw [← HN.out]; omega)
      have hv := HV.out
      rw [e] at hv ⊢
      have HRES := Lib.hid hv
      clear e hv
      go_wp2
      exact bodyPost_ret (v := .tuple #[.slice B (sA way k l).length c2, .slice B' (sB way k l).length c3]) (by simp [results, Try.results41, go_sem]) rfl ⟨⟨_, _, _, _, rfl, Es.of_own HRES.out.1, Es.of_own HRES.out.2.1⟩, HRES.out.2.2.2⟩
end Go.Proofs.Ytnloikdfbdpilaa
