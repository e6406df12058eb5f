/- The document's Sweep. -/
import Derived.Test.YtfcogjdnnnpmdaaDoorRJ
namespace Go.Proofs.YtfcogjdnnnpmdaaDoor
open Go.RowKit
set_option maxRecDepth 20000
theorem info73 : (Tryd.prog.info? 73).map (fun i => (i.zero, i.size, i.bytes)) = some (some (.agg #[.int .u32 0, .int .i64 0, .int .i64 0, .int .i64 0]), 4, 32) := by kernel_rfl
theorem wpList_append_row {w : World} {ops : Array Oper} {rest : List Oper} {op : Oper} {a : Act} {Q : Exit → Act → World → Prop} (hgd : op.guard = none) (s x : Operand)
    (ho : op.op = .call { callee := .builtin .append, args := #[s, x], argTypes := #[35, 35] }) (base G : Nat) (v : Value) (m : Nat) (xs : List Value) (e : D.Rw) (hs : a.eval s = v) (hx : a.eval x = .slice (some ⟨G, 0, none⟩) 1 1)
    (hown : w.ownsRow base 73 4 v m xs) (hG : w.heap[G]? = some (.cells (D.rc e).toArray 73 (0, 0))) (hm : m ≤ 1000) (hbase : base ≤ w.heap.size)
    (h : ∀ v' w', w'.ownsRow base 73 4 v' (m + 1) (xs ++ D.rc e) → w.grownBy w' v.ownBlock → wpList Tryd.prog ops Q rest (a.put op.dst v') w') : wpList Tryd.prog ops Q (op :: rest) a w := by
  refine wpList_plain hgd fun K hK => ?_
  obtain ⟨i0, hi, hz0, hz1, hz2⟩ := info_parts info73
  obtain ⟨v', w', hr, h2, h3, _⟩ := run_append_own (P := Tryd.prog) w base 35 op.type 73 i0 _ 4 _ Tryd.underlying35 hi hz0 hz1 hz2 rfl (by decide) v m xs hown ⟨G, 0, none⟩ 1 1 (D.rc e) rfl (fun j u hu => by
    have := cell_of_row w G j _ _ _ hG
    rw [List.getElem?_toArray, hu] at this
    rw [← this, Go.WideShapes.add_plain, Nat.zero_add]) (by
    intro u hu
    simp only [D.rc, List.mem_cons, List.not_mem_nil, or_false] at hu
    rcases hu with rfl | rfl | rfl | rfl <;> rfl) (by unfold maxLen; omega) (by omega) hbase
  unfold Oper.wp execOp
  simp only [ho, resolve, invoke, builtin, Sem.run_bind, Sem.run_pure, Result.andThen_ok, List.map_toArray, List.map_cons, List.map_nil, hs, hx, hr]
  exact hK _ _ (h v' w' h2 h3)
theorem right_doc (x : Nat) (w : World) : Calls Tryd.prog 35 #[.int .u32 (x : Int)] w fun r w' => r = .returned (.bool (decide (1 ≤ x ∧ x ≤ 2147483647))) ∧ w' = w := by
  by_cases h0 : x = 0
  · subst h0
    go_enter Tryd.func35, Tryd.ntmps35
    go_wp2
    go_ret
    exact ⟨rfl, rfl⟩
  · have h1 : ¬ (x : Int) = 0 := by omega
    by_cases h2 : x ≤ 2147483647
    · have e : decide (1 ≤ x ∧ x ≤ 2147483647) = true := by rw [decide_eq_true_iff]; omega
      rw [e]
      go_enter Tryd.func35, Tryd.ntmps35
      go_wp2
      go_ret
      exact ⟨by simp <;> omega, rfl⟩
    · have e : decide (1 ≤ x ∧ x ≤ 2147483647) = false := by rw [decide_eq_false_iff_not]; omega
      rw [e]
      go_enter Tryd.func35, Tryd.ntmps35
      go_wp2
      go_ret
      exact ⟨by simp <;> omega, rfl⟩
namespace D
/-- Is something left of a mark at a time? -/
def kp (now : Int) (e : Rw) : Bool := !(decide (atL e.2.1 e.2.2.1 now = 0) && decide (atS e.2.1 e.2.2.1 now = 0) && decide (atU e.2.1 e.2.2.1 e.2.2.2 now = 0))
set_option linter.unusedSimpArgs false in
set_option maxHeartbeats 8000000 in
theorem sweep_any (A : Option Addr) (n c : Nat) (l : List Rw) (now : Int) (w : World) (hn : n = l.length) (hR : Rs w w.heap.size A l) (hl : n ≤ 900) (hI : ∀ e ∈ l, inI e.2.2.1 ∧ inI e.2.2.2) (hnI : inI now) :
    Calls Tryd.prog 20 #[.slice A n c, .int .i64 now] w fun r w' => ∃ v', r = .returned v' ∧ w'.ownsRow w.heap.size 73 4 v' (l.filter (kp now)).length (rr (l.filter (kp now))) ∧ Below w.heap.size w w' := by
  have HR := Lib.hid hR
  have HN := Lib.hid hn
  have HI := Lib.hid hI
  have HNI := Lib.hid hnI
  have HBr : Hid (Below w.heap.size w w) := Below.refl _ _
  clear hR hn hI hnI
  go_enter Tryd.func20, Tryd.ntmps20
  go_wp2_with fail
  go_loopw [5, 6] (fun o u wr => ∃ (k : Nat), k ≤ n ∧ u = .int .i64 (k : Int) ∧ Hid (wr.ownsRow w.heap.size 73 4 o ((l.take k).filter (kp now)).length (rr ((l.take k).filter (kp now))) ∧ Below w.heap.size w wr)) (fun _ u _ => n - (intOf u).toNat)
  case atStart => exact ⟨0, by omega, rfl, World.ownsRow_nil w _ 73 4, HBr.out⟩
  case round =>
    obtain ⟨k, hk, rfl, HV⟩ := hrel
    obtain ⟨B, c2, rfl⟩ := own_form4 HV.out.1
    by_cases hlt : k < n
    · obtain ⟨⟨y, a, b, d⟩, hy⟩ : ∃ e, l[k]? = some e := ⟨l[k]'(by rw [← HN.out]; exact hlt), List.getElem?_eq_getElem _⟩
      obtain ⟨b1, o1, rfl, hb1, ha1⟩ := (HR.out.below HV.out.2) (by have := HN.out; omega)
      obtain ⟨d0, d1, d2, d3⟩ := ha1 k _ hy
      simp only at d0 d1 d2 d3
      have hbd := HI.out _ (List.mem_of_getElem? hy)
      have HA := Lib.hid (rat_any a b d now wr hbd.1 hbd.2 HNI.out)
      have HTK : Hid ((l.take (k + 1)).filter (kp now) = (l.take k).filter (kp now) ++ (if kp now (y, a, b, d) then [(y, a, b, d)] else [])) := by
        simp only [Hid]
        rw [List.take_add_one, hy, List.filter_append]
        simp [List.filter_cons]
      have HKP : Hid (kp now (y, a, b, d) = !(decide (atL a b now = 0) && decide (atS a b now = 0) && decide (atU a b d now = 0))) := rfl
      obtain ⟨m, hm⟩ : ∃ m, m = ((l.take k).filter (kp now)).length := ⟨_, rfl⟩
      have hmk : m ≤ k := by rw [hm]; exact Nat.le_trans (List.length_filter_le _ _) (by rw [List.length_take]; omega)
      rw [← hm] at HV ⊢
      have HM := Lib.hid hm
      obtain ⟨L, hL⟩ : ∃ L, L = atL a b now := ⟨_, rfl⟩
      obtain ⟨S, hS⟩ : ∃ S, S = atS a b now := ⟨_, rfl⟩
      obtain ⟨U, hU⟩ : ∃ U, U = atU a b d now := ⟨_, rfl⟩
      rw [← hL, ← hS, ← hU] at HA HKP
      have hbl : b1 < wr.heap.size := Nat.lt_of_lt_of_le hb1 HV.out.2.size
      clear ha1 hy hm hbd hL hS hU
      go_wp2_with fail
      refine HA.out.mono ?_
      rintro r w1 ⟨rfl, hb1'⟩
      have HV1 : Hid (w1.ownsRow w.heap.size 73 4 (.slice B m c2) m (rr ((l.take k).filter (kp now))) ∧ Below w.heap.size w w1) := ⟨own_after HV.out.1 fun g hg => hb1'.block g (ownlt HV.out.1 g hg).2, HV.out.2.trans (hb1'.mono HV.out.2.size)⟩
      by_cases hz : L = 0 ∧ S = 0 ∧ U = 0
      · obtain ⟨rfl, rfl, rfl⟩ := hz
        have HK0 : Hid (kp now (y, a, b, d) = false) := by simp only [Hid]; rw [HKP.out]; rfl
        clear hb1' hbl d0 d1 d2 d3
        go_wp2_with fail
        go_roundw
        case rel => exact ⟨k + 1, by omega, by go_num, by
          simp only [Hid]
          rw [HTK.out, HK0.out]
          simp only [Bool.false_eq_true, if_false, List.append_nil]
          rw [← HM.out]
          exact HV1.out⟩
        case measure => simp [intOf] <;> omega
      · have HK1 : Hid (kp now (y, a, b, d) = true) := by
          simp only [Hid]
          rw [HKP.out]
          simp only [Bool.not_eq_true', Bool.and_eq_false_iff, decide_eq_false_iff_not]
          by_cases h1 : L = 0
          · by_cases h2 : S = 0
            · exact .inr fun h3 => hz ⟨h1, h2, h3⟩
            · exact .inl (.inr h2)
          · exact .inl (.inl h1)
        have e0 := (hb1'.cell (p := ⟨b1, _, none⟩) hbl).trans d0
        have e1 := (hb1'.cell (p := ⟨b1, _, none⟩) hbl).trans d1
        have e2 := (hb1'.cell (p := ⟨b1, _, none⟩) hbl).trans d2
        have e3 := (hb1'.cell (p := ⟨b1, _, none⟩) hbl).trans d3
        obtain ⟨w2, hw2⟩ : ∃ w2, w2 = w1.alloc (.cells #[.int .u32 (y : Int), .int .i64 a, .int .i64 b, .int .i64 d] 73) := ⟨_, rfl⟩
        have hg2 : w2.heap[w1.heap.size]? = some (.cells (rc (y, a, b, d)).toArray 73 (0, 0)) := by rw [hw2]; exact heap_alloc_new w1 _
        have hb2 : Below w1.heap.size w1 w2 := by rw [hw2]; exact (Below.refl _ _).alloc (Nat.le_refl _) _
        have HO2 : Hid (w2.ownsRow w.heap.size 73 4 (.slice B m c2) m (rr ((l.take k).filter (kp now)))) := own_after HV1.out.1 fun g hg => hb2.block g (ownlt HV1.out.1 g hg).2
        have HB2 : Hid (Below w.heap.size w w2) := HV1.out.2.trans (hb2.mono HV1.out.2.size)
        have HG2 := Lib.hid hg2
        have H2 := Lib.hid hw2
        have HSZ : Hid (w.heap.size ≤ w2.heap.size) := HB2.out.size
        have ht : Hid (∀ W : World, W = w2 → W.ownsRow w.heap.size 73 4 (.slice B m c2) m (rr ((l.take k).filter (kp now))) ∧ W.heap[w1.heap.size]? = some (.cells (rc (y, a, b, d)).toArray 73 (0, 0)) ∧ w.heap.size ≤ W.heap.size) := fun W e => by rw [e]; exact ⟨HO2.out, HG2.out, HSZ.out⟩
        clear hg2 hb2 hw2 hb1' hbl d0 d1 d2 d3
        go_wp2_with (at_builtin; refine wpList_append_row rfl (.tmp 22) (.tmp 27) rfl w.heap.size w1.heap.size (.slice B m c2) m (rr ((l.take k).filter (kp now))) (y, a, b, d) rfl rfl (ht.out _ H2.out.symm).1 (ht.out _ H2.out.symm).2.1 (by omega) (ht.out _ H2.out.symm).2.2 ?_; intro v3 w3 hown3 hg3; rw [← H2.out] at hg3; obtain ⟨B3, c3, rfl⟩ := own_form4 hown3; have HO3 := Lib.hid hown3; have HB3 : Hid (Below w.heap.size w w3) := HB2.out.grown hg3 HB2.out.size (fun g h => (ownlt HO2.out g h).1); clear hown3 hg3)
        all_goals first
          | exact absurd ⟨‹L = 0›, ‹S = 0›, ‹U = 0›⟩ hz
          | (go_roundw
             case rel => exact ⟨k + 1, by omega, by go_num, by
               simp only [Hid]
               rw [HTK.out, HK1.out]
               simp only [if_true, List.length_append, List.length_cons, List.length_nil, rr_snoc]
               rw [← HM.out]
               exact ⟨HO3.out, HB3.out⟩⟩
             case measure => simp [intOf] <;> omega)
    · have hkn : k = n := by omega
      subst hkn
      have e : l.take k = l := List.take_of_length_le (by rw [← HN.out]; omega)
      have HRES : Hid (wr.ownsRow w.heap.size 73 4 (.slice B ((l.take k).filter (kp now)).length c2) (l.filter (kp now)).length (rr (l.filter (kp now))) ∧ Below w.heap.size w wr) := by
        have h1 := HV.out
        rw [e] at h1 ⊢
        exact h1
      clear e
      go_wp2
      go_ret
      exact ⟨_, rfl, HRES.out.1, HRES.out.2⟩
end D
end Go.Proofs.YtfcogjdnnnpmdaaDoor
