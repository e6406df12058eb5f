/- The document's Players. -/
import Derived.Test.YtfcogjdnnnpmdaaDoorRI
namespace Go.Proofs.YtfcogjdnnnpmdaaDoor
open Go.RowKit
set_option maxRecDepth 20000

theorem wpList_append_u32 {w : World} {ops : Array Oper} {rest : List Oper} {op : Oper} {a : Act} {Q : Exit → Act → World → Prop} (hgd : op.guard = none) (s x : Operand)
    (ho : op.op = .call { callee := .builtin .append, args := #[s, x], argTypes := #[51, 51] }) (base G : Nat) (v : Value) (m : Nat) (xs : List Value) (y : Nat) (hs : a.eval s = v) (hx : a.eval x = .slice (some ⟨G, 0, none⟩) 1 1)
    (hown : w.ownsRow base 36 1 v m xs) (hG : w.heap[G]? = some (.cells #[.int .u32 (y : Int)] 36 (0, 0))) (hm : m ≤ 1000) (hbase : base ≤ w.heap.size)
    (h : ∀ v' w', w'.ownsRow base 36 1 v' (m + 1) (xs ++ [.int .u32 (y : Int)]) → w.grownBy w' v.ownBlock → wpList Tryd.prog ops Q rest (a.put op.dst v') w') : wpList Tryd.prog ops Q (op :: rest) a w := by
  refine wpList_plain hgd fun K hK => ?_
  obtain ⟨i0, hi, hz0, hz1, hz2⟩ := info_parts info36
  obtain ⟨v', w', hr, h2, h3, _⟩ := run_append_own (P := Tryd.prog) w base 51 op.type 36 i0 _ 1 _ Tryd.underlying51 hi hz0 hz1 hz2 rfl (by decide) v m xs hown ⟨G, 0, none⟩ 1 1 [.int .u32 (y : Int)] rfl (fun j u hu => by
    have := cell_of_row w G j _ _ _ hG
    rw [show (#[.int .u32 (y : Int)] : Array Value) = ([.int .u32 (y : Int)] : List Value).toArray from rfl, List.getElem?_toArray, hu] at this
    rw [← this, Go.WideShapes.add_plain, Nat.zero_add]) (by
    intro u hu
    simp only [List.mem_cons, List.not_mem_nil, or_false] at hu
    rw [hu]
    rfl) (by unfold maxLen; omega) (by omega) hbase
  unfold Oper.wp execOp
  simp only [ho, resolve, invoke, builtin, Sem.run_bind, Sem.run_pure, Result.andThen_ok, List.map_toArray, List.map_cons, List.map_nil, hs, hx, hr]
  exact hK _ _ (h v' w' h2 h3)
namespace D
set_option linter.unusedSimpArgs false in
set_option maxHeartbeats 8000000 in
theorem players_any (A : Option Addr) (n c : Nat) (l : List Rw) (w : World) (hn : n = l.length) (hR : Rs w w.heap.size A l) (hl : n ≤ 900) :
    Calls Tryd.prog 27 #[.slice A n c] w fun r w' => ∃ v', r = .returned v' ∧ w'.ownsRow w.heap.size 36 1 v' n (un (l.map (·.1))) ∧ Below w.heap.size w w' := by
  have HR := Lib.hid hR
  have HN := Lib.hid hn
  have HBr : Hid (Below w.heap.size w w) := Below.refl _ _
  clear hR hn
  go_enter Tryd.func27, Tryd.ntmps27
  go_wp2_with fail
  go_loopw [3, 4] (fun o u wr => ∃ (k : Nat), k ≤ n ∧ u = .int .i64 (k : Int) ∧ Hid (wr.ownsRow w.heap.size 36 1 o k (un ((l.map (·.1)).take k)) ∧ Below w.heap.size w wr)) (fun _ u _ => n - (intOf u).toNat)
  case atStart => exact ⟨0, by omega, rfl, World.ownsRow_nil w _ 36 1, HBr.out⟩
  case round =>
    obtain ⟨k, hk, rfl, HV⟩ := hrel
    obtain ⟨B, c2, rfl⟩ := own_form1 HV.out.1
    by_cases hlt : k < n
    · obtain ⟨⟨y, a, b, d⟩, hy⟩ : ∃ e, l[k]? = some e := ⟨l[k]'(by rw [← HN.out]; exact hlt), List.getElem?_eq_getElem _⟩
      obtain ⟨b1, o1, rfl, hb1, ha1⟩ := (HR.out.below HV.out.2) (by have := HN.out; omega)
      obtain ⟨d0, d1, d2, d3⟩ := ha1 k _ hy
      simp only at d0 d1 d2 d3
      obtain ⟨w2, hw2⟩ : ∃ w2, w2 = wr.alloc (.cells #[.int .u32 (y : Int)] 36) := ⟨_, rfl⟩
      have hg2 : w2.heap[wr.heap.size]? = some (.cells #[.int .u32 (y : Int)] 36 (0, 0)) := by rw [hw2]; exact heap_alloc_new wr _
      have hb2 : Below wr.heap.size wr w2 := by rw [hw2]; exact (Below.refl _ _).alloc (Nat.le_refl _) _
      have HO2 : Hid (w2.ownsRow w.heap.size 36 1 (.slice B k c2) k (un ((l.map (·.1)).take k))) := own_after HV.out.1 fun g hg => hb2.block g (ownlt HV.out.1 g hg).2
      have HB2 : Hid (Below w.heap.size w w2) := HV.out.2.trans (hb2.mono HV.out.2.size)
      have HG2 := Lib.hid hg2
      have H2 := Lib.hid hw2
      have HTK : Hid (un ((l.map (·.1)).take (k + 1)) = un ((l.map (·.1)).take k) ++ [.int .u32 (y : Int)]) := by simp only [Hid]; rw [List.take_add_one, List.getElem?_map, hy]; simp [un]
      have HSZ : Hid (w.heap.size ≤ w2.heap.size) := HB2.out.size
      have ht : Hid (∀ W : World, W = w2 → W.ownsRow w.heap.size 36 1 (.slice B k c2) k (un ((l.map (·.1)).take k)) ∧ W.heap[wr.heap.size]? = some (.cells #[.int .u32 (y : Int)] 36 (0, 0)) ∧ w.heap.size ≤ W.heap.size) := fun W e => by rw [e]; exact ⟨HO2.out, HG2.out, HSZ.out⟩
      clear hg2 hb2 hw2 hy ha1
      go_wp2_with (at_builtin; refine wpList_append_u32 rfl (.tmp 11) (.tmp 17) rfl w.heap.size wr.heap.size (.slice B k c2) k (un ((l.map (·.1)).take k)) y rfl rfl (ht.out _ H2.out.symm).1 (ht.out _ H2.out.symm).2.1 (by omega) (ht.out _ H2.out.symm).2.2 ?_; intro v3 w3 hown3 hg3; rw [← H2.out] at hg3; rw [← HTK.out] at hown3; obtain ⟨B3, c3, rfl⟩ := own_form1 hown3; have HO3 := Lib.hid hown3; have HB3 : Hid (Below w.heap.size w w3) := HB2.out.grown hg3 HB2.out.size (fun g h => (ownlt HO2.out g h).1); clear hown3 hg3)
      go_roundw
      case rel => exact ⟨k + 1, by omega, by go_num, HO3.out, HB3.out⟩
      case measure => simp [intOf] <;> omega
    · have hkn : k = n := by omega
      subst hkn
      go_wp2
      go_ret
      refine ⟨_, rfl, ?_, HV.out.2⟩
      have h1 := HV.out.1
      rw [List.take_of_length_le (by rw [List.length_map, ← HN.out]; omega)] at h1
      exact h1
end D
end Go.Proofs.YtfcogjdnnnpmdaaDoor
