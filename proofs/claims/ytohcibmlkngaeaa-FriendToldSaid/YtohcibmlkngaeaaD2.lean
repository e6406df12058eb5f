/- Friend: without; the document's Unblock. -/
import Derived.Test.YtohcibmlkngaeaaD1
namespace Go.Proofs.Ytohcibmlkngaeaa
open Go.RowKit Go.Maps
set_option maxRecDepth 20000
set_option linter.unusedVariables false
set_option linter.unusedSimpArgs false

theorem wpList_append_rw {w : World} {ops : Array Oper} {rest : List Oper} {op : Oper} {a : Act} {Q : Exit → Act → World → Prop} (hgd : op.guard = none) (s x : Operand)
    (ho : op.op = .call { callee := .builtin .append, args := #[s, x], argTypes := #[25, 25] }) (base G : Nat) (v : Value) (m : Nat) (l : List Rw) (e : Rw) (hs : a.eval s = v) (hx : a.eval x = .slice (some ⟨G, 0, none⟩) 1 1)
    (hown : w.ownsRow base 70 3 v m (rw3 l)) (hG : w.heap[G]? = some (.cells #[.int .i64 (e.1 : Int), u e.2.1, u e.2.2] 70 (0, 0))) (hm : m ≤ 1000) (hbase : base ≤ w.heap.size)
    (h : ∀ v' w', w'.ownsRow base 70 3 v' (m + 1) (rw3 (l ++ [e])) → w.grownBy w' v.ownBlock → wpList Try.prog ops Q rest (a.put op.dst v') w') : wpList Try.prog ops Q (op :: rest) a w := by
  refine wpList_plain hgd fun K hK => ?_
  obtain ⟨i0, hi, hz0, hz1, hz2⟩ := info_parts info70
  obtain ⟨v', w', hr, h2, h3, _⟩ := run_append_own (P := Try.prog) w base 25 op.type 70 i0 _ 3 _ Try.underlying25 hi hz0 hz1 hz2 rfl (by decide) v m (rw3 l) hown ⟨G, 0, none⟩ 1 1 (rwC e) rfl (fun j x hx => by
    have := cell_of_row w G j _ _ _ hG
    rw [show (#[.int .i64 (e.1 : Int), u e.2.1, u e.2.2] : Array Value) = (rwC e).toArray from rfl, List.getElem?_toArray, hx] at this
    rw [← this, Go.WideShapes.add_plain, Nat.zero_add]) (by
    intro x hx
    simp only [rwC, List.mem_cons, List.not_mem_nil, or_false] at hx
    rcases hx with rfl | rfl | rfl <;> rfl) (by unfold maxLen; omega) (by omega) hbase
  unfold Oper.wp execOp
  simp only [ho, resolve, invoke, builtin, Sem.run_bind, Sem.run_pure, Result.andThen_ok, List.map_toArray, List.map_cons, List.map_nil, hs, hx, hr]
  exact hK _ _ (h v' w' (by rw [rw3_snoc]; exact h2) h3)
theorem own3_lt {w : World} {base T m : Nat} {v : Value} {xs : List Value} (h : w.ownsRow base T 3 v m xs) (g : Nat) (hg : v.ownBlock = some g) : base ≤ g ∧ g < w.heap.size := h.lt g hg
theorem wo_snoc (l : List Rw) (a b : Nat) (r : Rw) : wo (l ++ [r]) a b = wo l a b ++ (if r.1 = 3 ∨ ¬ btw a b r then [r] else []) := by
  unfold wo
  rw [List.filter_append]
  congr 1
  rw [List.filter_cons]
  simp
theorem unb_snoc (l : List Rw) (a b : Nat) (r : Rw) : unb (l ++ [r]) a b = unb l a b ++ (if ¬ (r.1 = 3 ∧ r.2.1 = a ∧ r.2.2 = b) then [r] else []) := by
  unfold unb
  rw [List.filter_append]
  congr 1
  rw [List.filter_cons]
  by_cases h : r.1 = 3 ∧ r.2.1 = a ∧ r.2.2 = b <;> simp [h]

set_option maxHeartbeats 8000000 in
theorem without_any (A : Option Addr) (n c a b : Nat) (l : List Rw) (w : World) (hn : n = l.length) (hR : Rr w A l) (hl : n ≤ 500) (hab : a ≠ b) :
    Calls Try.prog 37 #[.slice A n c, u a, u b] w fun r w' => ∃ B m c', r = .returned (.slice B m c') ∧ w'.ownsRow w.heap.size 70 3 (.slice B m c') m (rw3 (wo l a b)) ∧ Below w.heap.size w w' := by
  have HR := Lib.hid hR
  have HN := Lib.hid hn
  have HB0 : Hid (Below w.heap.size w w) := Below.refl _ _
  clear hR hn
  go_enter Try.func37, Try.ntmps37
  go_wp2_with fail
  go_loopw [7, 8] (fun o x wr => ∃ (k m : Nat) (B : Option Addr) (c2 : Nat), k ≤ n ∧ x = .int .i64 (k : Int) ∧ o = .slice B m c2 ∧ Hid (wr.ownsRow w.heap.size 70 3 (.slice B m c2) m (rw3 (wo (l.take k) a b)) ∧ Below w.heap.size w wr)) (fun _ x _ => n - (intOf x).toNat)
  case atStart => exact ⟨0, 0, none, 0, by omega, rfl, rfl, World.ownsRow_nil w _ 70 3, HB0.out⟩
  case round =>
    obtain ⟨k, m, B, c2, hk, rfl, rfl, HV⟩ := hrel
    by_cases hlt : k < n
    · obtain ⟨⟨s, p, q⟩, hy⟩ : ∃ e, l[k]? = some e := ⟨l[k]'(by rw [← HN.out]; exact hlt), List.getElem?_eq_getElem _⟩
      obtain ⟨b1, o1, cc, rfl, hb1, ha1⟩ := HR.out (by have := HN.out; omega)
      obtain ⟨d0, d1, d2⟩ := ha1 k _ hy
      have hbe : wr.heap[b1]? = w.heap[b1]? := HV.out.2.block b1 (lt_of_block hb1)
      rw [← World.cell?_of_block hbe] at d0 d1 d2
      simp only at d0 d1 d2
      have hnx : l.take (k + 1) = l.take k ++ [(s, p, q)] := by rw [List.take_add_one, hy]; rfl
      have HTK := Lib.hid hnx
      obtain ⟨w1, hw1⟩ : ∃ w1, w1 = wr.alloc (.cells #[.int .i64 (s : Int), u p, u q] 70) := ⟨_, rfl⟩
      have hp1 : w1.heap[wr.heap.size]? = some (.cells #[.int .i64 (s : Int), u p, u q] 70 (0, 0)) := by rw [hw1]; exact heap_alloc_new wr _
      have g0 := cell_of_row w1 wr.heap.size 0 _ _ _ hp1
      have g1 := cell_of_row w1 wr.heap.size 1 _ _ _ hp1
      have g2 := cell_of_row w1 wr.heap.size 2 _ _ _ hp1
      simp at g0 g1 g2
      have HO1 : Hid (w1.ownsRow w.heap.size 70 3 (.slice B m c2) m (rw3 (wo (l.take k) a b))) := by rw [hw1]; exact HV.out.1.alloc _
      have HB1 : Hid (Below w.heap.size w w1) := by rw [hw1]; exact HV.out.2.alloc HV.out.2.size _
      have HS1 : Hid (w.heap.size ≤ w1.heap.size) := HB1.out.size
      have HM : Hid (m ≤ 500) := by
        have h1 := own3_len HV.out.1
        have h2 : (wo (l.take k) a b).length ≤ (l.take k).length := List.length_filter_le _ _
        rw [List.length_take] at h2
        simp only [Hid]
        omega
      have H1 := Lib.hid hw1
      clear hy ha1 hb1 hnx hbe hp1 hw1
      by_cases hpa : p = a
      · by_cases hqb : q = b
        · by_cases hs : s = 3
          · have HH : Hid (p = a ∧ q = b ∧ s = 3) := by simp only [Hid]; omega
            clear hpa hqb hs
            have HNX : Hid (wo (l.take (k + 1)) a b = wo (l.take k) a b ++ [(s, p, q)]) := by
              simp only [Hid]
              rw [HTK.out, wo_snoc, if_pos (by have hh := HH.out; simp [btw]; omega)]
            go_upto_region 6 with (fail)
            rw [← H1.out]
            have e0 : ((p : Int) == (a : Int)) = true := by have hh := HH.out; simp; omega
            have e1 : ((q : Int) == (b : Int)) = true := by have hh := HH.out; simp; omega
            have es : ((s : Int) == (3 : Int)) = true := by have hh := HH.out; simp; omega
            go_upto_region 8 with (fail)
            clear e0 e1 es
            go_wp2_with (at_builtin; refine wpList_append_rw rfl _ _ rfl w.heap.size w1.heap.size (.slice B m c2) m (wo (l.take k) a b) (s, p, q) rfl rfl (HO1.out.alloc _) (heap_alloc_new _ _) (by have := HM.out; omega) (by have := HS1.out; simp; omega) ?_; intro v4 w4 hown4 hg4; obtain ⟨B4, c4, rfl⟩ := own3_form hown4; go_frame)
            have HB4 : Hid (Below w.heap.size w w4) := (HB1.out.alloc HS1.out _).grown hg4 (by have := HS1.out; simp; omega) (fun g h => (own3_lt HO1.out g h).1)
            rw [← HNX.out] at hown4
            go_roundw
            case rel => exact ⟨k + 1, m + 1, B4, c4, by omega, by go_num, rfl, hown4, HB4.out⟩
            case measure => simp [intOf] <;> omega
          · have HH : Hid (p = a ∧ q = b ∧ ¬ s = 3) := by simp only [Hid]; omega
            clear hpa hqb hs
            have HNX : Hid (wo (l.take (k + 1)) a b = wo (l.take k) a b) := by
              simp only [Hid]
              rw [HTK.out, wo_snoc, if_neg (by have hh := HH.out; simp [btw]; omega)]
              simp
            go_upto_region 6 with (fail)
            rw [← H1.out]
            have e0 : ((p : Int) == (a : Int)) = true := by have hh := HH.out; simp; omega
            have e1 : ((q : Int) == (b : Int)) = true := by have hh := HH.out; simp; omega
            have es : ((s : Int) == (3 : Int)) = false := by have hh := HH.out; simp; omega
            go_wp2
            go_roundw
            case rel => exact ⟨k + 1, m, B, c2, by omega, by go_num, rfl, by rw [HNX.out]; exact HO1.out, HB1.out⟩
            case measure => simp [intOf] <;> omega
        · by_cases hs : s = 3
          · have HH : Hid (p = a ∧ ¬ q = b ∧ ¬ p = b ∧ s = 3) := by simp only [Hid]; omega
            clear hpa hqb hs
            have HNX : Hid (wo (l.take (k + 1)) a b = wo (l.take k) a b ++ [(s, p, q)]) := by
              simp only [Hid]
              rw [HTK.out, wo_snoc, if_pos (by have hh := HH.out; simp [btw]; omega)]
            go_upto_region 6 with (fail)
            rw [← H1.out]
            have e0 : ((p : Int) == (a : Int)) = true := by have hh := HH.out; simp; omega
            have e1 : ((q : Int) == (b : Int)) = false := by have hh := HH.out; simp; omega
            have e2 : ((p : Int) == (b : Int)) = false := by have hh := HH.out; simp; omega
            have es : ((s : Int) == (3 : Int)) = true := by have hh := HH.out; simp; omega
            go_upto_region 8 with (fail)
            clear e0 e1 e2 es
            go_wp2_with (at_builtin; refine wpList_append_rw rfl _ _ rfl w.heap.size w1.heap.size (.slice B m c2) m (wo (l.take k) a b) (s, p, q) rfl rfl (HO1.out.alloc _) (heap_alloc_new _ _) (by have := HM.out; omega) (by have := HS1.out; simp; omega) ?_; intro v4 w4 hown4 hg4; obtain ⟨B4, c4, rfl⟩ := own3_form hown4; go_frame)
            have HB4 : Hid (Below w.heap.size w w4) := (HB1.out.alloc HS1.out _).grown hg4 (by have := HS1.out; simp; omega) (fun g h => (own3_lt HO1.out g h).1)
            rw [← HNX.out] at hown4
            go_roundw
            case rel => exact ⟨k + 1, m + 1, B4, c4, by omega, by go_num, rfl, hown4, HB4.out⟩
            case measure => simp [intOf] <;> omega
          · have HH : Hid (p = a ∧ ¬ q = b ∧ ¬ p = b ∧ ¬ s = 3) := by simp only [Hid]; omega
            clear hpa hqb hs
            have HNX : Hid (wo (l.take (k + 1)) a b = wo (l.take k) a b ++ [(s, p, q)]) := by
              simp only [Hid]
              rw [HTK.out, wo_snoc, if_pos (by have hh := HH.out; simp [btw]; omega)]
            go_upto_region 6 with (fail)
            rw [← H1.out]
            have e0 : ((p : Int) == (a : Int)) = true := by have hh := HH.out; simp; omega
            have e1 : ((q : Int) == (b : Int)) = false := by have hh := HH.out; simp; omega
            have e2 : ((p : Int) == (b : Int)) = false := by have hh := HH.out; simp; omega
            have es : ((s : Int) == (3 : Int)) = false := by have hh := HH.out; simp; omega
            go_upto_region 8 with (fail)
            clear e0 e1 e2 es
            go_wp2_with (at_builtin; refine wpList_append_rw rfl _ _ rfl w.heap.size w1.heap.size (.slice B m c2) m (wo (l.take k) a b) (s, p, q) rfl rfl (HO1.out.alloc _) (heap_alloc_new _ _) (by have := HM.out; omega) (by have := HS1.out; simp; omega) ?_; intro v4 w4 hown4 hg4; obtain ⟨B4, c4, rfl⟩ := own3_form hown4; go_frame)
            have HB4 : Hid (Below w.heap.size w w4) := (HB1.out.alloc HS1.out _).grown hg4 (by have := HS1.out; simp; omega) (fun g h => (own3_lt HO1.out g h).1)
            rw [← HNX.out] at hown4
            go_roundw
            case rel => exact ⟨k + 1, m + 1, B4, c4, by omega, by go_num, rfl, hown4, HB4.out⟩
            case measure => simp [intOf] <;> omega
      · by_cases hpb : p = b
        · by_cases hqa : q = a
          · by_cases hs : s = 3
            · have HH : Hid (¬ p = a ∧ p = b ∧ q = a ∧ s = 3) := by simp only [Hid]; omega
              clear hpa hpb hqa hs
              have HNX : Hid (wo (l.take (k + 1)) a b = wo (l.take k) a b ++ [(s, p, q)]) := by
                simp only [Hid]
                rw [HTK.out, wo_snoc, if_pos (by have hh := HH.out; simp [btw]; omega)]
              go_upto_region 6 with (fail)
              rw [← H1.out]
              have e0 : ((p : Int) == (a : Int)) = false := by have hh := HH.out; simp; omega
              have e1 : ((p : Int) == (b : Int)) = true := by have hh := HH.out; simp; omega
              have e2 : ((q : Int) == (a : Int)) = true := by have hh := HH.out; simp; omega
              have es : ((s : Int) == (3 : Int)) = true := by have hh := HH.out; simp; omega
              go_upto_region 8 with (fail)
              clear e0 e1 e2 es
              go_wp2_with (at_builtin; refine wpList_append_rw rfl _ _ rfl w.heap.size w1.heap.size (.slice B m c2) m (wo (l.take k) a b) (s, p, q) rfl rfl (HO1.out.alloc _) (heap_alloc_new _ _) (by have := HM.out; omega) (by have := HS1.out; simp; omega) ?_; intro v4 w4 hown4 hg4; obtain ⟨B4, c4, rfl⟩ := own3_form hown4; go_frame)
              have HB4 : Hid (Below w.heap.size w w4) := (HB1.out.alloc HS1.out _).grown hg4 (by have := HS1.out; simp; omega) (fun g h => (own3_lt HO1.out g h).1)
              rw [← HNX.out] at hown4
              go_roundw
              case rel => exact ⟨k + 1, m + 1, B4, c4, by omega, by go_num, rfl, hown4, HB4.out⟩
              case measure => simp [intOf] <;> omega
            · have HH : Hid (¬ p = a ∧ p = b ∧ q = a ∧ ¬ s = 3) := by simp only [Hid]; omega
              clear hpa hpb hqa hs
              have HNX : Hid (wo (l.take (k + 1)) a b = wo (l.take k) a b) := by
                simp only [Hid]
                rw [HTK.out, wo_snoc, if_neg (by have hh := HH.out; simp [btw]; omega)]
                simp
              go_upto_region 6 with (fail)
              rw [← H1.out]
              have e0 : ((p : Int) == (a : Int)) = false := by have hh := HH.out; simp; omega
              have e1 : ((p : Int) == (b : Int)) = true := by have hh := HH.out; simp; omega
              have e2 : ((q : Int) == (a : Int)) = true := by have hh := HH.out; simp; omega
              have es : ((s : Int) == (3 : Int)) = false := by have hh := HH.out; simp; omega
              go_wp2
              go_roundw
              case rel => exact ⟨k + 1, m, B, c2, by omega, by go_num, rfl, by rw [HNX.out]; exact HO1.out, HB1.out⟩
              case measure => simp [intOf] <;> omega
          · by_cases hs : s = 3
            · have HH : Hid (¬ p = a ∧ p = b ∧ ¬ q = a ∧ s = 3) := by simp only [Hid]; omega
              clear hpa hpb hqa hs
              have HNX : Hid (wo (l.take (k + 1)) a b = wo (l.take k) a b ++ [(s, p, q)]) := by
                simp only [Hid]
                rw [HTK.out, wo_snoc, if_pos (by have hh := HH.out; simp [btw]; omega)]
              go_upto_region 6 with (fail)
              rw [← H1.out]
              have e0 : ((p : Int) == (a : Int)) = false := by have hh := HH.out; simp; omega
              have e1 : ((p : Int) == (b : Int)) = true := by have hh := HH.out; simp; omega
              have e2 : ((q : Int) == (a : Int)) = false := by have hh := HH.out; simp; omega
              have es : ((s : Int) == (3 : Int)) = true := by have hh := HH.out; simp; omega
              go_upto_region 8 with (fail)
              clear e0 e1 e2 es
              go_wp2_with (at_builtin; refine wpList_append_rw rfl _ _ rfl w.heap.size w1.heap.size (.slice B m c2) m (wo (l.take k) a b) (s, p, q) rfl rfl (HO1.out.alloc _) (heap_alloc_new _ _) (by have := HM.out; omega) (by have := HS1.out; simp; omega) ?_; intro v4 w4 hown4 hg4; obtain ⟨B4, c4, rfl⟩ := own3_form hown4; go_frame)
              have HB4 : Hid (Below w.heap.size w w4) := (HB1.out.alloc HS1.out _).grown hg4 (by have := HS1.out; simp; omega) (fun g h => (own3_lt HO1.out g h).1)
              rw [← HNX.out] at hown4
              go_roundw
              case rel => exact ⟨k + 1, m + 1, B4, c4, by omega, by go_num, rfl, hown4, HB4.out⟩
              case measure => simp [intOf] <;> omega
            · have HH : Hid (¬ p = a ∧ p = b ∧ ¬ q = a ∧ ¬ s = 3) := by simp only [Hid]; omega
              clear hpa hpb hqa hs
              have HNX : Hid (wo (l.take (k + 1)) a b = wo (l.take k) a b ++ [(s, p, q)]) := by
                simp only [Hid]
                rw [HTK.out, wo_snoc, if_pos (by have hh := HH.out; simp [btw]; omega)]
              go_upto_region 6 with (fail)
              rw [← H1.out]
              have e0 : ((p : Int) == (a : Int)) = false := by have hh := HH.out; simp; omega
              have e1 : ((p : Int) == (b : Int)) = true := by have hh := HH.out; simp; omega
              have e2 : ((q : Int) == (a : Int)) = false := by have hh := HH.out; simp; omega
              have es : ((s : Int) == (3 : Int)) = false := by have hh := HH.out; simp; omega
              go_upto_region 8 with (fail)
              clear e0 e1 e2 es
              go_wp2_with (at_builtin; refine wpList_append_rw rfl _ _ rfl w.heap.size w1.heap.size (.slice B m c2) m (wo (l.take k) a b) (s, p, q) rfl rfl (HO1.out.alloc _) (heap_alloc_new _ _) (by have := HM.out; omega) (by have := HS1.out; simp; omega) ?_; intro v4 w4 hown4 hg4; obtain ⟨B4, c4, rfl⟩ := own3_form hown4; go_frame)
              have HB4 : Hid (Below w.heap.size w w4) := (HB1.out.alloc HS1.out _).grown hg4 (by have := HS1.out; simp; omega) (fun g h => (own3_lt HO1.out g h).1)
              rw [← HNX.out] at hown4
              go_roundw
              case rel => exact ⟨k + 1, m + 1, B4, c4, by omega, by go_num, rfl, hown4, HB4.out⟩
              case measure => simp [intOf] <;> omega
        · by_cases hs : s = 3
          · have HH : Hid (¬ p = a ∧ ¬ p = b ∧ s = 3) := by simp only [Hid]; omega
            clear hpa hpb hs
            have HNX : Hid (wo (l.take (k + 1)) a b = wo (l.take k) a b ++ [(s, p, q)]) := by
              simp only [Hid]
              rw [HTK.out, wo_snoc, if_pos (by have hh := HH.out; simp [btw]; omega)]
            go_upto_region 6 with (fail)
            rw [← H1.out]
            have e0 : ((p : Int) == (a : Int)) = false := by have hh := HH.out; simp; omega
            have e1 : ((p : Int) == (b : Int)) = false := by have hh := HH.out; simp; omega
            have es : ((s : Int) == (3 : Int)) = true := by have hh := HH.out; simp; omega
            go_upto_region 8 with (fail)
            clear e0 e1 es
            go_wp2_with (at_builtin; refine wpList_append_rw rfl _ _ rfl w.heap.size w1.heap.size (.slice B m c2) m (wo (l.take k) a b) (s, p, q) rfl rfl (HO1.out.alloc _) (heap_alloc_new _ _) (by have := HM.out; omega) (by have := HS1.out; simp; omega) ?_; intro v4 w4 hown4 hg4; obtain ⟨B4, c4, rfl⟩ := own3_form hown4; go_frame)
            have HB4 : Hid (Below w.heap.size w w4) := (HB1.out.alloc HS1.out _).grown hg4 (by have := HS1.out; simp; omega) (fun g h => (own3_lt HO1.out g h).1)
            rw [← HNX.out] at hown4
            go_roundw
            case rel => exact ⟨k + 1, m + 1, B4, c4, by omega, by go_num, rfl, hown4, HB4.out⟩
            case measure => simp [intOf] <;> omega
          · have HH : Hid (¬ p = a ∧ ¬ p = b ∧ ¬ s = 3) := by simp only [Hid]; omega
            clear hpa hpb hs
            have HNX : Hid (wo (l.take (k + 1)) a b = wo (l.take k) a b ++ [(s, p, q)]) := by
              simp only [Hid]
              rw [HTK.out, wo_snoc, if_pos (by have hh := HH.out; simp [btw]; omega)]
            go_upto_region 6 with (fail)
            rw [← H1.out]
            have e0 : ((p : Int) == (a : Int)) = false := by have hh := HH.out; simp; omega
            have e1 : ((p : Int) == (b : Int)) = false := by have hh := HH.out; simp; omega
            have es : ((s : Int) == (3 : Int)) = false := by have hh := HH.out; simp; omega
            go_upto_region 8 with (fail)
            clear e0 e1 es
            go_wp2_with (at_builtin; refine wpList_append_rw rfl _ _ rfl w.heap.size w1.heap.size (.slice B m c2) m (wo (l.take k) a b) (s, p, q) rfl rfl (HO1.out.alloc _) (heap_alloc_new _ _) (by have := HM.out; omega) (by have := HS1.out; simp; omega) ?_; intro v4 w4 hown4 hg4; obtain ⟨B4, c4, rfl⟩ := own3_form hown4; go_frame)
            have HB4 : Hid (Below w.heap.size w w4) := (HB1.out.alloc HS1.out _).grown hg4 (by have := HS1.out; simp; omega) (fun g h => (own3_lt HO1.out g h).1)
            rw [← HNX.out] at hown4
            go_roundw
            case rel => exact ⟨k + 1, m + 1, B4, c4, by omega, by go_num, rfl, hown4, HB4.out⟩
            case measure => simp [intOf] <;> omega
    · obtain rfl : k = n := by omega
      have HRES : Hid (wr.ownsRow w.heap.size 70 3 (.slice B m c2) m (rw3 (wo l a b)) ∧ Below w.heap.size w wr) := by
        have h1 := HV.out
        rw [List.take_of_length_le (by rw [← HN.out]; exact Nat.le_refl _)] at h1
        exact h1
      go_wp2
      go_ret
      exact ⟨_, _, _, rfl, HRES.out.1, HRES.out.2⟩
end Go.Proofs.Ytohcibmlkngaeaa
