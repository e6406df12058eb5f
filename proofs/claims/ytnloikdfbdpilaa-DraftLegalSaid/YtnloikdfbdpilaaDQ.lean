/- Draft: all the places of both teams: the walk. -/
import Derived.Test.YtnloikdfbdpilaaDP
namespace Go.Proofs.Ytnloikdfbdpilaa
open Go.RowKit
set_option maxRecDepth 20000
set_option linter.unusedVariables false

set_option linter.unusedSimpArgs false in
set_option maxHeartbeats 16000000 in
theorem all_any (A1 A2 : Option Addr) (n1 c1 n2 c2 : Nat) (a b : List Int) (w : World) (hna : n1 = a.length) (hnb : n2 = b.length) (ha : Zs w w.heap.size A1 a) (hb : Zs w w.heap.size A2 b) (hn : n1 ≤ 16) (hm : n2 ≤ 16) :
    Calls Try.prog 25 #[.agg #[.slice A1 n1 c1, .slice A2 n2 c2]] w fun r w' => (∃ A' c', r = .returned (.slice A' (allP a b 16).length c') ∧ Zs w' w'.heap.size A' (allP a b 16)) ∧ Below w.heap.size w w' := by
  obtain ⟨w0, hw0⟩ : ∃ w0, w0 = w.alloc (.cells #[.slice A1 n1 c1, .slice A2 n2 c2] 40) := ⟨_, rfl⟩
  have hb0 : Below w.heap.size w w0 := by rw [hw0]; exact (Below.refl _ _).alloc (Nat.le_refl _) _
  have hq0 : w0.heap[w.heap.size]? = some (.cells #[.slice A1 n1 c1, .slice A2 n2 c2] 40 (0, 0)) := by rw [hw0]; exact heap_alloc_new w _
  have HCE : Hid (∀ W, Below w0.heap.size w0 W → W.cell? ⟨w.heap.size, 0, none⟩ = some (.slice A1 n1 c1) ∧ W.cell? ⟨w.heap.size, 1, none⟩ = some (.slice A2 n2 c2)) := fun W hW => by
    have e2 := (hW.block _ (lt_of_block hq0)).trans hq0
    exact ⟨cell_of_row W _ 0 _ _ _ e2, cell_of_row W _ 1 _ _ _ e2⟩
  have HA1 := Lib.hid (ha.later hb0 (Nat.le_refl _))
  have HA2 := Lib.hid (hb.later hb0 (Nat.le_refl _))
  have HNA := Lib.hid hna
  have HNB := Lib.hid hnb
  have H0 := Lib.hid hw0
  have HB0 := Lib.hid hb0
  clear hw0 hb0 hq0 ha hb hna hnb
  go_enter Try.func25, Try.ntmps25
  go_upto_region 1 with (fail)
  rw [← H0.out]
  go_wp2_with fail
  go_loopw [3, 4] (fun o u wr => ∃ i : Nat, i ≤ 16 ∧ u = .int .i64 (i : Int) ∧ Hid (wr.ownsRow w0.heap.size 3 1 o (allP a b i).length (zv (allP a b i)) ∧ Below w0.heap.size w0 wr)) (fun _ u _ => 16 - (intOf u).toNat)
  case atStart => exact ⟨0, by omega, rfl, World.ownsRow_nil w0 _ 3 1, Below.refl _ _⟩
  case round =>
    obtain ⟨i, hi, rfl, HV⟩ := hrel
    obtain ⟨B, d9, rfl⟩ := own_form HV.out.1
    by_cases hlt : i < 16
    · go_wp2_with fail
      go_loopw [3, 5] (fun o u wq => ∃ k : Nat, k ≤ n1 ∧ u = .int .i64 (k : Int) ∧ Hid (wq.ownsRow w0.heap.size 3 1 o (allP a b i ++ eqs i (a.take k)).length (zv (allP a b i ++ eqs i (a.take k))) ∧ Below w0.heap.size w0 wq)) (fun _ u _ => n1 - (intOf u).toNat)
      case atStart => exact ⟨0, by omega, rfl, by rw [List.take_zero, show eqs (i : Int) [] = [] from rfl, List.append_nil]; exact HV.out⟩
      case round =>
        obtain ⟨k, hk, rfl, HI⟩ := hrel
        obtain ⟨B, d9, rfl⟩ := own_form HI.out.1
        obtain ⟨z0, z1⟩ := HCE.out wr HI.out.2
        obtain ⟨m, hm⟩ : ∃ m, m = (allP a b i ++ eqs i (a.take k)).length := ⟨_, rfl⟩
        have hmb : m ≤ 1000 := by
          rw [hm]
          have h1 := allP_len a b i
          have h2 := eqs_len (i : Int) a
          have h3 := eqs_len (i : Int) (a.take k)
          have h4 : (a.take k).length ≤ a.length := List.length_take_le' _ _
          have h5 : i * (a.length + b.length) ≤ 16 * 32 := Nat.mul_le_mul (by omega) (by have := HNA.out; have := HNB.out; omega)
          have := HNA.out
          have := HNB.out
          simp only [List.length_append] at *
          omega
        have HM := Lib.hid hm
        rw [← hm] at HI ⊢
        clear hm
        by_cases hlt2 : k < n1
        · obtain ⟨x, hx⟩ : ∃ x, a[k]? = some x := ⟨a[k]'(by rw [← HNA.out]; exact hlt2), List.getElem?_eq_getElem _⟩
          obtain ⟨b1, o1, rfl, hbb, hcell⟩ := (HA1.out.below HI.out.2) (by have := HNA.out; omega)
          have d0 := hcell k x hx
          have HSN := Lib.hid (eqs_snoc (i : Int) a k x hx)
          by_cases hxi : x = (i : Int)
          · have HS1 : Hid (eqs (i : Int) (a.take (k + 1)) = eqs i (a.take k) ++ [(i : Int)]) := by simp only [Hid]; rw [HSN.out, if_pos hxi, hxi]
            subst hxi
            obtain ⟨w4, hw4⟩ : ∃ w4, w4 = wr.alloc (.cells #[.int .i64 (i : Int)] 3) := ⟨_, rfl⟩
            have hg4 : w4.heap[wr.heap.size]? = some (.cells #[.int .i64 (i : Int)] 3 (0, 0)) := by rw [hw4]; exact heap_alloc_new wr _
            have hb4 : Below wr.heap.size wr w4 := by rw [hw4]; exact (Below.refl _ _).alloc (Nat.le_refl _) _
            have HO4 : Hid (w4.ownsRow w0.heap.size 3 1 (.slice B m d9) m (zv (allP a b i ++ eqs i (a.take k)))) := own_after HI.out.1 fun g hg => hb4.block g (own_lt HI.out.1 g hg).2
            have HB4 : Hid (Below w0.heap.size w0 w4) := HI.out.2.trans (hb4.mono HI.out.2.size)
            have HG4 := Lib.hid hg4
            have H4 := Lib.hid hw4
            have ht4 : Hid (∀ W : World, W = w4 → W.ownsRow w0.heap.size 3 1 (.slice B m d9) m (zv (allP a b i ++ eqs i (a.take k))) ∧ W.heap[wr.heap.size]? = some (.cells #[.int .i64 (i : Int)] 3 (0, 0)) ∧ w0.heap.size ≤ W.heap.size) := fun W e => by rw [e]; exact ⟨HO4.out, HG4.out, HB4.out.size⟩
            have hbe : ((i : Int) == (i : Int)) = true := by simp
            clear hw4 hg4 hb4 hx hcell hbb
            go_wp2_with (at_builtin; refine wpList_append_z rfl (.tmp 25) (.tmp 27) rfl w0.heap.size wr.heap.size (.slice B m d9) m (zv (allP a b i ++ eqs i (a.take k))) (i : Int) rfl rfl (ht4.out _ H4.out.symm).1 (ht4.out _ H4.out.symm).2.1 (by omega) (ht4.out _ H4.out.symm).2.2 ?_; intro v5 w5 ho5 hg5; rw [← H4.out] at hg5; obtain ⟨B5, c5, rfl⟩ := own_form ho5; have HR5 : Hid (w5.ownsRow w0.heap.size 3 1 (.slice B5 (m + 1) c5) (m + 1) (zv (allP a b i ++ eqs i (a.take k)) ++ [.int .i64 (i : Int)]) ∧ Below w0.heap.size w0 w5) := ⟨ho5, HB4.out.grown hg5 HB4.out.size (fun g h => (own_lt HO4.out g h).1)⟩; clear ho5 hg5)
            go_roundw
            case rel =>
              have HFN : Hid (w5.ownsRow w0.heap.size 3 1 (.slice B5 (m + 1) c5) (allP a b i ++ eqs i (a.take (k + 1))).length (zv (allP a b i ++ eqs i (a.take (k + 1)))) ∧ Below w0.heap.size w0 w5) := by
                simp only [Hid]
                rw [HS1.out, ← List.append_assoc, List.length_append, ← HM.out]
                have h6 : ∀ l : List Int, zv (l ++ [(i : Int)]) = zv l ++ [.int .i64 (i : Int)] := fun l => by simp [zv]
                rw [h6]
                exact HR5.out
              exact ⟨k + 1, by omega, by go_num, by
                simp only [Hid, ← List.length_append, ← List.append_assoc]
                exact HFN.out⟩
            case measure => simp [intOf] <;> omega
          · have hbe : (x == (i : Int)) = false := by simp [hxi]
            clear hx hcell hbb
            go_wp2
            go_roundw
            case rel => exact ⟨k + 1, by omega, by go_num, by
              simp only [Hid, ← List.length_append, ← List.append_assoc]
              rw [HSN.out, if_neg hxi, List.append_nil, ← HM.out]
              exact HI.out⟩
            case measure => simp [intOf] <;> omega
        · have hkn : k = n1 := by omega
          subst hkn
          have HF : Hid (wr.ownsRow w0.heap.size 3 1 (.slice B m d9) (allP a b i ++ eqs i a).length (zv (allP a b i ++ eqs i a)) ∧ m = (allP a b i ++ eqs i a).length) := by
            have h := HI.out.1
            have h2 := HM.out
            rw [List.take_of_length_le (by rw [← HNA.out]; exact Nat.le_refl _)] at h h2
            exact ⟨h2 ▸ h, h2⟩
          go_wp2_with fail
          go_loopw [3, 6] (fun o u wq => ∃ k : Nat, k ≤ n2 ∧ u = .int .i64 (k : Int) ∧ Hid (wq.ownsRow w0.heap.size 3 1 o ((allP a b i ++ eqs i a) ++ eqs i (b.take k)).length (zv ((allP a b i ++ eqs i a) ++ eqs i (b.take k))) ∧ Below w0.heap.size w0 wq)) (fun _ u _ => n2 - (intOf u).toNat)
          case atStart => exact ⟨0, by omega, rfl, by rw [List.take_zero, show eqs (i : Int) [] = [] from rfl, List.append_nil]; rw [← HF.out.2] at *; exact ⟨HF.out.1, HI.out.2⟩⟩
          case round =>
            obtain ⟨k, hk, rfl, HI⟩ := hrel
            obtain ⟨B, d9, rfl⟩ := own_form HI.out.1
            obtain ⟨z0, z1⟩ := HCE.out wr HI.out.2
            obtain ⟨m, hm⟩ : ∃ m, m = ((allP a b i ++ eqs i a) ++ eqs i (b.take k)).length := ⟨_, rfl⟩
            have hmb : m ≤ 1000 := by
              rw [hm]
              have h1 := allP_len a b i
              have h2 := eqs_len (i : Int) a
              have h3 := eqs_len (i : Int) (b.take k)
              have h4 : (b.take k).length ≤ b.length := List.length_take_le' _ _
              have h5 : i * (a.length + b.length) ≤ 16 * 32 := Nat.mul_le_mul (by omega) (by have := HNA.out; have := HNB.out; omega)
              have := HNA.out
              have := HNB.out
              simp only [List.length_append] at *
              omega
            have HM := Lib.hid hm
            rw [← hm] at HI ⊢
            clear hm
            by_cases hlt2 : k < n2
            · obtain ⟨x, hx⟩ : ∃ x, b[k]? = some x := ⟨b[k]'(by rw [← HNB.out]; exact hlt2), List.getElem?_eq_getElem _⟩
              obtain ⟨b1, o1, rfl, hbb, hcell⟩ := (HA2.out.below HI.out.2) (by have := HNB.out; omega)
              have d0 := hcell k x hx
              have HSN := Lib.hid (eqs_snoc (i : Int) b k x hx)
              by_cases hxi : x = (i : Int)
              · have HS1 : Hid (eqs (i : Int) (b.take (k + 1)) = eqs i (b.take k) ++ [(i : Int)]) := by simp only [Hid]; rw [HSN.out, if_pos hxi, hxi]
                subst hxi
                obtain ⟨w4, hw4⟩ : ∃ w4, w4 = wr.alloc (.cells #[.int .i64 (i : Int)] 3) := ⟨_, rfl⟩
                have hg4 : w4.heap[wr.heap.size]? = some (.cells #[.int .i64 (i : Int)] 3 (0, 0)) := by rw [hw4]; exact heap_alloc_new wr _
                have hb4 : Below wr.heap.size wr w4 := by rw [hw4]; exact (Below.refl _ _).alloc (Nat.le_refl _) _
                have HO4 : Hid (w4.ownsRow w0.heap.size 3 1 (.slice B m d9) m (zv ((allP a b i ++ eqs i a) ++ eqs i (b.take k)))) := own_after HI.out.1 fun g hg => hb4.block g (own_lt HI.out.1 g hg).2
                have HB4 : Hid (Below w0.heap.size w0 w4) := HI.out.2.trans (hb4.mono HI.out.2.size)
                have HG4 := Lib.hid hg4
                have H4 := Lib.hid hw4
                have ht4 : Hid (∀ W : World, W = w4 → W.ownsRow w0.heap.size 3 1 (.slice B m d9) m (zv ((allP a b i ++ eqs i a) ++ eqs i (b.take k))) ∧ W.heap[wr.heap.size]? = some (.cells #[.int .i64 (i : Int)] 3 (0, 0)) ∧ w0.heap.size ≤ W.heap.size) := fun W e => by rw [e]; exact ⟨HO4.out, HG4.out, HB4.out.size⟩
                have hbe : ((i : Int) == (i : Int)) = true := by simp
                clear hw4 hg4 hb4 hx hcell hbb
                go_wp2_with (at_builtin; refine wpList_append_z rfl (.tmp 43) (.tmp 45) rfl w0.heap.size wr.heap.size (.slice B m d9) m (zv ((allP a b i ++ eqs i a) ++ eqs i (b.take k))) (i : Int) rfl rfl (ht4.out _ H4.out.symm).1 (ht4.out _ H4.out.symm).2.1 (by omega) (ht4.out _ H4.out.symm).2.2 ?_; intro v5 w5 ho5 hg5; rw [← H4.out] at hg5; obtain ⟨B5, c5, rfl⟩ := own_form ho5; have HR5 : Hid (w5.ownsRow w0.heap.size 3 1 (.slice B5 (m + 1) c5) (m + 1) (zv ((allP a b i ++ eqs i a) ++ eqs i (b.take k)) ++ [.int .i64 (i : Int)]) ∧ Below w0.heap.size w0 w5) := ⟨ho5, HB4.out.grown hg5 HB4.out.size (fun g h => (own_lt HO4.out g h).1)⟩; clear ho5 hg5)
                go_roundw
                case rel =>
                  have HFN : Hid (w5.ownsRow w0.heap.size 3 1 (.slice B5 (m + 1) c5) ((allP a b i ++ eqs i a) ++ eqs i (b.take (k + 1))).length (zv ((allP a b i ++ eqs i a) ++ eqs i (b.take (k + 1)))) ∧ Below w0.heap.size w0 w5) := by
                    simp only [Hid]
                    rw [HS1.out, ← List.append_assoc, List.length_append, ← HM.out]
                    have h6 : ∀ l : List Int, zv (l ++ [(i : Int)]) = zv l ++ [.int .i64 (i : Int)] := fun l => by simp [zv]
                    rw [h6]
                    exact HR5.out
                  exact ⟨k + 1, by omega, by go_num, by
                    simp only [Hid, ← List.length_append, ← List.append_assoc]
                    exact HFN.out⟩
                case measure => simp [intOf] <;> omega
              · have hbe : (x == (i : Int)) = false := by simp [hxi]
                clear hx hcell hbb
                go_wp2
                go_roundw
                case rel => exact ⟨k + 1, by omega, by go_num, by
                  simp only [Hid, ← List.length_append, ← List.append_assoc]
                  rw [HSN.out, if_neg hxi, List.append_nil, ← HM.out]
                  exact HI.out⟩
                case measure => simp [intOf] <;> omega
            · have hkn : k = n2 := by omega
              subst hkn
              have HF : Hid (wr.ownsRow w0.heap.size 3 1 (.slice B m d9) ((allP a b i ++ eqs i a) ++ eqs i b).length (zv ((allP a b i ++ eqs i a) ++ eqs i b)) ∧ m = ((allP a b i ++ eqs i a) ++ eqs i b).length) := by
                have h := HI.out.1
                have h2 := HM.out
                rw [List.take_of_length_le (by rw [← HNB.out]; exact Nat.le_refl _)] at h h2
                exact ⟨h2 ▸ h, h2⟩
              go_wp2_with fail
              go_roundw
              case rel => exact ⟨i + 1, by omega, by go_num, by
                simp only [Hid]
                rw [allP_succ, ← List.append_assoc, ← HF.out.2]
                exact ⟨HF.out.2 ▸ HF.out.1, HI.out.2⟩⟩
              case measure => simp [intOf] <;> omega
    · have hkn : i = 16 := by omega
      subst hkn
      have HZ := Lib.hid (Zs.of_own HV.out.1)
      go_wp2
      go_ret
      exact ⟨⟨_, _, rfl, HZ.out⟩, HB0.out.trans (HV.out.2.mono HB0.out.size)⟩
end Go.Proofs.Ytnloikdfbdpilaa
