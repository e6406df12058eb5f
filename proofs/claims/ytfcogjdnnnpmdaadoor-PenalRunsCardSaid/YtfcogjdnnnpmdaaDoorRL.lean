/- The document's HitOne. -/
import Derived.Test.YtfcogjdnnnpmdaaDoorRK
namespace Go.Proofs.YtfcogjdnnnpmdaaDoor.D
open Go.RowKit
set_option maxRecDepth 20000

/-- What HitOne has built behind k rows. -/
def hlist (l : List Rw) (e : Rw) (p q k : Nat) : List Rw := if k ≤ p then l.take k else l.take p ++ [e] ++ (l.drop q).take (k - q)
theorem rr_snoc2 (l : List Rw) (e f : Rw) : rr (l ++ [e] ++ [f]) = rr l ++ rc e ++ rc f := by simp [rr]
theorem hlist_zero (l : List Rw) (e : Rw) (p q : Nat) : hlist l e p q 0 = [] := by unfold hlist; rw [if_pos (Nat.zero_le _)]; rfl
theorem hlist_len (l : List Rw) (e : Rw) (p q k : Nat) (hq : p ≤ q) : (hlist l e p q k).length ≤ l.length + 1 := by
  unfold hlist
  split
  · rw [List.length_take]; omega
  · simp only [List.length_append, List.length_take, List.length_drop, List.length_cons, List.length_nil]
    omega
theorem hlist_lt {l : List Rw} {e f : Rw} {p q k : Nat} (h : k < p) (hf : l[k]? = some f) : hlist l e p q (k + 1) = hlist l e p q k ++ [f] := by
  unfold hlist
  rw [if_pos (by omega), if_pos (by omega), List.take_add_one, hf]
  rfl
theorem hlist_eq {l : List Rw} {e : Rw} {q k : Nat} (h : q = k + 1) : hlist l e k q (k + 1) = hlist l e k q k ++ [e] := by
  unfold hlist
  rw [if_neg (by omega), if_pos (Nat.le_refl _), h]
  simp
theorem hlist_ins {l : List Rw} {e f : Rw} {q k : Nat} (h : q = k) (hf : l[k]? = some f) : hlist l e k q (k + 1) = hlist l e k q k ++ [e] ++ [f] := by
  unfold hlist
  rw [if_neg (by omega), if_pos (Nat.le_refl _), h, Nat.add_sub_cancel_left, List.take_one, List.head?_drop, hf]
  rfl
theorem hlist_gt {l : List Rw} {e f : Rw} {p q k : Nat} (h : p < k) (hq : q = p ∨ q = p + 1) (hf : l[k]? = some f) : hlist l e p q (k + 1) = hlist l e p q k ++ [f] := by
  unfold hlist
  rw [if_neg (by omega), if_neg (by omega), show k + 1 - q = (k - q) + 1 by omega, List.take_add_one, List.getElem?_drop, show q + (k - q) = k by omega, hf, ← List.append_assoc]
  rfl
theorem hlist_end {l : List Rw} {e : Rw} {p q n : Nat} (hn : n = l.length) (h : p < n) (_hq : q = p ∨ q = p + 1) : hlist l e p q n = l.take p ++ [e] ++ l.drop q := by
  unfold hlist
  rw [if_neg (by omega), List.take_of_length_le (l := l.drop q) (by rw [List.length_drop]; omega)]

theorem hlist_last {l : List Rw} {e : Rw} {p q n : Nat} (hn : n = l.length) (h1 : p ≤ (l.map (·.1)).length) (h : n ≤ p) (hq : q = p ∨ q = p + 1) : l.take p ++ [e] ++ l.drop q = hlist l e p q n ++ [e] := by
  rw [List.length_map] at h1
  unfold hlist
  rw [if_pos h, List.drop_of_length_le (by omega), List.append_nil, show p = n by omega]
theorem own_fin {W : World} {b base T K m : Nat} {v x y z : Value} {xs : List Value} (hb : b < base) (h : W.ownsRow base T K v m xs) : (((W.setCell ⟨b, 0, none⟩ x).setCell ⟨b, 1, none⟩ y).setCell ⟨b, 2, none⟩ z).ownsRow base T K v m xs :=
  own_after h fun k hk => by
    have hne : k ≠ b := by have := (ownlt h k hk).1; omega
    rw [Below.heap_setCell _ _ _ _ hne, Below.heap_setCell _ _ _ _ hne, Below.heap_setCell _ _ _ _ hne]
theorem own_base {w : World} {base base' T K m : Nat} {v : Value} {xs : List Value} (hb : base ≤ base') (h : w.ownsRow base' T K v m xs) : w.ownsRow base T K v m xs := by
  refine ⟨h.1, ?_⟩
  rcases h.2 with hn | ⟨g, cap, cur, rfl, hbg, rest⟩
  · exact .inl hn
  · exact .inr ⟨g, cap, cur, rfl, Nat.le_trans hb hbg, rest⟩
set_option linter.unusedSimpArgs false in
set_option maxHeartbeats 8000000 in
theorem hitone_core (A : Option Addr) (n c x : Nat) (most : Int) (l : List Rw) (now : Int) (w : World) (hn : n = l.length) (hR : Rs w w.heap.size A l) (hl : n ≤ 900) (a b d M U : Int) (t : Bool)
    (hF : ∀ W, Below w.heap.size w W → Calls Tryd.prog 22 #[.slice A n c, .int .u32 (x : Int)] W fun r w' => r = .returned (.tuple #[mV a b d, .bool t]) ∧ Below W.heap.size W w')
    (hH : ∀ W, Calls Tryd.prog 13 #[mV a b d, .int .i64 now] W fun r w' => r = .returned (mV M now U) ∧ Below W.heap.size W w')
    (hok : 1 ≤ x ∧ x ≤ 2147483647) (hroom : t = true ∨ (n : Int) < most) (p : Nat) (hp : Pl (l.map (·.1)) x p) (q : Nat) (hq : q = p ∨ q = p + 1) (hq1 : (l.map (·.1))[p]? = some x → q = p + 1) (hq2 : (l.map (·.1))[p]? ≠ some x → q = p) (hup : ∀ k y, p < k → (l.map (·.1))[k]? = some y → x < y) :
    Calls Tryd.prog 19 #[.slice A n c, .int .i64 most, .int .u32 (x : Int), .int .i64 now] w fun r w' => ∃ v', r = .returned (.tuple #[v', mV M now U, .int .i64 0]) ∧ Below w.heap.size w w' ∧ w'.ownsRow w.heap.size 73 4 v' (l.take p ++ [(x, M, now, U)] ++ l.drop q).length (rr (l.take p ++ [(x, M, now, U)] ++ l.drop q)) := by
  have HF := Lib.hid hF
  have HH := Lib.hid hH
  have HR := Lib.hid hR
  have HN := Lib.hid hn
  have HRI := Lib.hid (right_doc x)
  have hd : decide (1 ≤ x ∧ x ≤ 2147483647) = true := by rw [decide_eq_true_iff]; exact hok
  rw [hd] at HRI
  obtain ⟨w0, hw0⟩ : ∃ w0, w0 = w.alloc (.cells (mC 0 0 0) 23) := ⟨_, rfl⟩
  have HB0 : Hid (Below w.heap.size w w0) := by rw [hw0]; exact (Below.refl _ _).alloc (Nat.le_refl _) _
  have HQ0 : Hid (w0.heap[w.heap.size]? = some (.cells (mC 0 0 0) 23 (0, 0))) := by rw [hw0]; exact heap_alloc_new w _
  have H0 := Lib.hid hw0
  have HP := Lib.hid hp
  have HQ := Lib.hid hq
  have HQ1 := Lib.hid hq1
  have HQ2 := Lib.hid hq2
  have HUP := Lib.hid hup
  clear hF hH hR hn hd hw0 hp hq hq1 hq2 hup hok
  go_enter Tryd.func19, Tryd.ntmps19
  go_wp2_with fail
  rw [← H0.out]
  refine (HRI.out w0).mono ?_
  rintro r w0' ⟨rfl, rfl⟩
  go_wp2_with fail
  refine (HF.out _ HB0.out).mono ?_
  rintro r w1 ⟨rfl, hb1⟩
  have hm1 : w.heap.size < w1.heap.size := lt_of_block ((hb1.block _ (lt_of_block HQ0.out)).trans HQ0.out)
  have HQR : Hid ((w1.alloc (.cells (mC a b d) 23)).heap[w.heap.size]? = some (.cells (mC 0 0 0) 23 (0, 0))) := (Below.heap_alloc _ _ _ hm1).trans ((hb1.block _ (lt_of_block HQ0.out)).trans HQ0.out)
  have HB1 : Hid (Below w.heap.size w (w1.alloc (.cells (mC a b d) 23))) := (HB0.out.trans (hb1.mono HB0.out.size)).alloc (Nat.le_of_lt hm1) _
  have HQM : Hid ((w1.alloc (.cells (mC a b d) 23)).heap[w1.heap.size]? = some (.cells (mC a b d) 23 (0, 0))) := heap_alloc_new w1 _
  have HM1 := Lib.hid hm1
  clear hb1 hm1
  cases t
  · have hlt : ¬ (n : Int) ≥ most := by rcases hroom with h | h <;> (first | cases h | omega)
    have hlt2 : ¬ most ≤ (n : Int) := by omega
    go_wp2_with fail
    refine (HH.out _).mono ?_
    rintro r w2 ⟨rfl, hb2⟩
    have hqm := (hb2.block _ (lt_of_block HQM.out)).trans HQM.out
    have b0 : w2.cell? ⟨w1.heap.size, 0, none⟩ = some (.int .i64 a) := by rw [cell_of_row w2 _ _ _ _ _ hqm]; rfl
    have b1 : w2.cell? ⟨w1.heap.size, 1, none⟩ = some (.int .i64 b) := by rw [cell_of_row w2 _ _ _ _ _ hqm]; rfl
    have b2 : w2.cell? ⟨w1.heap.size, 2, none⟩ = some (.int .i64 d) := by rw [cell_of_row w2 _ _ _ _ _ hqm]; rfl
    have bf : ∀ i, w2.frozen? ⟨w1.heap.size, i, none⟩ = false := fun i => frozen_of_row w2 _ i _ _ hqm
    obtain ⟨w5, hw5⟩ : ∃ w5, w5 = (((w2.setCell ⟨w1.heap.size, 0, none⟩ (.int .i64 M)).setCell ⟨w1.heap.size, 1, none⟩ (.int .i64 now)).setCell ⟨w1.heap.size, 2, none⟩ (.int .i64 U)) := ⟨_, rfl⟩
    have hq5 : w5.heap[w1.heap.size]? = some (.cells (mC M now U) 23 (0, 0)) := by rw [hw5]; exact (three (.int .i64 M) (.int .i64 now) (.int .i64 U) hqm).2.2.2
    have HC5 : Hid (w5.cell? ⟨w1.heap.size, 0, none⟩ = some (.int .i64 M) ∧ w5.cell? ⟨w1.heap.size, 1, none⟩ = some (.int .i64 now) ∧ w5.cell? ⟨w1.heap.size, 2, none⟩ = some (.int .i64 U)) := by
      rw [hw5]
      have h3 := three (.int .i64 M) (.int .i64 now) (.int .i64 U) hqm
      exact ⟨h3.1, h3.2.1, h3.2.2.1⟩
    have HM5 : Hid (w1.heap.size < w5.heap.size) := lt_of_block hq5
    have HB5 : Hid (Below w.heap.size w w5) := by rw [hw5]; exact three_below _ _ _ (HB1.out.trans (hb2.mono HB1.out.size)) (Nat.le_of_lt HM1.out)
    have HR5 : Hid (Rs w5 w5.heap.size A l) := (HR.out.below HB5.out).mono HB5.out.size
    have HRZ : Hid (w5.heap[w.heap.size]? = some (.cells (mC 0 0 0) 23 (0, 0))) := by
      have hk : w.heap.size ≠ w1.heap.size := by have := HM1.out; omega
      rw [hw5]
      show ((w2.setCell _ _).setCell _ _ |>.setCell _ _).heap[w.heap.size]? = _
      rw [Below.heap_setCell _ _ _ _ hk, Below.heap_setCell _ _ _ _ hk, Below.heap_setCell _ _ _ _ hk]
      exact (hb2.block _ (lt_of_block HQR.out)).trans HQR.out
    have HFA : Hid (∀ W, Below w5.heap.size w5 W → W.cell? ⟨w1.heap.size, 0, none⟩ = some (.int .i64 M) ∧ W.cell? ⟨w1.heap.size, 1, none⟩ = some (.int .i64 now) ∧ W.cell? ⟨w1.heap.size, 2, none⟩ = some (.int .i64 U) ∧ W.cell? ⟨w.heap.size, 0, none⟩ = some (.int .i64 0) ∧ W.cell? ⟨w.heap.size, 1, none⟩ = some (.int .i64 0) ∧ W.cell? ⟨w.heap.size, 2, none⟩ = some (.int .i64 0) ∧ (∀ i, W.frozen? ⟨w.heap.size, i, none⟩ = false) ∧ W.heap[w.heap.size]? = some (.cells (mC 0 0 0) 23 (0, 0)) ∧ W.heap[w1.heap.size]? = some (.cells (mC M now U) 23 (0, 0))) := fun W hW => by
      have h1 := (hW.block _ (lt_of_block hq5)).trans hq5
      have h2 := (hW.block _ (lt_of_block HRZ.out)).trans HRZ.out
      refine ⟨?_, ?_, ?_, ?_, ?_, ?_, fun i => frozen_of_row W _ i _ _ h2, h2, h1⟩
      · rw [cell_of_row W _ _ _ _ _ h1]; rfl
      · rw [cell_of_row W _ _ _ _ _ h1]; rfl
      · rw [cell_of_row W _ _ _ _ _ h1]; rfl
      · rw [cell_of_row W _ _ _ _ _ h2]; rfl
      · rw [cell_of_row W _ _ _ _ _ h2]; rfl
      · rw [cell_of_row W _ _ _ _ _ h2]; rfl
    have H5 := Lib.hid hw5
    clear hb2 hqm hw5 hq5
    go_upto_region 9 with (fail)
    rw [← H5.out]
    clear b0 b1 b2 bf
    go_wp2_with fail
    go_loopw [13, 14, 15] (fun o z u wr => ∃ (k : Nat), k ≤ n ∧ z = .bool (decide (p < k)) ∧ u = .int .i64 (k : Int) ∧ Hid (wr.ownsRow w5.heap.size 73 4 o (hlist l (x, M, now, U) p q k).length (rr (hlist l (x, M, now, U) p q k)) ∧ Below w5.heap.size w5 wr)) (fun _ _ u _ => n - (intOf u).toNat)
    case atStart => exact ⟨0, by omega, by simp, rfl, by
      simp only [Hid]
      rw [hlist_zero]
      exact ⟨World.ownsRow_nil w5 _ 73 4, Below.refl _ _⟩⟩
    case round =>
      obtain ⟨k, hk, rfl, rfl, HV⟩ := hrel
      obtain ⟨B0, c0, rfl⟩ := own_form4 HV.out.1
      obtain ⟨m0, hm0⟩ : ∃ m, m = (hlist l (x, M, now, U) p q k).length := ⟨_, rfl⟩
      have hmk : m0 ≤ 901 := by rw [hm0]; exact Nat.le_trans (hlist_len _ _ _ _ _ (by have := HQ.out; omega)) (by have := HN.out; omega)
      rw [← hm0] at HV ⊢
      have HM := Lib.hid hm0
      clear hm0
      by_cases hlt : k < n
      · obtain ⟨⟨y, a1, b1, d1⟩, hy⟩ : ∃ e, l[k]? = some e := ⟨l[k]'(by rw [← HN.out]; exact hlt), List.getElem?_eq_getElem _⟩
        obtain ⟨bb, oo, rfl, hbb, ha1⟩ := HR5.out (by have := HN.out; omega)
        have HD := Lib.hid (ha1 k _ hy)
        have HY := Lib.hid hy
        have hyi : (l.map (·.1))[k]? = some y := by rw [List.getElem?_map, hy]; rfl
        rcases Nat.lt_trichotomy k p with hkp | hkp | hkp
        · have hyx : y < x := HP.out.2.1 k y hkp hyi
          have hyx2 : ¬ (y : Int) ≥ (x : Int) := by omega
          have hyx3 : ¬ (y : Int) = (x : Int) := by omega
          have hdec : decide (p < k) = false := by rw [decide_eq_false_iff_not]; omega
          have hdec2 : decide (p < k + 1) = false := by rw [decide_eq_false_iff_not]; omega
          have HNX : Hid (hlist l (x, M, now, U) p q (k + 1) = (hlist l (x, M, now, U) p q k) ++ [(y, a1, b1, d1)]) := hlist_lt hkp HY.out
          rw [hdec]
          clear hy ha1 hyi
          have f0 : wr.cell? ⟨bb, oo + k * 4, none⟩ = some (.int .u32 (y : Int)) := (HV.out.2.cell (p := ⟨bb, _, none⟩) hbb).trans HD.out.1
          have f1 : wr.cell? ⟨bb, oo + k * 4 + 1, none⟩ = some (.int .i64 a1) := (HV.out.2.cell (p := ⟨bb, _, none⟩) hbb).trans HD.out.2.1
          have f2 : wr.cell? ⟨bb, oo + k * 4 + 2, none⟩ = some (.int .i64 b1) := (HV.out.2.cell (p := ⟨bb, _, none⟩) hbb).trans HD.out.2.2.1
          have f3 : wr.cell? ⟨bb, oo + k * 4 + 3, none⟩ = some (.int .i64 d1) := (HV.out.2.cell (p := ⟨bb, _, none⟩) hbb).trans HD.out.2.2.2
          obtain ⟨w20, hw2⟩ : ∃ w2, w2 = wr.alloc (.cells #[.int .u32 (y : Int), .int .i64 a1, .int .i64 b1, .int .i64 d1] 73) := ⟨_, rfl⟩
          have hg2 : w20.heap[wr.heap.size]? = some (.cells (rc (y, a1, b1, d1)).toArray 73 (0, 0)) := by rw [hw2]; exact heap_alloc_new wr _
          have hb2 : Below wr.heap.size wr w20 := by rw [hw2]; exact (Below.refl _ _).alloc (Nat.le_refl _) _
          have HO20 : Hid (w20.ownsRow w5.heap.size 73 4 (.slice B0 m0 c0) m0 (rr (hlist l (x, M, now, U) p q k))) := own_after HV.out.1 fun g hg => hb2.block g (ownlt HV.out.1 g hg).2
          have HB20 : Hid (Below w5.heap.size w5 w20) := HV.out.2.trans (hb2.mono HV.out.2.size)
          have HG20 := Lib.hid hg2
          have H20 := Lib.hid hw2
          have HSZ0 : Hid (w5.heap.size ≤ w20.heap.size) := HB20.out.size
          have ht0 : Hid (∀ W : World, W = w20 → W.ownsRow w5.heap.size 73 4 (.slice B0 m0 c0) m0 (rr (hlist l (x, M, now, U) p q k)) ∧ W.heap[wr.heap.size]? = some (.cells (rc (y, a1, b1, d1)).toArray 73 (0, 0)) ∧ w5.heap.size ≤ W.heap.size) := fun W e => by rw [e]; exact ⟨HO20.out, HG20.out, HSZ0.out⟩
          clear hg2 hb2 hw2
          go_wp2_with (at_builtin; refine wpList_append_row rfl (.tmp 70) (.tmp 75) rfl w5.heap.size wr.heap.size (.slice B0 m0 c0) m0 (rr (hlist l (x, M, now, U) p q k)) (y, a1, b1, d1) rfl rfl (ht0.out _ H20.out.symm).1 (ht0.out _ H20.out.symm).2.1 (by omega) (ht0.out _ H20.out.symm).2.2 ?_; intro v3 w30 hown3 hg3; rw [← H20.out] at hg3; obtain ⟨B1, c1, rfl⟩ := own_form4 hown3; have HV1 : Hid (w30.ownsRow w5.heap.size 73 4 (.slice B1 (m0 + 1) c1) (m0 + 1) (rr ((hlist l (x, M, now, U) p q k)) ++ rc (y, a1, b1, d1)) ∧ Below w5.heap.size w5 w30) := ⟨hown3, HB20.out.grown hg3 HB20.out.size (fun g h => (ownlt HO20.out g h).1)⟩; clear hown3 hg3)
          go_roundw
          case rel => exact ⟨k + 1, by omega, by rw [hdec2], by go_num, by
            simp only [Hid]
            rw [HNX.out]
            simp only [List.length_append, List.length_cons, List.length_nil, rr_snoc, rr_snoc2]
            rw [← HM.out]
            
            
            
            exact HV1.out⟩
          case measure => simp [intOf] <;> omega
        · subst hkp
          have hyx : x ≤ y := HP.out.2.2 k y (Nat.le_refl _) hyi
          have hyx2 : (y : Int) ≥ (x : Int) := by omega
          have hdec : decide (k < k) = false := by simp
          have hdec2 : decide (k < k + 1) = true := by simp
          rw [hdec]
          clear hy ha1
          have g0 : wr.cell? ⟨w1.heap.size, 0, none⟩ = some (.int .i64 M) := (HV.out.2.cell (p := ⟨w1.heap.size, 0, none⟩) HM5.out).trans HC5.out.1
          have g1 : wr.cell? ⟨w1.heap.size, 1, none⟩ = some (.int .i64 now) := (HV.out.2.cell (p := ⟨w1.heap.size, 1, none⟩) HM5.out).trans HC5.out.2.1
          have g2 : wr.cell? ⟨w1.heap.size, 2, none⟩ = some (.int .i64 U) := (HV.out.2.cell (p := ⟨w1.heap.size, 2, none⟩) HM5.out).trans HC5.out.2.2
          have f0 : wr.cell? ⟨bb, oo + k * 4, none⟩ = some (.int .u32 (y : Int)) := (HV.out.2.cell (p := ⟨bb, _, none⟩) hbb).trans HD.out.1
          have f1 : wr.cell? ⟨bb, oo + k * 4 + 1, none⟩ = some (.int .i64 a1) := (HV.out.2.cell (p := ⟨bb, _, none⟩) hbb).trans HD.out.2.1
          have f2 : wr.cell? ⟨bb, oo + k * 4 + 2, none⟩ = some (.int .i64 b1) := (HV.out.2.cell (p := ⟨bb, _, none⟩) hbb).trans HD.out.2.2.1
          have f3 : wr.cell? ⟨bb, oo + k * 4 + 3, none⟩ = some (.int .i64 d1) := (HV.out.2.cell (p := ⟨bb, _, none⟩) hbb).trans HD.out.2.2.2
          obtain ⟨w20, hw2⟩ : ∃ w2, w2 = wr.alloc (.cells #[.int .u32 (x : Int), .int .i64 M, .int .i64 now, .int .i64 U] 73) := ⟨_, rfl⟩
          have hg2 : w20.heap[wr.heap.size]? = some (.cells (rc (x, M, now, U)).toArray 73 (0, 0)) := by rw [hw2]; exact heap_alloc_new wr _
          have hb2 : Below wr.heap.size wr w20 := by rw [hw2]; exact (Below.refl _ _).alloc (Nat.le_refl _) _
          have HO20 : Hid (w20.ownsRow w5.heap.size 73 4 (.slice B0 m0 c0) m0 (rr (hlist l (x, M, now, U) k q k))) := own_after HV.out.1 fun g hg => hb2.block g (ownlt HV.out.1 g hg).2
          have HB20 : Hid (Below w5.heap.size w5 w20) := HV.out.2.trans (hb2.mono HV.out.2.size)
          have HG20 := Lib.hid hg2
          have H20 := Lib.hid hw2
          have HSZ0 : Hid (w5.heap.size ≤ w20.heap.size) := HB20.out.size
          have ht0 : Hid (∀ W : World, W = w20 → W.ownsRow w5.heap.size 73 4 (.slice B0 m0 c0) m0 (rr (hlist l (x, M, now, U) k q k)) ∧ W.heap[wr.heap.size]? = some (.cells (rc (x, M, now, U)).toArray 73 (0, 0)) ∧ w5.heap.size ≤ W.heap.size) := fun W e => by rw [e]; exact ⟨HO20.out, HG20.out, HSZ0.out⟩
          clear hg2 hb2 hw2
          go_upto_region 15 with (at_builtin; refine wpList_append_row rfl (.tmp 57) (.tmp 61) rfl w5.heap.size wr.heap.size (.slice B0 m0 c0) m0 (rr (hlist l (x, M, now, U) k q k)) (x, M, now, U) rfl rfl (ht0.out _ H20.out.symm).1 (ht0.out _ H20.out.symm).2.1 (by omega) (ht0.out _ H20.out.symm).2.2 ?_; intro v3 w30 hown3 hg3; rw [← H20.out] at hg3; obtain ⟨B1, c1, rfl⟩ := own_form4 hown3; have HV1 : Hid (w30.ownsRow w5.heap.size 73 4 (.slice B1 (m0 + 1) c1) (m0 + 1) (rr ((hlist l (x, M, now, U) k q k)) ++ rc (x, M, now, U)) ∧ Below w5.heap.size w5 w30) := ⟨hown3, HB20.out.grown hg3 HB20.out.size (fun g h => (ownlt HO20.out g h).1)⟩; clear hown3 hg3)
          clear f0 f1 f2 f3 g0 g1 g2
          have f0 : w30.cell? ⟨bb, oo + k * 4, none⟩ = some (.int .u32 (y : Int)) := (HV1.out.2.cell (p := ⟨bb, _, none⟩) hbb).trans HD.out.1
          have f1 : w30.cell? ⟨bb, oo + k * 4 + 1, none⟩ = some (.int .i64 a1) := (HV1.out.2.cell (p := ⟨bb, _, none⟩) hbb).trans HD.out.2.1
          have f2 : w30.cell? ⟨bb, oo + k * 4 + 2, none⟩ = some (.int .i64 b1) := (HV1.out.2.cell (p := ⟨bb, _, none⟩) hbb).trans HD.out.2.2.1
          have f3 : w30.cell? ⟨bb, oo + k * 4 + 3, none⟩ = some (.int .i64 d1) := (HV1.out.2.cell (p := ⟨bb, _, none⟩) hbb).trans HD.out.2.2.2
          by_cases hyx3 : y = x
          · subst hyx3
            have HNX : Hid (hlist l (y, M, now, U) k q (k + 1) = (hlist l (y, M, now, U) k q k) ++ [(y, M, now, U)]) := hlist_eq (HQ1.out hyi)
            go_wp2_with fail
            go_roundw
            case rel => exact ⟨k + 1, by omega, by rw [hdec2], by go_num, by
              simp only [Hid]
              rw [HNX.out]
              simp only [List.length_append, List.length_cons, List.length_nil, rr_snoc, rr_snoc2]
              rw [← HM.out]
              
              
              
              exact HV1.out⟩
            case measure => simp [intOf] <;> omega
          · have hyx4 : ¬ (y : Int) = (x : Int) := by omega
            have HNX : Hid (hlist l (x, M, now, U) k q (k + 1) = (hlist l (x, M, now, U) k q k) ++ [(x, M, now, U)] ++ [(y, a1, b1, d1)]) := hlist_ins (HQ2.out fun e => hyx3 (by rw [hyi] at e; exact Option.some.inj e)) HY.out
            obtain ⟨m1, hm1⟩ : ∃ m, m = m0 + 1 := ⟨_, rfl⟩
            have HV1b : Hid (w30.ownsRow w5.heap.size 73 4 (.slice B1 m1 c1) m1 (rr ((hlist l (x, M, now, U) k q k) ++ [(x, M, now, U)])) ∧ Below w5.heap.size w5 w30) := by
              simp only [Hid]
              rw [hm1, rr_snoc]
              exact HV1.out
            rw [← hm1]
            have hm1b : m1 ≤ 902 := by omega
            have HMM := Lib.hid hm1
            clear hm1 HV1
            obtain ⟨w21, hw2⟩ : ∃ w2, w2 = w30.alloc (.cells #[.int .u32 (y : Int), .int .i64 a1, .int .i64 b1, .int .i64 d1] 73) := ⟨_, rfl⟩
            have hg2 : w21.heap[w30.heap.size]? = some (.cells (rc (y, a1, b1, d1)).toArray 73 (0, 0)) := by rw [hw2]; exact heap_alloc_new w30 _
            have hb2 : Below w30.heap.size w30 w21 := by rw [hw2]; exact (Below.refl _ _).alloc (Nat.le_refl _) _
            have HO21 : Hid (w21.ownsRow w5.heap.size 73 4 (.slice B1 m1 c1) m1 (rr ((hlist l (x, M, now, U) k q k) ++ [(x, M, now, U)]))) := own_after HV1b.out.1 fun g hg => hb2.block g (ownlt HV1b.out.1 g hg).2
            have HB21 : Hid (Below w5.heap.size w5 w21) := HV1b.out.2.trans (hb2.mono HV1b.out.2.size)
            have HG21 := Lib.hid hg2
            have H21 := Lib.hid hw2
            have HSZ1 : Hid (w5.heap.size ≤ w21.heap.size) := HB21.out.size
            have ht1 : Hid (∀ W : World, W = w21 → W.ownsRow w5.heap.size 73 4 (.slice B1 m1 c1) m1 (rr ((hlist l (x, M, now, U) k q k) ++ [(x, M, now, U)])) ∧ W.heap[w30.heap.size]? = some (.cells (rc (y, a1, b1, d1)).toArray 73 (0, 0)) ∧ w5.heap.size ≤ W.heap.size) := fun W e => by rw [e]; exact ⟨HO21.out, HG21.out, HSZ1.out⟩
            clear hg2 hb2 hw2
            go_wp2_with (at_builtin; refine wpList_append_row rfl (.tmp 70) (.tmp 75) rfl w5.heap.size w30.heap.size (.slice B1 m1 c1) m1 (rr ((hlist l (x, M, now, U) k q k) ++ [(x, M, now, U)])) (y, a1, b1, d1) rfl rfl (ht1.out _ H21.out.symm).1 (ht1.out _ H21.out.symm).2.1 (by omega) (ht1.out _ H21.out.symm).2.2 ?_; intro v3 w31 hown3 hg3; rw [← H21.out] at hg3; obtain ⟨B2, c2, rfl⟩ := own_form4 hown3; have HV2 : Hid (w31.ownsRow w5.heap.size 73 4 (.slice B2 (m1 + 1) c2) (m1 + 1) (rr (((hlist l (x, M, now, U) k q k) ++ [(x, M, now, U)])) ++ rc (y, a1, b1, d1)) ∧ Below w5.heap.size w5 w31) := ⟨hown3, HB21.out.grown hg3 HB21.out.size (fun g h => (ownlt HO21.out g h).1)⟩; clear hown3 hg3)
            go_roundw
            case rel => exact ⟨k + 1, by omega, by rw [hdec2], by go_num, by
              simp only [Hid]
              rw [HNX.out]
              simp only [List.length_append, List.length_cons, List.length_nil, rr_snoc, rr_snoc2]
              rw [← HM.out]
              have h2 := HV2.out
              rw [rr_snoc, HMM.out] at h2
              rw [HMM.out]
              exact h2⟩
            case measure => simp [intOf] <;> omega
        · have hyx : x < y := HUP.out k y hkp hyi
          have hyx3 : ¬ (y : Int) = (x : Int) := by omega
          have hdec : decide (p < k) = true := by rw [decide_eq_true_iff]; omega
          have hdec2 : decide (p < k + 1) = true := by rw [decide_eq_true_iff]; omega
          have HNX : Hid (hlist l (x, M, now, U) p q (k + 1) = (hlist l (x, M, now, U) p q k) ++ [(y, a1, b1, d1)]) := hlist_gt hkp HQ.out HY.out
          rw [hdec]
          clear hy ha1 hyi
          have f0 : wr.cell? ⟨bb, oo + k * 4, none⟩ = some (.int .u32 (y : Int)) := (HV.out.2.cell (p := ⟨bb, _, none⟩) hbb).trans HD.out.1
          have f1 : wr.cell? ⟨bb, oo + k * 4 + 1, none⟩ = some (.int .i64 a1) := (HV.out.2.cell (p := ⟨bb, _, none⟩) hbb).trans HD.out.2.1
          have f2 : wr.cell? ⟨bb, oo + k * 4 + 2, none⟩ = some (.int .i64 b1) := (HV.out.2.cell (p := ⟨bb, _, none⟩) hbb).trans HD.out.2.2.1
          have f3 : wr.cell? ⟨bb, oo + k * 4 + 3, none⟩ = some (.int .i64 d1) := (HV.out.2.cell (p := ⟨bb, _, none⟩) hbb).trans HD.out.2.2.2
          obtain ⟨w20, hw2⟩ : ∃ w2, w2 = wr.alloc (.cells #[.int .u32 (y : Int), .int .i64 a1, .int .i64 b1, .int .i64 d1] 73) := ⟨_, rfl⟩
          have hg2 : w20.heap[wr.heap.size]? = some (.cells (rc (y, a1, b1, d1)).toArray 73 (0, 0)) := by rw [hw2]; exact heap_alloc_new wr _
          have hb2 : Below wr.heap.size wr w20 := by rw [hw2]; exact (Below.refl _ _).alloc (Nat.le_refl _) _
          have HO20 : Hid (w20.ownsRow w5.heap.size 73 4 (.slice B0 m0 c0) m0 (rr (hlist l (x, M, now, U) p q k))) := own_after HV.out.1 fun g hg => hb2.block g (ownlt HV.out.1 g hg).2
          have HB20 : Hid (Below w5.heap.size w5 w20) := HV.out.2.trans (hb2.mono HV.out.2.size)
          have HG20 := Lib.hid hg2
          have H20 := Lib.hid hw2
          have HSZ0 : Hid (w5.heap.size ≤ w20.heap.size) := HB20.out.size
          have ht0 : Hid (∀ W : World, W = w20 → W.ownsRow w5.heap.size 73 4 (.slice B0 m0 c0) m0 (rr (hlist l (x, M, now, U) p q k)) ∧ W.heap[wr.heap.size]? = some (.cells (rc (y, a1, b1, d1)).toArray 73 (0, 0)) ∧ w5.heap.size ≤ W.heap.size) := fun W e => by rw [e]; exact ⟨HO20.out, HG20.out, HSZ0.out⟩
          clear hg2 hb2 hw2
          go_wp2_with (at_builtin; refine wpList_append_row rfl (.tmp 70) (.tmp 75) rfl w5.heap.size wr.heap.size (.slice B0 m0 c0) m0 (rr (hlist l (x, M, now, U) p q k)) (y, a1, b1, d1) rfl rfl (ht0.out _ H20.out.symm).1 (ht0.out _ H20.out.symm).2.1 (by omega) (ht0.out _ H20.out.symm).2.2 ?_; intro v3 w30 hown3 hg3; rw [← H20.out] at hg3; obtain ⟨B1, c1, rfl⟩ := own_form4 hown3; have HV1 : Hid (w30.ownsRow w5.heap.size 73 4 (.slice B1 (m0 + 1) c1) (m0 + 1) (rr ((hlist l (x, M, now, U) p q k)) ++ rc (y, a1, b1, d1)) ∧ Below w5.heap.size w5 w30) := ⟨hown3, HB20.out.grown hg3 HB20.out.size (fun g h => (ownlt HO20.out g h).1)⟩; clear hown3 hg3)
          go_roundw
          case rel => exact ⟨k + 1, by omega, by rw [hdec2], by go_num, by
            simp only [Hid]
            rw [HNX.out]
            simp only [List.length_append, List.length_cons, List.length_nil, rr_snoc, rr_snoc2]
            rw [← HM.out]
            
            
            
            exact HV1.out⟩
          case measure => simp [intOf] <;> omega
      · have hkn : k = n := by omega
        subst hkn
        rcases Nat.lt_or_ge p k with hpk | hpk
        · have hdec : decide (p < k) = true := by rw [decide_eq_true_iff]; exact hpk
          rw [hdec]
          have hend := hlist_end (e := (x, M, now, U)) HN.out hpk HQ.out
          have HRR : Hid (wr.ownsRow w5.heap.size 73 4 (.slice B0 m0 c0) (l.take p ++ [(x, M, now, U)] ++ l.drop q).length (rr (l.take p ++ [(x, M, now, U)] ++ l.drop q))) := by
            simp only [Hid]
            rw [← hend, ← HM.out]
            exact HV.out.1
          have HBW := Lib.hid HV.out.2
          clear hend
          go_wp2_with fail
          obtain ⟨V, hV⟩ : ∃ V, V = wr.drew := ⟨_, rfl⟩
          have HVB : Hid (Below w5.heap.size w5 V) := by rw [hV]; exact HBW.out.drew
          have HVO : Hid (V.ownsRow w5.heap.size 73 4 (.slice B0 m0 c0) (l.take p ++ [(x, M, now, U)] ++ l.drop q).length (rr (l.take p ++ [(x, M, now, U)] ++ l.drop q))) := by rw [hV]; exact HRR.out
          obtain ⟨v0, v1, v2, y0, y1, y2, yf, yz, ym⟩ := HFA.out V HVB.out
          have HT := Lib.hid (three (.int .i64 M) (.int .i64 now) (.int .i64 U) yz)
          have HTB := Lib.hid (three_below (.int .i64 M) (.int .i64 now) (.int .i64 U) (HB5.out.trans (HVB.out.mono HB5.out.size)) (Nat.le_refl w.heap.size))
          have HOW := Lib.hid (own_base HB5.out.size (own_fin (x := .int .i64 M) (y := .int .i64 now) (z := .int .i64 U) (lt_of_block HRZ.out) HVO.out))
          have HSS : Hid ((((V.setCell ⟨w.heap.size, 0, none⟩ (.int .i64 M)).setCell ⟨w.heap.size, 1, none⟩ (.int .i64 now)).setCell ⟨w.heap.size, 2, none⟩ (.int .i64 U)).cell? ⟨w1.heap.size, 0, none⟩ = some (.int .i64 M) ∧ (((V.setCell ⟨w.heap.size, 0, none⟩ (.int .i64 M)).setCell ⟨w.heap.size, 1, none⟩ (.int .i64 now)).setCell ⟨w.heap.size, 2, none⟩ (.int .i64 U)).cell? ⟨w1.heap.size, 1, none⟩ = some (.int .i64 now) ∧ (((V.setCell ⟨w.heap.size, 0, none⟩ (.int .i64 M)).setCell ⟨w.heap.size, 1, none⟩ (.int .i64 now)).setCell ⟨w.heap.size, 2, none⟩ (.int .i64 U)).cell? ⟨w1.heap.size, 2, none⟩ = some (.int .i64 U)) := by
            have hk : w1.heap.size ≠ w.heap.size := by have := HM1.out; omega
            have hh : (((V.setCell ⟨w.heap.size, 0, none⟩ (.int .i64 M)).setCell ⟨w.heap.size, 1, none⟩ (.int .i64 now)).setCell ⟨w.heap.size, 2, none⟩ (.int .i64 U)).heap[w1.heap.size]? = some (.cells (mC M now U) 23 (0, 0)) := by
              rw [Below.heap_setCell _ _ _ _ hk, Below.heap_setCell _ _ _ _ hk, Below.heap_setCell _ _ _ _ hk]
              exact ym
            refine ⟨?_, ?_, ?_⟩ <;> · rw [cell_of_row _ _ _ _ _ _ hh]; rfl
          have HVV := Lib.hid hV
          clear hV yz ym
          refine wp_region_held_drew (S := fun V : World => V.cell? ⟨w1.heap.size, 0, none⟩ = some (.int .i64 M) ∧ V.cell? ⟨w1.heap.size, 1, none⟩ = some (.int .i64 now) ∧ V.cell? ⟨w1.heap.size, 2, none⟩ = some (.int .i64 U)) (by kernel_rfl) (by rw [← HVV.out]; exact ⟨v0, v1, v2⟩) (fun hHeld => ?_)
          rw [← HVV.out] at hHeld ⊢
          clear v0 v1 v2
          refine wpAnyH_take (i := 0) (oi := ?oi0eau) (v := ?v0eau) ?hi0eau ?hs0eau ?hf0eau ?hr0eau ?hQ0eau ?hy0eau ?hS0eau ?h0eau
          case hi0eau => exact (by simp only [List.getElem?_toArray, List.getElem?_cons_zero]; rfl)
          case hs0eau => kernel_rfl
          case hf0eau => kernel_rfl
          case hr0eau => kernel_rfl
          case hQ0eau => exact fun _ _ _ h => h
          case hy0eau =>
            refine Or.inl ⟨rfl, ?_⟩
            intro V hSw
            obtain ⟨q0, q1, q2⟩ := hSw
            go_simp
            try with_reducible rfl
          case hS0eau => assumption
          try simp only [Act.put, List.setIfInBounds_toArray, List.set_cons_zero, List.set_cons_succ]
          refine wpAnyH_take (i := 1) (oi := ?oi1eau) (v := (.agg #[.int .i64 M, .int .i64 now, .int .i64 U])) ?hi1eau ?hs1eau ?hf1eau ?hr1eau ?hQ1eau ?hy1eau ?hS1eau ?h1eau
          case hi1eau => exact (by simp only [List.getElem?_toArray, List.getElem?_cons_succ, List.getElem?_cons_zero]; rfl)
          case hs1eau => kernel_rfl
          case hf1eau => kernel_rfl
          case hr1eau => kernel_rfl
          case hQ1eau => exact fun _ _ _ h => h
          case hy1eau =>
            refine Or.inl ⟨rfl, ?_⟩
            intro V hSw
            obtain ⟨q0, q1, q2⟩ := hSw
            go_simp
            try with_reducible rfl
          case hS1eau => assumption
          try simp only [Act.put, List.setIfInBounds_toArray, List.set_cons_zero, List.set_cons_succ]
          refine wpAnyH_take (i := 2) (oi := ?oi2eau) (v := ?v2eau) ?hi2eau ?hs2eau ?hf2eau ?hr2eau ?hQ2eau ?hy2eau ?hS2eau ?h2eau
          case hi2eau => exact (by simp only [List.getElem?_toArray, List.getElem?_cons_succ, List.getElem?_cons_zero]; rfl)
          case hs2eau => kernel_rfl
          case hf2eau => kernel_rfl
          case hr2eau => kernel_rfl
          case hQ2eau => exact fun _ _ _ h => h
          case hy2eau =>
            refine Or.inl ⟨rfl, ?_⟩
            intro V hSw
            obtain ⟨q0, q1, q2⟩ := hSw
            go_simp
            try with_reducible rfl
          case hS2eau => assumption
          try simp only [Act.put, List.setIfInBounds_toArray, List.set_cons_zero, List.set_cons_succ]
          refine wpAnyH_ready (rs := [3]) (by kernel_rfl) (by simp) ?_
          refine AllReadyH.cons (o := _) rfl (fun K hK => ?_) AllReadyH.nil
          go_simp
          refine hK.out _ _ HSS.out (fun hHeld => ?_)
          clear hK K
          try simp only [Act.put, List.setIfInBounds_toArray, List.set_cons_zero, List.set_cons_succ]
          refine wpAnyH_take (i := 4) (oi := ?oi4eau) (v := ?v4eau) ?hi4eau ?hs4eau ?hf4eau ?hr4eau ?hQ4eau ?hy4eau ?hS4eau ?h4eau
          case hi4eau => exact (by simp only [List.getElem?_toArray, List.getElem?_cons_succ, List.getElem?_cons_zero]; rfl)
          case hs4eau => kernel_rfl
          case hf4eau => kernel_rfl
          case hr4eau => kernel_rfl
          case hQ4eau => exact fun _ _ _ h => h
          case hy4eau =>
            refine Or.inl ⟨rfl, ?_⟩
            intro V hSw
            obtain ⟨q0, q1, q2⟩ := hSw
            go_simp
            try with_reducible rfl
          case hS4eau => assumption
          try simp only [Act.put, List.setIfInBounds_toArray, List.set_cons_zero, List.set_cons_succ]
          refine wpAnyH_done (by kernel_rfl) ?_ _
          go_wp2_with fail
          obtain ⟨e0, e1, e2, _⟩ := HT.out
          exact bodyPost_ret (v := .tuple #[(.slice B0 m0 c0), mV M now U, .int .i64 0]) (by simp [results, Tryd.results19, go_sem, e0, e1, e2]) rfl ⟨_, rfl, HTB.out, HOW.out⟩
        · have hdec : decide (p < k) = false := by rw [decide_eq_false_iff_not]; omega
          rw [hdec]
          obtain ⟨g0, g1, g2, _, _, _, _, _, _⟩ := HFA.out wr HV.out.2
          obtain ⟨w20, hw2⟩ : ∃ w2, w2 = wr.alloc (.cells #[.int .u32 (x : Int), .int .i64 M, .int .i64 now, .int .i64 U] 73) := ⟨_, rfl⟩
          have hg2 : w20.heap[wr.heap.size]? = some (.cells (rc (x, M, now, U)).toArray 73 (0, 0)) := by rw [hw2]; exact heap_alloc_new wr _
          have hb2 : Below wr.heap.size wr w20 := by rw [hw2]; exact (Below.refl _ _).alloc (Nat.le_refl _) _
          have HO20 : Hid (w20.ownsRow w5.heap.size 73 4 (.slice B0 m0 c0) m0 (rr (hlist l (x, M, now, U) p q k))) := own_after HV.out.1 fun g hg => hb2.block g (ownlt HV.out.1 g hg).2
          have HB20 : Hid (Below w5.heap.size w5 w20) := HV.out.2.trans (hb2.mono HV.out.2.size)
          have HG20 := Lib.hid hg2
          have H20 := Lib.hid hw2
          have HSZ0 : Hid (w5.heap.size ≤ w20.heap.size) := HB20.out.size
          have ht0 : Hid (∀ W : World, W = w20 → W.ownsRow w5.heap.size 73 4 (.slice B0 m0 c0) m0 (rr (hlist l (x, M, now, U) p q k)) ∧ W.heap[wr.heap.size]? = some (.cells (rc (x, M, now, U)).toArray 73 (0, 0)) ∧ w5.heap.size ≤ W.heap.size) := fun W e => by rw [e]; exact ⟨HO20.out, HG20.out, HSZ0.out⟩
          clear hg2 hb2 hw2
          go_wp2_with (at_builtin; refine wpList_append_row rfl (.tmp 79) (.tmp 83) rfl w5.heap.size wr.heap.size (.slice B0 m0 c0) m0 (rr (hlist l (x, M, now, U) p q k)) (x, M, now, U) rfl rfl (ht0.out _ H20.out.symm).1 (ht0.out _ H20.out.symm).2.1 (by omega) (ht0.out _ H20.out.symm).2.2 ?_; intro v3 w30 hown3 hg3; rw [← H20.out] at hg3; obtain ⟨B1, c1, rfl⟩ := own_form4 hown3; have HV1 : Hid (w30.ownsRow w5.heap.size 73 4 (.slice B1 (m0 + 1) c1) (m0 + 1) (rr ((hlist l (x, M, now, U) p q k)) ++ rc (x, M, now, U)) ∧ Below w5.heap.size w5 w30) := ⟨hown3, HB20.out.grown hg3 HB20.out.size (fun g h => (ownlt HO20.out g h).1)⟩; clear hown3 hg3)
          have hend : l.take p ++ [(x, M, now, U)] ++ l.drop q = (hlist l (x, M, now, U) p q k) ++ [(x, M, now, U)] := hlist_last HN.out (HP.out.1) hpk HQ.out
          have HRR : Hid (w30.ownsRow w5.heap.size 73 4 (.slice B1 (m0 + 1) c1) (l.take p ++ [(x, M, now, U)] ++ l.drop q).length (rr (l.take p ++ [(x, M, now, U)] ++ l.drop q))) := by
            simp only [Hid]
            rw [hend, rr_snoc, List.length_append, ← HM.out]
            exact HV1.out.1
          have HBW := Lib.hid HV1.out.2
          clear hend g0 g1 g2
          obtain ⟨V, hV⟩ : ∃ V, V = w30.drew := ⟨_, rfl⟩
          have HVB : Hid (Below w5.heap.size w5 V) := by rw [hV]; exact HBW.out.drew
          have HVO : Hid (V.ownsRow w5.heap.size 73 4 (.slice B1 (m0 + 1) c1) (l.take p ++ [(x, M, now, U)] ++ l.drop q).length (rr (l.take p ++ [(x, M, now, U)] ++ l.drop q))) := by rw [hV]; exact HRR.out
          obtain ⟨v0, v1, v2, y0, y1, y2, yf, yz, ym⟩ := HFA.out V HVB.out
          have HT := Lib.hid (three (.int .i64 M) (.int .i64 now) (.int .i64 U) yz)
          have HTB := Lib.hid (three_below (.int .i64 M) (.int .i64 now) (.int .i64 U) (HB5.out.trans (HVB.out.mono HB5.out.size)) (Nat.le_refl w.heap.size))
          have HOW := Lib.hid (own_base HB5.out.size (own_fin (x := .int .i64 M) (y := .int .i64 now) (z := .int .i64 U) (lt_of_block HRZ.out) HVO.out))
          have HSS : Hid ((((V.setCell ⟨w.heap.size, 0, none⟩ (.int .i64 M)).setCell ⟨w.heap.size, 1, none⟩ (.int .i64 now)).setCell ⟨w.heap.size, 2, none⟩ (.int .i64 U)).cell? ⟨w1.heap.size, 0, none⟩ = some (.int .i64 M) ∧ (((V.setCell ⟨w.heap.size, 0, none⟩ (.int .i64 M)).setCell ⟨w.heap.size, 1, none⟩ (.int .i64 now)).setCell ⟨w.heap.size, 2, none⟩ (.int .i64 U)).cell? ⟨w1.heap.size, 1, none⟩ = some (.int .i64 now) ∧ (((V.setCell ⟨w.heap.size, 0, none⟩ (.int .i64 M)).setCell ⟨w.heap.size, 1, none⟩ (.int .i64 now)).setCell ⟨w.heap.size, 2, none⟩ (.int .i64 U)).cell? ⟨w1.heap.size, 2, none⟩ = some (.int .i64 U)) := by
            have hk : w1.heap.size ≠ w.heap.size := by have := HM1.out; omega
            have hh : (((V.setCell ⟨w.heap.size, 0, none⟩ (.int .i64 M)).setCell ⟨w.heap.size, 1, none⟩ (.int .i64 now)).setCell ⟨w.heap.size, 2, none⟩ (.int .i64 U)).heap[w1.heap.size]? = some (.cells (mC M now U) 23 (0, 0)) := by
              rw [Below.heap_setCell _ _ _ _ hk, Below.heap_setCell _ _ _ _ hk, Below.heap_setCell _ _ _ _ hk]
              exact ym
            refine ⟨?_, ?_, ?_⟩ <;> · rw [cell_of_row _ _ _ _ _ _ hh]; rfl
          have HVV := Lib.hid hV
          clear hV yz ym
          refine wp_region_held_drew (S := fun V : World => V.cell? ⟨w1.heap.size, 0, none⟩ = some (.int .i64 M) ∧ V.cell? ⟨w1.heap.size, 1, none⟩ = some (.int .i64 now) ∧ V.cell? ⟨w1.heap.size, 2, none⟩ = some (.int .i64 U)) (by kernel_rfl) (by rw [← HVV.out]; exact ⟨v0, v1, v2⟩) (fun hHeld => ?_)
          rw [← HVV.out] at hHeld ⊢
          clear v0 v1 v2
          refine wpAnyH_take (i := 0) (oi := ?oi0eav) (v := ?v0eav) ?hi0eav ?hs0eav ?hf0eav ?hr0eav ?hQ0eav ?hy0eav ?hS0eav ?h0eav
          case hi0eav => exact (by simp only [List.getElem?_toArray, List.getElem?_cons_zero]; rfl)
          case hs0eav => kernel_rfl
          case hf0eav => kernel_rfl
          case hr0eav => kernel_rfl
          case hQ0eav => exact fun _ _ _ h => h
          case hy0eav =>
            refine Or.inl ⟨rfl, ?_⟩
            intro V hSw
            obtain ⟨q0, q1, q2⟩ := hSw
            go_simp
            try with_reducible rfl
          case hS0eav => assumption
          try simp only [Act.put, List.setIfInBounds_toArray, List.set_cons_zero, List.set_cons_succ]
          refine wpAnyH_take (i := 1) (oi := ?oi1eav) (v := (.agg #[.int .i64 M, .int .i64 now, .int .i64 U])) ?hi1eav ?hs1eav ?hf1eav ?hr1eav ?hQ1eav ?hy1eav ?hS1eav ?h1eav
          case hi1eav => exact (by simp only [List.getElem?_toArray, List.getElem?_cons_succ, List.getElem?_cons_zero]; rfl)
          case hs1eav => kernel_rfl
          case hf1eav => kernel_rfl
          case hr1eav => kernel_rfl
          case hQ1eav => exact fun _ _ _ h => h
          case hy1eav =>
            refine Or.inl ⟨rfl, ?_⟩
            intro V hSw
            obtain ⟨q0, q1, q2⟩ := hSw
            go_simp
            try with_reducible rfl
          case hS1eav => assumption
          try simp only [Act.put, List.setIfInBounds_toArray, List.set_cons_zero, List.set_cons_succ]
          refine wpAnyH_take (i := 2) (oi := ?oi2eav) (v := ?v2eav) ?hi2eav ?hs2eav ?hf2eav ?hr2eav ?hQ2eav ?hy2eav ?hS2eav ?h2eav
          case hi2eav => exact (by simp only [List.getElem?_toArray, List.getElem?_cons_succ, List.getElem?_cons_zero]; rfl)
          case hs2eav => kernel_rfl
          case hf2eav => kernel_rfl
          case hr2eav => kernel_rfl
          case hQ2eav => exact fun _ _ _ h => h
          case hy2eav =>
            refine Or.inl ⟨rfl, ?_⟩
            intro V hSw
            obtain ⟨q0, q1, q2⟩ := hSw
            go_simp
            try with_reducible rfl
          case hS2eav => assumption
          try simp only [Act.put, List.setIfInBounds_toArray, List.set_cons_zero, List.set_cons_succ]
          refine wpAnyH_ready (rs := [3]) (by kernel_rfl) (by simp) ?_
          refine AllReadyH.cons (o := _) rfl (fun K hK => ?_) AllReadyH.nil
          go_simp
          refine hK.out _ _ HSS.out (fun hHeld => ?_)
          clear hK K
          try simp only [Act.put, List.setIfInBounds_toArray, List.set_cons_zero, List.set_cons_succ]
          refine wpAnyH_take (i := 4) (oi := ?oi4eav) (v := ?v4eav) ?hi4eav ?hs4eav ?hf4eav ?hr4eav ?hQ4eav ?hy4eav ?hS4eav ?h4eav
          case hi4eav => exact (by simp only [List.getElem?_toArray, List.getElem?_cons_succ, List.getElem?_cons_zero]; rfl)
          case hs4eav => kernel_rfl
          case hf4eav => kernel_rfl
          case hr4eav => kernel_rfl
          case hQ4eav => exact fun _ _ _ h => h
          case hy4eav =>
            refine Or.inl ⟨rfl, ?_⟩
            intro V hSw
            obtain ⟨q0, q1, q2⟩ := hSw
            go_simp
            try with_reducible rfl
          case hS4eav => assumption
          try simp only [Act.put, List.setIfInBounds_toArray, List.set_cons_zero, List.set_cons_succ]
          refine wpAnyH_done (by kernel_rfl) ?_ _
          go_wp2_with fail
          obtain ⟨e0, e1, e2, _⟩ := HT.out
          exact bodyPost_ret (v := .tuple #[(.slice B1 (m0 + 1) c1), mV M now U, .int .i64 0]) (by simp [results, Tryd.results19, go_sem, e0, e1, e2]) rfl ⟨_, rfl, HTB.out, HOW.out⟩
  · go_wp2_with fail
    refine (HH.out _).mono ?_
    rintro r w2 ⟨rfl, hb2⟩
    have hqm := (hb2.block _ (lt_of_block HQM.out)).trans HQM.out
    have b0 : w2.cell? ⟨w1.heap.size, 0, none⟩ = some (.int .i64 a) := by rw [cell_of_row w2 _ _ _ _ _ hqm]; rfl
    have b1 : w2.cell? ⟨w1.heap.size, 1, none⟩ = some (.int .i64 b) := by rw [cell_of_row w2 _ _ _ _ _ hqm]; rfl
    have b2 : w2.cell? ⟨w1.heap.size, 2, none⟩ = some (.int .i64 d) := by rw [cell_of_row w2 _ _ _ _ _ hqm]; rfl
    have bf : ∀ i, w2.frozen? ⟨w1.heap.size, i, none⟩ = false := fun i => frozen_of_row w2 _ i _ _ hqm
    obtain ⟨w5, hw5⟩ : ∃ w5, w5 = (((w2.setCell ⟨w1.heap.size, 0, none⟩ (.int .i64 M)).setCell ⟨w1.heap.size, 1, none⟩ (.int .i64 now)).setCell ⟨w1.heap.size, 2, none⟩ (.int .i64 U)) := ⟨_, rfl⟩
    have hq5 : w5.heap[w1.heap.size]? = some (.cells (mC M now U) 23 (0, 0)) := by rw [hw5]; exact (three (.int .i64 M) (.int .i64 now) (.int .i64 U) hqm).2.2.2
    have HC5 : Hid (w5.cell? ⟨w1.heap.size, 0, none⟩ = some (.int .i64 M) ∧ w5.cell? ⟨w1.heap.size, 1, none⟩ = some (.int .i64 now) ∧ w5.cell? ⟨w1.heap.size, 2, none⟩ = some (.int .i64 U)) := by
      rw [hw5]
      have h3 := three (.int .i64 M) (.int .i64 now) (.int .i64 U) hqm
      exact ⟨h3.1, h3.2.1, h3.2.2.1⟩
    have HM5 : Hid (w1.heap.size < w5.heap.size) := lt_of_block hq5
    have HB5 : Hid (Below w.heap.size w w5) := by rw [hw5]; exact three_below _ _ _ (HB1.out.trans (hb2.mono HB1.out.size)) (Nat.le_of_lt HM1.out)
    have HR5 : Hid (Rs w5 w5.heap.size A l) := (HR.out.below HB5.out).mono HB5.out.size
    have HRZ : Hid (w5.heap[w.heap.size]? = some (.cells (mC 0 0 0) 23 (0, 0))) := by
      have hk : w.heap.size ≠ w1.heap.size := by have := HM1.out; omega
      rw [hw5]
      show ((w2.setCell _ _).setCell _ _ |>.setCell _ _).heap[w.heap.size]? = _
      rw [Below.heap_setCell _ _ _ _ hk, Below.heap_setCell _ _ _ _ hk, Below.heap_setCell _ _ _ _ hk]
      exact (hb2.block _ (lt_of_block HQR.out)).trans HQR.out
    have HFA : Hid (∀ W, Below w5.heap.size w5 W → W.cell? ⟨w1.heap.size, 0, none⟩ = some (.int .i64 M) ∧ W.cell? ⟨w1.heap.size, 1, none⟩ = some (.int .i64 now) ∧ W.cell? ⟨w1.heap.size, 2, none⟩ = some (.int .i64 U) ∧ W.cell? ⟨w.heap.size, 0, none⟩ = some (.int .i64 0) ∧ W.cell? ⟨w.heap.size, 1, none⟩ = some (.int .i64 0) ∧ W.cell? ⟨w.heap.size, 2, none⟩ = some (.int .i64 0) ∧ (∀ i, W.frozen? ⟨w.heap.size, i, none⟩ = false) ∧ W.heap[w.heap.size]? = some (.cells (mC 0 0 0) 23 (0, 0)) ∧ W.heap[w1.heap.size]? = some (.cells (mC M now U) 23 (0, 0))) := fun W hW => by
      have h1 := (hW.block _ (lt_of_block hq5)).trans hq5
      have h2 := (hW.block _ (lt_of_block HRZ.out)).trans HRZ.out
      refine ⟨?_, ?_, ?_, ?_, ?_, ?_, fun i => frozen_of_row W _ i _ _ h2, h2, h1⟩
      · rw [cell_of_row W _ _ _ _ _ h1]; rfl
      · rw [cell_of_row W _ _ _ _ _ h1]; rfl
      · rw [cell_of_row W _ _ _ _ _ h1]; rfl
      · rw [cell_of_row W _ _ _ _ _ h2]; rfl
      · rw [cell_of_row W _ _ _ _ _ h2]; rfl
      · rw [cell_of_row W _ _ _ _ _ h2]; rfl
    have H5 := Lib.hid hw5
    clear hb2 hqm hw5 hq5
    go_upto_region 9 with (fail)
    rw [← H5.out]
    clear b0 b1 b2 bf
    go_wp2_with fail
    go_loopw [13, 14, 15] (fun o z u wr => ∃ (k : Nat), k ≤ n ∧ z = .bool (decide (p < k)) ∧ u = .int .i64 (k : Int) ∧ Hid (wr.ownsRow w5.heap.size 73 4 o (hlist l (x, M, now, U) p q k).length (rr (hlist l (x, M, now, U) p q k)) ∧ Below w5.heap.size w5 wr)) (fun _ _ u _ => n - (intOf u).toNat)
    case atStart => exact ⟨0, by omega, by simp, rfl, by
      simp only [Hid]
      rw [hlist_zero]
      exact ⟨World.ownsRow_nil w5 _ 73 4, Below.refl _ _⟩⟩
    case round =>
      obtain ⟨k, hk, rfl, rfl, HV⟩ := hrel
      obtain ⟨B0, c0, rfl⟩ := own_form4 HV.out.1
      obtain ⟨m0, hm0⟩ : ∃ m, m = (hlist l (x, M, now, U) p q k).length := ⟨_, rfl⟩
      have hmk : m0 ≤ 901 := by rw [hm0]; exact Nat.le_trans (hlist_len _ _ _ _ _ (by have := HQ.out; omega)) (by have := HN.out; omega)
      rw [← hm0] at HV ⊢
      have HM := Lib.hid hm0
      clear hm0
      by_cases hlt : k < n
      · obtain ⟨⟨y, a1, b1, d1⟩, hy⟩ : ∃ e, l[k]? = some e := ⟨l[k]'(by rw [← HN.out]; exact hlt), List.getElem?_eq_getElem _⟩
        obtain ⟨bb, oo, rfl, hbb, ha1⟩ := HR5.out (by have := HN.out; omega)
        have HD := Lib.hid (ha1 k _ hy)
        have HY := Lib.hid hy
        have hyi : (l.map (·.1))[k]? = some y := by rw [List.getElem?_map, hy]; rfl
        rcases Nat.lt_trichotomy k p with hkp | hkp | hkp
        · have hyx : y < x := HP.out.2.1 k y hkp hyi
          have hyx2 : ¬ (y : Int) ≥ (x : Int) := by omega
          have hyx3 : ¬ (y : Int) = (x : Int) := by omega
          have hdec : decide (p < k) = false := by rw [decide_eq_false_iff_not]; omega
          have hdec2 : decide (p < k + 1) = false := by rw [decide_eq_false_iff_not]; omega
          have HNX : Hid (hlist l (x, M, now, U) p q (k + 1) = (hlist l (x, M, now, U) p q k) ++ [(y, a1, b1, d1)]) := hlist_lt hkp HY.out
          rw [hdec]
          clear hy ha1 hyi
          have f0 : wr.cell? ⟨bb, oo + k * 4, none⟩ = some (.int .u32 (y : Int)) := (HV.out.2.cell (p := ⟨bb, _, none⟩) hbb).trans HD.out.1
          have f1 : wr.cell? ⟨bb, oo + k * 4 + 1, none⟩ = some (.int .i64 a1) := (HV.out.2.cell (p := ⟨bb, _, none⟩) hbb).trans HD.out.2.1
          have f2 : wr.cell? ⟨bb, oo + k * 4 + 2, none⟩ = some (.int .i64 b1) := (HV.out.2.cell (p := ⟨bb, _, none⟩) hbb).trans HD.out.2.2.1
          have f3 : wr.cell? ⟨bb, oo + k * 4 + 3, none⟩ = some (.int .i64 d1) := (HV.out.2.cell (p := ⟨bb, _, none⟩) hbb).trans HD.out.2.2.2
          obtain ⟨w20, hw2⟩ : ∃ w2, w2 = wr.alloc (.cells #[.int .u32 (y : Int), .int .i64 a1, .int .i64 b1, .int .i64 d1] 73) := ⟨_, rfl⟩
          have hg2 : w20.heap[wr.heap.size]? = some (.cells (rc (y, a1, b1, d1)).toArray 73 (0, 0)) := by rw [hw2]; exact heap_alloc_new wr _
          have hb2 : Below wr.heap.size wr w20 := by rw [hw2]; exact (Below.refl _ _).alloc (Nat.le_refl _) _
          have HO20 : Hid (w20.ownsRow w5.heap.size 73 4 (.slice B0 m0 c0) m0 (rr (hlist l (x, M, now, U) p q k))) := own_after HV.out.1 fun g hg => hb2.block g (ownlt HV.out.1 g hg).2
          have HB20 : Hid (Below w5.heap.size w5 w20) := HV.out.2.trans (hb2.mono HV.out.2.size)
          have HG20 := Lib.hid hg2
          have H20 := Lib.hid hw2
          have HSZ0 : Hid (w5.heap.size ≤ w20.heap.size) := HB20.out.size
          have ht0 : Hid (∀ W : World, W = w20 → W.ownsRow w5.heap.size 73 4 (.slice B0 m0 c0) m0 (rr (hlist l (x, M, now, U) p q k)) ∧ W.heap[wr.heap.size]? = some (.cells (rc (y, a1, b1, d1)).toArray 73 (0, 0)) ∧ w5.heap.size ≤ W.heap.size) := fun W e => by rw [e]; exact ⟨HO20.out, HG20.out, HSZ0.out⟩
          clear hg2 hb2 hw2
          go_wp2_with (at_builtin; refine wpList_append_row rfl (.tmp 70) (.tmp 75) rfl w5.heap.size wr.heap.size (.slice B0 m0 c0) m0 (rr (hlist l (x, M, now, U) p q k)) (y, a1, b1, d1) rfl rfl (ht0.out _ H20.out.symm).1 (ht0.out _ H20.out.symm).2.1 (by omega) (ht0.out _ H20.out.symm).2.2 ?_; intro v3 w30 hown3 hg3; rw [← H20.out] at hg3; obtain ⟨B1, c1, rfl⟩ := own_form4 hown3; have HV1 : Hid (w30.ownsRow w5.heap.size 73 4 (.slice B1 (m0 + 1) c1) (m0 + 1) (rr ((hlist l (x, M, now, U) p q k)) ++ rc (y, a1, b1, d1)) ∧ Below w5.heap.size w5 w30) := ⟨hown3, HB20.out.grown hg3 HB20.out.size (fun g h => (ownlt HO20.out g h).1)⟩; clear hown3 hg3)
          go_roundw
          case rel => exact ⟨k + 1, by omega, by rw [hdec2], by go_num, by
            simp only [Hid]
            rw [HNX.out]
            simp only [List.length_append, List.length_cons, List.length_nil, rr_snoc, rr_snoc2]
            rw [← HM.out]
            
            
            
            exact HV1.out⟩
          case measure => simp [intOf] <;> omega
        · subst hkp
          have hyx : x ≤ y := HP.out.2.2 k y (Nat.le_refl _) hyi
          have hyx2 : (y : Int) ≥ (x : Int) := by omega
          have hdec : decide (k < k) = false := by simp
          have hdec2 : decide (k < k + 1) = true := by simp
          rw [hdec]
          clear hy ha1
          have g0 : wr.cell? ⟨w1.heap.size, 0, none⟩ = some (.int .i64 M) := (HV.out.2.cell (p := ⟨w1.heap.size, 0, none⟩) HM5.out).trans HC5.out.1
          have g1 : wr.cell? ⟨w1.heap.size, 1, none⟩ = some (.int .i64 now) := (HV.out.2.cell (p := ⟨w1.heap.size, 1, none⟩) HM5.out).trans HC5.out.2.1
          have g2 : wr.cell? ⟨w1.heap.size, 2, none⟩ = some (.int .i64 U) := (HV.out.2.cell (p := ⟨w1.heap.size, 2, none⟩) HM5.out).trans HC5.out.2.2
          have f0 : wr.cell? ⟨bb, oo + k * 4, none⟩ = some (.int .u32 (y : Int)) := (HV.out.2.cell (p := ⟨bb, _, none⟩) hbb).trans HD.out.1
          have f1 : wr.cell? ⟨bb, oo + k * 4 + 1, none⟩ = some (.int .i64 a1) := (HV.out.2.cell (p := ⟨bb, _, none⟩) hbb).trans HD.out.2.1
          have f2 : wr.cell? ⟨bb, oo + k * 4 + 2, none⟩ = some (.int .i64 b1) := (HV.out.2.cell (p := ⟨bb, _, none⟩) hbb).trans HD.out.2.2.1
          have f3 : wr.cell? ⟨bb, oo + k * 4 + 3, none⟩ = some (.int .i64 d1) := (HV.out.2.cell (p := ⟨bb, _, none⟩) hbb).trans HD.out.2.2.2
          obtain ⟨w20, hw2⟩ : ∃ w2, w2 = wr.alloc (.cells #[.int .u32 (x : Int), .int .i64 M, .int .i64 now, .int .i64 U] 73) := ⟨_, rfl⟩
          have hg2 : w20.heap[wr.heap.size]? = some (.cells (rc (x, M, now, U)).toArray 73 (0, 0)) := by rw [hw2]; exact heap_alloc_new wr _
          have hb2 : Below wr.heap.size wr w20 := by rw [hw2]; exact (Below.refl _ _).alloc (Nat.le_refl _) _
          have HO20 : Hid (w20.ownsRow w5.heap.size 73 4 (.slice B0 m0 c0) m0 (rr (hlist l (x, M, now, U) k q k))) := own_after HV.out.1 fun g hg => hb2.block g (ownlt HV.out.1 g hg).2
          have HB20 : Hid (Below w5.heap.size w5 w20) := HV.out.2.trans (hb2.mono HV.out.2.size)
          have HG20 := Lib.hid hg2
          have H20 := Lib.hid hw2
          have HSZ0 : Hid (w5.heap.size ≤ w20.heap.size) := HB20.out.size
          have ht0 : Hid (∀ W : World, W = w20 → W.ownsRow w5.heap.size 73 4 (.slice B0 m0 c0) m0 (rr (hlist l (x, M, now, U) k q k)) ∧ W.heap[wr.heap.size]? = some (.cells (rc (x, M, now, U)).toArray 73 (0, 0)) ∧ w5.heap.size ≤ W.heap.size) := fun W e => by rw [e]; exact ⟨HO20.out, HG20.out, HSZ0.out⟩
          clear hg2 hb2 hw2
          go_upto_region 15 with (at_builtin; refine wpList_append_row rfl (.tmp 57) (.tmp 61) rfl w5.heap.size wr.heap.size (.slice B0 m0 c0) m0 (rr (hlist l (x, M, now, U) k q k)) (x, M, now, U) rfl rfl (ht0.out _ H20.out.symm).1 (ht0.out _ H20.out.symm).2.1 (by omega) (ht0.out _ H20.out.symm).2.2 ?_; intro v3 w30 hown3 hg3; rw [← H20.out] at hg3; obtain ⟨B1, c1, rfl⟩ := own_form4 hown3; have HV1 : Hid (w30.ownsRow w5.heap.size 73 4 (.slice B1 (m0 + 1) c1) (m0 + 1) (rr ((hlist l (x, M, now, U) k q k)) ++ rc (x, M, now, U)) ∧ Below w5.heap.size w5 w30) := ⟨hown3, HB20.out.grown hg3 HB20.out.size (fun g h => (ownlt HO20.out g h).1)⟩; clear hown3 hg3)
          clear f0 f1 f2 f3 g0 g1 g2
          have f0 : w30.cell? ⟨bb, oo + k * 4, none⟩ = some (.int .u32 (y : Int)) := (HV1.out.2.cell (p := ⟨bb, _, none⟩) hbb).trans HD.out.1
          have f1 : w30.cell? ⟨bb, oo + k * 4 + 1, none⟩ = some (.int .i64 a1) := (HV1.out.2.cell (p := ⟨bb, _, none⟩) hbb).trans HD.out.2.1
          have f2 : w30.cell? ⟨bb, oo + k * 4 + 2, none⟩ = some (.int .i64 b1) := (HV1.out.2.cell (p := ⟨bb, _, none⟩) hbb).trans HD.out.2.2.1
          have f3 : w30.cell? ⟨bb, oo + k * 4 + 3, none⟩ = some (.int .i64 d1) := (HV1.out.2.cell (p := ⟨bb, _, none⟩) hbb).trans HD.out.2.2.2
          by_cases hyx3 : y = x
          · subst hyx3
            have HNX : Hid (hlist l (y, M, now, U) k q (k + 1) = (hlist l (y, M, now, U) k q k) ++ [(y, M, now, U)]) := hlist_eq (HQ1.out hyi)
            go_wp2_with fail
            go_roundw
            case rel => exact ⟨k + 1, by omega, by rw [hdec2], by go_num, by
              simp only [Hid]
              rw [HNX.out]
              simp only [List.length_append, List.length_cons, List.length_nil, rr_snoc, rr_snoc2]
              rw [← HM.out]
              
              
              
              exact HV1.out⟩
            case measure => simp [intOf] <;> omega
          · have hyx4 : ¬ (y : Int) = (x : Int) := by omega
            have HNX : Hid (hlist l (x, M, now, U) k q (k + 1) = (hlist l (x, M, now, U) k q k) ++ [(x, M, now, U)] ++ [(y, a1, b1, d1)]) := hlist_ins (HQ2.out fun e => hyx3 (by rw [hyi] at e; exact Option.some.inj e)) HY.out
            obtain ⟨m1, hm1⟩ : ∃ m, m = m0 + 1 := ⟨_, rfl⟩
            have HV1b : Hid (w30.ownsRow w5.heap.size 73 4 (.slice B1 m1 c1) m1 (rr ((hlist l (x, M, now, U) k q k) ++ [(x, M, now, U)])) ∧ Below w5.heap.size w5 w30) := by
              simp only [Hid]
              rw [hm1, rr_snoc]
              exact HV1.out
            rw [← hm1]
            have hm1b : m1 ≤ 902 := by omega
            have HMM := Lib.hid hm1
            clear hm1 HV1
            obtain ⟨w21, hw2⟩ : ∃ w2, w2 = w30.alloc (.cells #[.int .u32 (y : Int), .int .i64 a1, .int .i64 b1, .int .i64 d1] 73) := ⟨_, rfl⟩
            have hg2 : w21.heap[w30.heap.size]? = some (.cells (rc (y, a1, b1, d1)).toArray 73 (0, 0)) := by rw [hw2]; exact heap_alloc_new w30 _
            have hb2 : Below w30.heap.size w30 w21 := by rw [hw2]; exact (Below.refl _ _).alloc (Nat.le_refl _) _
            have HO21 : Hid (w21.ownsRow w5.heap.size 73 4 (.slice B1 m1 c1) m1 (rr ((hlist l (x, M, now, U) k q k) ++ [(x, M, now, U)]))) := own_after HV1b.out.1 fun g hg => hb2.block g (ownlt HV1b.out.1 g hg).2
            have HB21 : Hid (Below w5.heap.size w5 w21) := HV1b.out.2.trans (hb2.mono HV1b.out.2.size)
            have HG21 := Lib.hid hg2
            have H21 := Lib.hid hw2
            have HSZ1 : Hid (w5.heap.size ≤ w21.heap.size) := HB21.out.size
            have ht1 : Hid (∀ W : World, W = w21 → W.ownsRow w5.heap.size 73 4 (.slice B1 m1 c1) m1 (rr ((hlist l (x, M, now, U) k q k) ++ [(x, M, now, U)])) ∧ W.heap[w30.heap.size]? = some (.cells (rc (y, a1, b1, d1)).toArray 73 (0, 0)) ∧ w5.heap.size ≤ W.heap.size) := fun W e => by rw [e]; exact ⟨HO21.out, HG21.out, HSZ1.out⟩
            clear hg2 hb2 hw2
            go_wp2_with (at_builtin; refine wpList_append_row rfl (.tmp 70) (.tmp 75) rfl w5.heap.size w30.heap.size (.slice B1 m1 c1) m1 (rr ((hlist l (x, M, now, U) k q k) ++ [(x, M, now, U)])) (y, a1, b1, d1) rfl rfl (ht1.out _ H21.out.symm).1 (ht1.out _ H21.out.symm).2.1 (by omega) (ht1.out _ H21.out.symm).2.2 ?_; intro v3 w31 hown3 hg3; rw [← H21.out] at hg3; obtain ⟨B2, c2, rfl⟩ := own_form4 hown3; have HV2 : Hid (w31.ownsRow w5.heap.size 73 4 (.slice B2 (m1 + 1) c2) (m1 + 1) (rr (((hlist l (x, M, now, U) k q k) ++ [(x, M, now, U)])) ++ rc (y, a1, b1, d1)) ∧ Below w5.heap.size w5 w31) := ⟨hown3, HB21.out.grown hg3 HB21.out.size (fun g h => (ownlt HO21.out g h).1)⟩; clear hown3 hg3)
            go_roundw
            case rel => exact ⟨k + 1, by omega, by rw [hdec2], by go_num, by
              simp only [Hid]
              rw [HNX.out]
              simp only [List.length_append, List.length_cons, List.length_nil, rr_snoc, rr_snoc2]
              rw [← HM.out]
              have h2 := HV2.out
              rw [rr_snoc, HMM.out] at h2
              rw [HMM.out]
              exact h2⟩
            case measure => simp [intOf] <;> omega
        · have hyx : x < y := HUP.out k y hkp hyi
          have hyx3 : ¬ (y : Int) = (x : Int) := by omega
          have hdec : decide (p < k) = true := by rw [decide_eq_true_iff]; omega
          have hdec2 : decide (p < k + 1) = true := by rw [decide_eq_true_iff]; omega
          have HNX : Hid (hlist l (x, M, now, U) p q (k + 1) = (hlist l (x, M, now, U) p q k) ++ [(y, a1, b1, d1)]) := hlist_gt hkp HQ.out HY.out
          rw [hdec]
          clear hy ha1 hyi
          have f0 : wr.cell? ⟨bb, oo + k * 4, none⟩ = some (.int .u32 (y : Int)) := (HV.out.2.cell (p := ⟨bb, _, none⟩) hbb).trans HD.out.1
          have f1 : wr.cell? ⟨bb, oo + k * 4 + 1, none⟩ = some (.int .i64 a1) := (HV.out.2.cell (p := ⟨bb, _, none⟩) hbb).trans HD.out.2.1
          have f2 : wr.cell? ⟨bb, oo + k * 4 + 2, none⟩ = some (.int .i64 b1) := (HV.out.2.cell (p := ⟨bb, _, none⟩) hbb).trans HD.out.2.2.1
          have f3 : wr.cell? ⟨bb, oo + k * 4 + 3, none⟩ = some (.int .i64 d1) := (HV.out.2.cell (p := ⟨bb, _, none⟩) hbb).trans HD.out.2.2.2
          obtain ⟨w20, hw2⟩ : ∃ w2, w2 = wr.alloc (.cells #[.int .u32 (y : Int), .int .i64 a1, .int .i64 b1, .int .i64 d1] 73) := ⟨_, rfl⟩
          have hg2 : w20.heap[wr.heap.size]? = some (.cells (rc (y, a1, b1, d1)).toArray 73 (0, 0)) := by rw [hw2]; exact heap_alloc_new wr _
          have hb2 : Below wr.heap.size wr w20 := by rw [hw2]; exact (Below.refl _ _).alloc (Nat.le_refl _) _
          have HO20 : Hid (w20.ownsRow w5.heap.size 73 4 (.slice B0 m0 c0) m0 (rr (hlist l (x, M, now, U) p q k))) := own_after HV.out.1 fun g hg => hb2.block g (ownlt HV.out.1 g hg).2
          have HB20 : Hid (Below w5.heap.size w5 w20) := HV.out.2.trans (hb2.mono HV.out.2.size)
          have HG20 := Lib.hid hg2
          have H20 := Lib.hid hw2
          have HSZ0 : Hid (w5.heap.size ≤ w20.heap.size) := HB20.out.size
          have ht0 : Hid (∀ W : World, W = w20 → W.ownsRow w5.heap.size 73 4 (.slice B0 m0 c0) m0 (rr (hlist l (x, M, now, U) p q k)) ∧ W.heap[wr.heap.size]? = some (.cells (rc (y, a1, b1, d1)).toArray 73 (0, 0)) ∧ w5.heap.size ≤ W.heap.size) := fun W e => by rw [e]; exact ⟨HO20.out, HG20.out, HSZ0.out⟩
          clear hg2 hb2 hw2
          go_wp2_with (at_builtin; refine wpList_append_row rfl (.tmp 70) (.tmp 75) rfl w5.heap.size wr.heap.size (.slice B0 m0 c0) m0 (rr (hlist l (x, M, now, U) p q k)) (y, a1, b1, d1) rfl rfl (ht0.out _ H20.out.symm).1 (ht0.out _ H20.out.symm).2.1 (by omega) (ht0.out _ H20.out.symm).2.2 ?_; intro v3 w30 hown3 hg3; rw [← H20.out] at hg3; obtain ⟨B1, c1, rfl⟩ := own_form4 hown3; have HV1 : Hid (w30.ownsRow w5.heap.size 73 4 (.slice B1 (m0 + 1) c1) (m0 + 1) (rr ((hlist l (x, M, now, U) p q k)) ++ rc (y, a1, b1, d1)) ∧ Below w5.heap.size w5 w30) := ⟨hown3, HB20.out.grown hg3 HB20.out.size (fun g h => (ownlt HO20.out g h).1)⟩; clear hown3 hg3)
          go_roundw
          case rel => exact ⟨k + 1, by omega, by rw [hdec2], by go_num, by
            simp only [Hid]
            rw [HNX.out]
            simp only [List.length_append, List.length_cons, List.length_nil, rr_snoc, rr_snoc2]
            rw [← HM.out]
            
            
            
            exact HV1.out⟩
          case measure => simp [intOf] <;> omega
      · have hkn : k = n := by omega
        subst hkn
        rcases Nat.lt_or_ge p k with hpk | hpk
        · have hdec : decide (p < k) = true := by rw [decide_eq_true_iff]; exact hpk
          rw [hdec]
          have hend := hlist_end (e := (x, M, now, U)) HN.out hpk HQ.out
          have HRR : Hid (wr.ownsRow w5.heap.size 73 4 (.slice B0 m0 c0) (l.take p ++ [(x, M, now, U)] ++ l.drop q).length (rr (l.take p ++ [(x, M, now, U)] ++ l.drop q))) := by
            simp only [Hid]
            rw [← hend, ← HM.out]
            exact HV.out.1
          have HBW := Lib.hid HV.out.2
          clear hend
          go_wp2_with fail
          obtain ⟨V, hV⟩ : ∃ V, V = wr.drew := ⟨_, rfl⟩
          have HVB : Hid (Below w5.heap.size w5 V) := by rw [hV]; exact HBW.out.drew
          have HVO : Hid (V.ownsRow w5.heap.size 73 4 (.slice B0 m0 c0) (l.take p ++ [(x, M, now, U)] ++ l.drop q).length (rr (l.take p ++ [(x, M, now, U)] ++ l.drop q))) := by rw [hV]; exact HRR.out
          obtain ⟨v0, v1, v2, y0, y1, y2, yf, yz, ym⟩ := HFA.out V HVB.out
          have HT := Lib.hid (three (.int .i64 M) (.int .i64 now) (.int .i64 U) yz)
          have HTB := Lib.hid (three_below (.int .i64 M) (.int .i64 now) (.int .i64 U) (HB5.out.trans (HVB.out.mono HB5.out.size)) (Nat.le_refl w.heap.size))
          have HOW := Lib.hid (own_base HB5.out.size (own_fin (x := .int .i64 M) (y := .int .i64 now) (z := .int .i64 U) (lt_of_block HRZ.out) HVO.out))
          have HSS : Hid ((((V.setCell ⟨w.heap.size, 0, none⟩ (.int .i64 M)).setCell ⟨w.heap.size, 1, none⟩ (.int .i64 now)).setCell ⟨w.heap.size, 2, none⟩ (.int .i64 U)).cell? ⟨w1.heap.size, 0, none⟩ = some (.int .i64 M) ∧ (((V.setCell ⟨w.heap.size, 0, none⟩ (.int .i64 M)).setCell ⟨w.heap.size, 1, none⟩ (.int .i64 now)).setCell ⟨w.heap.size, 2, none⟩ (.int .i64 U)).cell? ⟨w1.heap.size, 1, none⟩ = some (.int .i64 now) ∧ (((V.setCell ⟨w.heap.size, 0, none⟩ (.int .i64 M)).setCell ⟨w.heap.size, 1, none⟩ (.int .i64 now)).setCell ⟨w.heap.size, 2, none⟩ (.int .i64 U)).cell? ⟨w1.heap.size, 2, none⟩ = some (.int .i64 U)) := by
            have hk : w1.heap.size ≠ w.heap.size := by have := HM1.out; omega
            have hh : (((V.setCell ⟨w.heap.size, 0, none⟩ (.int .i64 M)).setCell ⟨w.heap.size, 1, none⟩ (.int .i64 now)).setCell ⟨w.heap.size, 2, none⟩ (.int .i64 U)).heap[w1.heap.size]? = some (.cells (mC M now U) 23 (0, 0)) := by
              rw [Below.heap_setCell _ _ _ _ hk, Below.heap_setCell _ _ _ _ hk, Below.heap_setCell _ _ _ _ hk]
              exact ym
            refine ⟨?_, ?_, ?_⟩ <;> · rw [cell_of_row _ _ _ _ _ _ hh]; rfl
          have HVV := Lib.hid hV
          clear hV yz ym
          refine wp_region_held_drew (S := fun V : World => V.cell? ⟨w1.heap.size, 0, none⟩ = some (.int .i64 M) ∧ V.cell? ⟨w1.heap.size, 1, none⟩ = some (.int .i64 now) ∧ V.cell? ⟨w1.heap.size, 2, none⟩ = some (.int .i64 U)) (by kernel_rfl) (by rw [← HVV.out]; exact ⟨v0, v1, v2⟩) (fun hHeld => ?_)
          rw [← HVV.out] at hHeld ⊢
          clear v0 v1 v2
          refine wpAnyH_take (i := 0) (oi := ?oi0ebu) (v := ?v0ebu) ?hi0ebu ?hs0ebu ?hf0ebu ?hr0ebu ?hQ0ebu ?hy0ebu ?hS0ebu ?h0ebu
          case hi0ebu => exact (by simp only [List.getElem?_toArray, List.getElem?_cons_zero]; rfl)
          case hs0ebu => kernel_rfl
          case hf0ebu => kernel_rfl
          case hr0ebu => kernel_rfl
          case hQ0ebu => exact fun _ _ _ h => h
          case hy0ebu =>
            refine Or.inl ⟨rfl, ?_⟩
            intro V hSw
            obtain ⟨q0, q1, q2⟩ := hSw
            go_simp
            try with_reducible rfl
          case hS0ebu => assumption
          try simp only [Act.put, List.setIfInBounds_toArray, List.set_cons_zero, List.set_cons_succ]
          refine wpAnyH_take (i := 1) (oi := ?oi1ebu) (v := (.agg #[.int .i64 M, .int .i64 now, .int .i64 U])) ?hi1ebu ?hs1ebu ?hf1ebu ?hr1ebu ?hQ1ebu ?hy1ebu ?hS1ebu ?h1ebu
          case hi1ebu => exact (by simp only [List.getElem?_toArray, List.getElem?_cons_succ, List.getElem?_cons_zero]; rfl)
          case hs1ebu => kernel_rfl
          case hf1ebu => kernel_rfl
          case hr1ebu => kernel_rfl
          case hQ1ebu => exact fun _ _ _ h => h
          case hy1ebu =>
            refine Or.inl ⟨rfl, ?_⟩
            intro V hSw
            obtain ⟨q0, q1, q2⟩ := hSw
            go_simp
            try with_reducible rfl
          case hS1ebu => assumption
          try simp only [Act.put, List.setIfInBounds_toArray, List.set_cons_zero, List.set_cons_succ]
          refine wpAnyH_take (i := 2) (oi := ?oi2ebu) (v := ?v2ebu) ?hi2ebu ?hs2ebu ?hf2ebu ?hr2ebu ?hQ2ebu ?hy2ebu ?hS2ebu ?h2ebu
          case hi2ebu => exact (by simp only [List.getElem?_toArray, List.getElem?_cons_succ, List.getElem?_cons_zero]; rfl)
          case hs2ebu => kernel_rfl
          case hf2ebu => kernel_rfl
          case hr2ebu => kernel_rfl
          case hQ2ebu => exact fun _ _ _ h => h
          case hy2ebu =>
            refine Or.inl ⟨rfl, ?_⟩
            intro V hSw
            obtain ⟨q0, q1, q2⟩ := hSw
            go_simp
            try with_reducible rfl
          case hS2ebu => assumption
          try simp only [Act.put, List.setIfInBounds_toArray, List.set_cons_zero, List.set_cons_succ]
          refine wpAnyH_ready (rs := [3]) (by kernel_rfl) (by simp) ?_
          refine AllReadyH.cons (o := _) rfl (fun K hK => ?_) AllReadyH.nil
          go_simp
          refine hK.out _ _ HSS.out (fun hHeld => ?_)
          clear hK K
          try simp only [Act.put, List.setIfInBounds_toArray, List.set_cons_zero, List.set_cons_succ]
          refine wpAnyH_take (i := 4) (oi := ?oi4ebu) (v := ?v4ebu) ?hi4ebu ?hs4ebu ?hf4ebu ?hr4ebu ?hQ4ebu ?hy4ebu ?hS4ebu ?h4ebu
          case hi4ebu => exact (by simp only [List.getElem?_toArray, List.getElem?_cons_succ, List.getElem?_cons_zero]; rfl)
          case hs4ebu => kernel_rfl
          case hf4ebu => kernel_rfl
          case hr4ebu => kernel_rfl
          case hQ4ebu => exact fun _ _ _ h => h
          case hy4ebu =>
            refine Or.inl ⟨rfl, ?_⟩
            intro V hSw
            obtain ⟨q0, q1, q2⟩ := hSw
            go_simp
            try with_reducible rfl
          case hS4ebu => assumption
          try simp only [Act.put, List.setIfInBounds_toArray, List.set_cons_zero, List.set_cons_succ]
          refine wpAnyH_done (by kernel_rfl) ?_ _
          go_wp2_with fail
          obtain ⟨e0, e1, e2, _⟩ := HT.out
          exact bodyPost_ret (v := .tuple #[(.slice B0 m0 c0), mV M now U, .int .i64 0]) (by simp [results, Tryd.results19, go_sem, e0, e1, e2]) rfl ⟨_, rfl, HTB.out, HOW.out⟩
        · have hdec : decide (p < k) = false := by rw [decide_eq_false_iff_not]; omega
          rw [hdec]
          obtain ⟨g0, g1, g2, _, _, _, _, _, _⟩ := HFA.out wr HV.out.2
          obtain ⟨w20, hw2⟩ : ∃ w2, w2 = wr.alloc (.cells #[.int .u32 (x : Int), .int .i64 M, .int .i64 now, .int .i64 U] 73) := ⟨_, rfl⟩
          have hg2 : w20.heap[wr.heap.size]? = some (.cells (rc (x, M, now, U)).toArray 73 (0, 0)) := by rw [hw2]; exact heap_alloc_new wr _
          have hb2 : Below wr.heap.size wr w20 := by rw [hw2]; exact (Below.refl _ _).alloc (Nat.le_refl _) _
          have HO20 : Hid (w20.ownsRow w5.heap.size 73 4 (.slice B0 m0 c0) m0 (rr (hlist l (x, M, now, U) p q k))) := own_after HV.out.1 fun g hg => hb2.block g (ownlt HV.out.1 g hg).2
          have HB20 : Hid (Below w5.heap.size w5 w20) := HV.out.2.trans (hb2.mono HV.out.2.size)
          have HG20 := Lib.hid hg2
          have H20 := Lib.hid hw2
          have HSZ0 : Hid (w5.heap.size ≤ w20.heap.size) := HB20.out.size
          have ht0 : Hid (∀ W : World, W = w20 → W.ownsRow w5.heap.size 73 4 (.slice B0 m0 c0) m0 (rr (hlist l (x, M, now, U) p q k)) ∧ W.heap[wr.heap.size]? = some (.cells (rc (x, M, now, U)).toArray 73 (0, 0)) ∧ w5.heap.size ≤ W.heap.size) := fun W e => by rw [e]; exact ⟨HO20.out, HG20.out, HSZ0.out⟩
          clear hg2 hb2 hw2
          go_wp2_with (at_builtin; refine wpList_append_row rfl (.tmp 79) (.tmp 83) rfl w5.heap.size wr.heap.size (.slice B0 m0 c0) m0 (rr (hlist l (x, M, now, U) p q k)) (x, M, now, U) rfl rfl (ht0.out _ H20.out.symm).1 (ht0.out _ H20.out.symm).2.1 (by omega) (ht0.out _ H20.out.symm).2.2 ?_; intro v3 w30 hown3 hg3; rw [← H20.out] at hg3; obtain ⟨B1, c1, rfl⟩ := own_form4 hown3; have HV1 : Hid (w30.ownsRow w5.heap.size 73 4 (.slice B1 (m0 + 1) c1) (m0 + 1) (rr ((hlist l (x, M, now, U) p q k)) ++ rc (x, M, now, U)) ∧ Below w5.heap.size w5 w30) := ⟨hown3, HB20.out.grown hg3 HB20.out.size (fun g h => (ownlt HO20.out g h).1)⟩; clear hown3 hg3)
          have hend : l.take p ++ [(x, M, now, U)] ++ l.drop q = (hlist l (x, M, now, U) p q k) ++ [(x, M, now, U)] := hlist_last HN.out (HP.out.1) hpk HQ.out
          have HRR : Hid (w30.ownsRow w5.heap.size 73 4 (.slice B1 (m0 + 1) c1) (l.take p ++ [(x, M, now, U)] ++ l.drop q).length (rr (l.take p ++ [(x, M, now, U)] ++ l.drop q))) := by
            simp only [Hid]
            rw [hend, rr_snoc, List.length_append, ← HM.out]
            exact HV1.out.1
          have HBW := Lib.hid HV1.out.2
          clear hend g0 g1 g2
          obtain ⟨V, hV⟩ : ∃ V, V = w30.drew := ⟨_, rfl⟩
          have HVB : Hid (Below w5.heap.size w5 V) := by rw [hV]; exact HBW.out.drew
          have HVO : Hid (V.ownsRow w5.heap.size 73 4 (.slice B1 (m0 + 1) c1) (l.take p ++ [(x, M, now, U)] ++ l.drop q).length (rr (l.take p ++ [(x, M, now, U)] ++ l.drop q))) := by rw [hV]; exact HRR.out
          obtain ⟨v0, v1, v2, y0, y1, y2, yf, yz, ym⟩ := HFA.out V HVB.out
          have HT := Lib.hid (three (.int .i64 M) (.int .i64 now) (.int .i64 U) yz)
          have HTB := Lib.hid (three_below (.int .i64 M) (.int .i64 now) (.int .i64 U) (HB5.out.trans (HVB.out.mono HB5.out.size)) (Nat.le_refl w.heap.size))
          have HOW := Lib.hid (own_base HB5.out.size (own_fin (x := .int .i64 M) (y := .int .i64 now) (z := .int .i64 U) (lt_of_block HRZ.out) HVO.out))
          have HSS : Hid ((((V.setCell ⟨w.heap.size, 0, none⟩ (.int .i64 M)).setCell ⟨w.heap.size, 1, none⟩ (.int .i64 now)).setCell ⟨w.heap.size, 2, none⟩ (.int .i64 U)).cell? ⟨w1.heap.size, 0, none⟩ = some (.int .i64 M) ∧ (((V.setCell ⟨w.heap.size, 0, none⟩ (.int .i64 M)).setCell ⟨w.heap.size, 1, none⟩ (.int .i64 now)).setCell ⟨w.heap.size, 2, none⟩ (.int .i64 U)).cell? ⟨w1.heap.size, 1, none⟩ = some (.int .i64 now) ∧ (((V.setCell ⟨w.heap.size, 0, none⟩ (.int .i64 M)).setCell ⟨w.heap.size, 1, none⟩ (.int .i64 now)).setCell ⟨w.heap.size, 2, none⟩ (.int .i64 U)).cell? ⟨w1.heap.size, 2, none⟩ = some (.int .i64 U)) := by
            have hk : w1.heap.size ≠ w.heap.size := by have := HM1.out; omega
            have hh : (((V.setCell ⟨w.heap.size, 0, none⟩ (.int .i64 M)).setCell ⟨w.heap.size, 1, none⟩ (.int .i64 now)).setCell ⟨w.heap.size, 2, none⟩ (.int .i64 U)).heap[w1.heap.size]? = some (.cells (mC M now U) 23 (0, 0)) := by
              rw [Below.heap_setCell _ _ _ _ hk, Below.heap_setCell _ _ _ _ hk, Below.heap_setCell _ _ _ _ hk]
              exact ym
            refine ⟨?_, ?_, ?_⟩ <;> · rw [cell_of_row _ _ _ _ _ _ hh]; rfl
          have HVV := Lib.hid hV
          clear hV yz ym
          refine wp_region_held_drew (S := fun V : World => V.cell? ⟨w1.heap.size, 0, none⟩ = some (.int .i64 M) ∧ V.cell? ⟨w1.heap.size, 1, none⟩ = some (.int .i64 now) ∧ V.cell? ⟨w1.heap.size, 2, none⟩ = some (.int .i64 U)) (by kernel_rfl) (by rw [← HVV.out]; exact ⟨v0, v1, v2⟩) (fun hHeld => ?_)
          rw [← HVV.out] at hHeld ⊢
          clear v0 v1 v2
          refine wpAnyH_take (i := 0) (oi := ?oi0ebv) (v := ?v0ebv) ?hi0ebv ?hs0ebv ?hf0ebv ?hr0ebv ?hQ0ebv ?hy0ebv ?hS0ebv ?h0ebv
          case hi0ebv => exact (by simp only [List.getElem?_toArray, List.getElem?_cons_zero]; rfl)
          case hs0ebv => kernel_rfl
          case hf0ebv => kernel_rfl
          case hr0ebv => kernel_rfl
          case hQ0ebv => exact fun _ _ _ h => h
          case hy0ebv =>
            refine Or.inl ⟨rfl, ?_⟩
            intro V hSw
            obtain ⟨q0, q1, q2⟩ := hSw
            go_simp
            try with_reducible rfl
          case hS0ebv => assumption
          try simp only [Act.put, List.setIfInBounds_toArray, List.set_cons_zero, List.set_cons_succ]
          refine wpAnyH_take (i := 1) (oi := ?oi1ebv) (v := (.agg #[.int .i64 M, .int .i64 now, .int .i64 U])) ?hi1ebv ?hs1ebv ?hf1ebv ?hr1ebv ?hQ1ebv ?hy1ebv ?hS1ebv ?h1ebv
          case hi1ebv => exact (by simp only [List.getElem?_toArray, List.getElem?_cons_succ, List.getElem?_cons_zero]; rfl)
          case hs1ebv => kernel_rfl
          case hf1ebv => kernel_rfl
          case hr1ebv => kernel_rfl
          case hQ1ebv => exact fun _ _ _ h => h
          case hy1ebv =>
            refine Or.inl ⟨rfl, ?_⟩
            intro V hSw
            obtain ⟨q0, q1, q2⟩ := hSw
            go_simp
            try with_reducible rfl
          case hS1ebv => assumption
          try simp only [Act.put, List.setIfInBounds_toArray, List.set_cons_zero, List.set_cons_succ]
          refine wpAnyH_take (i := 2) (oi := ?oi2ebv) (v := ?v2ebv) ?hi2ebv ?hs2ebv ?hf2ebv ?hr2ebv ?hQ2ebv ?hy2ebv ?hS2ebv ?h2ebv
          case hi2ebv => exact (by simp only [List.getElem?_toArray, List.getElem?_cons_succ, List.getElem?_cons_zero]; rfl)
          case hs2ebv => kernel_rfl
          case hf2ebv => kernel_rfl
          case hr2ebv => kernel_rfl
          case hQ2ebv => exact fun _ _ _ h => h
          case hy2ebv =>
            refine Or.inl ⟨rfl, ?_⟩
            intro V hSw
            obtain ⟨q0, q1, q2⟩ := hSw
            go_simp
            try with_reducible rfl
          case hS2ebv => assumption
          try simp only [Act.put, List.setIfInBounds_toArray, List.set_cons_zero, List.set_cons_succ]
          refine wpAnyH_ready (rs := [3]) (by kernel_rfl) (by simp) ?_
          refine AllReadyH.cons (o := _) rfl (fun K hK => ?_) AllReadyH.nil
          go_simp
          refine hK.out _ _ HSS.out (fun hHeld => ?_)
          clear hK K
          try simp only [Act.put, List.setIfInBounds_toArray, List.set_cons_zero, List.set_cons_succ]
          refine wpAnyH_take (i := 4) (oi := ?oi4ebv) (v := ?v4ebv) ?hi4ebv ?hs4ebv ?hf4ebv ?hr4ebv ?hQ4ebv ?hy4ebv ?hS4ebv ?h4ebv
          case hi4ebv => exact (by simp only [List.getElem?_toArray, List.getElem?_cons_succ, List.getElem?_cons_zero]; rfl)
          case hs4ebv => kernel_rfl
          case hf4ebv => kernel_rfl
          case hr4ebv => kernel_rfl
          case hQ4ebv => exact fun _ _ _ h => h
          case hy4ebv =>
            refine Or.inl ⟨rfl, ?_⟩
            intro V hSw
            obtain ⟨q0, q1, q2⟩ := hSw
            go_simp
            try with_reducible rfl
          case hS4ebv => assumption
          try simp only [Act.put, List.setIfInBounds_toArray, List.set_cons_zero, List.set_cons_succ]
          refine wpAnyH_done (by kernel_rfl) ?_ _
          go_wp2_with fail
          obtain ⟨e0, e1, e2, _⟩ := HT.out
          exact bodyPost_ret (v := .tuple #[(.slice B1 (m0 + 1) c1), mV M now U, .int .i64 0]) (by simp [results, Tryd.results19, go_sem, e0, e1, e2]) rfl ⟨_, rfl, HTB.out, HOW.out⟩

end Go.Proofs.YtfcogjdnnnpmdaaDoor.D
