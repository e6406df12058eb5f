/- Draft: Ahead; all the places of both teams. -/
import Derived.Test.YtnloikdfbdpilaaDO
import Derived.LoopTactic
import Derived.Deep.QuietTactic
namespace Go.Proofs.Ytnloikdfbdpilaa
open Go.RowKit
set_option maxRecDepth 20000
set_option linter.unusedVariables false

set_option maxHeartbeats 2000000 in
theorem ahead_any (A B : Option Addr) (n c m d : Nat) (a b : List Int) (w : World) (hna : n = a.length) (hnb : m = b.length) (ha : Zs w w.heap.size A a) (hb : Zs w w.heap.size B b) (hn : n ≤ 1000) (hm : m ≤ 1000) :
    Calls Try.prog 26 #[.slice A n c, .slice B m d] w fun r w' => r = .returned (.bool (aheadP a b)) ∧ Below w.heap.size w w' := by
  have HA := Lib.hid ha
  have HB := Lib.hid hb
  have HNA := Lib.hid hna
  have HNB := Lib.hid hnb
  have HBr : Hid (Below w.heap.size w w) := Below.refl _ _
  obtain ⟨res, hres⟩ : ∃ res, res = aheadP a b := ⟨_, rfl⟩
  rw [← hres]
  have HR := Lib.hid hres
  clear ha hb hna hnb hres
  go_enter Try.func26, Try.ntmps26
  go_wp2
  go_loopw [5] (fun i wr => ∃ k : Nat, k ≤ n ∧ k ≤ m ∧ i = .int .i64 k ∧ Hid (res = aheadP (a.drop k) (b.drop k) ∧ Below w.heap.size w wr)) (fun i _ => n - (intOf i).toNat)
  case atStart => exact ⟨0, Nat.zero_le _, Nat.zero_le _, rfl, by rw [List.drop_zero, List.drop_zero]; exact HR.out, HBr.out⟩
  case round =>
    obtain ⟨k, hk, hk2, rfl, HV⟩ := hrel
    by_cases hlt : k < n
    · by_cases hlt2 : k < m
      · have hla : k < a.length := by rw [← HNA.out]; exact hlt
        have hlb : k < b.length := by rw [← HNB.out]; exact hlt2
        obtain ⟨x, hx⟩ : ∃ x, a[k]? = some x := ⟨a[k], List.getElem?_eq_getElem _⟩
        obtain ⟨y, hy⟩ : ∃ y, b[k]? = some y := ⟨b[k], List.getElem?_eq_getElem _⟩
        obtain ⟨b1, o1, rfl, hbb, hcell⟩ := HA.out (by omega)
        obtain ⟨b2, o2, rfl, hbb2, hcell2⟩ := HB.out (by omega)
        have c1 := (HV.out.2.cell (p := ⟨b1, o1 + k, none⟩) hbb).trans (hcell k x hx)
        have c2 := (HV.out.2.cell (p := ⟨b2, o2 + k, none⟩) hbb2).trans (hcell2 k y hy)
        have HDA : Hid (a.drop k = x :: a.drop (k + 1) ∧ b.drop k = y :: b.drop (k + 1)) := by
          simp only [Hid]
          rw [List.drop_eq_getElem_cons hla, List.drop_eq_getElem_cons hlb]
          exact ⟨by rw [Option.some.inj ((List.getElem?_eq_getElem hla).symm.trans hx)], by rw [Option.some.inj ((List.getElem?_eq_getElem hlb).symm.trans hy)]⟩
        clear hx hy hcell hcell2 hbb hbb2 hla hlb
        by_cases hxy : x = y
        · subst hxy
          have hbe : (x != x) = false := by simp
          have HNX : Hid (res = aheadP (a.drop (k + 1)) (b.drop (k + 1))) := by
            simp only [Hid]
            rw [HV.out.1, HDA.out.1, HDA.out.2]
            simp [aheadP]
          go_wp2
          go_quiet (fail)
          go_wp2
          go_roundw
          case rel => exact ⟨k + 1, by omega, by omega, by go_num, HNX.out, below_drewN HV.out.2 _⟩
          case measure => simp [intOf]; omega
        · have hbe : (x != y) = true := by simp [hxy]
          have HNX : Hid (res = decide (x < y)) := by
            simp only [Hid]
            rw [HV.out.1, HDA.out.1, HDA.out.2]
            simp [aheadP, hxy]
          go_wp2
          go_quiet (fail)
          go_wp2
          go_quiet (fail)
          go_wp2
          all_goals
            go_ret
            exact ⟨by rw [HNX.out]; simp <;> omega, below_drewN (below_drewN HV.out.2 _) _⟩
      · have HNX : Hid (res = false) := by
          have h1 : k = m := by omega
          simp only [Hid]
          rw [HV.out.1, List.drop_of_length_le (l := b) (by rw [← HNB.out]; omega)]
          have hla : k < a.length := by rw [← HNA.out]; exact hlt
          rw [List.drop_eq_getElem_cons hla]
          rfl
        go_wp2
        all_goals
          go_ret
          exact ⟨by rw [HNX.out]; simp <;> omega, HV.out.2⟩
    · have HNX : Hid (res = decide (n < m)) := by
        simp only [Hid]
        rw [HV.out.1, List.drop_of_length_le (l := a) (by rw [← HNA.out]; omega)]
        by_cases h : k < m
        · have hlb : k < b.length := by rw [← HNB.out]; exact h
          rw [List.drop_eq_getElem_cons hlb, decide_eq_true (by omega)]
          rfl
        · rw [List.drop_of_length_le (l := b) (by rw [← HNB.out]; omega), decide_eq_false (by omega)]
          rfl
      go_wp2
      all_goals
        go_ret
        exact ⟨by rw [HNX.out]; simp <;> omega, HV.out.2⟩

/-- The numbers of a list that are one, as a list. -/
def eqs (i : Int) (l : List Int) : List Int := l.filter fun x => decide (x = i)
def allP (A B : List Int) (N : Nat) : List Int := (List.range N).flatMap fun i : Nat => eqs (i : Int) A ++ eqs (i : Int) B
theorem allP_succ (A B : List Int) (N : Nat) : allP A B (N + 1) = allP A B N ++ (eqs N A ++ eqs N B) := by
  unfold allP
  rw [List.range_succ, List.flatMap_append]
  simp
theorem eqs_len (i : Int) (l : List Int) : (eqs i l).length ≤ l.length := List.length_filter_le _ _
theorem allP_len (A B : List Int) (N : Nat) : (allP A B N).length ≤ N * (A.length + B.length) := by
  induction N with
  | zero => simp [allP]
  | succ N ih =>
    rw [allP_succ, List.length_append, List.length_append, Nat.add_mul]
    have h1 := eqs_len N A
    have h2 := eqs_len N B
    omega
theorem eqs_snoc (i : Int) (l : List Int) (k : Nat) (x : Int) (h : l[k]? = some x) : eqs i (l.take (k + 1)) = eqs i (l.take k) ++ if x = i then [x] else [] := by
  rw [List.take_add_one, h]
  unfold eqs
  rw [List.filter_append]
  by_cases hx : x = i
  · simp [hx]
  · simp [hx]
theorem eqs_none {i : Int} {l : List Int} (h : i ∉ l) : eqs i l = [] := by
  unfold eqs
  rw [List.filter_eq_nil_iff]
  intro x hx
  simp
  rintro rfl
  exact h hx
theorem eqs_sel (f : Nat → Bool) (i : Int) (S : List Int) (hn : S.Nodup) : eqs i (sel f S) ++ eqs i (sel (fun j => !f j) S) = eqs i S := by
  induction S generalizing f with
  | nil => rfl
  | cons a S ih =>
    rw [List.nodup_cons] at hn
    have h1 := ih (fun j => f (j + 1)) hn.2
    rw [sel_cons, sel_cons]
    by_cases ha : a = i
    · subst ha
      have h2 : eqs a S = [] := eqs_none hn.1
      have h3 : eqs a (sel (fun j => f (j + 1)) S) = [] := eqs_none fun h => hn.1 ((sel_sub _ _).subset h)
      have h4 : eqs a (sel (fun j => !f (j + 1)) S) = [] := eqs_none fun h => hn.1 ((sel_sub _ _).subset h)
      have h5 : ∀ l : List Int, eqs a (a :: l) = a :: eqs a l := fun l => by simp [eqs]
      cases hf : f 0
      · simp only [Bool.false_eq_true, if_false, Bool.not_false, if_true, h5, h2, h3, h4, List.nil_append]
      · simp only [Bool.false_eq_true, if_false, Bool.not_true, if_true, h5, h2, h3, h4, List.append_nil]
    · have h5 : ∀ l : List Int, eqs i (a :: l) = eqs i l := fun l => by simp [eqs, ha]
      cases hf : f 0
      · simp only [Bool.false_eq_true, if_false, Bool.not_false, if_true, h5]; exact h1
      · simp only [Bool.false_eq_true, if_false, Bool.not_true, if_true, h5]; exact h1
theorem all_up (N : Nat) : ∀ (lo : Nat) (S : List Int), S.Pairwise (· < ·) → (∀ x ∈ S, (lo : Int) ≤ x ∧ x < lo + N) → ((List.range' lo N).flatMap fun i : Nat => eqs (i : Int) S) = S := by
  induction N with
  | zero =>
    intro lo S _ h
    cases S with
    | nil => rfl
    | cons a S => have := h a (List.mem_cons_self ..); omega
  | succ N ih =>
    intro lo S hp h
    rw [List.range'_succ, List.flatMap_cons]
    cases S with
    | nil =>
      have h1 := ih (lo + 1) [] List.Pairwise.nil (fun x hx => by cases hx)
      rw [h1]; rfl
    | cons a S =>
      rw [List.pairwise_cons] at hp
      have ha := h a (List.mem_cons_self ..)
      by_cases hal : a = (lo : Int)
      · have h2 : eqs (lo : Int) (a :: S) = [a] := by
          have h3 : eqs (lo : Int) S = [] := eqs_none fun hx => by have := hp.1 _ hx; omega
          unfold eqs at h3 ⊢
          rw [List.filter_cons, h3]
          simp [hal]
        have h4 : ((List.range' (lo + 1) N).flatMap fun i : Nat => eqs (i : Int) (a :: S)) = ((List.range' (lo + 1) N).flatMap fun i : Nat => eqs (i : Int) S) := by
          rw [List.flatMap_def, List.flatMap_def]
          congr 1
          refine List.map_congr_left fun i hi => ?_
          have := (List.mem_range'_1.1 hi).1
          unfold eqs
          rw [List.filter_cons, if_neg (by simp; omega)]
        rw [h2, h4, ih (lo + 1) S hp.2 (fun x hx => by have h5 := hp.1 x hx; have h6 := h x (List.mem_cons_of_mem _ hx); push_cast at h6 ⊢; omega)]
        rfl
      · have h2 : eqs (lo : Int) (a :: S) = [] := eqs_none fun hx => by
          rcases List.mem_cons.1 hx with h3 | h3
          · omega
          · have := hp.1 _ h3; omega
        rw [h2, List.nil_append]
        exact ih (lo + 1) (a :: S) (List.pairwise_cons.2 hp) (fun x hx => by
          have h6 := h x hx
          rcases List.mem_cons.1 hx with h3 | h3
          · push_cast at h6 ⊢; omega
          · have := hp.1 _ h3; push_cast at h6 ⊢; omega)
/-- Both teams of a match, put together, are its places. -/
theorem all_places {k : Int} {s : List En} {A B : List Int} (h : partP k s = some (A, B)) (hp : s.Pairwise fun a b => a.p < b.p) (hb : ∀ e ∈ s, 0 ≤ e.p ∧ e.p < 16) : allP A B 16 = s.map (·.p) := by
  obtain ⟨way, _, _, rfl, rfl⟩ := part_get h
  have hp' : (s.map (·.p)).Pairwise (· < ·) := List.pairwise_map.2 hp
  have hnd : (s.map (·.p)).Nodup := hp'.imp fun {a b} h => by omega
  have h1 := all_up 16 0 (s.map (·.p)) hp' (fun x hx => by obtain ⟨e, he, rfl⟩ := List.mem_map.1 hx; have := hb e he; push_cast; omega)
  rw [sA_sel, sB_sel, ← sel_map, ← sel_map]
  unfold allP
  rw [List.range_eq_range']
  refine Eq.trans ?_ h1
  rw [List.flatMap_def, List.flatMap_def]
  congr 1
  refine List.map_congr_left fun i _ => ?_
  exact eqs_sel _ _ _ hnd

theorem wpList_append_z {w : World} {ops : Array Oper} {rest : List Oper} {op : Oper} {a : Act} {Q : Exit → Act → World → Prop} (hgd : op.guard = none) (s x : Operand)
    (ho : op.op = .call { callee := .builtin .append, args := #[s, x], argTypes := #[38, 38] }) (base G : Nat) (v : Value) (m : Nat) (xs : List Value) (y : Int) (hs : a.eval s = v) (hx : a.eval x = .slice (some ⟨G, 0, none⟩) 1 1)
    (hown : w.ownsRow base 3 1 v m xs) (hG : w.heap[G]? = some (.cells #[.int .i64 y] 3 (0, 0))) (hm : m ≤ 2000) (hbase : base ≤ w.heap.size)
    (h : ∀ v' w', w'.ownsRow base 3 1 v' (m + 1) (xs ++ [.int .i64 y]) → w.grownBy w' v.ownBlock → wpList Try.prog ops Q rest (a.put op.dst v') w') : wpList Try.prog ops Q (op :: rest) a w := by
  refine wpList_plain hgd fun K hK => ?_
  obtain ⟨i0, hi, hz0, hz1, hz2⟩ := info_parts info3
  obtain ⟨v', w', hr, h2, h3, _⟩ := run_append_own (P := Try.prog) w base 38 op.type 3 i0 _ 1 _ Try.underlying38 hi hz0 hz1 hz2 rfl (by decide) v m xs hown ⟨G, 0, none⟩ 1 1 [.int .i64 y] rfl (fun j u hu => by
    have := cell_of_row w G j _ _ _ hG
    rw [show (#[.int .i64 y] : Array Value) = ([.int .i64 y] : List Value).toArray from rfl, List.getElem?_toArray, hu] at this
    rw [← this, Go.WideShapes.add_plain, Nat.zero_add]) (by
    intro u hu
    simp only [List.mem_cons, List.not_mem_nil, or_false] at hu
    rw [hu]
    rfl) (by unfold maxLen; omega) (by omega) hbase
  unfold Oper.wp execOp
  simp only [ho, resolve, invoke, builtin, Sem.run_bind, Sem.run_pure, Result.andThen_ok, List.map_toArray, List.map_cons, List.map_nil, hs, hx, hr]
  exact hK _ _ (h v' w' h2 h3)
theorem Zs.of_own {w : World} {base m c : Nat} {A : Option Addr} {l : List Int} (h : w.ownsRow base 3 1 (.slice A m c) m (zv l)) : Zs w w.heap.size A l := fun hl => by
  have hlen := h.1
  rw [zv, List.length_map, Nat.mul_one] at hlen
  rcases h.2 with ⟨_, h0⟩ | ⟨g, cap, cur, e1, _, hh, _, _, _, ht⟩
  · omega
  · injection e1 with e1 _ _
    subst e1
    refine ⟨g, 0, rfl, lt_of_block hh, fun i x hx => ?_⟩
    have hil := (List.getElem?_eq_some_iff.1 hx).1
    have h2 : (zv l)[i]? = some (.int .i64 x) := by rw [zv, List.getElem?_map, hx]; rfl
    rw [cell_of_row w g _ _ _ _ hh, ← Array.getElem?_toList, Nat.zero_add, ← h2, ← ht, List.getElem?_take, if_pos (by omega)]
end Go.Proofs.Ytnloikdfbdpilaa
