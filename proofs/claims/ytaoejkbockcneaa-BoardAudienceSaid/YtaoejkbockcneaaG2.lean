/- Friend: Are, two, end, Accept, Refuse, Remove, Unblock. -/
import Derived.Test.YtaoejkbockcneaaG1
import Derived.Test.YtaoejkbockcneaaVH
namespace Go.Proofs.Ytaoejkbockcneaa
open Go.RowKit Go.Maps
set_option maxRecDepth 20000
set_option linter.unusedVariables false
set_option linter.unusedSimpArgs false

abbrev u (x : Nat) : Value := .int .u32 (x : Int)
abbrev gp (L : Nat) : Value := .pointer (some ⟨L, 0, none⟩)
set_option maxHeartbeats 1000000 in
theorem are_any (L M cnt p q : Nat) (D : DataW Unit) (N : Nat → Nat → Int) (w : World) (h : IsG w L M cnt D) (hN : Rep D N) (hp : u32ok p) (hq : u32ok q) :
    Calls Try.prog 41 #[gp L, u p, u q] w fun r w' => r = .returned (.bool (decide (N p q = 2 ∨ N q p = 2))) ∧ w' = w := by
  have H1 := Lib.hid (is_any L M cnt p q 2 D N w h hN hp hq)
  have H2 := Lib.hid (is_any L M cnt q p 2 D N w h hN hq hp)
  clear h hN
  by_cases e : N p q = 2
  · have e1 : decide (N p q = 2) = true := by simp [e]
    go_enter Try.func41, Try.ntmps41
    go_wp2_with (first | (go_at_call 57; refine H1.out.mono ?_; rintro r w' ⟨rfl, rfl⟩; rw [e1]))
    go_ret
    simp [e]
  · have e1 : decide (N p q = 2) = false := by simp [e]
    go_enter Try.func41, Try.ntmps41
    go_wp2_with fail
    refine H1.out.mono ?_
    rintro r w' ⟨rfl, rfl⟩
    rw [e1]
    go_wp2_with fail
    refine H2.out.mono ?_
    rintro r w' ⟨rfl, rfl⟩
    go_wp2
    go_ret
    simp [e]
theorem are_nil (p q : Nat) (w : World) : Calls Try.prog 41 #[.pointer none, u p, u q] w fun r w' => r = .returned (.bool false) ∧ w' = w := by
  go_enter Try.func41, Try.ntmps41
  go_wp2_with (first | (go_at_call 57; refine (is_nil _ _ _ _).mono ?_; rintro r w' ⟨rfl, rfl⟩))
  go_ret
  exact ⟨rfl, rfl⟩
theorem okN_iff (x : Nat) : okN x ↔ (1 ≤ x ∧ x ≤ 2147483647) := Iff.rfl
set_option maxHeartbeats 1000000 in
theorem right_any (x : Nat) (w : World) : Calls Try.prog 53 #[u x] w fun r w' => r = .returned (.bool (decide (okN x))) ∧ w' = w := by
  by_cases h0 : x = 0
  · subst h0
    go_enter Try.func53, Try.ntmps53
    go_wp2
    go_ret
    exact ⟨rfl, rfl⟩
  · have h1 : (1 : Int) ≤ x := by omega
    by_cases h2 : x ≤ 2147483647
    · have e : decide (okN x) = true := by rw [decide_eq_true_iff, okN_iff]; omega
      have h3 : (x : Int) ≤ 2147483647 := by omega
      rw [e]
      go_enter Try.func53, Try.ntmps53
      go_wp2
      go_ret
      refine ⟨?_, rfl⟩
      first | rfl | (simp; omega)
    · have e : decide (okN x) = false := by rw [decide_eq_false_iff_not, okN_iff]; omega
      have h3 : ¬ (x : Int) ≤ 2147483647 := by omega
      rw [e]
      go_enter Try.func53, Try.ntmps53
      go_wp2
      go_ret
      refine ⟨?_, rfl⟩
      first | rfl | (simp; omega)
theorem two_nil (a b : Nat) (w : World) : Calls Try.prog 56 #[.pointer none, u a, u b] w fun r w' => r = .returned (.int .i64 12) ∧ w' = w := by
  go_enter Try.func56, Try.ntmps56
  go_wp2
  go_ret
  exact ⟨rfl, rfl⟩
set_option maxHeartbeats 2000000 in
theorem two_any (L a b : Nat) (w : World) : Calls Try.prog 56 #[gp L, u a, u b] w fun r w' => r = .returned (.int .i64 (wrongC a b)) ∧ w' = w := by
  have H1 := Lib.hid (right_any a w)
  have H2 := Lib.hid (right_any b w)
  by_cases ha : okN a
  · have e1 : decide (okN a) = true := by simp [ha]
    by_cases hb : okN b
    · have e2 : decide (okN b) = true := by simp [hb]
      by_cases hab : a = b
      · subst hab
        have hw : wrongC a a = 16 := by simp [wrongC, hb]
        rw [hw]
        clear hw
        go_enter Try.func56, Try.ntmps56
        go_wp2_with fail
        refine H1.out.mono ?_
        rintro r w' ⟨rfl, rfl⟩
        rw [e1]
        go_wp2_with fail
        refine H2.out.mono ?_
        rintro r w' ⟨rfl, rfl⟩
        rw [e2]
        go_wp2
        go_ret
        exact ⟨rfl, rfl⟩
      · have hw : wrongC a b = 0 := by simp [wrongC, hab, ha, hb]
        have e3 : ¬ (a : Int) = (b : Int) := by omega
        rw [hw]
        clear hw
        go_enter Try.func56, Try.ntmps56
        go_wp2_with fail
        refine H1.out.mono ?_
        rintro r w' ⟨rfl, rfl⟩
        rw [e1]
        go_wp2_with fail
        refine H2.out.mono ?_
        rintro r w' ⟨rfl, rfl⟩
        rw [e2]
        go_wp2
        go_ret
        exact ⟨rfl, rfl⟩
    · have e2 : decide (okN b) = false := by simp [hb]
      have hw : wrongC a b = 14 := by simp [wrongC, hb]
      rw [hw]
      clear hw
      go_enter Try.func56, Try.ntmps56
      go_wp2_with fail
      refine H1.out.mono ?_
      rintro r w' ⟨rfl, rfl⟩
      rw [e1]
      go_wp2_with fail
      refine H2.out.mono ?_
      rintro r w' ⟨rfl, rfl⟩
      rw [e2]
      go_wp2
      go_ret
      exact ⟨rfl, rfl⟩
  · have e1 : decide (okN a) = false := by simp [ha]
    have hw : wrongC a b = 14 := by simp [wrongC, ha]
    rw [hw]
    clear hw
    go_enter Try.func56, Try.ntmps56
    go_wp2_with (first | (go_at_call 53; refine H1.out.mono ?_; rintro r w' ⟨rfl, rfl⟩; rw [e1]))
    go_ret
    exact ⟨rfl, rfl⟩
theorem Gr.of_del {w w' : World} {L M n p q : Nat} {l l' : List Rw} {D : DataW Unit} (h : IsG w L M (size D) D) (hN : Rep D (tie l)) (hn : size D ≤ n) (hp : u32ok p) (hq : u32ok q) (h' : IsG w' L M (size D) (D.del (kl p q))) (ht : tie l' = upd (tie l) p q 0) : Gr w' L M n l' := by
  refine ⟨_, h'.norm, by rw [ht]; exact hN.del hp hq, ?_⟩
  have := size_del (k := kl p q) (h.2.tidy K133)
  omega
theorem Gr.of_put {w w' : World} {L M n p q cnt : Nat} {t : Int} {l l' : List Rw} {D : DataW Unit} (h : IsG w L M (size D) D) (hN : Rep D (tie l)) (hn : size D ≤ n) (hp : u32ok p) (hq : u32ok q) (hne : t ≠ 0) (h' : IsG w' L M cnt (D.put (kl p q) (tD t))) (ht : tie l' = upd (tie l) p q t) : Gr w' L M (n + 1) l' := by
  refine ⟨_, h'.norm, by rw [ht]; exact hN.put h.2.isMap hp hq hne, ?_⟩
  have := size_put (k := kl p q) (h.2.tidy K133) (tD t)
  split at this <;> omega
theorem u32_of_ok {x : Nat} (h : okN x) : u32ok x := by unfold okN at h; unfold u32ok; omega
set_option maxHeartbeats 1000000 in
theorem accept_any (L M n a b : Nat) (l : List Rw) (w : World) (h : Gr w L M n l) (hI : Inv l) (hn : n ≤ 1000) (ha : u32ok a) (hb : u32ok b) :
    Calls Try.prog 58 #[gp L, u a, u b] w fun r w' => r = .returned (.int .i64 (accL l a b).2) ∧ Gr w' L M (n + 1) (accL l a b).1 ∧ ChM M w w' := by
  obtain ⟨D, hG, hN, hs⟩ := h
  have H1 := Lib.hid (is_any L M _ b a 1 D _ w hG hN hb ha)
  by_cases e : (1, b, a) ∈ l
  · have e1 : decide (tie l b a = 1) = true := by rw [decide_eq_true_iff]; exact (hI.tie1 b a).2 e
    have hr : accL l a b = (wo l a b ++ [(2, a, b)], 0) := by simp [accL, e]
    rw [hr]
    have c1 := cell_of_row w L 0 _ _ _ hG.1
    simp at c1
    have hown := hG.2
    have hkey := key67 b a hb ha
    have HALL : Hid (∀ w' cnt, IsG w' L M cnt (D.put (kl b a) (tD 2)) → Gr w' L M (n + 1) (wo l a b ++ [(2, a, b)])) := fun w' cnt h' => Gr.of_put hG hN hs hb ha (by omega) h' (tie_acc hI e)
    have HNE := Lib.hid hG.ne
    have HL1 := Lib.hid hG.1
    clear hG hN hr hI
    go_enter Try.func58, Try.ntmps58
    go_wp2_with (first
      | (go_at_call 57; refine H1.out.mono ?_; rintro r w' ⟨rfl, rfl⟩; rw [e1])
      | (at_mapUpdate; refine wpList_mapUpdate_own _ rfl _ _ _ 126 rfl 133 131 K133 Try.underlying126 RT M (size D) D rfl hown (by unfold maxLen; omega) _ _ (kl b a) rfl rfl hkey (tD 2) [] rfl ?_; intro w1 hown1 hgrow1)
      | go_in)
    go_ret
    exact ⟨rfl, HALL.out _ _ ⟨(hgrow1.block L (lt_of_block HL1.out) (fun e => by injection e with e; exact HNE.out e)).trans HL1.out, hown1⟩, ChM.of_grown (Below.refl _ _) hgrow1⟩
  · have e1 : decide (tie l b a = 1) = false := by rw [decide_eq_false_iff_not]; exact fun h => e ((hI.tie1 b a).1 h)
    have hr : accL l a b = (l, 12) := by simp [accL, e]
    rw [hr]
    have HGR : Hid (Gr w L M (n + 1) l) := ⟨D, hG, hN, by omega⟩
    clear hG hN hr hI
    go_enter Try.func58, Try.ntmps58
    go_wp2_with (first | (go_at_call 57; refine H1.out.mono ?_; rintro r w' ⟨rfl, rfl⟩; rw [e1]))
    go_ret
    exact ⟨rfl, HGR.out, ChM.of_below (Below.refl _ _)⟩
theorem accept_nil (a b : Nat) (w : World) : Calls Try.prog 58 #[.pointer none, u a, u b] w fun r w' => r = .returned (.int .i64 12) ∧ w' = w := by
  go_enter Try.func58, Try.ntmps58
  go_wp2_with (first | (go_at_call 57; refine (is_nil _ _ _ _).mono ?_; rintro r w' ⟨rfl, rfl⟩))
  go_ret
  exact ⟨rfl, rfl⟩
end Go.Proofs.Ytaoejkbockcneaa
