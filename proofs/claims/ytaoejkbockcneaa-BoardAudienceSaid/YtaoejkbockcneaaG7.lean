/- Friend: the closures; outgoing; full; Links. -/
import Derived.Test.YtaoejkbockcneaaG4
import Derived.Test.YtaoejkbockcneaaG5
import Derived.Test.YtaoejkbockcneaaG6
namespace Go.Proofs.Ytaoejkbockcneaa
open Go.RowKit Go.Maps
set_option maxRecDepth 20000
set_option linter.unusedVariables false
set_option linter.unusedSimpArgs false

theorem f49_any (t : Int) (o : Bool) (w : World) : Calls Try.prog 71 #[.int .i64 t, .bool o] w fun r w' => r = .returned (.bool (Su t o)) ∧ w' = w := by
  by_cases e : t = 3
  · subst e
    go_enter Try.func71, Try.ntmps71
    go_wp2
    go_ret
    exact ⟨rfl, rfl⟩
  · have e2 : Su t o = true := by simp [Su, e]
    rw [e2]
    go_enter Try.func71, Try.ntmps71
    go_wp2
    go_ret
    refine ⟨?_, rfl⟩
    simp [e]
set_option maxHeartbeats 2000000 in
theorem full_any (L M n a : Nat) (l : List Rw) (w : World) (h : Gr w L M n l) (hI : Inv l) (hn : n ≤ 1000) (ha : u32ok a) :
    Calls Try.prog 59 #[gp L, u a] w fun r w' => r = .returned (.bool (decide (16 ≤ cw l a))) ∧ Below w.heap.size w w' := by
  obtain ⟨D, hG, hN, hs⟩ := h
  have H1 := Lib.hid (others_49 L M a Su D (tie l) w hG hN hI.nok ha (by omega) (dj_u hI a) (fun W t o _ => f49_any t o W))
  obtain ⟨m, hm⟩ : ∃ m, m = cw l a := ⟨_, rfl⟩
  have HL : Hid (∀ ys, Oth (tie l) a Su ys → ys.length = m) := fun ys h => by rw [hm]; exact oth_full hI h
  rw [← hm]
  clear hG hN hm hI
  by_cases e : 16 ≤ m
  · have e1 : decide (16 ≤ m) = true := by simp [e]
    have e2 : (16 : Int) ≤ m := by omega
    rw [e1]
    go_enter Try.func59, Try.ntmps59
    go_wp2_with fail
    refine H1.out.mono ?_
    rintro r w' ⟨v, ys, rfl, ho, hown, hb⟩
    have hl := HL.out ys ho
    obtain ⟨A, c, rfl⟩ := own_form1 hown
    have HB := Lib.hid hb
    rw [hl]
    clear ho hown hb hl
    go_wp2
    go_ret
    refine ⟨?_, HB.out⟩
    first | rfl | (simp; omega)
  · have e1 : decide (16 ≤ m) = false := by simp [e]
    have e2 : ¬ (16 : Int) ≤ m := by omega
    rw [e1]
    go_enter Try.func59, Try.ntmps59
    go_wp2_with fail
    refine H1.out.mono ?_
    rintro r w' ⟨v, ys, rfl, ho, hown, hb⟩
    have hl := HL.out ys ho
    obtain ⟨A, c, rfl⟩ := own_form1 hown
    have HB := Lib.hid hb
    rw [hl]
    clear ho hown hb hl
    go_wp2
    go_ret
    refine ⟨?_, HB.out⟩
    first | rfl | (simp; omega)
/-- A row of numbers of one's own, rising. -/
def Ow (B : Nat) (v : Value) (ys : List Nat) (w : World) : Prop := w.ownsRow B 26 1 v ys.length (un ys)
theorem Ow.after {B : Nat} {v : Value} {ys : List Nat} {w w' : World} (h : Ow B v ys w) (hb : Below w.heap.size w w') : Ow B v ys w' := own_after h fun g hg => hb.block g (ownlt h g hg).2
theorem Ow.base {B B' : Nat} {v : Value} {ys : List Nat} {w : World} (h : Ow B v ys w) (hb : B' ≤ B) : Ow B' v ys w := by
  refine ⟨h.1, ?_⟩
  rcases h.2 with hn | ⟨g, cap, cur, rfl, hbg, rest⟩
  · exact .inl hn
  · exact .inr ⟨g, cap, cur, rfl, Nat.le_trans hb hbg, rest⟩
abbrev four (W : World) (T : Nat) (v1 v2 v3 v4 : Value) : World := (((W.setCell ⟨T, 0, none⟩ v1).setCell ⟨T, 1, none⟩ v2).setCell ⟨T, 2, none⟩ v3).setCell ⟨T, 3, none⟩ v4
theorem four_row {W : World} {T : Nat} {a b c d : Value} (v1 v2 v3 v4 : Value) (h : W.heap[T]? = some (.cells #[a, b, c, d] 38 (0, 0))) : (four W T v1 v2 v3 v4).heap[T]? = some (.cells #[v1, v2, v3, v4] 38 (0, 0)) := by
  have h1 := heap_setCell_same W T 0 _ 38 v1 h
  have h2 := heap_setCell_same _ T 1 _ 38 v2 h1
  have h3 := heap_setCell_same _ T 2 _ 38 v3 h2
  have h4 := heap_setCell_same _ T 3 _ 38 v4 h3
  simpa using h4
theorem four_other {W : World} {T g : Nat} (v1 v2 v3 v4 : Value) (hg : g ≠ T) : (four W T v1 v2 v3 v4).heap[g]? = W.heap[g]? :=
  (Below.heap_setCell _ _ _ _ hg).trans ((Below.heap_setCell _ _ _ _ hg).trans ((Below.heap_setCell _ _ _ _ hg).trans (Below.heap_setCell _ _ _ _ hg)))
theorem four_below {w W : World} {T : Nat} (v1 v2 v3 v4 : Value) (h : Below w.heap.size w W) (hT : w.heap.size ≤ T) : Below w.heap.size w (four W T v1 v2 v3 v4) := (((h.setCell hT _).setCell hT _).setCell hT _).setCell hT _
theorem four_own {W : World} {T B : Nat} {a b c d v : Value} {ys : List Nat} (v1 v2 v3 v4 : Value) (h : W.heap[T]? = some (.cells #[a, b, c, d] 38 (0, 0))) (ho : Ow B v ys W) : Ow B v ys (four W T v1 v2 v3 v4) := own_after ho fun g hg => four_other v1 v2 v3 v4 (fun e => by
  obtain ⟨cur, hc⟩ := own_type ho hg
  rw [e, h] at hc
  injection hc with hc
  injection hc with _ hc
  exact absurd hc (by decide))
abbrev lkV (v1 v2 v3 v4 : Value) : Value := .agg #[v1, v2, v3, v4]
end Go.Proofs.Ytaoejkbockcneaa
