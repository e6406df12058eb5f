/- Pool: instances in memory; Many, find, in, move, touch, New, Instance. -/
import Derived.Test.YtddjbkaofodmlaaP1
namespace Go.Proofs.Ytddjbkaofodmlaa
open Go.RowKit
set_option maxRecDepth 20000
set_option linter.unusedVariables false
set_option linter.unusedSimpArgs false

abbrev In := Int × Int × Int
abbrev iC (s m a : Int) : Array Value := #[.int .i64 s, .int .u32 m, .int .i64 a]
abbrev iV (s m a : Int) : Value := .agg (iC s m a)
def ic (e : In) : List Value := [.int .i64 e.1, .int .u32 e.2.1, .int .i64 e.2.2]
def ir (l : List In) : List Value := l.flatMap ic
theorem ir_len (l : List In) : (ir l).length = l.length * 3 := by
  induction l with
  | nil => rfl
  | cons e l ih =>
    unfold ir at ih ⊢
    rw [List.flatMap_cons, List.length_append, ih, List.length_cons]
    simp [ic]
    omega
theorem ir_get : ∀ (l : List In) (i : Nat) (e : In) (j : Nat), l[i]? = some e → j < 3 → (ir l)[i * 3 + j]? = (ic e)[j]?
  | [], i, e, j, h, _ => by simp at h
  | x :: l, 0, e, j, h, hj => by
    simp at h
    subst h
    unfold ir
    rw [List.flatMap_cons, List.getElem?_append_left (by simp [ic]; omega)]
    simp
  | x :: l, i + 1, e, j, h, hj => by
    have ih := ir_get l i e j (by simpa using h) hj
    unfold ir at ih ⊢
    rw [List.flatMap_cons, List.getElem?_append_right (by simp [ic]; omega)]
    simp only [show (ic x).length = 3 from rfl, show (i + 1) * 3 + j - 3 = i * 3 + j by omega]
    exact ih
theorem ir_snoc (l : List In) (e : In) : ir (l ++ [e]) = ir l ++ ic e := by simp [ir]
theorem ir_set : ∀ (l : List In) (i : Nat) (e e' : In) (j : Nat) (v : Value), l[i]? = some e → j < 3 → (ic e).set j v = ic e' → (ir l).set (i * 3 + j) v = ir (l.set i e')
  | [], i, e, e', j, v, h, _, _ => by simp at h
  | x :: l, 0, e, e', j, v, h, hj, he => by
    simp at h
    subst h
    unfold ir
    rw [List.flatMap_cons, List.set_append_left _ _ (by simp [ic]; omega), List.set_cons_zero, List.flatMap_cons, ← he]
    simp
  | x :: l, i + 1, e, e', j, v, h, hj, he => by
    have ih := ir_set l i e e' j v (by simpa using h) hj he
    unfold ir at ih ⊢
    rw [List.flatMap_cons, List.set_append_right _ _ (by simp [ic]; omega), List.set_cons_succ, List.flatMap_cons, ← ih]
    simp only [show (ic x).length = 3 from rfl, show (i + 1) * 3 + j - 3 = i * 3 + j by omega]
/-- A pool in block P, its instances in block I. -/
def Po (w : World) (B P I : Nat) (beat : Int) (l : List In) : Prop :=
  B ≤ P ∧ B ≤ I ∧ l.length ≤ 16 ∧ w.heap[P]? = some (.cells #[.int .i64 beat, .slice (some ⟨I, 0, none⟩) l.length l.length] 60 (0, 0)) ∧ w.heap[I]? = some (.cells (ir l).toArray 42 (0, 0))
theorem Po.after {w w' : World} {B P I : Nat} {beat : Int} {l : List In} (h : Po w B P I beat l) (hb : Below w.heap.size w w') : Po w' B P I beat l :=
  ⟨h.1, h.2.1, h.2.2.1, (hb.block P (lt_of_block h.2.2.2.1)).trans h.2.2.2.1, (hb.block I (lt_of_block h.2.2.2.2)).trans h.2.2.2.2⟩
theorem Po.ne {w : World} {B P I : Nat} {beat : Int} {l : List In} (h : Po w B P I beat l) : P ≠ I := fun e => by
  have h1 := h.2.2.2.1
  rw [e, h.2.2.2.2] at h1
  injection h1 with h1
  injection h1 with _ h1 _
  exact absurd h1 (by decide)
theorem Po.p0 {w : World} {B P I : Nat} {beat : Int} {l : List In} (h : Po w B P I beat l) : w.cell? ⟨P, 0, none⟩ = some (.int .i64 beat) := by
  rw [cell_of_row w P 0 _ _ _ h.2.2.2.1]; rfl
theorem Po.p1 {w : World} {B P I : Nat} {beat : Int} {l : List In} (h : Po w B P I beat l) : w.cell? ⟨P, 1, none⟩ = some (.slice (some ⟨I, 0, none⟩) l.length l.length) := by
  rw [cell_of_row w P 1 _ _ _ h.2.2.2.1]; rfl
theorem Po.at {w : World} {B P I : Nat} {beat : Int} {l : List In} (h : Po w B P I beat l) {k : Nat} {s m a : Int} (hk : l[k]? = some (s, m, a)) :
    w.cell? ⟨I, k * 3, none⟩ = some (.int .i64 s) ∧ w.cell? ⟨I, k * 3 + 1, none⟩ = some (.int .u32 m) ∧ w.cell? ⟨I, k * 3 + 2, none⟩ = some (.int .i64 a) := by
  have hc : ∀ j, j < 3 → w.cell? ⟨I, k * 3 + j, none⟩ = (ic (s, m, a))[j]? := fun j hj => by
    rw [cell_of_row w I _ _ _ _ h.2.2.2.2, ← ir_get l k _ j hk hj]
    simp
  exact ⟨hc 0 (by decide), hc 1 (by decide), hc 2 (by decide)⟩
theorem Po.fz {w : World} {B P I : Nat} {beat : Int} {l : List In} (h : Po w B P I beat l) (i : Nat) : w.frozen? ⟨I, i, none⟩ = false := frozen_of_row w I i _ _ h.2.2.2.2
/-- Nothing but block I has turned. -/
def Gr (I : Nat) (w w' : World) : Prop := w.grownBy w' (some I)
theorem Gr.trans {I : Nat} {a b c : World} (h : Gr I a b) (k : Gr I b c) : Gr I a c :=
  ⟨k.os.trans h.os, k.tape.trans h.tape, k.output.trans h.output, Nat.le_trans h.size k.size, fun i hi hn => (k.block i (Nat.lt_of_lt_of_le hi h.size) hn).trans (h.block i hi hn)⟩
theorem Gr.of_below {I : Nat} {a b : World} (h : Below a.heap.size a b) : Gr I a b := ⟨h.os, h.tape, h.output, h.size, fun i hi _ => h.block i hi⟩
theorem Gr.refl (I : Nat) (a : World) : Gr I a a := Gr.of_below (Below.refl _ _)
theorem Gr.below {I B : Nat} {a b : World} (h : Gr I a b) (h1 : B ≤ I) (h2 : B ≤ a.heap.size) : Below B a b :=
  ⟨h.os, h.tape, h.output, h.size, fun i hi => h.block i (by omega) (fun e => by injection e with e; omega)⟩
theorem Gr.set (I i : Nat) (w : World) (v : Value) : Gr I w (w.setCell ⟨I, i, none⟩ v) := ⟨rfl, rfl, rfl, by simp [World.setCell], fun k _ hn => Below.heap_setCell _ _ _ _ (fun e => hn (by rw [e]))⟩
theorem Gr.keep {I k : Nat} {a b : World} {o : Obj} (h : Gr I a b) (hk : a.heap[k]? = some o) (hn : k ≠ I) : b.heap[k]? = some o := (h.block k (lt_of_block hk) (fun e => hn (by injection e))).trans hk
/-- A field of an instance is written. -/
theorem Po.set {w : World} {B P I : Nat} {beat : Int} {l : List In} (h : Po w B P I beat l) {k : Nat} {e : In} (e' : In) (j : Nat) (v : Value) (hk : l[k]? = some e) (hj : j < 3) (he : (ic e).set j v = ic e') :
    Po (w.setCell ⟨I, k * 3 + j, none⟩ v) B P I beat (l.set k e') ∧ Gr I w (w.setCell ⟨I, k * 3 + j, none⟩ v) := by
  refine ⟨⟨h.1, h.2.1, by rw [List.length_set]; exact h.2.2.1, ?_, ?_⟩, Gr.set I _ w v⟩
  · rw [List.length_set]
    exact (Below.heap_setCell _ _ _ _ h.ne).trans h.2.2.2.1
  · rw [heap_setCell_same w I _ _ 42 _ h.2.2.2.2, List.setIfInBounds_toArray, ir_set l k e e' j v hk hj he]
theorem Po.lt {w : World} {B P I : Nat} {beat : Int} {l : List In} (h : Po w B P I beat l) : B ≤ w.heap.size := Nat.le_of_lt (Nat.lt_of_le_of_lt h.1 (lt_of_block h.2.2.2.1))

set_option maxHeartbeats 1000000 in
theorem many_any {B P I : Nat} {beat : Int} {l : List In} (w : World) (h : Po w B P I beat l) :
    Calls Try.prog 22 #[.pointer (some ⟨P, 0, none⟩)] w fun r w' => r = .returned (.int .i64 (l.length : Int)) ∧ w' = w := by
  have c1 := h.p1
  clear h
  go_enter Try.func22, Try.ntmps22
  go_wp2
  go_ret
  exact ⟨rfl, rfl⟩
theorem many_nil (w : World) : Calls Try.prog 22 #[.pointer none] w fun r w' => r = .returned (.int .i64 0) ∧ w' = w := by
  go_enter Try.func22, Try.ntmps22
  go_wp2
  go_ret
  exact ⟨rfl, rfl⟩
set_option maxHeartbeats 2000000 in
theorem find_there {B P I : Nat} {beat : Int} {l : List In} (k : Nat) (w : World) (h : Po w B P I beat l) (hk : k < l.length) :
    Calls Try.prog 33 #[.pointer (some ⟨P, 0, none⟩), .int .u32 ((k + 1 : Nat) : Int)] w fun r w' => r = .returned (.pointer (some ⟨I, k * 3, none⟩)) ∧ w' = w := by
  have c1 := h.p1
  have HM := Lib.hid (many_any w h)
  obtain ⟨n, hn⟩ : ∃ n, n = l.length := ⟨_, rfl⟩
  have hl := h.2.2.1
  rw [← hn] at c1 HM hk hl
  clear h hn
  obtain ⟨x, hx⟩ : ∃ x, x = k + 1 := ⟨_, rfl⟩
  rw [← hx]
  have hx1 : 1 ≤ x := by omega
  have hx2 : x ≤ n := by omega
  have hk' : k = x - 1 := by omega
  subst hk'
  clear hx hk
  go_enter Try.func33, Try.ntmps33
  go_wp2_with fail
  refine HM.out.mono ?_
  rintro r w' ⟨rfl, rfl⟩
  go_wp2
  go_ret
  refine ⟨?_, rfl⟩
  first | rfl | (simp; omega)
def MissA (w : World) (v : Value) (x : Nat) : Prop := v = .pointer none ∨ ∃ B P I beat l, v = .pointer (some ⟨P, 0, none⟩) ∧ Po w B P I beat l ∧ (x = 0 ∨ l.length < x)
theorem MissA.after {w w' : World} {v : Value} {x : Nat} (h : MissA w v x) (hb : Below w.heap.size w w') : MissA w' v x := by
  rcases h with h | ⟨B, P, I, beat, l, h1, h2, h3⟩
  · exact .inl h
  · exact .inr ⟨B, P, I, beat, l, h1, h2.after hb, h3⟩
set_option maxHeartbeats 2000000 in
theorem find_miss (v : Value) (x : Nat) (w : World) (h : MissA w v x) :
    Calls Try.prog 33 #[v, .int .u32 (x : Int)] w fun r w' => r = .returned (.pointer none) ∧ w' = w := by
  rcases h with rfl | ⟨B, P, I, beat, l, rfl, h, hx⟩
  · have HM := Lib.hid (many_nil w)
    by_cases h0 : x = 0
    · subst h0
      go_enter Try.func33, Try.ntmps33
      go_wp2
      go_ret
      exact ⟨rfl, rfl⟩
    · have h1 : 1 ≤ x := by omega
      go_enter Try.func33, Try.ntmps33
      go_wp2_with fail
      refine HM.out.mono ?_
      rintro r w' ⟨rfl, rfl⟩
      go_wp2
      go_ret
      exact ⟨rfl, rfl⟩
  · have HM := Lib.hid (many_any w h)
    obtain ⟨n, hn⟩ : ∃ n, n = l.length := ⟨_, rfl⟩
    have hl := h.2.2.1
    rw [← hn] at HM hx hl
    clear h hn
    by_cases h0 : x = 0
    · subst h0
      clear hx
      go_enter Try.func33, Try.ntmps33
      go_wp2
      go_ret
      exact ⟨rfl, rfl⟩
    · have h1 : 1 ≤ x := by omega
      have h2 : n < x := by omega
      clear hx
      go_enter Try.func33, Try.ntmps33
      go_wp2_with fail
      refine HM.out.mono ?_
      rintro r w' ⟨rfl, rfl⟩
      go_wp2
      go_ret
      exact ⟨rfl, rfl⟩
set_option maxHeartbeats 2000000 in
theorem in_miss (v sv : Value) (x : Nat) (w : World) (h : MissA w v x) :
    Calls Try.prog 35 #[v, .int .u32 (x : Int), sv] w fun r w' => r = .returned (.tuple #[.pointer none, .int .i64 12]) ∧ w' = w := by
  have HF := Lib.hid (find_miss v x w h)
  clear h
  go_enter Try.func35, Try.ntmps35
  go_wp2_with fail
  refine HF.out.mono ?_
  rintro r w' ⟨rfl, rfl⟩
  go_wp2
  go_ret2
  exact ⟨rfl, rfl⟩
set_option maxHeartbeats 2000000 in
theorem in_there {B P I : Nat} {beat : Int} {l : List In} (G n : Nat) (ss : List Int) (k : Nat) (s m a : Int) (w : World) (h : Po w B P I beat l) (hk : l[k]? = some (s, m, a)) (hn : n = ss.length) (hl : n ≤ 10) (hG : w.heap[G]? = some (.cells (zs ss).toArray 3 (0, 0))) :
    Calls Try.prog 35 #[.pointer (some ⟨P, 0, none⟩), .int .u32 ((k + 1 : Nat) : Int), .slice (some ⟨G, 0, none⟩) n n] w fun r w' => r = .returned (if s ∈ ss then .tuple #[.pointer (some ⟨I, k * 3, none⟩), .int .i64 0] else .tuple #[.pointer none, .int .i64 24]) ∧ w' = w := by
  have HF := Lib.hid (find_there k w h (List.getElem?_eq_some_iff.1 hk).1)
  have HC := Lib.hid (contains_any G n ss s w hn hl hG)
  obtain ⟨c0, -, -⟩ := h.at hk
  clear h hn hl hG hk
  by_cases hs : s ∈ ss
  · have hd : decide (s ∈ ss) = true := by simpa using hs
    rw [hd] at HC
    rw [if_pos hs]
    clear hs hd
    go_enter Try.func35, Try.ntmps35
    go_wp2_with fail
    refine HF.out.mono ?_
    rintro r w' ⟨rfl, rfl⟩
    go_wp2_with fail
    refine HC.out.mono ?_
    rintro r w' ⟨rfl, rfl⟩
    go_wp2
    go_ret2
    exact ⟨rfl, rfl⟩
  · have hd : decide (s ∈ ss) = false := by simpa using hs
    rw [hd] at HC
    rw [if_neg hs]
    clear hs hd
    go_enter Try.func35, Try.ntmps35
    go_wp2_with fail
    refine HF.out.mono ?_
    rintro r w' ⟨rfl, rfl⟩
    go_wp2_with fail
    refine HC.out.mono ?_
    rintro r w' ⟨rfl, rfl⟩
    go_wp2
    go_ret2
    exact ⟨rfl, rfl⟩
end Go.Proofs.Ytddjbkaofodmlaa
