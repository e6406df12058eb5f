/- Fill: rows in memory; Taken, the program's and the document's. -/
import Derived.Test.YtccabdhfnjlbdaaF5
namespace Go.Proofs.Ytccabdhfnjlbdaa
open Go.RowKit
set_option maxRecDepth 20000
set_option linter.unusedVariables false

/-- What counts of a row: its team, how many players, its rating, its window. -/
structure Rw where
  t : Int
  n : Nat
  r : Int
  v : Int
instance : Inhabited Rw := ⟨⟨0, 0, 0, 0⟩⟩
/-- The rows l are read from A on. -/
def Rs (w : World) (B : Nat) (A : Option Addr) (l : List Rw) : Prop :=
  0 < l.length → ∃ b o, A = some ⟨b, o, none⟩ ∧ b < B ∧ ∀ (i : Nat) (e : Rw), l[i]? = some e → ∃ (P : Option Addr) (c : Nat), w.cell? ⟨b, o + i * 4, none⟩ = some (.int .i64 e.t) ∧ w.cell? ⟨b, o + i * 4 + 1, none⟩ = some (.slice P e.n c) ∧ w.cell? ⟨b, o + i * 4 + 2, none⟩ = some (.int .i64 e.r) ∧ w.cell? ⟨b, o + i * 4 + 3, none⟩ = some (.int .i64 e.v)
theorem Rs.nil {w : World} {B : Nat} {A : Option Addr} : Rs w B A [] := fun h => absurd h (by simp)
theorem Rs.below {w W : World} {B : Nat} {A : Option Addr} {l : List Rw} (h : Rs w B A l) (hb : Below B w W) : Rs W B A l := fun hl => by
  obtain ⟨b, o, h1, h2, h3⟩ := h hl
  refine ⟨b, o, h1, h2, fun i e he => ?_⟩
  obtain ⟨P, c, e0, e1, e2, e3⟩ := h3 i e he
  exact ⟨P, c, (hb.cell (p := ⟨b, _, none⟩) h2).trans e0, (hb.cell (p := ⟨b, _, none⟩) h2).trans e1, (hb.cell (p := ⟨b, _, none⟩) h2).trans e2, (hb.cell (p := ⟨b, _, none⟩) h2).trans e3⟩
theorem Rs.mono {w : World} {B B' : Nat} {A : Option Addr} {l : List Rw} (h : Rs w B A l) (hb : B ≤ B') : Rs w B' A l := fun hl => by
  obtain ⟨b, o, h1, h2, h3⟩ := h hl
  exact ⟨b, o, h1, Nat.lt_of_lt_of_le h2 hb, h3⟩
theorem Rs.later {w W : World} {B : Nat} {A : Option Addr} {l : List Rw} (h : Rs w B A l) (hb : Below B w W) (hB : B ≤ w.heap.size) : Rs W W.heap.size A l := (h.below hb).mono (Nat.le_trans hB hb.size)
/-- How many players the rows of a team have. -/
def takP (k : Int) (l : List Rw) : Int := (l.map fun e => if e.t = k then (e.n : Int) else 0).sum
theorem takP_snoc (k : Int) (l : List Rw) (j : Nat) (e : Rw) (h : l[j]? = some e) : takP k (l.take (j + 1)) = takP k (l.take j) + if e.t = k then (e.n : Int) else 0 := by
  rw [List.take_add_one, h]
  simp only [takP, List.map_append, List.sum_append, Option.toList, List.map_cons, List.map_nil, List.sum_cons, List.sum_nil]
  omega
theorem takP_append (k : Int) (l : List Rw) (e : Rw) : takP k (l ++ [e]) = takP k l + if e.t = k then (e.n : Int) else 0 := by
  simp only [takP, List.map_append, List.sum_append, List.map_cons, List.map_nil, List.sum_cons, List.sum_nil]
  omega
theorem takP_bd (k : Int) (l : List Rw) (h : ∀ e ∈ l, e.n ≤ 10) : 0 ≤ takP k l ∧ takP k l ≤ 10 * l.length := by
  induction l with
  | nil => simp [takP]
  | cons a l ih =>
    have h1 := ih fun e he => h e (List.mem_cons_of_mem _ he)
    have h2 := h a (List.mem_cons_self ..)
    simp only [takP, List.map_cons, List.sum_cons, List.length_cons] at h1 ⊢
    push_cast
    split <;> omega

set_option maxHeartbeats 4000000 in
theorem taken_any (A : Option Addr) (n c : Nat) (l : List Rw) (w : World) (hn : n = l.length) (hE : Rs w w.heap.size A l) (hS : ∀ e ∈ l, e.n ≤ 10) (hl : n ≤ 100) :
    Calls Try.prog 8 #[.slice A n c] w fun r w' => r = .returned (.tuple #[.int .i64 (takP 1 l), .int .i64 (takP 2 l)]) ∧ Below w.heap.size w w' := by
  have HE := Lib.hid hE
  have HN := Lib.hid hn
  have HS := Lib.hid hS
  have HBr : Hid (Below w.heap.size w w) := Below.refl _ _
  clear hE hn hS
  go_enter Try.func8, Try.ntmps8
  go_wp2_with fail
  go_loopw [4, 5, 10] (fun p q u wr => ∃ (k : Nat) (x y : Int), k ≤ n ∧ u = .int .i64 (k : Int) ∧ p = .int .i64 x ∧ q = .int .i64 y ∧ (0 ≤ x ∧ x ≤ 10 * k) ∧ (0 ≤ y ∧ y ≤ 10 * k) ∧ Hid (x = takP 1 (l.take k) ∧ y = takP 2 (l.take k) ∧ Below w.heap.size w wr)) (fun _ _ u _ => n - (intOf u).toNat)
  case atStart => exact ⟨0, 0, 0, by omega, rfl, rfl, rfl, by omega, by omega, by simp [takP], by simp [takP], HBr.out⟩
  case round =>
    obtain ⟨k, x, y, hk, rfl, rfl, rfl, hx, hy', HV⟩ := hrel
    by_cases hlt : k < n
    · obtain ⟨e, hy⟩ : ∃ e, l[k]? = some e := ⟨l[k]'(by rw [← HN.out]; exact hlt), List.getElem?_eq_getElem _⟩
      obtain ⟨b1, o1, rfl, hb1, ha1⟩ := (HE.out.below HV.out.2.2) (by have := HN.out; omega)
      obtain ⟨P, cp, d0, d1, d2, d3⟩ := ha1 k e hy
      have hen := HS.out e (List.mem_of_getElem? hy)
      have HT1 := Lib.hid (takP_snoc 1 l k e hy)
      have HT2 := Lib.hid (takP_snoc 2 l k e hy)
      obtain ⟨t, m, r, v⟩ := e
      simp only at d0 d1 d2 d3 hen HT1 HT2
      obtain ⟨w2, hw2⟩ : ∃ w2, w2 = wr.alloc (.cells #[.int .i64 t, .slice P m cp, .int .i64 r, .int .i64 v] 55) := ⟨_, rfl⟩
      have hg2 : w2.heap[wr.heap.size]? = some (.cells #[.int .i64 t, .slice P m cp, .int .i64 r, .int .i64 v] 55 (0, 0)) := by rw [hw2]; exact heap_alloc_new wr _
      have hb2 : Below wr.heap.size wr w2 := by rw [hw2]; exact (Below.refl _ _).alloc (Nat.le_refl _) _
      have HB2 : Hid (Below w.heap.size w w2) := HV.out.2.2.trans (hb2.mono HV.out.2.2.size)
      have c0 := cell_of_row w2 wr.heap.size 0 _ _ _ hg2
      have c1 := cell_of_row w2 wr.heap.size 1 _ _ _ hg2
      simp at c0 c1
      have H2 := Lib.hid hw2
      clear ha1 hy hb1 hw2 hg2 hb2
      by_cases h1 : t = 1
      · subst h1
        go_upto_region 5 with (fail)
        rw [← H2.out]
        go_wp2
        go_roundw
        case rel => exact ⟨k + 1, x + m, y, by omega, by go_num, rfl, rfl, by omega, by omega, by rw [HT1.out, HV.out.1]; simp, by rw [HT2.out, HV.out.2.1]; simp, HB2.out⟩
        case measure => simp [intOf] <;> omega
      · by_cases h2 : t = 2
        · subst h2
          go_upto_region 5 with (fail)
          rw [← H2.out]
          go_wp2
          go_roundw
          case rel => exact ⟨k + 1, x, y + m, by omega, by go_num, rfl, rfl, by omega, by omega, by rw [HT1.out, HV.out.1]; simp, by rw [HT2.out, HV.out.2.1]; simp, HB2.out⟩
          case measure => simp [intOf] <;> omega
        · go_upto_region 5 with (fail)
          rw [← H2.out]
          go_wp2
          go_roundw
          case rel => exact ⟨k + 1, x, y, by omega, by go_num, rfl, rfl, by omega, by omega, by rw [HT1.out, HV.out.1, if_neg h1]; simp, by rw [HT2.out, HV.out.2.1, if_neg h2]; simp, HB2.out⟩
          case measure => simp [intOf] <;> omega
    · have hkn : k = n := by omega
      subst hkn
      have HX : Hid (x = takP 1 l ∧ y = takP 2 l) := by
        have h := HV.out
        rw [List.take_of_length_le (by rw [← HN.out]; exact Nat.le_refl _)] at h
        exact ⟨h.1, h.2.1⟩
      go_wp2
      go_ret2
      exact ⟨by rw [← HX.out.1, ← HX.out.2]; rfl, HV.out.2.2⟩

set_option maxHeartbeats 4000000 in
theorem rtaken_any (team : Int) (A : Option Addr) (n c : Nat) (l : List Rw) (w : World) (hn : n = l.length) (hE : Rs w w.heap.size A l) (hS : ∀ e ∈ l, e.n ≤ 10) (hl : n ≤ 100) :
    Calls Try.prog 10 #[.slice A n c, .int .i64 team] w fun r w' => r = .returned (.int .i64 (takP team l)) ∧ w' = w := by
  have HE := Lib.hid hE
  have HN := Lib.hid hn
  have HS := Lib.hid hS
  clear hE hn hS
  go_enter Try.func10, Try.ntmps10
  go_wp2_with fail
  go_loopw [5, 6] (fun p u wr => ∃ (k : Nat) (x : Int), k ≤ n ∧ u = .int .i64 (k : Int) ∧ p = .int .i64 x ∧ (0 ≤ x ∧ x ≤ 10 * k) ∧ Hid (x = takP team (l.take k)) ∧ wr = w) (fun _ u _ => n - (intOf u).toNat)
  case atStart => exact ⟨0, 0, by omega, rfl, rfl, by omega, by simp [takP, Hid], by first | rfl | trivial⟩
  case round =>
    obtain ⟨k, x, hk, rfl, rfl, hx, HV, rfl⟩ := hrel
    by_cases hlt : k < n
    · obtain ⟨e, hy⟩ : ∃ e, l[k]? = some e := ⟨l[k]'(by rw [← HN.out]; exact hlt), List.getElem?_eq_getElem _⟩
      obtain ⟨b1, o1, rfl, hb1, ha1⟩ := HE.out (by have := HN.out; omega)
      obtain ⟨P, cp, d0, d1, d2, d3⟩ := ha1 k e hy
      have hen := HS.out e (List.mem_of_getElem? hy)
      have HT1 := Lib.hid (takP_snoc team l k e hy)
      obtain ⟨t, m, r, v⟩ := e
      simp only at d0 d1 d2 d3 hen HT1
      clear ha1 hy hb1
      by_cases h1 : t = team
      · subst h1
        go_wp2
        go_roundw
        case rel => exact ⟨k + 1, x + m, by omega, by go_num, rfl, by omega, by simp only [Hid]; rw [HT1.out, HV.out]; simp, by first | rfl | trivial⟩
        case measure => simp [intOf] <;> omega
      · go_wp2
        go_roundw
        case rel => exact ⟨k + 1, x, by omega, by go_num, rfl, by omega, by simp only [Hid]; rw [HT1.out, HV.out, if_neg h1]; simp, by first | rfl | trivial⟩
        case measure => simp [intOf] <;> omega
    · have hkn : k = n := by omega
      subst hkn
      have HX : Hid (x = takP team l) := by
        have h := HV.out
        rw [List.take_of_length_le (by rw [← HN.out]; exact Nat.le_refl _)] at h
        exact h
      go_wp2
      go_ret
      exact ⟨by rw [← HX.out]; rfl, by first | rfl | trivial⟩
end Go.Proofs.Ytccabdhfnjlbdaa
