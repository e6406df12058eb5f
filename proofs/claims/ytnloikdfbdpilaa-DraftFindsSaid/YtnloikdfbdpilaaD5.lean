/- Draft: entries in memory; distance, together. -/
import Derived.Test.YtnloikdfbdpilaaD3
import Derived.Laws.AppendOwn
import Derived.Laws.MakeOwn
import Derived.Lib.SliceRun
namespace Go.Proofs.Ytnloikdfbdpilaa
open Go.RowKit
set_option maxRecDepth 20000

/-- What counts of a ticket: its place, how many players, its rating, its window. -/
structure En where
  p : Int
  n : Int
  r : Int
  v : Int
deriving DecidableEq
instance : Inhabited En := ⟨⟨0, 0, 0, 0⟩⟩
def ec (e : En) : List Value := [.int .i64 e.p, .int .i64 e.n, .int .i64 e.r, .int .i64 e.v]
def er (l : List En) : List Value := l.flatMap ec
/-- The entries l are read from A on. -/
def Es (w : World) (B : Nat) (A : Option Addr) (l : List En) : Prop :=
  0 < l.length → ∃ b o, A = some ⟨b, o, none⟩ ∧ b < B ∧ ∀ i e, l[i]? = some e → w.cell? ⟨b, o + i * 4, none⟩ = some (.int .i64 e.p) ∧ w.cell? ⟨b, o + i * 4 + 1, none⟩ = some (.int .i64 e.n) ∧ w.cell? ⟨b, o + i * 4 + 2, none⟩ = some (.int .i64 e.r) ∧ w.cell? ⟨b, o + i * 4 + 3, none⟩ = some (.int .i64 e.v)
theorem Es.nil {w : World} {B : Nat} {A : Option Addr} : Es w B A [] := fun h => absurd h (by simp)
theorem Es.below {w W : World} {B : Nat} {A : Option Addr} {l : List En} (h : Es w B A l) (hb : Below B w W) : Es W B A l := fun hl => by
  obtain ⟨b, o, h1, h2, h3⟩ := h hl
  exact ⟨b, o, h1, h2, fun i e he => ⟨(hb.cell (p := ⟨b, _, none⟩) h2).trans (h3 i e he).1, (hb.cell (p := ⟨b, _, none⟩) h2).trans (h3 i e he).2.1, (hb.cell (p := ⟨b, _, none⟩) h2).trans (h3 i e he).2.2.1, (hb.cell (p := ⟨b, _, none⟩) h2).trans (h3 i e he).2.2.2⟩⟩
theorem Es.mono {w : World} {B B' : Nat} {A : Option Addr} {l : List En} (h : Es w B A l) (hb : B ≤ B') : Es w B' A l := fun hl => by
  obtain ⟨b, o, h1, h2, h3⟩ := h hl
  exact ⟨b, o, h1, Nat.lt_of_lt_of_le h2 hb, h3⟩
theorem Es.later {w W : World} {B : Nat} {A : Option Addr} {l : List En} (h : Es w B A l) (hb : Below B w W) (hB : B ≤ w.heap.size) : Es W W.heap.size A l := (h.below hb).mono (Nat.le_trans hB hb.size)
theorem er_len (l : List En) : (er l).length = l.length * 4 := by
  induction l with
  | nil => rfl
  | cons e l ih =>
    unfold er at ih ⊢
    rw [List.flatMap_cons, List.length_append, ih, List.length_cons]
    simp [ec]
    omega
theorem er_get : ∀ (l : List En) (i : Nat) (e : En) (j : Nat), l[i]? = some e → j < 4 → (er l)[i * 4 + j]? = (ec e)[j]?
  | [], i, e, j, h, _ => by simp at h
  | x :: l, 0, e, j, h, hj => by
    simp at h
    subst h
    unfold er
    rw [List.flatMap_cons, List.getElem?_append_left (by simp [ec]; omega)]
    simp
  | x :: l, i + 1, e, j, h, hj => by
    have ih := er_get l i e j (by simpa using h) hj
    unfold er at ih ⊢
    rw [List.flatMap_cons, List.getElem?_append_right (by simp [ec]; omega)]
    simp only [show (ec x).length = 4 from rfl, show (i + 1) * 4 + j - 4 = i * 4 + j by omega]
    exact ih
theorem er_snoc (l : List En) (e : En) : er (l ++ [e]) = er l ++ ec e := by simp [er]
theorem er_append (l l' : List En) : er (l ++ l') = er l ++ er l' := by simp [er]
theorem er_one (l : List En) : ∀ u ∈ er l, u.oneCell' = true := by
  intro u hu
  obtain ⟨m, _, hm⟩ := List.mem_flatMap.1 hu
  simp only [ec, List.mem_cons, List.not_mem_nil, or_false] at hm
  rcases hm with rfl | rfl | rfl | rfl <;> rfl
theorem own_form {w : World} {base T s m : Nat} {v : Value} {xs : List Value} (h : w.ownsRow base T s v m xs) : ∃ A c, v = .slice A m c := by
  rcases h.2 with ⟨rfl, rfl⟩ | ⟨g, cap, cur, rfl, _⟩
  · exact ⟨none, 0, rfl⟩
  · exact ⟨_, cap, rfl⟩
theorem Es.of_own {w : World} {base m c : Nat} {A : Option Addr} {l : List En} (h : w.ownsRow base 80 4 (.slice A m c) m (er l)) : Es w w.heap.size A l := fun hl => by
  have hlen := h.1
  rw [er_len] at hlen
  rcases h.2 with ⟨_, h0⟩ | ⟨g, cap, cur, e1, _, hh, _, _, _, ht⟩
  · omega
  · injection e1 with e1 _ _
    subst e1
    refine ⟨g, 0, rfl, lt_of_block hh, fun i e he => ?_⟩
    have hil := (List.getElem?_eq_some_iff.1 he).1
    have hc : ∀ j u, j < 4 → (ec e)[j]? = some u → w.cell? ⟨g, 0 + i * 4 + j, none⟩ = some u := fun j u hj hu => by
      rw [cell_of_row w g _ _ _ _ hh, ← Array.getElem?_toList, Nat.zero_add, ← hu, ← er_get l i e j he hj, ← ht, List.getElem?_take, if_pos (by omega)]
    exact ⟨hc 0 _ (by decide) rfl, hc 1 _ (by decide) rfl, hc 2 _ (by decide) rfl, hc 3 _ (by decide) rfl⟩
/-- What is read at the cells of a row of entries. -/
theorem Es.cells {w : World} {B : Nat} {ad : Addr} {l : List En} (h : Es w B (some ad) l) : ∀ j u, (er l)[j]? = some u → w.cell? (ad.add j) = some u := fun j u hu => by
  have hj := (List.getElem?_eq_some_iff.1 hu).1
  rw [er_len] at hj
  obtain ⟨b, o, hA, _, hc⟩ := h (by omega)
  injection hA with hA
  subst hA
  obtain ⟨i, r, hi, rfl⟩ : ∃ i r, r < 4 ∧ j = i * 4 + r := ⟨j / 4, j % 4, by omega, by omega⟩
  obtain ⟨m, hm⟩ : ∃ m, l[i]? = some m := ⟨l[i]'(by omega), List.getElem?_eq_getElem _⟩
  rw [er_get l i m r hm hi] at hu
  obtain ⟨h0, h1, h2, h3⟩ := hc i m hm
  rw [Go.WideShapes.add_plain, ← Nat.add_assoc]
  rcases r with _ | _ | _ | _ | r
  · simp [ec] at hu; subst hu; exact h0
  · simp [ec] at hu; subst hu; exact h1
  · simp [ec] at hu; subst hu; exact h2
  · simp [ec] at hu; subst hu; exact h3
  · omega
/-- Small numbers. -/
def Ok (e : En) : Prop := 0 ≤ e.n ∧ e.n ≤ 10 ∧ 0 ≤ e.r ∧ e.r ≤ 10000 ∧ 0 ≤ e.v ∧ e.v ≤ 10000
def sumN (l : List En) : Int := (l.map (·.n)).sum
def sumW (l : List En) : Int := (l.map fun e => e.r * e.n).sum
theorem ok_mul {e : En} (h : Ok e) : 0 ≤ e.r * e.n ∧ e.r * e.n ≤ 100000 := by
  obtain ⟨h1, h2, h3, h4, _⟩ := h
  refine ⟨Int.mul_nonneg h3 h1, ?_⟩
  calc e.r * e.n ≤ 10000 * e.n := Int.mul_le_mul_of_nonneg_right h4 h1
    _ ≤ 100000 := by omega
theorem sum_bd (l : List En) (h : ∀ e ∈ l, Ok e) : (0 ≤ sumN l ∧ sumN l ≤ 10 * l.length) ∧ 0 ≤ sumW l ∧ sumW l ≤ 100000 * l.length := by
  induction l with
  | nil => simp [sumN, sumW]
  | cons a l ih =>
    have h1 := ih fun e he => h e (List.mem_cons_of_mem _ he)
    have h2 := h a (List.mem_cons_self ..)
    have h3 := ok_mul h2
    obtain ⟨h4, h5, _⟩ := h2
    simp only [sumN, sumW, List.map_cons, List.sum_cons, List.length_cons] at h1 ⊢
    push_cast
    omega
theorem sum_snoc (l : List En) (k : Nat) (e : En) (hk : l[k]? = some e) : sumN (l.take (k + 1)) = sumN (l.take k) + e.n ∧ sumW (l.take (k + 1)) = sumW (l.take k) + e.r * e.n := by
  rw [List.take_add_one, hk]
  simp only [sumN, sumW, List.map_append, List.sum_append, Option.toList, List.map_cons, List.map_nil, List.sum_cons, List.sum_nil]
  omega
/-- How far two numbers are apart. -/
def dist (a b : Int) : Int := max a b - min a b

set_option maxHeartbeats 1000000 in
theorem dist_any (a b : Int) (w : World) (ha : -1000000000 ≤ a ∧ a ≤ 1000000000) (hb : -1000000000 ≤ b ∧ b ≤ 1000000000) :
    Calls Try.prog 40 #[.int .i64 a, .int .i64 b] w fun r w' => r = .returned (.int .i64 (dist a b)) ∧ w' = w := by
  obtain ⟨d, hd⟩ : ∃ d, d = dist a b := ⟨_, rfl⟩
  rw [← hd]
  obtain ⟨m, hm⟩ : ∃ m, m = max a b := ⟨_, rfl⟩
  obtain ⟨q, hq⟩ : ∃ q, q = min a b := ⟨_, rfl⟩
  have hdm : d = m - q := by rw [hd, hm, hq]; rfl
  have hm1 : (if a < b then b else a) = m := by rw [hm]; split <;> omega
  have hq1 : (if b < a then b else a) = q := by rw [hq]; split <;> omega
  have hmb : -1000000000 ≤ m ∧ m ≤ 1000000000 := by omega
  have hqb : -1000000000 ≤ q ∧ q ≤ 1000000000 := by omega
  clear hm hq hd
  subst hdm
  go_enter Try.func40, Try.ntmps40
  go_wp2
  go_ret
  exact ⟨rfl, rfl⟩

abbrev tC (a b : Int) : Array Value := #[.int .i64 a, .int .i64 b]
abbrev tV (a b : Int) : Value := .agg #[.int .i64 a, .int .i64 b]
theorem two {w : World} {G t : Nat} {a b : Value} (u v : Value) (h : w.heap[G]? = some (.cells #[a, b] t (0, 0))) : ((w.setCell ⟨G, 0, none⟩ u).setCell ⟨G, 1, none⟩ v).heap[G]? = some (.cells #[u, v] t (0, 0)) := by
  have h1 := heap_setCell_same w G 0 _ t u h
  have h2 := heap_setCell_same _ G 1 _ t v h1
  simpa using h2

set_option maxHeartbeats 4000000 in
theorem together_any (A : Option Addr) (n c : Nat) (l : List En) (w : World) (hn : n = l.length) (hE : Es w w.heap.size A l) (hO : ∀ e ∈ l, Ok e) (hl : n ≤ 20) :
    Calls Try.prog 42 #[.slice A n c] w fun r w' => r = .returned (tV (sumN l) (sumW l)) ∧ Below w.heap.size w w' := by
  obtain ⟨w0, hw0⟩ : ∃ w0, w0 = w.alloc (.cells (tC 0 0) 85) := ⟨_, rfl⟩
  have hb0 : Below w.heap.size w w0 := by rw [hw0]; exact (Below.refl _ _).alloc (Nat.le_refl _) _
  have hq0 : w0.heap[w.heap.size]? = some (.cells (tC 0 0) 85 (0, 0)) := by rw [hw0]; exact heap_alloc_new w _
  have hs0 : w0.heap.size = w.heap.size + 1 := by rw [hw0]; simp
  obtain ⟨w1, hw1⟩ : ∃ w1, w1 = w0.alloc (.cells (tC 0 0) 85) := ⟨_, rfl⟩
  have hb1 : Below w0.heap.size w0 w1 := by rw [hw1]; exact (Below.refl _ _).alloc (Nat.le_refl _) _
  have hq1 : w1.heap[w0.heap.size]? = some (.cells (tC 0 0) 85 (0, 0)) := by rw [hw1]; exact heap_alloc_new w0 _
  have hs1 : w1.heap.size = w0.heap.size + 1 := by rw [hw1]; simp
  have HQ0 : Hid (w1.heap[w.heap.size]? = some (.cells (tC 0 0) 85 (0, 0))) := (hb1.block _ (lt_of_block hq0)).trans hq0
  have HQ1 := Lib.hid hq1
  have HB1 : Hid (Below w.heap.size w w1) := hb0.trans (hb1.mono hb0.size)
  have HE := Lib.hid hE
  have HO := Lib.hid hO
  have HN := Lib.hid hn
  have H0 := Lib.hid hw0
  have H1 := Lib.hid hw1
  have HS : Hid (w0.heap.size = w.heap.size + 1 ∧ w1.heap.size = w0.heap.size + 1) := ⟨hs0, hs1⟩
  have HLT : Hid (w.heap.size < w0.heap.size ∧ w0.heap.size < w1.heap.size) := by simp only [Hid]; omega
  clear hw0 hb0 hq0 hw1 hb1 hq1 hE hO hn hs0 hs1
  go_enter Try.func42, Try.ntmps42
  go_upto_region 1 with (fail)
  rw [← H0.out]
  go_upto_region 2 with (fail)
  rw [← H1.out]
  go_wp2_with fail
  go_loopw [8] (fun u wr => ∃ k : Nat, k ≤ n ∧ u = .int .i64 (k : Int) ∧ Hid (wr.heap[w0.heap.size]? = some (.cells (tC (sumN (l.take k)) (sumW (l.take k))) 85 (0, 0)) ∧ wr.heap[w.heap.size]? = some (.cells (tC 0 0) 85 (0, 0)) ∧ Below w.heap.size w wr)) (fun u _ => n - (intOf u).toNat)
  case atStart => exact ⟨0, by omega, rfl, HQ1.out, HQ0.out, HB1.out⟩
  case round =>
    obtain ⟨k, hk, rfl, HV⟩ := hrel
    by_cases hlt : k < n
    · obtain ⟨e, hy⟩ : ∃ e, l[k]? = some e := ⟨l[k]'(by rw [← HN.out]; exact hlt), List.getElem?_eq_getElem _⟩
      have HSN := Lib.hid (sum_snoc l k e hy)
      have hbd := sum_bd (l.take k) fun e he => HO.out e (List.mem_of_mem_take he)
      have hlk : (l.take k).length ≤ k := List.length_take_le _ _
      have hoe := HO.out e (List.mem_of_getElem? hy)
      have hom := ok_mul hoe
      obtain ⟨ho1, ho2, -⟩ := hoe
      obtain ⟨b1, o1, rfl, hbl1, ha1⟩ := HE.out.below HV.out.2.2 (by have := HN.out; omega)
      obtain ⟨d0, d1, d2, d3⟩ := ha1 k e hy
      obtain ⟨p, q, r, v⟩ := e
      simp only at d0 d1 d2 d3 ho1 ho2 hom HSN
      obtain ⟨m, hm⟩ : ∃ m, m = r * q := ⟨_, rfl⟩
      rw [← hm] at hom HSN
      have hmw : wrap64 (r * q) = m := by rw [← hm]; exact wr64 (by omega) (by omega)
      obtain ⟨X, hX⟩ : ∃ X, X = sumN (l.take k) := ⟨_, rfl⟩
      obtain ⟨Y, hY⟩ : ∃ Y, Y = sumW (l.take k) := ⟨_, rfl⟩
      rw [← hX, ← hY] at HV hbd HSN
      have hbl : b1 < wr.heap.size := Nat.lt_of_lt_of_le hbl1 HV.out.2.2.size
      obtain ⟨w2, hw2⟩ : ∃ w2, w2 = wr.alloc (.cells (ec ⟨p, q, r, v⟩).toArray 80) := ⟨_, rfl⟩
      have hb2 : Below wr.heap.size wr w2 := by rw [hw2]; exact (Below.refl _ _).alloc (Nat.le_refl _) _
      have hg2 : w2.heap[wr.heap.size]? = some (.cells (ec ⟨p, q, r, v⟩).toArray 80 (0, 0)) := by rw [hw2]; exact heap_alloc_new wr _
      have hl0 := lt_of_block HV.out.1
      have hl1 := lt_of_block HV.out.2.1
      have ht2 : w2.heap[w0.heap.size]? = some (.cells (tC X Y) 85 (0, 0)) := (hb2.block _ hl0).trans HV.out.1
      have hr2 : w2.heap[w.heap.size]? = some (.cells (tC 0 0) 85 (0, 0)) := (hb2.block _ hl1).trans HV.out.2.1
      have hB2 : Below w.heap.size w w2 := HV.out.2.2.trans (hb2.mono HV.out.2.2.size)
      have c0 := cell_of_row w2 w0.heap.size 0 _ _ _ ht2
      have c1 := cell_of_row w2 w0.heap.size 1 _ _ _ ht2
      have f0 : ∀ i, w2.frozen? ⟨w0.heap.size, i, none⟩ = false := fun i => frozen_of_row w2 _ i _ _ ht2
      have g1 := cell_of_row w2 wr.heap.size 1 _ _ _ hg2
      have g2 := cell_of_row w2 wr.heap.size 2 _ _ _ hg2
      simp [ec] at c0 c1 g1 g2
      have hne : ¬ wr.heap.size = w0.heap.size := by omega
      have HT := Lib.hid (two (.int .i64 (X + q)) (.int .i64 (Y + m)) ht2)
      have HR2 : Hid (((w2.setCell ⟨w0.heap.size, 0, none⟩ (.int .i64 (X + q))).setCell ⟨w0.heap.size, 1, none⟩ (.int .i64 (Y + m))).heap[w.heap.size]? = some (.cells (tC 0 0) 85 (0, 0))) := by
        have h1 := HLT.out.1
        simp only [Hid]
        rw [Below.heap_setCell _ _ _ _ (by show w.heap.size ≠ w0.heap.size; omega), Below.heap_setCell _ _ _ _ (by show w.heap.size ≠ w0.heap.size; omega)]
        exact hr2
      have HBB : Hid (Below w.heap.size w ((w2.setCell ⟨w0.heap.size, 0, none⟩ (.int .i64 (X + q))).setCell ⟨w0.heap.size, 1, none⟩ (.int .i64 (Y + m)))) := by
        have h1 := HLT.out.1
        exact (hB2.setCell (by show w.heap.size ≤ w0.heap.size; omega) _).setCell (by show w.heap.size ≤ w0.heap.size; omega) _
      have H2 := Lib.hid hw2
      clear ha1 hy hm hX hY hw2 hb2 hg2 hl0 hl1 ht2 hr2 hB2 hbl1
      simp only [ec] at H2
      go_upto_region 5 with (fail)
      rw [← H2.out]
      go_wp2
      go_roundw
      case rel => exact ⟨k + 1, by omega, by go_num, by
        simp only [Hid]
        rw [HSN.out.1, HSN.out.2]
        exact ⟨HT.out, HR2.out, HBB.out⟩⟩
      case measure => simp [intOf] <;> omega
    · have hkn : k = n := by omega
      subst hkn
      have e : l.take k = l := List.take_of_length_le (by rw [← HN.out]; omega)
      have hv := HV.out
      rw [e] at hv
      have c0 := cell_of_row wr w0.heap.size 0 _ _ _ hv.1
      have c1 := cell_of_row wr w0.heap.size 1 _ _ _ hv.1
      have z0 := cell_of_row wr w.heap.size 0 _ _ _ hv.2.1
      have z1 := cell_of_row wr w.heap.size 1 _ _ _ hv.2.1
      simp at c0 c1 z0 z1
      have zf : ∀ i, wr.frozen? ⟨w.heap.size, i, none⟩ = false := fun i => frozen_of_row wr _ i _ _ hv.2.1
      have hT := two (.int .i64 (sumN l)) (.int .i64 (sumW l)) hv.2.1
      have e0 := cell_of_row _ w.heap.size 0 _ _ _ hT
      have e1 := cell_of_row _ w.heap.size 1 _ _ _ hT
      simp at e0 e1
      have HZ := Lib.hid (And.intro e0 e1)
      have HBB := Lib.hid ((hv.2.2.setCell (p := ⟨w.heap.size, 0, none⟩) (Nat.le_refl _) (.int .i64 (sumN l))).setCell (p := ⟨w.heap.size, 1, none⟩) (Nat.le_refl _) (.int .i64 (sumW l)))
      clear hT e0 e1 e hv
      go_wp2
      obtain ⟨e0, e1⟩ := HZ.out
      exact bodyPost_ret (v := tV (sumN l) (sumW l)) (by simp [results, Try.results42, go_sem, e0, e1]) rfl ⟨rfl, HBB.out⟩
end Go.Proofs.Ytnloikdfbdpilaa
