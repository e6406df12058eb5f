/- The document's rows of marks in memory: Find. -/
import Derived.Test.YtfcogjdnnnpmdaaDoorRH
namespace Go.Proofs.YtfcogjdnnnpmdaaDoor.D
open Go.RowKit
set_option maxRecDepth 20000

abbrev Rw := Nat × Mk
def rc (e : Rw) : List Value := [.int .u32 (e.1 : Int), .int .i64 e.2.1, .int .i64 e.2.2.1, .int .i64 e.2.2.2]
def rr (l : List Rw) : List Value := l.flatMap rc
/-- The rows l are read from A on. -/
def Rs (w : World) (B : Nat) (A : Option Addr) (l : List Rw) : Prop :=
  0 < l.length → ∃ b o, A = some ⟨b, o, none⟩ ∧ b < B ∧ ∀ i e, l[i]? = some e → w.cell? ⟨b, o + i * 4, none⟩ = some (.int .u32 (e.1 : Int)) ∧ w.cell? ⟨b, o + i * 4 + 1, none⟩ = some (.int .i64 e.2.1) ∧ w.cell? ⟨b, o + i * 4 + 2, none⟩ = some (.int .i64 e.2.2.1) ∧ w.cell? ⟨b, o + i * 4 + 3, none⟩ = some (.int .i64 e.2.2.2)
theorem Rs.below {w W : World} {B : Nat} {A : Option Addr} {l : List Rw} (h : Rs w B A l) (hb : Below B w W) : Rs W B A l := fun hl => by
  obtain ⟨b, o, h1, h2, h3⟩ := h hl
  exact ⟨b, o, h1, h2, fun i e he => ⟨(hb.cell (p := ⟨b, _, none⟩) h2).trans (h3 i e he).1, (hb.cell (p := ⟨b, _, none⟩) h2).trans (h3 i e he).2.1, (hb.cell (p := ⟨b, _, none⟩) h2).trans (h3 i e he).2.2.1, (hb.cell (p := ⟨b, _, none⟩) h2).trans (h3 i e he).2.2.2⟩⟩
theorem Rs.mono {w : World} {B B' : Nat} {A : Option Addr} {l : List Rw} (h : Rs w B A l) (hb : B ≤ B') : Rs w B' A l := fun hl => by
  obtain ⟨b, o, h1, h2, h3⟩ := h hl
  exact ⟨b, o, h1, Nat.lt_of_lt_of_le h2 hb, h3⟩
theorem rr_len (l : List Rw) : (rr l).length = l.length * 4 := by
  induction l with
  | nil => rfl
  | cons e l ih =>
    unfold rr at ih ⊢
    rw [List.flatMap_cons, List.length_append, ih, List.length_cons]
    simp [rc]
    omega
theorem rr_get : ∀ (l : List Rw) (i : Nat) (e : Rw) (j : Nat), l[i]? = some e → j < 4 → (rr l)[i * 4 + j]? = (rc e)[j]?
  | [], i, e, j, h, _ => by simp at h
  | x :: l, 0, e, j, h, hj => by
    simp at h
    subst h
    unfold rr
    rw [List.flatMap_cons, List.getElem?_append_left (by simp [rc]; omega)]
    simp
  | x :: l, i + 1, e, j, h, hj => by
    have ih := rr_get l i e j (by simpa using h) hj
    unfold rr at ih ⊢
    rw [List.flatMap_cons, List.getElem?_append_right (by simp [rc]; omega)]
    simp only [show (rc x).length = 4 from rfl, show (i + 1) * 4 + j - 4 = i * 4 + j by omega]
    exact ih
theorem rr_snoc (l : List Rw) (e : Rw) : rr (l ++ [e]) = rr l ++ rc e := by simp [rr]
theorem own_form4 {w : World} {base m : Nat} {v : Value} {xs : List Value} (h : w.ownsRow base 73 4 v m xs) : ∃ A c, v = .slice A m c := by
  rcases h.2 with ⟨rfl, rfl⟩ | ⟨g, cap, cur, rfl, _⟩
  · exact ⟨none, 0, rfl⟩
  · exact ⟨_, cap, rfl⟩
theorem Rs.of_own {w : World} {base m c : Nat} {A : Option Addr} {l : List Rw} (h : w.ownsRow base 73 4 (.slice A m c) m (rr l)) : Rs w w.heap.size A l := fun hl => by
  have hlen := h.1
  rw [rr_len] at hlen
  rcases h.2 with ⟨_, h0⟩ | ⟨g, cap, cur, e1, _, hh, _, _, _, ht⟩
  · omega
  · injection e1 with e1 _ _
    subst e1
    refine ⟨g, 0, rfl, lt_of_block hh, fun i e he => ?_⟩
    have hil := (List.getElem?_eq_some_iff.1 he).1
    have hc : ∀ j u, j < 4 → (rc e)[j]? = some u → w.cell? ⟨g, 0 + i * 4 + j, none⟩ = some u := fun j u hj hu => by
      rw [cell_of_row w g _ _ _ _ hh, ← Array.getElem?_toList, Nat.zero_add, ← hu, ← rr_get l i e j he hj, ← ht, List.getElem?_take, if_pos (by omega)]
    exact ⟨hc 0 _ (by decide) rfl, hc 1 _ (by decide) rfl, hc 2 _ (by decide) rfl, hc 3 _ (by decide) rfl⟩
/-- What Find answers. -/
def Fd (l : List Rw) (x : Nat) (m : Mk) (t : Bool) : Prop := (t = true ∧ (x, m) ∈ l) ∨ (t = false ∧ m = (0, 0, 0) ∧ ∀ e ∈ l, e.1 ≠ x)

set_option linter.unusedSimpArgs false in
set_option maxHeartbeats 2000000 in
theorem find_any (A : Option Addr) (n c x : Nat) (l : List Rw) (w : World) (hn : n = l.length) (hR : Rs w w.heap.size A l) (hl : n ≤ 1000) :
    Calls Tryd.prog 22 #[.slice A n c, .int .u32 (x : Int)] w fun r w' => (∃ (a b d : Int) (t : Bool), r = .returned (.tuple #[mV a b d, .bool t]) ∧ Fd l x (a, b, d) t) ∧ Below w.heap.size w w' := by
  obtain ⟨w0, hw0⟩ : ∃ w0, w0 = w.alloc (.cells (mC 0 0 0) 23) := ⟨_, rfl⟩
  have hb0 : Below w.heap.size w w0 := by rw [hw0]; exact (Below.refl _ _).alloc (Nat.le_refl _) _
  have hq0 : w0.heap[w.heap.size]? = some (.cells (mC 0 0 0) 23 (0, 0)) := by rw [hw0]; exact heap_alloc_new w _
  have z0 := cell_of_row w0 w.heap.size 0 _ _ _ hq0
  have z1 := cell_of_row w0 w.heap.size 1 _ _ _ hq0
  have z2 := cell_of_row w0 w.heap.size 2 _ _ _ hq0
  simp at z0 z1 z2
  have zf : ∀ i, w0.frozen? ⟨w.heap.size, i, none⟩ = false := fun i => frozen_of_row w0 _ i _ _ hq0
  have HR : Hid (Rs w0 w0.heap.size A l) := (hR.below hb0).mono hb0.size
  have H0 := Lib.hid hw0
  have HB0 := Lib.hid hb0
  have HQ0 := Lib.hid hq0
  have HN := Lib.hid hn
  clear hw0 hb0 hq0 hn hR
  go_enter Tryd.func22, Tryd.ntmps22
  go_upto_region 1 with (fail)
  rw [← H0.out]
  go_wp2_with fail
  go_loopw [6] (fun u wr => ∃ k : Nat, k ≤ n ∧ u = .int .i64 (k : Int) ∧ Hid (∀ (j : Nat) e, j < k → l[j]? = some e → e.1 ≠ x) ∧ wr = w0) (fun u _ => n - (intOf u).toNat)
  case atStart => exact ⟨0, by omega, rfl, fun j e hj => absurd hj (Nat.not_lt_zero j), by first | rfl | trivial⟩
  case round =>
    obtain ⟨k, hk, rfl, HK, rfl⟩ := hrel
    by_cases hlt : k < n
    · obtain ⟨⟨y, a, b, d⟩, hy⟩ : ∃ e, l[k]? = some e := ⟨l[k]'(by rw [← HN.out]; exact hlt), List.getElem?_eq_getElem _⟩
      obtain ⟨b1, o1, rfl, hb1, ha1⟩ := HR.out (by have := HN.out; omega)
      obtain ⟨d0, d1, d2, d3⟩ := ha1 k _ hy
      simp only at d0 d1 d2 d3
      have HY := Lib.hid hy
      clear hy ha1 hb1
      by_cases hxy : y = x
      · subst hxy
        have HT := Lib.hid (three (.int .i64 a) (.int .i64 b) (.int .i64 d) HQ0.out)
        have HTB := Lib.hid (three_below (.int .i64 a) (.int .i64 b) (.int .i64 d) HB0.out (Nat.le_refl w.heap.size))
        go_wp2
        obtain ⟨e0, e1, e2, _⟩ := HT.out
        exact bodyPost_ret (v := .tuple #[mV a b d, .bool true]) (by simp [results, Tryd.results22, go_sem, e0, e1, e2]) rfl ⟨⟨a, b, d, true, rfl, .inl ⟨rfl, List.mem_of_getElem? HY.out⟩⟩, HTB.out⟩
      · have hxz : ¬ (y : Int) = (x : Int) := by omega
        go_wp2
        go_roundw
        case rel =>
          refine ⟨k + 1, by omega, by go_num, fun j e hj hje => ?_, by first | rfl | trivial⟩
          by_cases hjk : j < k
          · exact HK.out j e hjk hje
          · have : j = k := by omega
            subst this
            rw [HY.out] at hje
            injection hje with hje
            subst hje
            exact hxy
        case measure => simp [intOf] <;> omega
    · have hkn : k = n := by omega
      subst hkn
      have HNO : Hid (∀ e ∈ l, e.1 ≠ x) := fun e he => by
        obtain ⟨j, hj, rfl⟩ := List.getElem_of_mem he
        exact HK.out j _ (by have := HN.out; omega) (List.getElem?_eq_getElem hj)
      have HT := Lib.hid (three (.int .i64 0) (.int .i64 0) (.int .i64 0) HQ0.out)
      have HTB := Lib.hid (three_below (.int .i64 0) (.int .i64 0) (.int .i64 0) HB0.out (Nat.le_refl w.heap.size))
      go_wp2
      obtain ⟨e0, e1, e2, _⟩ := HT.out
      exact bodyPost_ret (v := .tuple #[mV 0 0 0, .bool false]) (by simp [results, Tryd.results22, go_sem, e0, e1, e2]) rfl ⟨⟨0, 0, 0, false, rfl, .inr ⟨rfl, rfl, HNO.out⟩⟩, HTB.out⟩
end Go.Proofs.YtfcogjdnnnpmdaaDoor.D
