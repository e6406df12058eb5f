/- Session: the document's rack. -/
import Derived.Test.YtaoejkbockcneaaVA
import Derived.Laws.AppendOwn
namespace Go.Proofs.Ytaoejkbockcneaa.V
open Go.RowKit
set_option maxRecDepth 20000
set_option linter.unusedVariables false
set_option linter.unusedSimpArgs false

def Nx (ids : List Nat) (x m : Nat) : Prop := (m = 0 ∧ ∀ y ∈ ids, y ≤ x) ∨ (x < m ∧ m ∈ ids ∧ ∀ y ∈ ids, x < y → m ≤ y)
abbrev Ps := List (Nat × Int)
def okN (x : Nat) : Prop := 1 ≤ x ∧ x ≤ 2147483647
theorem perm_fst {l ps : Ps} (h : l.Perm ps) (y : Nat) : y ∈ l.map (·.1) ↔ y ∈ ps.map (·.1) := (h.map _).mem_iff
def rc (e : Nat × Int) : List Value := [.int .u32 (e.1 : Int), .int .i64 e.2]
def rr (l : List (Nat × Int)) : List Value := l.flatMap rc
def rV (A : Option Addr) (n c : Nat) (most : Int) : Value := .agg #[.slice A n c, .int .i64 most]
/-- The rows l are read from A on. -/
def Rs (w : World) (B : Nat) (A : Option Addr) (l : List (Nat × Int)) : Prop :=
  0 < l.length → ∃ b o, A = some ⟨b, o, none⟩ ∧ b < B ∧ ∀ i e, l[i]? = some e → w.cell? ⟨b, o + i * 2, none⟩ = some (.int .u32 (e.1 : Int)) ∧ w.cell? ⟨b, o + i * 2 + 1, none⟩ = some (.int .i64 e.2)
theorem Rs.below {w W : World} {B : Nat} {A : Option Addr} {l : List (Nat × Int)} (h : Rs w B A l) (hb : Below B w W) : Rs W B A l := fun hl => by
  obtain ⟨b, o, h1, h2, h3⟩ := h hl
  exact ⟨b, o, h1, h2, fun i e he => ⟨(hb.cell (p := ⟨b, _, none⟩) h2).trans (h3 i e he).1, (hb.cell (p := ⟨b, _, none⟩) h2).trans (h3 i e he).2⟩⟩
theorem Rs.mono {w : World} {B B' : Nat} {A : Option Addr} {l : List (Nat × Int)} (h : Rs w B A l) (hb : B ≤ B') : Rs w B' A l := fun hl => by
  obtain ⟨b, o, h1, h2, h3⟩ := h hl
  exact ⟨b, o, h1, Nat.lt_of_lt_of_le h2 hb, h3⟩
theorem rr_len (l : List (Nat × Int)) : (rr l).length = l.length * 2 := by
  induction l with
  | nil => rfl
  | cons e l ih =>
    unfold rr at ih ⊢
    rw [List.flatMap_cons, List.length_append, ih, List.length_cons]
    simp [rc]
    omega
theorem rr_get : ∀ (l : List (Nat × Int)) (i : Nat) (e : Nat × Int) (j : Nat), l[i]? = some e → j < 2 → (rr l)[i * 2 + j]? = (rc e)[j]?
  | [], i, e, j, h, _ => by simp at h
  | x :: l, 0, e, j, h, hj => by
    simp at h
    subst h
    unfold rr
    rw [List.flatMap_cons, List.getElem?_append_left (by simp [rc]; omega)]
    simp
  | x :: l, i + 1, e, j, h, hj => by
    have ih := rr_get l i e j (by simpa using h) hj
    unfold rr at ih ⊢
    rw [List.flatMap_cons, List.getElem?_append_right (by simp [rc]; omega)]
    simp only [show (rc x).length = 2 from rfl, show (i + 1) * 2 + j - 2 = i * 2 + j by omega]
    exact ih
theorem rr_snoc (l : List (Nat × Int)) (e : Nat × Int) : rr (l ++ [e]) = rr l ++ rc e := by simp [rr]
theorem own_form2 {w : World} {base m : Nat} {v : Value} {xs : List Value} (h : w.ownsRow base 137 2 v m xs) : ∃ A c, v = .slice A m c := by
  rcases h.2 with ⟨rfl, rfl⟩ | ⟨g, cap, cur, rfl, _⟩
  · exact ⟨none, 0, rfl⟩
  · exact ⟨_, cap, rfl⟩
theorem Rs.of_own {w : World} {base m c : Nat} {A : Option Addr} {l : List (Nat × Int)} (h : w.ownsRow base 137 2 (.slice A m c) m (rr l)) : Rs w w.heap.size A l := fun hl => by
  have hcells := fun g => h.cells (g := g)
  have hlt := h.lt
  have hlen := h.1
  rw [rr_len] at hlen
  rcases h.2 with ⟨_, h0⟩ | ⟨g, cap, cur, e1, _, _, _, _⟩
  · omega
  · injection e1 with e1 _ _
    subst e1
    refine ⟨g, 0, rfl, (hlt g rfl).2, fun i e he => ?_⟩
    have hc : ∀ j, j < 2 → w.cell? ⟨g, 0 + i * 2 + j, none⟩ = (rc e)[j]? := fun j hj => by
      obtain ⟨u, hu⟩ : ∃ u, (rc e)[j]? = some u := ⟨(rc e)[j]'(by simpa [rc] using hj), List.getElem?_eq_getElem _⟩
      have := hcells g rfl (i * 2 + j) u (by rw [rr_get l i e j he hj, hu])
      rw [Go.WideShapes.add_plain, ← Nat.add_assoc] at this
      rw [hu, ← this]
    exact ⟨by simpa [rc] using hc 0 (by omega), by simpa [rc] using hc 1 (by omega)⟩
theorem info137 : (Try.prog.info? 137).map (fun i => (i.zero, i.size, i.bytes)) = some (some (.agg #[.int .u32 0, .int .i64 0]), 2, 16) := by kernel_rfl

/-- Where a row of a number stands; -1: there is none. -/
def Fd (l : List (Nat × Int)) (x : Nat) (i : Int) : Prop := (∃ (p : Nat) (v : Int), i = p ∧ l[p]? = some (x, v)) ∨ (i = -1 ∧ ∀ e ∈ l, e.1 ≠ x)

set_option maxHeartbeats 2000000 in
theorem find_any (A : Option Addr) (n c : Nat) (most : Int) (x : Nat) (l : List (Nat × Int)) (w : World) (hn : n = l.length) (hR : Rs w w.heap.size A l) (hl : n ≤ 1000) :
    Calls Try.prog 60 #[rV A n c most, .int .u32 (x : Int)] w fun r w' => (∃ i : Int, Fd l x i ∧ r = .returned (.int .i64 i)) ∧ Below w.heap.size w w' := by
  unfold rV
  obtain ⟨w0, hw0⟩ : ∃ w0, w0 = w.alloc (.cells #[.slice A n c, .int .i64 most] 86) := ⟨_, rfl⟩
  have hb0 : Below w.heap.size w w0 := by rw [hw0]; exact (Below.refl _ _).alloc (Nat.le_refl _) _
  have hp0 : w0.heap[w.heap.size]? = some (.cells #[.slice A n c, .int .i64 most] 86 (0, 0)) := by rw [hw0]; exact heap_alloc_new w _
  have c0 := cell_of_row w0 w.heap.size 0 _ _ _ hp0
  have c1 := cell_of_row w0 w.heap.size 1 _ _ _ hp0
  simp at c0 c1
  have HR : Hid (Rs w0 w0.heap.size A l) := (hR.below hb0).mono hb0.size
  have H0 := Lib.hid hw0
  have HB0 := Lib.hid hb0
  have HP0 := Lib.hid hp0
  have HN := Lib.hid hn
  clear hw0 hb0 hp0 hn hR
  go_enter Try.func60, Try.ntmps60
  go_upto_region 1 with (fail)
  rw [← H0.out]
  go_wp2_with fail
  go_loopw [5] (fun u wr => ∃ k : Nat, k ≤ n ∧ u = .int .i64 (k : Int) ∧ Hid (∀ (j : Nat) e, j < k → l[j]? = some e → e.1 ≠ x) ∧ wr = w0) (fun u _ => n - (intOf u).toNat)
  case atStart => exact ⟨0, by omega, rfl, fun j e hj => absurd hj (Nat.not_lt_zero j), by first | rfl | trivial⟩
  case round =>
    obtain ⟨k, hk, rfl, HK, rfl⟩ := hrel
    by_cases hlt : k < n
    · obtain ⟨⟨y, v⟩, hy⟩ : ∃ e, l[k]? = some e := ⟨l[k]'(by rw [← HN.out]; exact hlt), List.getElem?_eq_getElem _⟩
      obtain ⟨b1, o1, rfl, hb1, ha1⟩ := HR.out (by have := HN.out; omega)
      have d0 := (ha1 k _ hy).1
      simp only at d0
      have HY := Lib.hid hy
      clear hy ha1 hb1
      by_cases hxy : y = x
      · subst hxy
        go_wp2
        go_ret
        exact ⟨⟨k, .inl ⟨k, v, rfl, HY.out⟩, rfl⟩, HB0.out⟩
      · have hxz : ¬ (y : Int) = (x : Int) := by omega
        go_wp2
        go_roundw
        case rel =>
          refine ⟨k + 1, by omega, by go_num, fun j e hj hje => ?_, by first | rfl | trivial⟩
          by_cases hjk : j < k
          · exact HK.out j e hjk hje
          · have : j = k := by omega
            subst this
            rw [HY.out] at hje
            injection hje with hje
            rw [← hje]
            exact hxy
        case measure => simp [intOf] <;> omega
    · have hkn : k = n := by omega
      subst hkn
      have HF : Hid (Fd l x (-1)) := .inr ⟨rfl, fun e he => by
        obtain ⟨j, hj⟩ := List.getElem?_of_mem he
        exact HK.out j e (by have := (List.getElem?_eq_some_iff.1 hj).1; have := HN.out; omega) hj⟩
      go_wp2
      go_ret
      exact ⟨⟨-1, HF.out, rfl⟩, HB0.out⟩

set_option maxHeartbeats 4000000 in
theorem rnext_any (A : Option Addr) (n c : Nat) (most : Int) (x : Nat) (l : List (Nat × Int)) (w : World) (hn : n = l.length) (hR : Rs w w.heap.size A l) (hl : n ≤ 1000) :
    Calls Try.prog 64 #[rV A n c most, .int .u32 (x : Int)] w fun r w' => (∃ m : Nat, Nx (l.map (·.1)) x m ∧ r = .returned (.tuple #[.int .u32 (m : Int), .bool (decide (m ≠ 0))])) ∧ Below w.heap.size w w' := by
  unfold rV
  obtain ⟨w0, hw0⟩ : ∃ w0, w0 = w.alloc (.cells #[.slice A n c, .int .i64 most] 86) := ⟨_, rfl⟩
  have hb0 : Below w.heap.size w w0 := by rw [hw0]; exact (Below.refl _ _).alloc (Nat.le_refl _) _
  have hp0 : w0.heap[w.heap.size]? = some (.cells #[.slice A n c, .int .i64 most] 86 (0, 0)) := by rw [hw0]; exact heap_alloc_new w _
  have c0 := cell_of_row w0 w.heap.size 0 _ _ _ hp0
  have c1 := cell_of_row w0 w.heap.size 1 _ _ _ hp0
  simp at c0 c1
  have HR : Hid (Rs w0 w0.heap.size A l) := (hR.below hb0).mono hb0.size
  have H0 := Lib.hid hw0
  have HB0 := Lib.hid hb0
  have HP0 := Lib.hid hp0
  have HN := Lib.hid hn
  clear hw0 hb0 hp0 hn hR
  go_enter Try.func64, Try.ntmps64
  go_upto_region 1 with (fail)
  rw [← H0.out]
  go_wp2_with fail
  go_loopw [6, 7] (fun b u wr => ∃ k m : Nat, k ≤ n ∧ u = .int .i64 (k : Int) ∧ b = .int .u32 (m : Int) ∧ Hid (Nx ((l.take k).map (·.1)) x m) ∧ wr = w0) (fun _ u _ => n - (intOf u).toNat)
  case atStart => exact ⟨0, 0, by omega, rfl, rfl, .inl ⟨rfl, fun y hy => by simp at hy⟩, by first | rfl | trivial⟩
  case round =>
    obtain ⟨k, m, hk, rfl, rfl, HK, rfl⟩ := hrel
    by_cases hlt : k < n
    · obtain ⟨⟨y, v⟩, hy⟩ : ∃ e, l[k]? = some e := ⟨l[k]'(by rw [← HN.out]; exact hlt), List.getElem?_eq_getElem _⟩
      obtain ⟨b1, o1, rfl, hb1, ha1⟩ := HR.out (by have := HN.out; omega)
      have d0 := (ha1 k _ hy).1
      simp only at d0
      have hnx : (l.take (k + 1)).map (·.1) = (l.take k).map (·.1) ++ [y] := by rw [List.take_add_one, hy]; simp
      have HNX := Lib.hid hnx
      clear hy ha1 hb1 hnx
      by_cases hxy : x < y
      · by_cases hm0 : m = 0
        · subst hm0
          have HG : Hid (Nx ((l.take (k + 1)).map (·.1)) x y) := by
            rcases HK.out with ⟨_, h2⟩ | ⟨h1, _⟩
            · refine .inr ⟨hxy, by rw [HNX.out]; simp, fun z hz hxz => ?_⟩
              rw [HNX.out, List.mem_append] at hz
              rcases hz with hz | hz
              · have := h2 z hz
                omega
              · simp at hz
                omega
            · omega
          go_wp2
          go_roundw
          case rel => exact ⟨k + 1, y, by omega, by go_num, rfl, HG.out, by first | rfl | trivial⟩
          case measure => simp [intOf] <;> omega
        · have hm1 : ¬ (m : Int) = 0 := by omega
          have HK2 : Hid (x < m ∧ m ∈ (l.take k).map (·.1) ∧ ∀ y ∈ (l.take k).map (·.1), x < y → m ≤ y) := by
            rcases HK.out with ⟨h1, _⟩ | h1
            · omega
            · exact h1
          by_cases hym : y < m
          · have HG : Hid (Nx ((l.take (k + 1)).map (·.1)) x y) := by
              refine .inr ⟨hxy, by rw [HNX.out]; simp, fun z hz hxz => ?_⟩
              rw [HNX.out, List.mem_append] at hz
              rcases hz with hz | hz
              · have := HK2.out.2.2 z hz hxz
                omega
              · simp at hz
                omega
            go_wp2
            go_roundw
            case rel => exact ⟨k + 1, y, by omega, by go_num, rfl, HG.out, by first | rfl | trivial⟩
            case measure => simp [intOf] <;> omega
          · have HG : Hid (Nx ((l.take (k + 1)).map (·.1)) x m) := by
              refine .inr ⟨HK2.out.1, by rw [HNX.out, List.mem_append]; exact .inl HK2.out.2.1, fun z hz hxz => ?_⟩
              rw [HNX.out, List.mem_append] at hz
              rcases hz with hz | hz
              · exact HK2.out.2.2 z hz hxz
              · simp at hz
                omega
            go_wp2
            go_roundw
            case rel => exact ⟨k + 1, m, by omega, by go_num, rfl, HG.out, by first | rfl | trivial⟩
            case measure => simp [intOf] <;> omega
      · have HG : Hid (Nx ((l.take (k + 1)).map (·.1)) x m) := by
          rcases HK.out with ⟨h1, h2⟩ | ⟨h1, h2, h3⟩
          · refine .inl ⟨h1, fun z hz => ?_⟩
            rw [HNX.out, List.mem_append] at hz
            rcases hz with hz | hz
            · exact h2 z hz
            · simp at hz
              omega
          · refine .inr ⟨h1, by rw [HNX.out, List.mem_append]; exact .inl h2, fun z hz hxz => ?_⟩
            rw [HNX.out, List.mem_append] at hz
            rcases hz with hz | hz
            · exact h3 z hz hxz
            · simp at hz
              omega
        go_wp2
        go_roundw
        case rel => exact ⟨k + 1, m, by omega, by go_num, rfl, HG.out, by first | rfl | trivial⟩
        case measure => simp [intOf] <;> omega
    · have hkn : k = n := by omega
      subst hkn
      have HG : Hid (Nx (l.map (·.1)) x m) := by have := HK.out; rwa [HN.out, List.take_length] at this
      by_cases hm0 : m = 0
      · subst hm0
        go_wp2
        exact bodyPost_ret (v := .tuple #[.int .u32 0, .bool false]) (by simp [results, Try.results64, go_sem]) rfl ⟨⟨0, HG.out, rfl⟩, HB0.out⟩
      · have hm1 : ¬ (m : Int) = 0 := by omega
        have hmd : decide (m ≠ 0) = true := by rw [decide_eq_true_iff]; exact hm0
        go_wp2
        exact bodyPost_ret (v := .tuple #[.int .u32 (m : Int), .bool true]) (by simp [results, Try.results64, go_sem]; exact hm0) rfl ⟨⟨m, HG.out, by rw [hmd]⟩, HB0.out⟩
def dropR (x : Nat) (l : List (Nat × Int)) : List (Nat × Int) := l.filter (fun e => e.1 != x)
theorem own2_lt {w : World} {base T m : Nat} {v : Value} {xs : List Value} (h : w.ownsRow base T 2 v m xs) (g : Nat) (hg : v.ownBlock = some g) : base ≤ g ∧ g < w.heap.size := h.lt g hg
theorem own2_after {w w' : World} {base T m : Nat} {v : Value} {xs : List Value} (h : w.ownsRow base T 2 v m xs) (hb : ∀ g, v.ownBlock = some g → w'.heap[g]? = w.heap[g]?) : w'.ownsRow base T 2 v m xs := by
  refine ⟨h.1, ?_⟩
  rcases h.2 with hn | ⟨g, cap, cur, rfl, hbg, hg, rest⟩
  · exact .inl hn
  · exact .inr ⟨g, cap, cur, rfl, hbg, (hb g rfl).trans hg, rest⟩
theorem run_row {w : World} (base G ty : Nat) (v : Value) (m : Nat) (l : List (Nat × Int)) (e : Nat × Int) (hown : w.ownsRow base 137 2 v m (rr l)) (hG : w.heap[G]? = some (.cells #[.int .u32 (e.1 : Int), .int .i64 e.2] 137 (0, 0))) (hm : m ≤ 1000) (hbase : base ≤ w.heap.size) :
    ∃ v' w', (Builtin.append_ #[84, 84] ty #[v, .slice (some ⟨G, 0, none⟩) 1 1]).run Try.prog w = .ok v' w' ∧ w'.ownsRow base 137 2 v' (m + 1) (rr (l ++ [e])) ∧ w.grownBy w' v.ownBlock := by
  obtain ⟨i0, hi, hz0, hz1, hz2⟩ := info_parts info137
  obtain ⟨v', w', hr, h2, h3, _⟩ := run_append_own (P := Try.prog) w base 84 ty 137 i0 _ 2 _ Try.underlying84 hi hz0 hz1 hz2 rfl (by decide) v m (rr l) hown ⟨G, 0, none⟩ 1 1 (rc e) rfl (fun j u hu => by
    have := cell_of_row w G j _ _ _ hG
    rw [show (#[.int .u32 (e.1 : Int), .int .i64 e.2] : Array Value) = (rc e).toArray from rfl, List.getElem?_toArray, hu] at this
    rw [← this, Go.WideShapes.add_plain, Nat.zero_add]) (by
    intro u hu
    simp only [rc, List.mem_cons, List.not_mem_nil, or_false] at hu
    rcases hu with rfl | rfl <;> rfl) (by unfold maxLen; omega) (by omega) hbase
  exact ⟨v', w', hr, by rw [rr_snoc]; exact h2, h3⟩
theorem own2_base {w : World} {base base' T m : Nat} {v : Value} {xs : List Value} (h : w.ownsRow base' T 2 v m xs) (hb : base ≤ base') : w.ownsRow base T 2 v m xs := by
  refine ⟨h.1, ?_⟩
  rcases h.2 with hn | ⟨g, cap, cur, rfl, hbg, rest⟩
  · exact .inl hn
  · exact .inr ⟨g, cap, cur, rfl, Nat.le_trans hb hbg, rest⟩
theorem drop_le (x : Nat) (l : List (Nat × Int)) : (dropR x l).length ≤ l.length := List.length_filter_le _ _

set_option linter.unusedSimpArgs false in
set_option maxHeartbeats 4000000 in
theorem rdrop_any (A : Option Addr) (n c : Nat) (most : Int) (x : Nat) (l : List (Nat × Int)) (w : World) (hn : n = l.length) (hR : Rs w w.heap.size A l) (hl : n ≤ 900) :
    Calls Try.prog 61 #[rV A n c most, .int .u32 (x : Int)] w fun r w' => ∃ B m c', r = .returned (rV B m c' most) ∧ w'.ownsRow w.heap.size 137 2 (.slice B m c') m (rr (dropR x l)) ∧ Below w.heap.size w w' := by
  unfold rV
  obtain ⟨w0, hw0⟩ : ∃ w0, w0 = ((w.alloc (.cells #[.slice A n c, .int .i64 most] 86)).alloc (.cells #[.slice none 0 0, .int .i64 0] 86)).alloc (.cells #[.slice none 0 0, .int .i64 most] 86) := ⟨_, rfl⟩
  obtain ⟨Q, hQ⟩ : ∃ Q, Q = w.heap.size + 2 := ⟨_, rfl⟩
  have hs0 : w0.heap.size = w.heap.size + 3 := by rw [hw0]; simp
  have hb0 : Below w.heap.size w w0 := by rw [hw0]; exact (((Below.refl _ _).alloc (Nat.le_refl _) _).alloc (by simp) _).alloc (by simp; omega) _
  have hp0 : w0.heap[w.heap.size]? = some (.cells #[.slice A n c, .int .i64 most] 86 (0, 0)) := by
    rw [hw0]
    exact (Below.heap_alloc _ _ _ (by simp; omega)).trans ((Below.heap_alloc _ _ _ (by simp)).trans (heap_alloc_new w _))
  have hz0 : w0.heap[w.heap.size + 1]? = some (.cells #[.slice none 0 0, .int .i64 0] 86 (0, 0)) := by
    have h := heap_alloc_new (w.alloc (.cells #[.slice A n c, .int .i64 most] 86)) (.cells #[.slice none 0 0, .int .i64 0] 86)
    rw [World.size_alloc] at h
    rw [hw0]
    exact (Below.heap_alloc _ _ _ (by simp)).trans h
  have hq0 : w0.heap[Q]? = some (.cells #[.slice none 0 0, .int .i64 most] 86 (0, 0)) := by
    have h := heap_alloc_new ((w.alloc (.cells #[.slice A n c, .int .i64 most] 86)).alloc (.cells #[.slice none 0 0, .int .i64 0] 86)) (.cells #[.slice none 0 0, .int .i64 most] 86)
    rw [World.size_alloc, World.size_alloc] at h
    rw [hw0, hQ]
    exact h
  have HQ : Hid (Q = w.heap.size + 2 ∧ w0.heap.size = Q + 1) := ⟨hQ, by omega⟩
  have HR : Hid (Rs w0 w0.heap.size A l) := (hR.below hb0).mono hb0.size
  have H0 := Lib.hid hw0
  have HB0 := Lib.hid hb0
  have HP0 := Lib.hid (And.intro hp0 hz0)
  have HQ0 := Lib.hid hq0
  have HN := Lib.hid hn
  have HRW : Hid (Rs w w.heap.size A l) := hR
  clear hw0 hb0 hp0 hz0 hq0 hn hR hs0
  go_enter Try.func61, Try.ntmps61
  go_upto_region 2 with (fail)
  rw [← H0.out, ← hQ]
  clear hQ
  go_wp2_with fail
  go_loopw [6] (fun u wr => ∃ (k m : Nat) (B : Option Addr) (c2 : Nat), k ≤ n ∧ u = .int .i64 (k : Int) ∧ Hid (wr.ownsRow w0.heap.size 137 2 (.slice B m c2) m (rr (dropR x (l.take k))) ∧ Below w.heap.size w wr ∧ wr.heap[Q]? = some (.cells #[.slice B m c2, .int .i64 most] 86 (0, 0))) ∧ Hid (wr.heap[w.heap.size]? = some (.cells #[.slice A n c, .int .i64 most] 86 (0, 0)) ∧ wr.heap[w.heap.size + 1]? = some (.cells #[.slice none 0 0, .int .i64 0] 86 (0, 0)))) (fun u _ => n - (intOf u).toNat)
  case atStart => exact ⟨0, 0, none, 0, by omega, rfl, ⟨World.ownsRow_nil w0 _ 137 2, HB0.out, HQ0.out⟩, HP0.out⟩
  case round =>
    obtain ⟨k, m, B, c2, hk, rfl, HV, HVB⟩ := hrel
    have c0 := cell_of_row wr w.heap.size 0 _ _ _ HVB.out.1
    simp at c0
    by_cases hlt : k < n
    · obtain ⟨⟨y, v⟩, hy⟩ : ∃ e, l[k]? = some e := ⟨l[k]'(by rw [← HN.out]; exact hlt), List.getElem?_eq_getElem _⟩
      obtain ⟨b1, o1, rfl, hb1, ha1⟩ := HRW.out (by have := HN.out; omega)
      have d0 := (HV.out.2.1.cell (p := ⟨b1, _, none⟩) hb1).trans (ha1 k _ hy).1
      have d1 := (HV.out.2.1.cell (p := ⟨b1, _, none⟩) hb1).trans (ha1 k _ hy).2
      simp only at d0 d1
      have hlw : b1 < wr.heap.size := Nat.lt_of_lt_of_le hb1 HV.out.2.1.size
      have hnx : l.take (k + 1) = l.take k ++ [(y, v)] := by
        rw [List.take_add_one, hy]
        rfl
      have HDD := Lib.hid (And.intro d0 (And.intro d1 hlw))
      have HTK := Lib.hid hnx
      clear hy ha1 hb1 hnx hlw
      by_cases hxy : y = x
      · have HNX : Hid (dropR x (l.take (k + 1)) = dropR x (l.take k)) := by simp only [Hid]; rw [HTK.out]; simp [dropR, hxy]
        have hxz : (y : Int) = (x : Int) := by omega
        go_wp2
        go_roundw
        case rel => exact ⟨k + 1, m, B, c2, by omega, by go_num, ⟨by rw [HNX.out]; exact HV.out.1, HV.out.2.1, HV.out.2.2⟩, HVB.out⟩
        case measure => simp [intOf] <;> omega
      · have HNX : Hid (dropR x (l.take (k + 1)) = dropR x (l.take k) ++ [(y, v)]) := by simp only [Hid]; rw [HTK.out]; simp [dropR, hxy]
        have hxz : ¬ (y : Int) = (x : Int) := by omega
        have HMM : Hid (m ≤ 900) := by
          have h1 := HV.out.1.1
          rw [rr_len] at h1
          have h2 := drop_le x (l.take k)
          rw [List.length_take] at h2
          simp only [Hid]
          omega
        have HCS : Hid (∀ W, Below wr.heap.size wr W → (fun W : World => W.cell? ⟨w.heap.size, 0, none⟩ = some (.slice (some ⟨b1, o1, none⟩) n c) ∧ W.cell? ⟨b1, o1 + k * 2, none⟩ = some (.int .u32 (y : Int)) ∧ W.cell? ⟨b1, o1 + k * 2 + 1, none⟩ = some (.int .i64 v)) W) := fun W hW => by
          have e2 := (hW.block _ (lt_of_block HVB.out.1)).trans HVB.out.1
          exact ⟨cell_of_row W _ 0 _ _ _ e2, (hW.cell (p := ⟨b1, _, none⟩) HDD.out.2.2).trans HDD.out.1, (hW.cell (p := ⟨b1, _, none⟩) HDD.out.2.2).trans HDD.out.2.1⟩
        have HC2 : Hid (∀ W V, Below wr.heap.size wr W → W.grownBy V (Value.ownBlock (.slice B m c2)) → (fun W : World => W.cell? ⟨w.heap.size, 0, none⟩ = some (.slice (some ⟨b1, o1, none⟩) n c) ∧ W.cell? ⟨b1, o1 + k * 2, none⟩ = some (.int .u32 (y : Int)) ∧ W.cell? ⟨b1, o1 + k * 2 + 1, none⟩ = some (.int .i64 v)) V) := fun W V hW hV => by
          have hbq := HQ.out.2
          have hne : ∀ g, Value.ownBlock (.slice B m c2) = some g → w0.heap.size ≤ g := fun g hg => (own2_lt HV.out.1 g hg).1
          have ws := hW.size
          have e2 := (hV.block w.heap.size (Nat.lt_of_lt_of_le (lt_of_block HVB.out.1) ws) (fun e => by have := hne _ e.symm; have := HQ.out.1; omega)).trans ((hW.block _ (lt_of_block HVB.out.1)).trans HVB.out.1)
          have hbb : b1 < w.heap.size := by
            obtain ⟨b, o, e, h, _⟩ := HRW.out (by have := HN.out; omega)
            injection e with e
            injection e with e _
            rw [e]
            exact h
          have eb : V.heap[b1]? = wr.heap[b1]? := (hV.block b1 (Nat.lt_of_lt_of_le HDD.out.2.2 ws) (fun e => by have := hne _ e.symm; have := HQ.out.1; omega)).trans (hW.block _ HDD.out.2.2)
          exact ⟨cell_of_row V _ 0 _ _ _ e2, (World.cell?_of_block eb).trans HDD.out.1, (World.cell?_of_block eb).trans HDD.out.2.1⟩
        have HC3 : Hid (∀ V, (∀ g, g < Q → V.heap[g]? = wr.heap[g]?) → (fun W : World => W.cell? ⟨w.heap.size, 0, none⟩ = some (.slice (some ⟨b1, o1, none⟩) n c) ∧ W.cell? ⟨b1, o1 + k * 2, none⟩ = some (.int .u32 (y : Int)) ∧ W.cell? ⟨b1, o1 + k * 2 + 1, none⟩ = some (.int .i64 v)) V) := fun V hV => by
          have hq1 := HQ.out.1
          have hbb : b1 < w.heap.size := by
            obtain ⟨b, o, e, h, _⟩ := HRW.out (by have := HN.out; omega)
            injection e with e
            injection e with e _
            rw [e]
            exact h
          have e2 := (hV w.heap.size (by omega)).trans HVB.out.1
          have eb := hV b1 (by omega)
          exact ⟨cell_of_row V _ 0 _ _ _ e2, (World.cell?_of_block eb).trans HDD.out.1, (World.cell?_of_block eb).trans HDD.out.2.1⟩
        go_upto_region 6 with (fail)
        clear d0 d1 c0
        have HD : Hid (Below wr.heap.size wr wr.drew) := (Below.refl _ _).drew
        refine wp_region_held_drew (S := fun W : World => W.cell? ⟨w.heap.size, 0, none⟩ = some (.slice (some ⟨b1, o1, none⟩) n c) ∧ W.cell? ⟨b1, o1 + k * 2, none⟩ = some (.int .u32 (y : Int)) ∧ W.cell? ⟨b1, o1 + k * 2 + 1, none⟩ = some (.int .i64 v)) (by kernel_rfl) (HCS.out _ (HD.out)) (fun hHeld => ?_)
        obtain ⟨W0, hW0⟩ : ∃ W0, W0 = wr.drew := ⟨_, rfl⟩
        rw [← hW0] at hHeld HD ⊢
        have HO0 : Hid (W0.ownsRow w0.heap.size 137 2 (.slice B m c2) m (rr (dropR x (l.take k)))) := by rw [hW0]; exact HV.out.1
        clear hW0
        refine wpAnyH_take (i := 0) (oi := ?oi0) (v := ?v0) ?hi0 ?hs0 ?hf0 ?hr0 ?hQ0 ?hy0 ?hS0 ?h0
        case hi0 => exact (by simp only [List.getElem?_toArray, List.getElem?_cons_zero]; rfl)
        case hs0 => kernel_rfl
        case hf0 => kernel_rfl
        case hr0 => kernel_rfl
        case hQ0 => exact fun _ _ _ h => h
        case hy0 =>
          refine Or.inl ⟨rfl, ?_⟩
          intro W hSw
          obtain ⟨y1, y2, y3⟩ := hSw
          go_simp
          try with_reducible rfl
        case hS0 => assumption
        try simp only [Act.put, List.setIfInBounds_toArray, List.set_cons_zero, List.set_cons_succ]
        refine wpAnyH_take (i := 2) (oi := ?oi2) (v := ?v2) ?hi2 ?hs2 ?hf2 ?hr2 ?hQ2 ?hy2 ?hS2 ?h2
        case hi2 => exact (by simp only [List.getElem?_toArray, List.getElem?_cons_succ, List.getElem?_cons_zero]; rfl)
        case hs2 => kernel_rfl
        case hf2 => kernel_rfl
        case hr2 => kernel_rfl
        case hQ2 => exact fun _ _ _ h => h
        case hy2 =>
          refine Or.inl ⟨rfl, ?_⟩
          intro W hSw
          obtain ⟨y1, y2, y3⟩ := hSw
          go_simp
          try with_reducible rfl
        case hS2 => assumption
        try simp only [Act.put, List.setIfInBounds_toArray, List.set_cons_zero, List.set_cons_succ]
        refine wpAnyH_take (i := 3) (oi := ?oi3) (v := ?v3) ?hi3 ?hs3 ?hf3 ?hr3 ?hQ3 ?hy3 ?hS3 ?h3
        case hi3 => exact (by simp only [List.getElem?_toArray, List.getElem?_cons_succ, List.getElem?_cons_zero]; rfl)
        case hs3 => kernel_rfl
        case hf3 => kernel_rfl
        case hr3 => kernel_rfl
        case hQ3 => exact fun _ _ _ h => h
        case hy3 =>
          refine Or.inl ⟨rfl, ?_⟩
          intro W hSw
          obtain ⟨y1, y2, y3⟩ := hSw
          go_simp
          try with_reducible rfl
        case hS3 => assumption
        try simp only [Act.put, List.setIfInBounds_toArray, List.set_cons_zero, List.set_cons_succ]
        refine wpAnyH_take (i := 4) (oi := ?oi4) (v := ?v4) ?hi4 ?hs4 ?hf4 ?hr4 ?hQ4 ?hy4 ?hS4 ?h4
        case hi4 => exact (by simp only [List.getElem?_toArray, List.getElem?_cons_succ, List.getElem?_cons_zero]; rfl)
        case hs4 => kernel_rfl
        case hf4 => kernel_rfl
        case hr4 => kernel_rfl
        case hQ4 => exact fun _ _ _ h => h
        case hy4 =>
          refine Or.inl ⟨rfl, ?_⟩
          intro W hSw
          obtain ⟨y1, y2, y3⟩ := hSw
          go_simp
          try with_reducible rfl
        case hS4 => assumption
        try simp only [Act.put, List.setIfInBounds_toArray, List.set_cons_zero, List.set_cons_succ]
        refine wpAnyH_take (i := 5) (oi := ?oi5) (v := ?v5) ?hi5 ?hs5 ?hf5 ?hr5 ?hQ5 ?hy5 ?hS5 ?h5
        case hi5 => exact (by simp only [List.getElem?_toArray, List.getElem?_cons_succ, List.getElem?_cons_zero]; rfl)
        case hs5 => kernel_rfl
        case hf5 => kernel_rfl
        case hr5 => kernel_rfl
        case hQ5 => exact fun _ _ _ h => h
        case hy5 =>
          refine Or.inl ⟨rfl, ?_⟩
          intro W hSw
          obtain ⟨y1, y2, y3⟩ := hSw
          go_simp
          try with_reducible rfl
        case hS5 => assumption
        try simp only [Act.put, List.setIfInBounds_toArray, List.set_cons_zero, List.set_cons_succ]
        refine wpAnyH_take (i := 6) (oi := ?oi6) (v := ?v6) ?hi6 ?hs6 ?hf6 ?hr6 ?hQ6 ?hy6 ?hS6 ?h6
        case hi6 => exact (by simp only [List.getElem?_toArray, List.getElem?_cons_succ, List.getElem?_cons_zero]; rfl)
        case hs6 => kernel_rfl
        case hf6 => kernel_rfl
        case hr6 => kernel_rfl
        case hQ6 => exact fun _ _ _ h => h
        case hy6 =>
          refine Or.inl ⟨rfl, ?_⟩
          intro W hSw
          obtain ⟨y1, y2, y3⟩ := hSw
          go_simp
          try with_reducible rfl
        case hS6 => assumption
        try simp only [Act.put, List.setIfInBounds_toArray, List.set_cons_zero, List.set_cons_succ]
        refine wpAnyH_ready (rs := [1, 7]) (by kernel_rfl) (by simp) ?_
        refine AllReadyH.cons (o := _) rfl (fun K hK => ?_) (AllReadyH.cons (o := _) rfl (fun K hK => ?_) AllReadyH.nil)
        · have q0 := cell_of_row W0 Q 0 _ _ _ ((HD.out.block Q (lt_of_block HV.out.2.2)).trans HV.out.2.2)
          simp at q0
          go_simp
          clear q0
          refine hK.out _ _ hHeld (fun hHeld => ?_)
          clear hK K
          try simp only [Act.put, List.setIfInBounds_toArray, List.set_cons_zero, List.set_cons_succ]
          refine wpAnyH_ready (rs := [7]) (by kernel_rfl) (by simp) ?_
          refine AllReadyH.cons (o := _) rfl (fun K hK => ?_) AllReadyH.nil
          go_simp
          refine hK.out _ _ (HCS.out _ (HD.out.alloc HD.out.size _)) (fun hHeld => ?_)
          clear hK K
          try simp only [Act.put, List.setIfInBounds_toArray, List.set_cons_zero, List.set_cons_succ]
          obtain ⟨W1, hW1⟩ : ∃ W1, W1 = W0.alloc (.cells #[.int .u32 (y : Int), .int .i64 v] 137) := ⟨_, rfl⟩
          have HB1 : Hid (Below wr.heap.size wr W1) := by rw [hW1]; exact HD.out.alloc HD.out.size _
          have hG1 : W1.heap[W0.heap.size]? = some (.cells #[.int .u32 (y : Int), .int .i64 v] 137 (0, 0)) := by rw [hW1]; exact heap_alloc_new W0 _
          have HO1 : Hid (W1.ownsRow w0.heap.size 137 2 (.slice B m c2) m (rr (dropR x (l.take k)))) := by rw [hW1]; exact own2_after HO0.out fun g hg => Below.heap_alloc _ _ _ (own2_lt HO0.out g hg).2
          rw [← hW1] at hHeld ⊢
          clear hW1
          have HG1 := Lib.hid hG1
          clear hG1
          obtain ⟨v', W2, hap, hO2, hg2⟩ := run_row (w := W1) w0.heap.size W0.heap.size 84 (.slice B m c2) m _ (y, v) HO1.out HG1.out (by have := HMM.out; omega) (by have := HB1.out.size; have := HQ.out.2; have := lt_of_block HV.out.2.2; omega)
          have hown2 := own_form2 hO2
          obtain ⟨B', c3, rfl⟩ := hown2
          have HO2 := Lib.hid hO2
          have HG2 := Lib.hid hg2
          clear hO2 hg2
          refine wpAnyH_ready (rs := [8]) (by kernel_rfl) (by simp) ?_
          refine AllReadyH.cons (o := _) rfl (fun K hK => ?_) AllReadyH.nil
          refine step_append_run rfl _ _ 84 84 rfl _ _ rfl rfl hap ?_
          refine hK.out _ _ (HC2.out _ _ HB1.out HG2.out) (fun hHeld => ?_)
          clear hK K hap
          try simp only [Act.put, List.setIfInBounds_toArray, List.set_cons_zero, List.set_cons_succ]
          refine wpAnyH_take (i := 9) (oi := ?oi9a) (v := ?v9a) ?hi9a ?hs9a ?hf9a ?hr9a ?hQ9a ?hy9a ?hS9a ?h9a
          case hi9a => exact (by simp only [List.getElem?_toArray, List.getElem?_cons_succ, List.getElem?_cons_zero]; rfl)
          case hs9a => kernel_rfl
          case hf9a => kernel_rfl
          case hr9a => kernel_rfl
          case hQ9a => exact fun _ _ _ h => h
          case hy9a =>
            refine Or.inl ⟨rfl, ?_⟩
            intro W hSw
            obtain ⟨y1, y2, y3⟩ := hSw
            go_simp
            try with_reducible rfl
          case hS9a => assumption
          try simp only [Act.put, List.setIfInBounds_toArray, List.set_cons_zero, List.set_cons_succ]
          refine wpAnyH_ready (rs := [10]) (by kernel_rfl) (by simp) ?_
          refine AllReadyH.cons (o := _) rfl (fun K hK => ?_) AllReadyH.nil
          have hrowQ := (HG2.out.block Q (by have := HB1.out.size; have := lt_of_block HV.out.2.2; omega) (fun e => by have := (own2_lt HO1.out Q e.symm).1; have := HQ.out.2; omega)).trans ((HB1.out.block Q (lt_of_block HV.out.2.2)).trans HV.out.2.2)
          have q0 := cell_of_row W2 Q 0 _ _ _ hrowQ
          have fq : ∀ i, W2.frozen? ⟨Q, i, none⟩ = false := fun i => frozen_of_row W2 _ i _ _ hrowQ
          simp at q0
          go_simp
          have hQ3 : (W2.setCell ⟨Q, 0, none⟩ (.slice B' (m + 1) c3)).heap[Q]? = some (.cells #[.slice B' (m + 1) c3, .int .i64 most] 86 (0, 0)) := heap_setCell_same W2 Q 0 _ 86 _ hrowQ
          have keep : ∀ g, g < Q → (W2.setCell ⟨Q, 0, none⟩ (.slice B' (m + 1) c3)).heap[g]? = wr.heap[g]? := fun g hg => by
            have hq2 := HQ.out.2
            have hlq := lt_of_block HV.out.2.2
            rw [Below.heap_setCell _ _ _ _ (by show g ≠ Q; omega), HG2.out.block g (by have := HB1.out.size; omega) (fun e => by have := (own2_lt HO1.out g e.symm).1; omega), HB1.out.block g (by omega)]
          have HN3 : Hid ((W2.setCell ⟨Q, 0, none⟩ (.slice B' (m + 1) c3)).ownsRow w0.heap.size 137 2 (.slice B' (m + 1) c3) (m + 1) (rr (dropR x (l.take (k + 1)))) ∧ Below w.heap.size w (W2.setCell ⟨Q, 0, none⟩ (.slice B' (m + 1) c3)) ∧ (W2.setCell ⟨Q, 0, none⟩ (.slice B' (m + 1) c3)).heap[Q]? = some (.cells #[.slice B' (m + 1) c3, .int .i64 most] 86 (0, 0)) ∧ (W2.setCell ⟨Q, 0, none⟩ (.slice B' (m + 1) c3)).heap[w.heap.size]? = some (.cells #[.slice (some ⟨b1, o1, none⟩) n c, .int .i64 most] 86 (0, 0)) ∧ (W2.setCell ⟨Q, 0, none⟩ (.slice B' (m + 1) c3)).heap[w.heap.size + 1]? = some (.cells #[.slice none 0 0, .int .i64 0] 86 (0, 0))) := by
            have hq1 := HQ.out.1
            have hq2 := HQ.out.2
            have hlq := lt_of_block HV.out.2.2
            refine ⟨?_, ?_, hQ3, (keep _ (by omega)).trans HVB.out.1, (keep _ (by omega)).trans HVB.out.2⟩
            · rw [HNX.out]
              exact own2_after HO2.out fun g hg => Below.heap_setCell _ _ _ _ (by have := (own2_lt HO2.out g hg).1; show g ≠ Q; omega)
            · exact ((HV.out.2.1.trans (HB1.out.mono HV.out.2.1.size)).grown HG2.out (Nat.le_trans HV.out.2.1.size HB1.out.size) (fun g hg => by have := (own2_lt HO1.out g hg).1; omega)).setCell (by show w.heap.size ≤ Q; omega) _
          refine hK.out _ _ (HC3.out _ (fun g hg => keep g hg)) (fun hHeld => ?_)
          clear hK K q0 fq hQ3 keep hrowQ
          try simp only [Act.put, List.setIfInBounds_toArray, List.set_cons_zero, List.set_cons_succ]
          refine wpAnyH_done (by kernel_rfl) ?_ _
          try go_wp2
          go_roundw
          case rel => exact ⟨k + 1, m + 1, B', c3, by omega, by go_num, ⟨HN3.out.1, HN3.out.2.1, HN3.out.2.2.1⟩, HN3.out.2.2.2⟩
          case measure => simp [intOf] <;> omega
        · go_simp
          refine hK.out _ _ (HCS.out _ (HD.out.alloc HD.out.size _)) (fun hHeld => ?_)
          clear hK K
          try simp only [Act.put, List.setIfInBounds_toArray, List.set_cons_zero, List.set_cons_succ]
          obtain ⟨W1, hW1⟩ : ∃ W1, W1 = W0.alloc (.cells #[.int .u32 (y : Int), .int .i64 v] 137) := ⟨_, rfl⟩
          have HB1 : Hid (Below wr.heap.size wr W1) := by rw [hW1]; exact HD.out.alloc HD.out.size _
          have hG1 : W1.heap[W0.heap.size]? = some (.cells #[.int .u32 (y : Int), .int .i64 v] 137 (0, 0)) := by rw [hW1]; exact heap_alloc_new W0 _
          have HO1 : Hid (W1.ownsRow w0.heap.size 137 2 (.slice B m c2) m (rr (dropR x (l.take k)))) := by rw [hW1]; exact own2_after HO0.out fun g hg => Below.heap_alloc _ _ _ (own2_lt HO0.out g hg).2
          rw [← hW1] at hHeld ⊢
          clear hW1
          have HG1 := Lib.hid hG1
          clear hG1
          refine wpAnyH_ready (rs := [1]) (by kernel_rfl) (by simp) ?_
          refine AllReadyH.cons (o := _) rfl (fun K hK => ?_) AllReadyH.nil
          have q0 := cell_of_row W1 Q 0 _ _ _ ((HB1.out.block Q (lt_of_block HV.out.2.2)).trans HV.out.2.2)
          simp at q0
          go_simp
          clear q0
          refine hK.out _ _ hHeld (fun hHeld => ?_)
          clear hK K
          try simp only [Act.put, List.setIfInBounds_toArray, List.set_cons_zero, List.set_cons_succ]
          obtain ⟨v', W2, hap, hO2, hg2⟩ := run_row (w := W1) w0.heap.size W0.heap.size 84 (.slice B m c2) m _ (y, v) HO1.out HG1.out (by have := HMM.out; omega) (by have := HB1.out.size; have := HQ.out.2; have := lt_of_block HV.out.2.2; omega)
          have hown2 := own_form2 hO2
          obtain ⟨B', c3, rfl⟩ := hown2
          have HO2 := Lib.hid hO2
          have HG2 := Lib.hid hg2
          clear hO2 hg2
          refine wpAnyH_ready (rs := [8]) (by kernel_rfl) (by simp) ?_
          refine AllReadyH.cons (o := _) rfl (fun K hK => ?_) AllReadyH.nil
          refine step_append_run rfl _ _ 84 84 rfl _ _ rfl rfl hap ?_
          refine hK.out _ _ (HC2.out _ _ HB1.out HG2.out) (fun hHeld => ?_)
          clear hK K hap
          try simp only [Act.put, List.setIfInBounds_toArray, List.set_cons_zero, List.set_cons_succ]
          refine wpAnyH_take (i := 9) (oi := ?oi9b) (v := ?v9b) ?hi9b ?hs9b ?hf9b ?hr9b ?hQ9b ?hy9b ?hS9b ?h9b
          case hi9b => exact (by simp only [List.getElem?_toArray, List.getElem?_cons_succ, List.getElem?_cons_zero]; rfl)
          case hs9b => kernel_rfl
          case hf9b => kernel_rfl
          case hr9b => kernel_rfl
          case hQ9b => exact fun _ _ _ h => h
          case hy9b =>
            refine Or.inl ⟨rfl, ?_⟩
            intro W hSw
            obtain ⟨y1, y2, y3⟩ := hSw
            go_simp
            try with_reducible rfl
          case hS9b => assumption
          try simp only [Act.put, List.setIfInBounds_toArray, List.set_cons_zero, List.set_cons_succ]
          refine wpAnyH_ready (rs := [10]) (by kernel_rfl) (by simp) ?_
          refine AllReadyH.cons (o := _) rfl (fun K hK => ?_) AllReadyH.nil
          have hrowQ := (HG2.out.block Q (by have := HB1.out.size; have := lt_of_block HV.out.2.2; omega) (fun e => by have := (own2_lt HO1.out Q e.symm).1; have := HQ.out.2; omega)).trans ((HB1.out.block Q (lt_of_block HV.out.2.2)).trans HV.out.2.2)
          have q0 := cell_of_row W2 Q 0 _ _ _ hrowQ
          have fq : ∀ i, W2.frozen? ⟨Q, i, none⟩ = false := fun i => frozen_of_row W2 _ i _ _ hrowQ
          simp at q0
          go_simp
          have hQ3 : (W2.setCell ⟨Q, 0, none⟩ (.slice B' (m + 1) c3)).heap[Q]? = some (.cells #[.slice B' (m + 1) c3, .int .i64 most] 86 (0, 0)) := heap_setCell_same W2 Q 0 _ 86 _ hrowQ
          have keep : ∀ g, g < Q → (W2.setCell ⟨Q, 0, none⟩ (.slice B' (m + 1) c3)).heap[g]? = wr.heap[g]? := fun g hg => by
            have hq2 := HQ.out.2
            have hlq := lt_of_block HV.out.2.2
            rw [Below.heap_setCell _ _ _ _ (by show g ≠ Q; omega), HG2.out.block g (by have := HB1.out.size; omega) (fun e => by have := (own2_lt HO1.out g e.symm).1; omega), HB1.out.block g (by omega)]
          have HN3 : Hid ((W2.setCell ⟨Q, 0, none⟩ (.slice B' (m + 1) c3)).ownsRow w0.heap.size 137 2 (.slice B' (m + 1) c3) (m + 1) (rr (dropR x (l.take (k + 1)))) ∧ Below w.heap.size w (W2.setCell ⟨Q, 0, none⟩ (.slice B' (m + 1) c3)) ∧ (W2.setCell ⟨Q, 0, none⟩ (.slice B' (m + 1) c3)).heap[Q]? = some (.cells #[.slice B' (m + 1) c3, .int .i64 most] 86 (0, 0)) ∧ (W2.setCell ⟨Q, 0, none⟩ (.slice B' (m + 1) c3)).heap[w.heap.size]? = some (.cells #[.slice (some ⟨b1, o1, none⟩) n c, .int .i64 most] 86 (0, 0)) ∧ (W2.setCell ⟨Q, 0, none⟩ (.slice B' (m + 1) c3)).heap[w.heap.size + 1]? = some (.cells #[.slice none 0 0, .int .i64 0] 86 (0, 0))) := by
            have hq1 := HQ.out.1
            have hq2 := HQ.out.2
            have hlq := lt_of_block HV.out.2.2
            refine ⟨?_, ?_, hQ3, (keep _ (by omega)).trans HVB.out.1, (keep _ (by omega)).trans HVB.out.2⟩
            · rw [HNX.out]
              exact own2_after HO2.out fun g hg => Below.heap_setCell _ _ _ _ (by have := (own2_lt HO2.out g hg).1; show g ≠ Q; omega)
            · exact ((HV.out.2.1.trans (HB1.out.mono HV.out.2.1.size)).grown HG2.out (Nat.le_trans HV.out.2.1.size HB1.out.size) (fun g hg => by have := (own2_lt HO1.out g hg).1; omega)).setCell (by show w.heap.size ≤ Q; omega) _
          refine hK.out _ _ (HC3.out _ (fun g hg => keep g hg)) (fun hHeld => ?_)
          clear hK K q0 fq hQ3 keep hrowQ
          try simp only [Act.put, List.setIfInBounds_toArray, List.set_cons_zero, List.set_cons_succ]
          refine wpAnyH_done (by kernel_rfl) ?_ _
          try go_wp2
          go_roundw
          case rel => exact ⟨k + 1, m + 1, B', c3, by omega, by go_num, ⟨HN3.out.1, HN3.out.2.1, HN3.out.2.2.1⟩, HN3.out.2.2.2⟩
          case measure => simp [intOf] <;> omega
    · have hkn : k = n := by omega
      subst hkn
      have HG : Hid (wr.ownsRow w.heap.size 137 2 (.slice B m c2) m (rr (dropR x l))) := by
        have := HV.out.1
        rw [HN.out, List.take_length] at this
        exact own2_base this (by have := HQ.out; omega)
      have q0 := cell_of_row wr Q 0 _ _ _ HV.out.2.2
      have q1 := cell_of_row wr Q 1 _ _ _ HV.out.2.2
      have z0 := cell_of_row wr (w.heap.size + 1) 0 _ _ _ HVB.out.2
      have z1 := cell_of_row wr (w.heap.size + 1) 1 _ _ _ HVB.out.2
      have fz : ∀ i, wr.frozen? ⟨w.heap.size + 1, i, none⟩ = false := fun i => frozen_of_row wr _ i _ _ HVB.out.2
      simp at q0 q1 z0 z1
      have HRES : Hid (Below w.heap.size w ((wr.setCell ⟨w.heap.size + 1, 0, none⟩ (.slice B m c2)).setCell ⟨w.heap.size + 1, 1, none⟩ (.int .i64 most)) ∧ ((wr.setCell ⟨w.heap.size + 1, 0, none⟩ (.slice B m c2)).setCell ⟨w.heap.size + 1, 1, none⟩ (.int .i64 most)).ownsRow w.heap.size 137 2 (.slice B m c2) m (rr (dropR x l))) := by
        refine ⟨(HV.out.2.1.setCell (by show w.heap.size ≤ w.heap.size + 1; omega) _).setCell (by show w.heap.size ≤ w.heap.size + 1; omega) _, own2_after HG.out fun g hg => ?_⟩
        have hg3 : g ≠ w.heap.size + 1 := by have := (own2_lt HV.out.1 g hg).1; have := HQ.out; omega
        exact (Below.heap_setCell _ _ _ _ hg3).trans (Below.heap_setCell _ _ _ _ hg3)
      have hr1 := heap_setCell_same wr (w.heap.size + 1) 0 _ 86 (.slice B m c2) HVB.out.2
      have hr2 := heap_setCell_same (wr.setCell ⟨w.heap.size + 1, 0, none⟩ (.slice B m c2)) (w.heap.size + 1) 1 _ 86 (.int .i64 most) hr1
      have e0 := cell_of_row _ (w.heap.size + 1) 0 _ _ _ hr2
      have e1 := cell_of_row _ (w.heap.size + 1) 1 _ _ _ hr2
      simp at e0 e1
      go_wp2
      exact bodyPost_ret (v := rV B m c2 most) (by simp [results, Try.results61, go_sem, rV, e0, e1]) rfl ⟨_, _, _, rfl, HRES.out.2, HRES.out.1⟩
theorem up_next {ids : List Nat} (hu : Up ids) (hok : ∀ y ∈ ids, okN y) {k m : Nat} (hk : k ≤ ids.length) (last : Nat) (hl : (k = 0 ∧ last = 0) ∨ (∃ j, k = j + 1 ∧ ids[j]? = some last)) (h : Nx ids last m) : (k = ids.length ∧ m = 0) ∨ (ids[k]? = some m ∧ m ≠ 0) := by
  have below : ∀ (j y : Nat), ids[j]? = some y → y ≤ last → j < k := fun j y hj hy => by
    rcases hl with ⟨rfl, rfl⟩ | ⟨i, rfl, hi⟩
    · have := (hok y (List.mem_of_getElem? hj)).1
      omega
    · rcases Nat.lt_or_ge j (i + 1) with h1 | h1
      · exact h1
      · have := hu i j last y (by omega) hi hj
        omega
  have above : ∀ (j y : Nat), ids[j]? = some y → j < k → y ≤ last := fun j y hj hjk => by
    rcases hl with ⟨rfl, rfl⟩ | ⟨i, rfl, hi⟩
    · omega
    · rcases Nat.lt_or_ge j i with h1 | h1
      · exact Nat.le_of_lt (hu j i y last h1 hj hi)
      · have : j = i := by omega
        subst this
        rw [hj] at hi
        injection hi with hi
        omega
  rcases h with ⟨rfl, h0⟩ | ⟨h1, h2, h3⟩
  · left
    refine ⟨?_, rfl⟩
    rcases Nat.lt_or_ge k ids.length with h4 | h4
    · have := below k _ (List.getElem?_eq_getElem h4) (h0 _ (List.getElem_mem h4))
      omega
    · omega
  · right
    refine ⟨?_, by omega⟩
    obtain ⟨j, hj⟩ := List.getElem?_of_mem h2
    have hkj : k ≤ j := by
      rcases Nat.lt_or_ge j k with h4 | h4
      · have := above j m hj h4; omega
      · exact h4
    have hkl : k < ids.length := Nat.lt_of_le_of_lt hkj (List.getElem?_eq_some_iff.1 hj).1
    have hy := List.getElem?_eq_getElem hkl
    have hgt : last < ids[k] := by
      rcases Nat.lt_or_ge last ids[k] with h4 | h4
      · exact h4
      · have := below k _ hy h4; omega
    have h5 := h3 ids[k] (List.getElem_mem hkl) hgt
    rcases Nat.lt_or_ge k j with h6 | h6
    · have := hu k j _ m h6 hy hj
      omega
    · have : k = j := by omega
      rw [this]
      exact hj
theorem nx_perm {l ps : Ps} (h : l.Perm ps) {x m : Nat} (hn : Nx (l.map (·.1)) x m) : Nx (ps.map (·.1)) x m := by
  rcases hn with ⟨h1, h2⟩ | ⟨h1, h2, h3⟩
  · exact .inl ⟨h1, fun y hy => h2 y ((perm_fst h y).2 hy)⟩
  · exact .inr ⟨h1, (perm_fst h m).1 h2, fun y hy => h3 y ((perm_fst h y).2 hy)⟩
theorem nx_one {ids : List Nat} {x m m' : Nat} (h : Nx ids x m) (h' : Nx ids x m') : m = m' := by
  rcases h with ⟨h1, h2⟩ | ⟨h1, h2, h3⟩ <;> rcases h' with ⟨h4, h5⟩ | ⟨h4, h5, h6⟩
  · omega
  · have := h2 m' h5; omega
  · have := h5 m h2; omega
  · have := h3 m' h5 h4
    have := h6 m h2 h1
    omega

theorem own1_baseV {w : World} {base base' T m : Nat} {v : Value} {xs : List Value} (hb : base ≤ base') (h : w.ownsRow base' T 1 v m xs) : w.ownsRow base T 1 v m xs := by
  refine ⟨h.1, ?_⟩
  rcases h.2 with hn | ⟨g, cap, cur, rfl, hbg, rest⟩
  · exact .inl hn
  · exact .inr ⟨g, cap, cur, rfl, Nat.le_trans hb hbg, rest⟩
set_option linter.unusedSimpArgs false in
set_option maxHeartbeats 8000000 in
theorem rids_any (A : Option Addr) (n c : Nat) (most : Int) (l ps : Ps) (w : World) (hn : n = l.length) (hR : Rs w w.heap.size A l) (hl : n ≤ 900) (hpe : l.Perm ps) (hu : Up (ps.map (·.1))) (hok : ∀ y ∈ ps.map (·.1), okN y) :
    Calls Try.prog 45 #[rV A n c most] w fun r w' => ∃ v', r = .returned v' ∧ w'.ownsRow w.heap.size 26 1 v' (ps.map (·.1)).length (un (ps.map (·.1))) ∧ Below w.heap.size w w' := by
  unfold rV
  obtain ⟨w0, hw0⟩ : ∃ w0, w0 = w.alloc (.cells #[.slice A n c, .int .i64 most] 86) := ⟨_, rfl⟩
  have hb0 : Below w.heap.size w w0 := by rw [hw0]; exact (Below.refl _ _).alloc (Nat.le_refl _) _
  have hp0 : w0.heap[w.heap.size]? = some (.cells #[.slice A n c, .int .i64 most] 86 (0, 0)) := by rw [hw0]; exact heap_alloc_new w _
  have HR : Hid (Rs w0 w0.heap.size A l) := (hR.below hb0).mono hb0.size
  have H0 := Lib.hid hw0
  have HB0 := Lib.hid hb0
  have HP0 := Lib.hid hp0
  have HN := Lib.hid hn
  have HPE := Lib.hid hpe
  obtain ⟨ids, hids⟩ : ∃ ids, ids = ps.map (·.1) := ⟨_, rfl⟩
  rw [← hids] at hu hok ⊢
  have HU := Lib.hid hu
  have HOK := Lib.hid hok
  have HI : Hid (∀ x m, Nx (l.map (·.1)) x m → Nx ids x m) := fun x m h => by rw [hids]; exact nx_perm HPE.out h
  have hil : ids.length = n := by rw [hids, List.length_map, hn]; exact hpe.length_eq.symm
  have HIL := Lib.hid hil
  have HBr : Hid (Below w0.heap.size w0 w0) := Below.refl _ _
  obtain ⟨i0, hi0, hz0, hz1, hz2⟩ := info_parts info26
  have HNX := Lib.hid (rnext_any A n c most 0 l w0 hn HR.out (by omega))
  clear hw0 hb0 hn hR hpe hu hok hids hil
  go_enter Try.func45, Try.ntmps45
  go_upto_region 1 with (fail)
  rw [← H0.out]
  have p0 := cell_of_row w0 w.heap.size 0 _ _ _ HP0.out
  have p1 := cell_of_row w0 w.heap.size 1 _ _ _ HP0.out
  simp at p0 p1
  go_wp2_with fail
  refine HNX.out.mono ?_
  rintro r w1 ⟨⟨m1, hm1, rfl⟩, hb1⟩
  have HM1 : Hid ((0 = ids.length ∧ m1 = 0) ∨ (ids[0]? = some m1 ∧ m1 ≠ 0)) := up_next HU.out HOK.out (Nat.zero_le _) 0 (.inl ⟨rfl, rfl⟩) (HI.out _ _ hm1)
  have HB1 : Hid (Below w0.heap.size w0 w1) := hb1
  obtain ⟨b1, hbb1⟩ : ∃ b1, b1 = decide (m1 ≠ 0) := ⟨_, rfl⟩
  rw [← hbb1]
  have HBB1 := Lib.hid hbb1
  clear hm1 hb1 hp0 hbb1 p0 p1
  go_wp2_with fail
  go_loopw [3, 4, 5] (fun o u t wr => ∃ (k m : Nat) (b : Bool), k ≤ n ∧ u = .int .u32 (m : Int) ∧ t = .bool b ∧ Hid (b = decide (m ≠ 0)) ∧ Hid ((k = ids.length ∧ m = 0) ∨ (ids[k]? = some m ∧ m ≠ 0)) ∧ Hid (wr.ownsRow w0.heap.size 26 1 o k (un (ids.take k)) ∧ Below w0.heap.size w0 wr)) (fun o _ _ _ => n - (match o with | .slice _ m _ => m | _ => 0))
  case atStart => exact ⟨0, m1, b1, by omega, rfl, rfl, HBB1, HM1, World.ownsRow_nil w1 _ 26 1, HB1.out⟩
  case round =>
    obtain ⟨k, m, b, hk, rfl, rfl, HBB, HM, HV⟩ := hrel
    obtain ⟨B, c2, rfl⟩ := own_form1 HV.out.1
    by_cases hm0 : m = 0
    · have hk' : k = ids.length := by
        rcases HM.out with ⟨h1, _⟩ | ⟨_, h2⟩
        · exact h1
        · exact absurd hm0 h2
      have hb' : b = false := by rw [HBB.out, hm0]; rfl
      subst hb'
      have HRES : Hid (wr.ownsRow w.heap.size 26 1 (.slice B k c2) ids.length (un ids) ∧ Below w.heap.size w wr) := by
        have h1 := HV.out.1
        rw [hk', List.take_length] at h1
        exact ⟨by rw [hk']; exact own1_baseV HB0.out.size h1, HB0.out.trans (HV.out.2.mono HB0.out.size)⟩
      clear hk'
      go_wp2
      go_ret
      exact ⟨_, rfl, HRES.out.1, HRES.out.2⟩
    · have hb' : b = true := by rw [HBB.out]; simpa using hm0
      subst hb'
      have HK : Hid (ids[k]? = some m) := by
        rcases HM.out with ⟨_, h2⟩ | ⟨h1, _⟩
        · exact absurd h2 hm0
        · exact h1
      have hkn : k < n := by have := (List.getElem?_eq_some_iff.1 HK.out).1; have := HIL.out; omega
      obtain ⟨w2, hw2⟩ : ∃ w2, w2 = wr.alloc (.cells #[.int .u32 (m : Int)] 26) := ⟨_, rfl⟩
      have hg2 : w2.heap[wr.heap.size]? = some (.cells #[.int .u32 (m : Int)] 26 (0, 0)) := by rw [hw2]; exact heap_alloc_new wr _
      have hb2 : Below wr.heap.size wr w2 := by rw [hw2]; exact (Below.refl _ _).alloc (Nat.le_refl _) _
      have HO2 : Hid (w2.ownsRow w0.heap.size 26 1 (.slice B k c2) k (un (ids.take k))) := own_after HV.out.1 fun g hg => hb2.block g (ownlt HV.out.1 g hg).2
      have HB2 : Hid (Below w0.heap.size w0 w2) := HV.out.2.trans (hb2.mono HV.out.2.size)
      have HG2 := Lib.hid hg2
      have H2 := Lib.hid hw2
      have HSZ : Hid (w0.heap.size ≤ w2.heap.size) := HB2.out.size
      have HTK : Hid (un (ids.take (k + 1)) = un (ids.take k) ++ [.int .u32 (m : Int)]) := by simp only [Hid]; rw [List.take_add_one, HK.out]; simp [un]
      clear hg2 hb2 hw2
      have ht : Hid (∀ W : World, W = w2 → W.ownsRow w0.heap.size 26 1 (.slice B k c2) k (un (ids.take k)) ∧ W.heap[wr.heap.size]? = some (.cells #[.int .u32 (m : Int)] 26 (0, 0)) ∧ w0.heap.size ≤ W.heap.size) := fun W e => by rw [e]; exact ⟨HO2.out, HG2.out, HSZ.out⟩
      have HPB : Hid (∀ W, Below w0.heap.size w0 W → W.cell? ⟨w.heap.size, 0, none⟩ = some (.slice A n c) ∧ W.cell? ⟨w.heap.size, 1, none⟩ = some (.int .i64 most)) := fun W hW => by
        have e2 := (hW.block _ (lt_of_block HP0.out)).trans HP0.out
        exact ⟨cell_of_row W _ 0 _ _ _ e2, cell_of_row W _ 1 _ _ _ e2⟩
      go_upto_region 4 with (fail)
      go_wp2_with (at_builtin; refine wpList_append_u32 rfl (.tmp 12) (.tmp 14) rfl w0.heap.size wr.heap.size (.slice B k c2) k (un (ids.take k)) m rfl rfl (ht.out _ H2.out.symm).1 (ht.out _ H2.out.symm).2.1 (by omega) (ht.out _ H2.out.symm).2.2 ?_; intro v3 w3 hown3 hg3; rw [← H2.out] at hg3; rw [← HTK.out] at hown3; obtain ⟨B3, c3, rfl⟩ := own_form1 hown3; have HO3 := Lib.hid hown3; have HB3 : Hid (Below w0.heap.size w0 w3) := HB2.out.grown hg3 HB2.out.size (fun g h => (ownlt HO2.out g h).1); obtain ⟨p0, p1⟩ := HPB.out w3 HB3.out; clear hown3 hg3)
      refine (rnext_any A n c most m l w3 HN.out ((HR.out.below HB3.out).mono HB3.out.size) (by omega)).mono ?_
      rintro r w4 ⟨⟨m4, hm4, rfl⟩, hb4⟩
      have HM4 : Hid ((k + 1 = ids.length ∧ m4 = 0) ∨ (ids[k + 1]? = some m4 ∧ m4 ≠ 0)) := up_next HU.out HOK.out (by have := HIL.out; omega) m (.inr ⟨k, rfl, HK.out⟩) (HI.out _ _ hm4)
      have HV4 : Hid (w4.ownsRow w0.heap.size 26 1 (.slice B3 (k + 1) c3) (k + 1) (un (ids.take (k + 1))) ∧ Below w0.heap.size w0 w4) := ⟨own_after HO3.out fun g hg => hb4.block g (ownlt HO3.out g hg).2, HB3.out.trans (hb4.mono HB3.out.size)⟩
      obtain ⟨b4, hbb4⟩ : ∃ b4, b4 = decide (m4 ≠ 0) := ⟨_, rfl⟩
      rw [← hbb4]
      have HBB4 := Lib.hid hbb4
      clear hbb4 hm4 hb4 p0 p1
      go_wp2
      go_roundw
      case rel => exact ⟨k + 1, m4, b4, by omega, rfl, rfl, HBB4, HM4, HV4.out.1, HV4.out.2⟩
      case measure => simp; omega

end Go.Proofs.Ytaoejkbockcneaa.V
