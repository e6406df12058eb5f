/- Rack: the document's rack in memory: find, Get, Next. -/
import Derived.Test.YtbilkelbelimjaaKM
import Derived.Laws.AppendOwn
namespace Go.Proofs.Ytbilkelbelimjaa.D
open Go.RowKit
set_option maxRecDepth 20000

def rc (e : Nat × Int) : List Value := [.int .u32 (e.1 : Int), .int .i64 e.2]
def rr (l : List (Nat × Int)) : List Value := l.flatMap rc
def rV (A : Option Addr) (n c : Nat) (most : Int) : Value := .agg #[.slice A n c, .int .i64 most]
/-- The rows l are read from A on. -/
def Rs (w : World) (B : Nat) (A : Option Addr) (l : List (Nat × Int)) : Prop :=
  0 < l.length → ∃ b o, A = some ⟨b, o, none⟩ ∧ b < B ∧ ∀ i e, l[i]? = some e → w.cell? ⟨b, o + i * 2, none⟩ = some (.int .u32 (e.1 : Int)) ∧ w.cell? ⟨b, o + i * 2 + 1, none⟩ = some (.int .i64 e.2)
theorem Rs.below {w W : World} {B : Nat} {A : Option Addr} {l : List (Nat × Int)} (h : Rs w B A l) (hb : Below B w W) : Rs W B A l := fun hl => by
  obtain ⟨b, o, h1, h2, h3⟩ := h hl
  exact ⟨b, o, h1, h2, fun i e he => ⟨(hb.cell (p := ⟨b, _, none⟩) h2).trans (h3 i e he).1, (hb.cell (p := ⟨b, _, none⟩) h2).trans (h3 i e he).2⟩⟩
theorem Rs.mono {w : World} {B B' : Nat} {A : Option Addr} {l : List (Nat × Int)} (h : Rs w B A l) (hb : B ≤ B') : Rs w B' A l := fun hl => by
  obtain ⟨b, o, h1, h2, h3⟩ := h hl
  exact ⟨b, o, h1, Nat.lt_of_lt_of_le h2 hb, h3⟩
theorem rr_len (l : List (Nat × Int)) : (rr l).length = l.length * 2 := by
  induction l with
  | nil => rfl
  | cons e l ih =>
    unfold rr at ih ⊢
    rw [List.flatMap_cons, List.length_append, ih, List.length_cons]
    simp [rc]
    omega
theorem rr_get : ∀ (l : List (Nat × Int)) (i : Nat) (e : Nat × Int) (j : Nat), l[i]? = some e → j < 2 → (rr l)[i * 2 + j]? = (rc e)[j]?
  | [], i, e, j, h, _ => by simp at h
  | x :: l, 0, e, j, h, hj => by
    simp at h
    subst h
    unfold rr
    rw [List.flatMap_cons, List.getElem?_append_left (by simp [rc]; omega)]
    simp
  | x :: l, i + 1, e, j, h, hj => by
    have ih := rr_get l i e j (by simpa using h) hj
    unfold rr at ih ⊢
    rw [List.flatMap_cons, List.getElem?_append_right (by simp [rc]; omega)]
    simp only [show (rc x).length = 2 from rfl, show (i + 1) * 2 + j - 2 = i * 2 + j by omega]
    exact ih
theorem rr_snoc (l : List (Nat × Int)) (e : Nat × Int) : rr (l ++ [e]) = rr l ++ rc e := by simp [rr]
theorem own_form2 {w : World} {base m : Nat} {v : Value} {xs : List Value} (h : w.ownsRow base 96 2 v m xs) : ∃ A c, v = .slice A m c := by
  rcases h.2 with ⟨rfl, rfl⟩ | ⟨g, cap, cur, rfl, _⟩
  · exact ⟨none, 0, rfl⟩
  · exact ⟨_, cap, rfl⟩
theorem Rs.of_own {w : World} {base m c : Nat} {A : Option Addr} {l : List (Nat × Int)} (h : w.ownsRow base 96 2 (.slice A m c) m (rr l)) : Rs w w.heap.size A l := fun hl => by
  have hcells := fun g => h.cells (g := g)
  have hlt := h.lt
  have hlen := h.1
  rw [rr_len] at hlen
  rcases h.2 with ⟨_, h0⟩ | ⟨g, cap, cur, e1, _, _, _, _⟩
  · omega
  · injection e1 with e1 _ _
    subst e1
    refine ⟨g, 0, rfl, (hlt g rfl).2, fun i e he => ?_⟩
    have hc : ∀ j, j < 2 → w.cell? ⟨g, 0 + i * 2 + j, none⟩ = (rc e)[j]? := fun j hj => by
      obtain ⟨u, hu⟩ : ∃ u, (rc e)[j]? = some u := ⟨(rc e)[j]'(by simpa [rc] using hj), List.getElem?_eq_getElem _⟩
      have := hcells g rfl (i * 2 + j) u (by rw [rr_get l i e j he hj, hu])
      rw [Go.WideShapes.add_plain, ← Nat.add_assoc] at this
      rw [hu, ← this]
    exact ⟨by simpa [rc] using hc 0 (by omega), by simpa [rc] using hc 1 (by omega)⟩
theorem info96 : (Try.prog.info? 96).map (fun i => (i.zero, i.size, i.bytes)) = some (some (.agg #[.int .u32 0, .int .i64 0]), 2, 16) := by kernel_rfl

/-- Where a row of a number stands; -1: there is none. -/
def Fd (l : List (Nat × Int)) (x : Nat) (i : Int) : Prop := (∃ (p : Nat) (v : Int), i = p ∧ l[p]? = some (x, v)) ∨ (i = -1 ∧ ∀ e ∈ l, e.1 ≠ x)

set_option maxHeartbeats 2000000 in
theorem find_any (A : Option Addr) (n c : Nat) (most : Int) (x : Nat) (l : List (Nat × Int)) (w : World) (hn : n = l.length) (hR : Rs w w.heap.size A l) (hl : n ≤ 1000) :
    Calls Try.prog 61 #[rV A n c most, .int .u32 (x : Int)] w fun r w' => (∃ i : Int, Fd l x i ∧ r = .returned (.int .i64 i)) ∧ Below w.heap.size w w' := by
  unfold rV
  obtain ⟨w0, hw0⟩ : ∃ w0, w0 = w.alloc (.cells #[.slice A n c, .int .i64 most] 27) := ⟨_, rfl⟩
  have hb0 : Below w.heap.size w w0 := by rw [hw0]; exact (Below.refl _ _).alloc (Nat.le_refl _) _
  have hp0 : w0.heap[w.heap.size]? = some (.cells #[.slice A n c, .int .i64 most] 27 (0, 0)) := by rw [hw0]; exact heap_alloc_new w _
  have c0 := cell_of_row w0 w.heap.size 0 _ _ _ hp0
  have c1 := cell_of_row w0 w.heap.size 1 _ _ _ hp0
  simp at c0 c1
  have HR : Hid (Rs w0 w0.heap.size A l) := (hR.below hb0).mono hb0.size
  have H0 := Lib.hid hw0
  have HB0 := Lib.hid hb0
  have HP0 := Lib.hid hp0
  have HN := Lib.hid hn
  clear hw0 hb0 hp0 hn hR
  go_enter Try.func61, Try.ntmps61
  go_upto_region 1 with (fail)
  rw [← H0.out]
  go_wp2_with fail
  go_loopw [5] (fun u wr => ∃ k : Nat, k ≤ n ∧ u = .int .i64 (k : Int) ∧ Hid (∀ (j : Nat) e, j < k → l[j]? = some e → e.1 ≠ x) ∧ wr = w0) (fun u _ => n - (intOf u).toNat)
  case atStart => exact ⟨0, by omega, rfl, fun j e hj => absurd hj (Nat.not_lt_zero j), by first | rfl | trivial⟩
  case round =>
    obtain ⟨k, hk, rfl, HK, rfl⟩ := hrel
    by_cases hlt : k < n
    · obtain ⟨⟨y, v⟩, hy⟩ : ∃ e, l[k]? = some e := ⟨l[k]'(by rw [← HN.out]; exact hlt), List.getElem?_eq_getElem _⟩
      obtain ⟨b1, o1, rfl, hb1, ha1⟩ := HR.out (by have := HN.out; omega)
      have d0 := (ha1 k _ hy).1
      simp only at d0
      have HY := Lib.hid hy
      clear hy ha1 hb1
      by_cases hxy : y = x
      · subst hxy
        go_wp2
        go_ret
        exact ⟨⟨k, .inl ⟨k, v, rfl, HY.out⟩, rfl⟩, HB0.out⟩
      · have hxz : ¬ (y : Int) = (x : Int) := by omega
        go_wp2
        go_roundw
        case rel =>
          refine ⟨k + 1, by omega, by go_num, fun j e hj hje => ?_, by first | rfl | trivial⟩
          by_cases hjk : j < k
          · exact HK.out j e hjk hje
          · have : j = k := by omega
            subst this
            rw [HY.out] at hje
            injection hje with hje
            rw [← hje]
            exact hxy
        case measure => simp [intOf] <;> omega
    · have hkn : k = n := by omega
      subst hkn
      have HF : Hid (Fd l x (-1)) := .inr ⟨rfl, fun e he => by
        obtain ⟨j, hj⟩ := List.getElem?_of_mem he
        exact HK.out j e (by have := (List.getElem?_eq_some_iff.1 hj).1; have := HN.out; omega) hj⟩
      go_wp2
      go_ret
      exact ⟨⟨-1, HF.out, rfl⟩, HB0.out⟩

set_option maxHeartbeats 2000000 in
theorem get_in (A : Option Addr) (n c : Nat) (most : Int) (x : Nat) (v : Int) (l : List (Nat × Int)) (w : World) (hn : n = l.length) (hR : Rs w w.heap.size A l) (hl : n ≤ 1000) (hx : (x, v) ∈ l) (hone : ∀ v', (x, v') ∈ l → v' = v) :
    Calls Try.prog 14 #[rV A n c most, .int .u32 (x : Int)] w fun r w' => r = .returned (.tuple #[.int .i64 v, .bool true]) ∧ Below w.heap.size w w' := by
  unfold rV
  obtain ⟨w0, hw0⟩ : ∃ w0, w0 = w.alloc (.cells #[.slice A n c, .int .i64 most] 27) := ⟨_, rfl⟩
  have hb0 : Below w.heap.size w w0 := by rw [hw0]; exact (Below.refl _ _).alloc (Nat.le_refl _) _
  have hp0 : w0.heap[w.heap.size]? = some (.cells #[.slice A n c, .int .i64 most] 27 (0, 0)) := by rw [hw0]; exact heap_alloc_new w _
  have c0 := cell_of_row w0 w.heap.size 0 _ _ _ hp0
  have c1 := cell_of_row w0 w.heap.size 1 _ _ _ hp0
  simp at c0 c1
  have HR : Hid (Rs w0 w0.heap.size A l) := (hR.below hb0).mono hb0.size
  have H0 := Lib.hid hw0
  have HB0 := Lib.hid hb0
  have HP0 := Lib.hid hp0
  have HN := Lib.hid hn
  clear hw0 hb0 hp0 hn hR
  have HF := Lib.hid (find_any A n c most x l w0 HN.out HR.out hl)
  have HX := Lib.hid hx
  have HO := Lib.hid hone
  clear hx hone
  go_enter Try.func14, Try.ntmps14
  go_upto_region 1 with (fail)
  rw [← H0.out]
  go_wp2_with fail
  refine HF.out.mono ?_
  rintro r w1 ⟨⟨i, (⟨p, v', rfl, hp⟩ | ⟨rfl, hno⟩), rfl⟩, hb1⟩
  · obtain ⟨b1, o1, rfl, hb1', ha1⟩ := HR.out (by have := (List.getElem?_eq_some_iff.1 hp).1; omega)
    have hpn : p < n := by have := (List.getElem?_eq_some_iff.1 hp).1; have := HN.out; omega
    have hv := HO.out v' (List.mem_of_getElem? hp)
    subst hv
    have d1 := (hb1.cell (p := ⟨b1, _, none⟩) hb1').trans (ha1 p _ hp).2
    simp only at d1
    have hp1 := (hb1.block _ (lt_of_block HP0.out)).trans HP0.out
    clear c0 c1
    have c0 := cell_of_row w1 w.heap.size 0 _ _ _ hp1
    simp at c0
    have HB1 : Hid (Below w.heap.size w w1) := HB0.out.trans (hb1.mono HB0.out.size)
    clear hp ha1 hb1 hp1
    go_wp2
    exact bodyPost_ret (v := .tuple #[.int .i64 v', .bool true]) (by simp [results, Try.results14, go_sem]) rfl ⟨rfl, HB1.out⟩
  · exact absurd rfl (hno _ HX.out)
set_option maxHeartbeats 2000000 in
theorem get_out (A : Option Addr) (n c : Nat) (most : Int) (x : Nat) (l : List (Nat × Int)) (w : World) (hn : n = l.length) (hR : Rs w w.heap.size A l) (hl : n ≤ 1000) (hx : ∀ e ∈ l, e.1 ≠ x) :
    Calls Try.prog 14 #[rV A n c most, .int .u32 (x : Int)] w fun r w' => r = .returned (.tuple #[.int .i64 0, .bool false]) ∧ Below w.heap.size w w' := by
  unfold rV
  obtain ⟨w0, hw0⟩ : ∃ w0, w0 = w.alloc (.cells #[.slice A n c, .int .i64 most] 27) := ⟨_, rfl⟩
  have hb0 : Below w.heap.size w w0 := by rw [hw0]; exact (Below.refl _ _).alloc (Nat.le_refl _) _
  have hp0 : w0.heap[w.heap.size]? = some (.cells #[.slice A n c, .int .i64 most] 27 (0, 0)) := by rw [hw0]; exact heap_alloc_new w _
  have c0 := cell_of_row w0 w.heap.size 0 _ _ _ hp0
  have c1 := cell_of_row w0 w.heap.size 1 _ _ _ hp0
  simp at c0 c1
  have HR : Hid (Rs w0 w0.heap.size A l) := (hR.below hb0).mono hb0.size
  have H0 := Lib.hid hw0
  have HB0 := Lib.hid hb0
  have HP0 := Lib.hid hp0
  have HN := Lib.hid hn
  clear hw0 hb0 hp0 hn hR
  have HF := Lib.hid (find_any A n c most x l w0 HN.out HR.out hl)
  have HX := Lib.hid hx
  clear hx
  go_enter Try.func14, Try.ntmps14
  go_upto_region 1 with (fail)
  rw [← H0.out]
  go_wp2_with fail
  refine HF.out.mono ?_
  rintro r w1 ⟨⟨i, (⟨p, v', rfl, hp⟩ | ⟨rfl, hno⟩), rfl⟩, hb1⟩
  · exact absurd rfl (HX.out _ (List.mem_of_getElem? hp))
  · have HB1 : Hid (Below w.heap.size w w1) := HB0.out.trans (hb1.mono HB0.out.size)
    clear hb1 hno
    go_wp2
    exact bodyPost_ret (v := .tuple #[.int .i64 0, .bool false]) (by simp [results, Try.results14, go_sem]) rfl ⟨rfl, HB1.out⟩

set_option maxHeartbeats 4000000 in
theorem rnext_any (A : Option Addr) (n c : Nat) (most : Int) (x : Nat) (l : List (Nat × Int)) (w : World) (hn : n = l.length) (hR : Rs w w.heap.size A l) (hl : n ≤ 1000) :
    Calls Try.prog 22 #[rV A n c most, .int .u32 (x : Int)] w fun r w' => (∃ m : Nat, Z.Nx (l.map (·.1)) x m ∧ r = .returned (.tuple #[.int .u32 (m : Int), .bool (decide (m ≠ 0))])) ∧ Below w.heap.size w w' := by
  unfold rV
  obtain ⟨w0, hw0⟩ : ∃ w0, w0 = w.alloc (.cells #[.slice A n c, .int .i64 most] 27) := ⟨_, rfl⟩
  have hb0 : Below w.heap.size w w0 := by rw [hw0]; exact (Below.refl _ _).alloc (Nat.le_refl _) _
  have hp0 : w0.heap[w.heap.size]? = some (.cells #[.slice A n c, .int .i64 most] 27 (0, 0)) := by rw [hw0]; exact heap_alloc_new w _
  have c0 := cell_of_row w0 w.heap.size 0 _ _ _ hp0
  have c1 := cell_of_row w0 w.heap.size 1 _ _ _ hp0
  simp at c0 c1
  have HR : Hid (Rs w0 w0.heap.size A l) := (hR.below hb0).mono hb0.size
  have H0 := Lib.hid hw0
  have HB0 := Lib.hid hb0
  have HP0 := Lib.hid hp0
  have HN := Lib.hid hn
  clear hw0 hb0 hp0 hn hR
  go_enter Try.func22, Try.ntmps22
  go_upto_region 1 with (fail)
  rw [← H0.out]
  go_wp2_with fail
  go_loopw [6, 7] (fun b u wr => ∃ k m : Nat, k ≤ n ∧ u = .int .i64 (k : Int) ∧ b = .int .u32 (m : Int) ∧ Hid (Z.Nx ((l.take k).map (·.1)) x m) ∧ wr = w0) (fun _ u _ => n - (intOf u).toNat)
  case atStart => exact ⟨0, 0, by omega, rfl, rfl, .inl ⟨rfl, fun y hy => by simp at hy⟩, by first | rfl | trivial⟩
  case round =>
    obtain ⟨k, m, hk, rfl, rfl, HK, rfl⟩ := hrel
    by_cases hlt : k < n
    · obtain ⟨⟨y, v⟩, hy⟩ : ∃ e, l[k]? = some e := ⟨l[k]'(by rw [← HN.out]; exact hlt), List.getElem?_eq_getElem _⟩
      obtain ⟨b1, o1, rfl, hb1, ha1⟩ := HR.out (by have := HN.out; omega)
      have d0 := (ha1 k _ hy).1
      simp only at d0
      have hnx : (l.take (k + 1)).map (·.1) = (l.take k).map (·.1) ++ [y] := by rw [List.take_add_one, hy]; simp
      have HNX := Lib.hid hnx
      clear hy ha1 hb1 hnx
      by_cases hxy : x < y
      · by_cases hm0 : m = 0
        · subst hm0
          have HG : Hid (Z.Nx ((l.take (k + 1)).map (·.1)) x y) := by
            rcases HK.out with ⟨_, h2⟩ | ⟨h1, _⟩
            · refine .inr ⟨hxy, by rw [HNX.out]; simp, fun z hz hxz => ?_⟩
              rw [HNX.out, List.mem_append] at hz
              rcases hz with hz | hz
              · have := h2 z hz
                omega
              · simp at hz
                omega
            · omega
          go_wp2
          go_roundw
          case rel => exact ⟨k + 1, y, by omega, by go_num, rfl, HG.out, by first | rfl | trivial⟩
          case measure => simp [intOf] <;> omega
        · have hm1 : ¬ (m : Int) = 0 := by omega
          have HK2 : Hid (x < m ∧ m ∈ (l.take k).map (·.1) ∧ ∀ y ∈ (l.take k).map (·.1), x < y → m ≤ y) := by
            rcases HK.out with ⟨h1, _⟩ | h1
            · omega
            · exact h1
          by_cases hym : y < m
          · have HG : Hid (Z.Nx ((l.take (k + 1)).map (·.1)) x y) := by
              refine .inr ⟨hxy, by rw [HNX.out]; simp, fun z hz hxz => ?_⟩
              rw [HNX.out, List.mem_append] at hz
              rcases hz with hz | hz
              · have := HK2.out.2.2 z hz hxz
                omega
              · simp at hz
                omega
            go_wp2
            go_roundw
            case rel => exact ⟨k + 1, y, by omega, by go_num, rfl, HG.out, by first | rfl | trivial⟩
            case measure => simp [intOf] <;> omega
          · have HG : Hid (Z.Nx ((l.take (k + 1)).map (·.1)) x m) := by
              refine .inr ⟨HK2.out.1, by rw [HNX.out, List.mem_append]; exact .inl HK2.out.2.1, fun z hz hxz => ?_⟩
              rw [HNX.out, List.mem_append] at hz
              rcases hz with hz | hz
              · exact HK2.out.2.2 z hz hxz
              · simp at hz
                omega
            go_wp2
            go_roundw
            case rel => exact ⟨k + 1, m, by omega, by go_num, rfl, HG.out, by first | rfl | trivial⟩
            case measure => simp [intOf] <;> omega
      · have HG : Hid (Z.Nx ((l.take (k + 1)).map (·.1)) x m) := by
          rcases HK.out with ⟨h1, h2⟩ | ⟨h1, h2, h3⟩
          · refine .inl ⟨h1, fun z hz => ?_⟩
            rw [HNX.out, List.mem_append] at hz
            rcases hz with hz | hz
            · exact h2 z hz
            · simp at hz
              omega
          · refine .inr ⟨h1, by rw [HNX.out, List.mem_append]; exact .inl h2, fun z hz hxz => ?_⟩
            rw [HNX.out, List.mem_append] at hz
            rcases hz with hz | hz
            · exact h3 z hz hxz
            · simp at hz
              omega
        go_wp2
        go_roundw
        case rel => exact ⟨k + 1, m, by omega, by go_num, rfl, HG.out, by first | rfl | trivial⟩
        case measure => simp [intOf] <;> omega
    · have hkn : k = n := by omega
      subst hkn
      have HG : Hid (Z.Nx (l.map (·.1)) x m) := by have := HK.out; rwa [HN.out, List.take_length] at this
      by_cases hm0 : m = 0
      · subst hm0
        go_wp2
        exact bodyPost_ret (v := .tuple #[.int .u32 0, .bool false]) (by simp [results, Try.results22, go_sem]) rfl ⟨⟨0, HG.out, rfl⟩, HB0.out⟩
      · have hm1 : ¬ (m : Int) = 0 := by omega
        have hmd : decide (m ≠ 0) = true := by rw [decide_eq_true_iff]; exact hm0
        go_wp2
        exact bodyPost_ret (v := .tuple #[.int .u32 (m : Int), .bool true]) (by simp [results, Try.results22, go_sem]; exact hm0) rfl ⟨⟨m, HG.out, by rw [hmd]⟩, HB0.out⟩
end Go.Proofs.Ytbilkelbelimjaa.D
