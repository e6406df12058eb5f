/- Session: the document's table in memory; Find, Conn, Conns, Idle. -/
import Derived.Test.YtfgabmjnpjmmgaaSJ
namespace Go.Proofs.Ytfgabmjnpjmmgaa.T
open Go.RowKit
set_option maxRecDepth 20000
set_option linter.unusedVariables false
set_option linter.unusedSimpArgs false

theorem belowN {B n : Nat} {a w : World} (h : Below B a w) : Below B a (w.drewN n) := ⟨h.os, h.tape, h.output, h.size, h.block⟩
abbrev lC (x : Nat) (pl last : Int) : Array Value := #[.int .u32 (x : Int), .int .u32 pl, .int .i64 last]
def ic (e : Lk) : List Value := [.int .u32 (e.1 : Int), .int .u32 e.2.2, .int .i64 e.2.1]
def ir (l : List Lk) : List Value := l.flatMap ic
theorem ir_len (l : List Lk) : (ir l).length = l.length * 3 := by
  induction l with
  | nil => rfl
  | cons e l ih =>
    unfold ir at ih ⊢
    rw [List.flatMap_cons, List.length_append, ih, List.length_cons]
    simp [ic]
    omega
theorem ir_get : ∀ (l : List Lk) (i : Nat) (e : Lk) (j : Nat), l[i]? = some e → j < 3 → (ir l)[i * 3 + j]? = (ic e)[j]?
  | [], i, e, j, h, _ => by simp at h
  | x :: l, 0, e, j, h, hj => by
    simp at h
    subst h
    unfold ir
    rw [List.flatMap_cons, List.getElem?_append_left (by simp [ic]; omega)]
    simp
  | x :: l, i + 1, e, j, h, hj => by
    have ih := ir_get l i e j (by simpa using h) hj
    unfold ir at ih ⊢
    rw [List.flatMap_cons, List.getElem?_append_right (by simp [ic]; omega)]
    simp only [show (ic x).length = 3 from rfl, show (i + 1) * 3 + j - 3 = i * 3 + j by omega]
    exact ih
theorem ir_snoc (l : List Lk) (e : Lk) : ir (l ++ [e]) = ir l ++ ic e := by simp [ir]
/-- The links l are read from A on. -/
def Rs (w : World) (B : Nat) (A : Option Addr) (l : List Lk) : Prop :=
  0 < l.length → ∃ b o, A = some ⟨b, o, none⟩ ∧ b < B ∧ ∀ i e, l[i]? = some e → w.cell? ⟨b, o + i * 3, none⟩ = some (.int .u32 (e.1 : Int)) ∧ w.cell? ⟨b, o + i * 3 + 1, none⟩ = some (.int .u32 e.2.2) ∧ w.cell? ⟨b, o + i * 3 + 2, none⟩ = some (.int .i64 e.2.1)
theorem Rs.below {w W : World} {B : Nat} {A : Option Addr} {l : List Lk} (h : Rs w B A l) (hb : Below B w W) : Rs W B A l := fun hl => by
  obtain ⟨b, o, h1, h2, h3⟩ := h hl
  exact ⟨b, o, h1, h2, fun i e he => ⟨(hb.cell (p := ⟨b, _, none⟩) h2).trans (h3 i e he).1, (hb.cell (p := ⟨b, _, none⟩) h2).trans (h3 i e he).2.1, (hb.cell (p := ⟨b, _, none⟩) h2).trans (h3 i e he).2.2⟩⟩
theorem Rs.mono {w : World} {B B' : Nat} {A : Option Addr} {l : List Lk} (h : Rs w B A l) (hb : B ≤ B') : Rs w B' A l := fun hl => by
  obtain ⟨b, o, h1, h2, h3⟩ := h hl
  exact ⟨b, o, h1, Nat.lt_of_lt_of_le h2 hb, h3⟩
theorem Rs.of_own {w : World} {base m c : Nat} {A : Option Addr} {l : List Lk} (h : w.ownsRow base 62 3 (.slice A m c) m (ir l)) : Rs w w.heap.size A l := fun hl => by
  have hlen := h.1
  rw [ir_len] at hlen
  rcases h.2 with ⟨_, h0⟩ | ⟨g, cap, cur, e1, _, hh, _, _, _, ht⟩
  · omega
  · injection e1 with e1 _ _
    subst e1
    refine ⟨g, 0, rfl, lt_of_block hh, fun i e he => ?_⟩
    have hil := (List.getElem?_eq_some_iff.1 he).1
    have hc : ∀ j u, j < 3 → (ic e)[j]? = some u → w.cell? ⟨g, 0 + i * 3 + j, none⟩ = some u := fun j u hj hu => by
      rw [cell_of_row w g _ _ _ _ hh, ← Array.getElem?_toList, Nat.zero_add, ← hu, ← ir_get l i e j he hj, ← ht, List.getElem?_take, if_pos (by omega)]
    exact ⟨hc 0 _ (by decide) rfl, hc 1 _ (by decide) rfl, hc 2 _ (by decide) rfl⟩
/-- The document's table, as a value. -/
abbrev rC (A : Option Addr) (n c : Nat) (most idle : Int) : Array Value := #[.slice A n c, .int .i64 most, .int .i64 idle]
abbrev rV (A : Option Addr) (n c : Nat) (most idle : Int) : Value := .agg (rC A n c most idle)

set_option maxHeartbeats 2000000 in
theorem rfind_there (A : Option Addr) (n c : Nat) (most idle : Int) (l : List Lk) (j x : Nat) (y : Mk) (w : World) (hn : n = l.length) (hR : Rs w w.heap.size A l) (hl : n ≤ 100) (hj : l[j]? = some (x, y)) (hno : ∀ (i : Nat) e, i < j → l[i]? = some e → e.1 ≠ x) :
    Calls Try.prog 28 #[rV A n c most idle, .int .u32 (x : Int)] w fun r w' => r = .returned (.int .i64 (j : Int)) ∧ Below w.heap.size w w' := by
  obtain ⟨w0, hw0⟩ : ∃ w0, w0 = w.alloc (.cells (rC A n c most idle) 27) := ⟨_, rfl⟩
  have hb0 : Below w.heap.size w w0 := by rw [hw0]; exact (Below.refl _ _).alloc (Nat.le_refl _) _
  have hq0 : w0.heap[w.heap.size]? = some (.cells (rC A n c most idle) 27 (0, 0)) := by rw [hw0]; exact heap_alloc_new w _
  have HS0 : Hid (w0.heap.size = w.heap.size + 1) := by rw [hw0]; simp [Hid]
  have q0 := cell_of_row w0 w.heap.size 0 _ _ _ hq0
  simp at q0
  have HRR : Hid (Rs w0 w.heap.size A l) := hR.below hb0
  have HB0 := Lib.hid hb0
  have H0 := Lib.hid hw0
  have HN := Lib.hid hn
  have HJ := Lib.hid hj
  have HNO := Lib.hid hno
  have hjn : j < n := by rw [hn]; exact (List.getElem?_eq_some_iff.1 hj).1
  clear hw0 hb0 hq0 hn hR hj hno
  go_enter Try.func28, Try.ntmps28
  go_upto_region 1 with (fail)
  rw [← H0.out]
  go_wp2_with fail
  go_loop [5] (fun i => ∃ k : Nat, k ≤ j ∧ i = .int .i64 (k : Int)) (fun i => j + 1 - (intOf i).toNat)
  case atStart => exact ⟨0, Nat.zero_le _, rfl⟩
  case round =>
    obtain ⟨k, hk, rfl⟩ := hrel
    have hlt : k < n := by omega
    by_cases hkj : k = j
    · subst hkj
      obtain ⟨b1, o1, rfl, hb1, ha1⟩ := HRR.out (by have := HN.out; omega)
      obtain ⟨d0, d1, d2⟩ := ha1 k _ HJ.out
      simp only at d0 d1 d2
      clear ha1 hb1 d1 d2
      go_wp2
      go_ret
      exact ⟨rfl, HB0.out⟩
    · obtain ⟨⟨s, a, p⟩, hy⟩ : ∃ e, l[k]? = some e := ⟨l[k]'(by rw [← HN.out]; exact hlt), List.getElem?_eq_getElem _⟩
      obtain ⟨b1, o1, rfl, hb1, ha1⟩ := HRR.out (by have := HN.out; omega)
      obtain ⟨d0, d1, d2⟩ := ha1 k _ hy
      simp only at d0 d1 d2
      have hne := HNO.out k _ (by omega) hy
      have ht : ¬ (s : Int) = (x : Int) := by simp only at hne; omega
      clear ha1 hb1 d1 d2 hy hne
      go_wp2
      go_round
      case rel => exact ⟨k + 1, by omega, by go_num⟩
      case measure => simp [intOf] <;> omega
set_option maxHeartbeats 2000000 in
theorem rfind_none (A : Option Addr) (n c : Nat) (most idle : Int) (l : List Lk) (x : Nat) (w : World) (hn : n = l.length) (hR : Rs w w.heap.size A l) (hl : n ≤ 100) (hno : ∀ e ∈ l, e.1 ≠ x) :
    Calls Try.prog 28 #[rV A n c most idle, .int .u32 (x : Int)] w fun r w' => r = .returned (.int .i64 (-1)) ∧ Below w.heap.size w w' := by
  obtain ⟨w0, hw0⟩ : ∃ w0, w0 = w.alloc (.cells (rC A n c most idle) 27) := ⟨_, rfl⟩
  have hb0 : Below w.heap.size w w0 := by rw [hw0]; exact (Below.refl _ _).alloc (Nat.le_refl _) _
  have hq0 : w0.heap[w.heap.size]? = some (.cells (rC A n c most idle) 27 (0, 0)) := by rw [hw0]; exact heap_alloc_new w _
  have HS0 : Hid (w0.heap.size = w.heap.size + 1) := by rw [hw0]; simp [Hid]
  have q0 := cell_of_row w0 w.heap.size 0 _ _ _ hq0
  simp at q0
  have HRR : Hid (Rs w0 w.heap.size A l) := hR.below hb0
  have HB0 := Lib.hid hb0
  have H0 := Lib.hid hw0
  have HN := Lib.hid hn
  have HNO := Lib.hid hno
  clear hw0 hb0 hq0 hn hR hno
  go_enter Try.func28, Try.ntmps28
  go_upto_region 1 with (fail)
  rw [← H0.out]
  go_wp2_with fail
  go_loop [5] (fun i => ∃ k : Nat, k ≤ n ∧ i = .int .i64 (k : Int)) (fun i => n - (intOf i).toNat)
  case atStart => exact ⟨0, Nat.zero_le _, rfl⟩
  case round =>
    obtain ⟨k, hk, rfl⟩ := hrel
    by_cases hlt : k < n
    · have hne' := HNO.out
      obtain ⟨⟨s, a, p⟩, hy⟩ : ∃ e, l[k]? = some e := ⟨l[k]'(by rw [← HN.out]; exact hlt), List.getElem?_eq_getElem _⟩
      obtain ⟨b1, o1, rfl, hb1, ha1⟩ := HRR.out (by have := HN.out; omega)
      obtain ⟨d0, d1, d2⟩ := ha1 k _ hy
      simp only at d0 d1 d2
      have hne := hne' _ (List.mem_of_getElem? hy)
      have ht : ¬ (s : Int) = (x : Int) := by simp only at hne; omega
      clear ha1 hb1 d1 d2 hy hne hne'
      go_wp2
      go_round
      case rel => exact ⟨k + 1, by omega, by go_num⟩
      case measure => simp [intOf] <;> omega
    · obtain rfl : k = n := by omega
      go_wp2
      go_ret
      exact ⟨rfl, HB0.out⟩
set_option maxHeartbeats 2000000 in
theorem rconn_any (A : Option Addr) (n c : Nat) (most idle : Int) (l : List Lk) (pl : Int) (w : World) (hn : n = l.length) (hR : Rs w w.heap.size A l) (hl : n ≤ 100) (hpl : ¬ pl = 0) :
    Calls Try.prog 33 #[rV A n c most idle, .int .u32 pl] w fun r w' => r = .returned (.int .u32 (connQ pl l : Nat)) ∧ Below w.heap.size w w' := by
  obtain ⟨w0, hw0⟩ : ∃ w0, w0 = w.alloc (.cells (rC A n c most idle) 27) := ⟨_, rfl⟩
  have hb0 : Below w.heap.size w w0 := by rw [hw0]; exact (Below.refl _ _).alloc (Nat.le_refl _) _
  have hq0 : w0.heap[w.heap.size]? = some (.cells (rC A n c most idle) 27 (0, 0)) := by rw [hw0]; exact heap_alloc_new w _
  have HS0 : Hid (w0.heap.size = w.heap.size + 1) := by rw [hw0]; simp [Hid]
  have q0 := cell_of_row w0 w.heap.size 0 _ _ _ hq0
  simp at q0
  have HRR : Hid (Rs w0 w.heap.size A l) := hR.below hb0
  have HB0 := Lib.hid hb0
  have H0 := Lib.hid hw0
  have HN := Lib.hid hn
  obtain ⟨R, hRR⟩ : ∃ R, R = connQ pl l := ⟨_, rfl⟩
  rw [← hRR]
  have HRQ := Lib.hid hRR
  clear hw0 hb0 hq0 hn hR hRR
  have hpb : (pl != 0) = true := by simp [hpl]
  go_enter Try.func33, Try.ntmps33
  go_upto_region 1 with (fail)
  rw [← H0.out]
  go_wp2_with fail
  go_loop [5] (fun i => ∃ k : Nat, k ≤ n ∧ i = .int .i64 (k : Int) ∧ Hid (∀ x ∈ l.take k, x.2.2 ≠ pl)) (fun i => n - (intOf i).toNat)
  case atStart => exact ⟨0, Nat.zero_le _, rfl, by simp [Hid]⟩
  case round =>
    obtain ⟨k, hk, rfl, HK⟩ := hrel
    by_cases hlt : k < n
    · have hdum : True := trivial
      obtain ⟨⟨s, a, p⟩, hy⟩ : ∃ e, l[k]? = some e := ⟨l[k]'(by rw [← HN.out]; exact hlt), List.getElem?_eq_getElem _⟩
      obtain ⟨b1, o1, rfl, hb1, ha1⟩ := HRR.out (by have := HN.out; omega)
      obtain ⟨d0, d1, d2⟩ := ha1 k _ hy
      simp only at d0 d1 d2
      have HY := Lib.hid hy
      clear ha1 hb1 d2 hy hdum
      by_cases hp : p = pl
      · have HF : Hid (R = s) := by simp only [Hid]; rw [HRQ.out]; exact connQ_at pl l k _ HY.out hp HK.out
        subst hp
        go_wp2
        go_ret
        exact ⟨by rw [HF.out]; rfl, HB0.out⟩
      · go_wp2
        go_round
        case rel =>
          refine ⟨k + 1, by omega, by go_num, fun z hz => ?_⟩
          rw [List.take_add_one, HY.out] at hz
          rcases List.mem_append.1 hz with hz | hz
          · exact HK.out z hz
          · simp at hz
            subst hz
            exact hp
        case measure => simp [intOf] <;> omega
    · obtain rfl : k = n := by omega
      have HF : Hid (R = 0) := by
        simp only [Hid]
        rw [HRQ.out]
        exact connQ_none pl l fun z hz => HK.out z (by rw [List.take_of_length_le (by rw [← HN.out]; exact Nat.le_refl _)]; exact hz)
      go_wp2
      go_ret
      exact ⟨by rw [HF.out]; rfl, HB0.out⟩
set_option maxHeartbeats 2000000 in
theorem rconn_zero (A : Option Addr) (n c : Nat) (most idle : Int) (l : List Lk) (w : World) (hn : n = l.length) (hR : Rs w w.heap.size A l) (hl : n ≤ 100) :
    Calls Try.prog 33 #[rV A n c most idle, .int .u32 0] w fun r w' => r = .returned (.int .u32 0) ∧ Below w.heap.size w w' := by
  obtain ⟨w0, hw0⟩ : ∃ w0, w0 = w.alloc (.cells (rC A n c most idle) 27) := ⟨_, rfl⟩
  have hb0 : Below w.heap.size w w0 := by rw [hw0]; exact (Below.refl _ _).alloc (Nat.le_refl _) _
  have hq0 : w0.heap[w.heap.size]? = some (.cells (rC A n c most idle) 27 (0, 0)) := by rw [hw0]; exact heap_alloc_new w _
  have HS0 : Hid (w0.heap.size = w.heap.size + 1) := by rw [hw0]; simp [Hid]
  have q0 := cell_of_row w0 w.heap.size 0 _ _ _ hq0
  simp at q0
  have HRR : Hid (Rs w0 w.heap.size A l) := hR.below hb0
  have HB0 := Lib.hid hb0
  have H0 := Lib.hid hw0
  have HN := Lib.hid hn
  clear hw0 hb0 hq0 hn hR
  go_enter Try.func33, Try.ntmps33
  go_upto_region 1 with (fail)
  rw [← H0.out]
  go_wp2_with fail
  go_loop [5] (fun i => ∃ k : Nat, k ≤ n ∧ i = .int .i64 (k : Int)) (fun i => n - (intOf i).toNat)
  case atStart => exact ⟨0, Nat.zero_le _, rfl⟩
  case round =>
    obtain ⟨k, hk, rfl⟩ := hrel
    by_cases hlt : k < n
    · go_wp2
      go_round
      case rel => exact ⟨k + 1, by omega, by go_num⟩
      case measure => simp [intOf] <;> omega
    · obtain rfl : k = n := by omega
      go_wp2
      go_ret
      exact ⟨rfl, HB0.out⟩
theorem connz (v : Value) (w : World) : Calls Try.prog 20 #[v, .int .u32 0] w fun r w' => r = .returned (.int .u32 0) ∧ Below w.heap.size w w' := by
  go_enter Try.func20, Try.ntmps20
  go_wp2
  go_ret
  exact ⟨rfl, Below.refl _ _⟩
theorem own_base {w : World} {base base' T m S : Nat} {v : Value} {xs : List Value} (h : w.ownsRow base T S v m xs) (hb : base' ≤ base) : w.ownsRow base' T S v m xs := by
  refine ⟨h.1, ?_⟩
  rcases h.2 with hn | ⟨g, cap, cur, rfl, hbg, rest⟩
  · exact .inl hn
  · exact .inr ⟨g, cap, cur, rfl, Nat.le_trans hb hbg, rest⟩
set_option maxHeartbeats 4000000 in
theorem rconns_any (A : Option Addr) (n c : Nat) (most idle : Int) (l : List Lk) (w : World) (hn : n = l.length) (hR : Rs w w.heap.size A l) (hl : n ≤ 100) :
    Calls Try.prog 36 #[rV A n c most idle] w fun r w' => ∃ v', r = .returned v' ∧ w'.ownsRow w.heap.size 28 1 v' (l.map Prod.fst).length (un (l.map Prod.fst)) ∧ Below w.heap.size w w' := by
  obtain ⟨w0, hw0⟩ : ∃ w0, w0 = w.alloc (.cells (rC A n c most idle) 27) := ⟨_, rfl⟩
  have hb0 : Below w.heap.size w w0 := by rw [hw0]; exact (Below.refl _ _).alloc (Nat.le_refl _) _
  have hq0 : w0.heap[w.heap.size]? = some (.cells (rC A n c most idle) 27 (0, 0)) := by rw [hw0]; exact heap_alloc_new w _
  have HS0 : Hid (w0.heap.size = w.heap.size + 1) := by rw [hw0]; simp [Hid]
  have q0 := cell_of_row w0 w.heap.size 0 _ _ _ hq0
  simp at q0
  have HRR : Hid (Rs w0 w.heap.size A l) := hR.below hb0
  have HB0 := Lib.hid hb0
  have H0 := Lib.hid hw0
  have HN := Lib.hid hn
  have HBr : Hid (Below w0.heap.size w0 w0) := Below.refl _ _
  have HCC : Hid (∀ W, Below w0.heap.size w0 W → W.cell? ⟨w.heap.size, 0, none⟩ = some (.slice A n c)) := fun W hW => cell_of_row W _ 0 _ _ _ ((hW.block _ (lt_of_block hq0)).trans hq0)
  clear hw0 hb0 hq0 hn hR
  go_enter Try.func36, Try.ntmps36
  go_upto_region 1 with (fail)
  rw [← H0.out]
  go_wp2_with fail
  go_loopw [3, 4] (fun o u wr => ∃ (k : Nat), k ≤ n ∧ u = .int .i64 (k : Int) ∧ Hid (wr.ownsRow w0.heap.size 28 1 o k (un ((l.map Prod.fst).take k)) ∧ Below w0.heap.size w0 wr)) (fun _ u _ => n - (intOf u).toNat)
  case atStart => exact ⟨0, by omega, rfl, World.ownsRow_nil w0 _ 28 1, HBr.out⟩
  case round =>
    obtain ⟨k, hk, rfl, HV⟩ := hrel
    obtain ⟨A2, c2, rfl⟩ := own_form1 HV.out.1
    clear q0
    have q0 := HCC.out wr HV.out.2
    by_cases hlt : k < n
    · obtain ⟨⟨s, a, p⟩, hy⟩ : ∃ e, l[k]? = some e := ⟨l[k]'(by rw [← HN.out]; exact hlt), List.getElem?_eq_getElem _⟩
      obtain ⟨b1, o1, rfl, hb1, ha1⟩ := HRR.out (by have := HN.out; omega)
      have hbw : Below w.heap.size w0 wr := HV.out.2.mono (by have := HS0.out; omega)
      have d0 := (hbw.cell (p := ⟨b1, _, none⟩) hb1).trans (ha1 k _ hy).1
      simp only at d0
      have HTK : Hid (un ((l.map Prod.fst).take (k + 1)) = un ((l.map Prod.fst).take k) ++ [.int .u32 (s : Int)]) := by simp only [Hid]; rw [List.take_add_one, List.getElem?_map, hy]; simp [un]
      obtain ⟨w3, hw3⟩ : ∃ w3, w3 = wr.alloc (.cells #[.int .u32 (s : Int)] 28) := ⟨_, rfl⟩
      have hg3 : w3.heap[wr.heap.size]? = some (.cells #[.int .u32 (s : Int)] 28 (0, 0)) := by rw [hw3]; exact heap_alloc_new wr _
      have hb3 : Below wr.heap.size wr w3 := by rw [hw3]; exact (Below.refl _ _).alloc (Nat.le_refl _) _
      have HO3 : Hid (w3.ownsRow w0.heap.size 28 1 (.slice A2 k c2) k (un ((l.map Prod.fst).take k))) := own_after HV.out.1 fun g hg => hb3.block g (ownlt HV.out.1 g hg).2
      have HB3 : Hid (Below w0.heap.size w0 w3) := HV.out.2.trans (hb3.mono HV.out.2.size)
      have H3 := Lib.hid hw3
      have ht : Hid (∀ W : World, W = w3 → W.ownsRow w0.heap.size 28 1 (.slice A2 k c2) k (un ((l.map Prod.fst).take k)) ∧ W.heap[wr.heap.size]? = some (.cells #[.int .u32 (s : Int)] 28 (0, 0)) ∧ w0.heap.size ≤ W.heap.size) := fun W e => by rw [e]; exact ⟨HO3.out, hg3, HB3.out.size⟩
      clear hg3 hb3 hw3 hy ha1 hb1 hbw
      go_wp2_with (at_builtin; refine wpList_append_u32 rfl (.tmp 12) (.tmp 19) rfl w0.heap.size wr.heap.size (.slice A2 k c2) k (un ((l.map Prod.fst).take k)) s rfl rfl (ht.out _ H3.out.symm).1 (ht.out _ H3.out.symm).2.1 (by omega) (ht.out _ H3.out.symm).2.2 ?_; intro v4 w4 hown4 hg4; rw [← H3.out] at hg4; rw [← HTK.out] at hown4; obtain ⟨A4, c4, rfl⟩ := own_form1 hown4; have HO4 := Lib.hid hown4; have HB4 : Hid (Below w0.heap.size w0 w4) := HB3.out.grown hg4 HB3.out.size (fun g h => (ownlt HO3.out g h).1); clear hown4 hg4)
      go_roundw
      case rel => exact ⟨k + 1, by omega, by go_num, HO4.out, HB4.out⟩
      case measure => simp [intOf] <;> omega
    · obtain rfl : k = n := by omega
      have HRES : Hid (wr.ownsRow w.heap.size 28 1 (.slice A2 k c2) (l.map Prod.fst).length (un (l.map Prod.fst)) ∧ Below w.heap.size w wr) := by
        have h1 := HV.out
        have e : (l.map Prod.fst).length = k := by rw [List.length_map]; exact HN.out.symm
        rw [List.take_of_length_le (by rw [e]; exact Nat.le_refl _)] at h1
        rw [e]
        exact ⟨own_base h1.1 HB0.out.size, HB0.out.trans (h1.2.mono HB0.out.size)⟩
      go_wp2
      go_ret
      exact ⟨_, rfl, HRES.out.1, HRES.out.2⟩
set_option maxHeartbeats 2000000 in
theorem radd_any (a d : Int) (w : World) (ha : inI a) (hd0 : inI d) : Calls Try.prog 49 #[.int .i64 a, .int .i64 d] w fun r w' => r = .returned (.int .i64 (addP a d)) ∧ w' = w := by
  obtain ⟨ha1, ha2⟩ := ha
  obtain ⟨hd1, hd2⟩ := hd0
  by_cases hd : d ≤ 0
  · have hap : addP a d = a := by unfold addP; omega
    rw [hap]
    go_enter Try.func49, Try.ntmps49
    go_wp2
    go_ret
    exact ⟨rfl, rfl⟩
  · by_cases h : 9223372036854775807 - d < a
    · have hap : addP a d = 9223372036854775807 := by unfold addP; omega
      rw [hap]
      have g1 : 0 < a := by omega
      have g2 : 9223372036854775807 - a < d := by omega
      go_enter Try.func49, Try.ntmps49
      go_wp2
      go_ret
      exact ⟨rfl, rfl⟩
    · have hap : addP a d = a + d := by unfold addP; omega
      rw [hap]
      by_cases g1 : 0 < a
      · have g2 : ¬ 9223372036854775807 - a < d := by omega
        go_enter Try.func49, Try.ntmps49
        go_wp2
        go_ret
        exact ⟨rfl, rfl⟩
      · go_enter Try.func49, Try.ntmps49
        go_wp2
        go_ret
        exact ⟨rfl, rfl⟩
set_option maxHeartbeats 8000000 in
theorem ridle_any (A : Option Addr) (n c : Nat) (most idle : Int) (l : List Lk) (now : Int) (w : World) (hn : n = l.length) (hR : Rs w w.heap.size A l) (hl : n ≤ 100) (hI : ∀ e ∈ l, inI e.2.1) (hb : inI idle) (hnow : inI now) :
    Calls Try.prog 38 #[rV A n c most idle, .int .i64 now] w fun r w' => ∃ v', r = .returned v' ∧ w'.ownsRow w.heap.size 28 1 v' (idleQ idle now l).length (un (idleQ idle now l)) ∧ Below w.heap.size w w' := by
  obtain ⟨w0, hw0⟩ : ∃ w0, w0 = w.alloc (.cells (rC A n c most idle) 27) := ⟨_, rfl⟩
  have hb0 : Below w.heap.size w w0 := by rw [hw0]; exact (Below.refl _ _).alloc (Nat.le_refl _) _
  have hq0 : w0.heap[w.heap.size]? = some (.cells (rC A n c most idle) 27 (0, 0)) := by rw [hw0]; exact heap_alloc_new w _
  have HS0 : Hid (w0.heap.size = w.heap.size + 1) := by rw [hw0]; simp [Hid]
  have q0 := cell_of_row w0 w.heap.size 0 _ _ _ hq0
  simp at q0
  have HRR : Hid (Rs w0 w.heap.size A l) := hR.below hb0
  have HB0 := Lib.hid hb0
  have H0 := Lib.hid hw0
  have HN := Lib.hid hn
  have HBr : Hid (Below w0.heap.size w0 w0) := Below.refl _ _
  have HCC : Hid (∀ W, Below w0.heap.size w0 W → W.cell? ⟨w.heap.size, 0, none⟩ = some (.slice A n c) ∧ W.cell? ⟨w.heap.size, 2, none⟩ = some (.int .i64 idle)) := fun W hW => by
    have e := (hW.block _ (lt_of_block hq0)).trans hq0
    exact ⟨cell_of_row W _ 0 _ _ _ e, cell_of_row W _ 2 _ _ _ e⟩
  have HAD0 : Hid (∀ (k : Nat) s a p, l[k]? = some (s, a, p) → inI a ∧ ∀ W, Calls Try.prog 49 #[.int .i64 a, .int .i64 idle] W fun r w' => r = .returned (.int .i64 (addP a idle)) ∧ w' = W) := fun k s a p hk => ⟨hI _ (List.mem_of_getElem? hk), fun W => radd_any a idle W (hI _ (List.mem_of_getElem? hk)) hb⟩
  clear hw0 hb0 hq0 hn hR hI
  obtain ⟨hb1, hb2⟩ := hb
  obtain ⟨hn1, hn2⟩ := hnow
  go_enter Try.func38, Try.ntmps38
  go_upto_region 1 with (fail)
  rw [← H0.out]
  go_wp2_with fail
  go_loopw [5, 6] (fun o u wr => ∃ (k : Nat), k ≤ n ∧ u = .int .i64 (k : Int) ∧ Hid (wr.ownsRow w0.heap.size 28 1 o (idleQ idle now (l.take k)).length (un (idleQ idle now (l.take k))) ∧ Below w0.heap.size w0 wr)) (fun _ u _ => n - (intOf u).toNat)
  case atStart => exact ⟨0, by omega, rfl, World.ownsRow_nil w0 _ 28 1, HBr.out⟩
  case round =>
    obtain ⟨k, hk, rfl, HV⟩ := hrel
    obtain ⟨A2, c2, rfl⟩ := own_form1 HV.out.1
    clear q0
    obtain ⟨q0, q2⟩ := HCC.out wr HV.out.2
    by_cases hlt : k < n
    · obtain ⟨⟨s, a, p⟩, hy⟩ : ∃ e, l[k]? = some e := ⟨l[k]'(by rw [← HN.out]; exact hlt), List.getElem?_eq_getElem _⟩
      obtain ⟨b1, o1, rfl, hb1', ha1⟩ := HRR.out (by have := HN.out; omega)
      have hbw : Below w.heap.size w0 wr := HV.out.2.mono (by have := HS0.out; omega)
      have d0 := (hbw.cell (p := ⟨b1, _, none⟩) hb1').trans (ha1 k _ hy).1
      have d2 := (hbw.cell (p := ⟨b1, _, none⟩) hb1').trans (ha1 k _ hy).2.2
      simp only at d0 d2
      obtain ⟨⟨ha1', ha2'⟩, hAD⟩ := HAD0.out k s a p hy
      obtain ⟨D, hD⟩ : ∃ D, D = addP a idle := ⟨_, rfl⟩
      rw [← hD] at hAD
      have HAD := Lib.hid hAD
      have HTK : Hid (idleQ idle now (l.take (k + 1)) = idleQ idle now (l.take k) ++ if D ≤ now then [s] else []) := by simp only [Hid]; rw [idleQ_snoc idle now l k _ hy, hD]
      obtain ⟨mm, hm⟩ : ∃ mm, mm = (idleQ idle now (l.take k)).length := ⟨_, rfl⟩
      have hmk : mm ≤ k := by rw [hm]; exact Nat.le_trans (idleQ_len _ _ _) (by rw [List.length_take]; omega)
      rw [← hm] at HV ⊢
      have HMM := Lib.hid hm
      clear hy hm hD hAD ha1 hb1' hbw
      by_cases hDn : D ≤ now
      · go_upto_region 5 with (fail)
        go_quiet ((go_at_call 49; exact Calls.quiet_of_same (HAD.out _)))
        obtain ⟨w3, hw3⟩ : ∃ w3, w3 = (wr.drewN nq).alloc (.cells #[.int .u32 (s : Int)] 28) := ⟨_, rfl⟩
        have hg3 : w3.heap[wr.heap.size]? = some (.cells #[.int .u32 (s : Int)] 28 (0, 0)) := by rw [hw3]; exact heap_alloc_new (wr.drewN nq) _
        have hb3 : Below wr.heap.size wr w3 := by rw [hw3]; exact (belowN (Below.refl _ _)).alloc (Nat.le_refl _) _
        have HO3 : Hid (w3.ownsRow w0.heap.size 28 1 (.slice A2 mm c2) mm (un (idleQ idle now (l.take k)))) := own_after HV.out.1 fun g hg => hb3.block g (ownlt HV.out.1 g hg).2
        have HB3 : Hid (Below w0.heap.size w0 w3) := HV.out.2.trans (hb3.mono HV.out.2.size)
        have H3 := Lib.hid hw3
        have ht : Hid (∀ W : World, W = w3 → W.ownsRow w0.heap.size 28 1 (.slice A2 mm c2) mm (un (idleQ idle now (l.take k))) ∧ W.heap[wr.heap.size]? = some (.cells #[.int .u32 (s : Int)] 28 (0, 0)) ∧ w0.heap.size ≤ W.heap.size) := fun W e => by rw [e]; exact ⟨HO3.out, hg3, HB3.out.size⟩
        clear hg3 hb3 hw3
        go_wp2_with (at_builtin; refine wpList_append_u32 rfl (.tmp 25) (.tmp 32) rfl w0.heap.size wr.heap.size (.slice A2 mm c2) mm (un (idleQ idle now (l.take k))) s rfl rfl (ht.out _ H3.out.symm).1 (ht.out _ H3.out.symm).2.1 (by omega) (ht.out _ H3.out.symm).2.2 ?_; intro v4 w4 hown4 hg4; rw [← H3.out] at hg4; obtain ⟨A4, c4, rfl⟩ := own_form1 hown4; have HO4 := Lib.hid hown4; have HB4 : Hid (Below w0.heap.size w0 w4) := HB3.out.grown hg4 HB3.out.size (fun g h => (ownlt HO3.out g h).1); clear hown4 hg4)
        go_roundw
        case rel => exact ⟨k + 1, by omega, by go_num, by
          simp only [Hid]
          rw [HTK.out, if_pos hDn]
          simp only [List.length_append, List.length_cons, List.length_nil]
          rw [← HMM.out]
          have e : un (idleQ idle now (l.take k) ++ [s]) = un (idleQ idle now (l.take k)) ++ [.int .u32 (s : Int)] := by simp [un]
          rw [e]
          exact ⟨HO4.out, HB4.out⟩⟩
        case measure => simp [intOf] <;> omega
      · go_upto_region 5 with (fail)
        go_quiet ((go_at_call 49; exact Calls.quiet_of_same (HAD.out _)))
        go_wp2_with fail
        go_roundw
        case rel => exact ⟨k + 1, by omega, by go_num, by
          simp only [Hid]
          rw [HTK.out, if_neg hDn, List.append_nil, ← HMM.out]
          exact ⟨HV.out.1, belowN HV.out.2⟩⟩
        case measure => simp [intOf] <;> omega
    · obtain rfl : k = n := by omega
      have e : l.take k = l := List.take_of_length_le (by rw [← HN.out]; exact Nat.le_refl _)
      have HRES : Hid (wr.ownsRow w.heap.size 28 1 (.slice A2 ((idleQ idle now (l.take k))).length c2) (idleQ idle now l).length (un (idleQ idle now l)) ∧ Below w.heap.size w wr) := by
        have h1 := HV.out
        rw [e] at h1 ⊢
        exact ⟨own_base h1.1 HB0.out.size, HB0.out.trans (h1.2.mono HB0.out.size)⟩
      clear e
      go_wp2
      go_ret
      exact ⟨_, rfl, HRES.out.1, HRES.out.2⟩
end Go.Proofs.Ytfgabmjnpjmmgaa.T
