/- Ready: the document's checks in memory; has, without, ids, of, get. -/
import Derived.Test.YtemjmnpclknfaaaQ6
import Derived.Test.YtemjmnpclknfaaaQ7
namespace Go.Proofs.Ytemjmnpclknfaaa.P
open Go.RowKit
set_option maxRecDepth 20000
set_option linter.unusedVariables false
set_option linter.unusedSimpArgs false

/-- The document's parties l are read from A on. -/
def Dr (w : World) (R : Nat) (vi : Value) (A : Option Addr) (L : List Pt) : Prop := 0 < L.length → ∃ b o, A = some ⟨b, o, none⟩ ∧ (∃ cur, w.heap[b]? = some (.cells cur 36 (0, 0))) ∧ ∀ (i : Nat) (p : Pt), L[i]? = some p → ∃ m v : Sl, (w.cell? ⟨b, o + i * 4, none⟩ = some (.int .u32 (p.id : Int)) ∧ w.cell? ⟨b, o + i * 4 + 1, none⟩ = some (.slice m.a m.n m.c) ∧ w.cell? ⟨b, o + i * 4 + 2, none⟩ = some (.slice v.a v.n v.c) ∧ w.cell? ⟨b, o + i * 4 + 3, none⟩ = some (.int .i64 p.ld)) ∧ Fl w R vi m p.mem ∧ Fl w R vi v p.inv
theorem Dr.nil {w : World} {R : Nat} {vi : Value} {A : Option Addr} : Dr w R vi A [] := fun h => absurd h (by simp)
theorem Dr.stp {w w' : World} {R : Nat} {vi vi' : Value} {A : Option Addr} {L : List Pt} (h : Dr w R vi A L) (hs : Stp R vi vi' w w') : Dr w' R vi' A L := fun hl => by
  obtain ⟨b, o, e1, ⟨cur, e2⟩, e3⟩ := h hl
  have k := hs.keep b cur 36 e2 (by decide) (by decide) (fun e => absurd e (by decide))
  refine ⟨b, o, e1, ⟨cur, k.trans e2⟩, fun i p hp => ?_⟩
  obtain ⟨m, v, ⟨c0, c1, c2, c3⟩, f1, f2⟩ := e3 i p hp
  exact ⟨m, v, ⟨(World.cell?_of_block k).trans c0, (World.cell?_of_block k).trans c1, (World.cell?_of_block k).trans c2, (World.cell?_of_block k).trans c3⟩, f1.stp hs, f2.stp hs⟩
theorem Dr.after {w w' : World} {R : Nat} {vi : Value} {A : Option Addr} {L : List Pt} (h : Dr w R vi A L) (hb : Below w.heap.size w w') : Dr w' R vi A L := fun hl => by
  obtain ⟨b, o, e1, ⟨cur, e2⟩, e3⟩ := h hl
  have k := hb.block b (lt_of_block e2)
  refine ⟨b, o, e1, ⟨cur, k.trans e2⟩, fun i p hp => ?_⟩
  obtain ⟨m, v, ⟨c0, c1, c2, c3⟩, f1, f2⟩ := e3 i p hp
  exact ⟨m, v, ⟨(World.cell?_of_block k).trans c0, (World.cell?_of_block k).trans c1, (World.cell?_of_block k).trans c2, (World.cell?_of_block k).trans c3⟩, f1.after hb, f2.after hb⟩
set_option maxHeartbeats 4000000 in
theorem has_any (A : Option Addr) (n c : Nat) (l : List Nat) (p : Nat) (w : World) (hn : n = l.length) (hE : Rn w A l) (hl : n ≤ 1000) :
    Calls Try.prog 42 #[.slice A n c, .int .u32 (p : Int)] w fun r w' => r = .returned (.bool (decide (p ∈ l))) ∧ w' = w := by
  have HE := Lib.hid hE
  have HN := Lib.hid hn
  clear hE hn
  obtain ⟨t, ht⟩ : ∃ t, t = decide (p ∈ l) := ⟨_, rfl⟩
  have HT := Lib.hid ht
  rw [← ht]
  clear ht
  go_enter Try.func42, Try.ntmps42
  go_wp2_with fail
  go_loopw [5] (fun u wr => ∃ k : Nat, k ≤ n ∧ u = .int .i64 (k : Int) ∧ Hid (p ∉ l.take k) ∧ wr = w) (fun u _ => n - (intOf u).toNat)
  case atStart => exact ⟨0, by omega, rfl, (by simp [Hid]), by first | rfl | trivial⟩
  case round =>
    obtain ⟨k, hk, rfl, HV, rfl⟩ := hrel
    by_cases hlt : k < n
    · obtain ⟨e, hy⟩ : ∃ e, l[k]? = some e := ⟨l[k]'(by rw [← HN.out]; exact hlt), List.getElem?_eq_getElem _⟩
      obtain ⟨b1, o1, rfl, hb1, ha1⟩ := (HE.out) (by have := HN.out; omega)
      have d0 := ha1 k _ hy
      have HY := Lib.hid hy
      clear ha1 hy hb1
      by_cases hpe : p = e
      · subst hpe
        have et : t = true := by rw [HT.out, decide_eq_true_iff]; exact List.mem_of_getElem? HY.out
        subst et
        go_wp2
        go_ret
        exact ⟨rfl, by first | rfl | trivial⟩
      · have hpe' : ¬((e : Int) = (p : Int)) := by omega
        have HNM : Hid (p ∉ l.take (k + 1)) := by
          simp only [Hid]
          rw [List.take_add_one, HY.out]
          intro h
          rcases List.mem_append.1 h with h | h
          · exact HV.out h
          · simp at h
            exact hpe h
        clear hpe
        go_wp2
        go_roundw
        case rel => exact ⟨k + 1, by omega, by go_num, HNM, by first | rfl | trivial⟩
        case measure => simp [intOf] <;> omega
    · have hkn : k = n := by omega
      subst hkn
      have et : t = false := by
        rw [HT.out, decide_eq_false_iff_not]
        have h := HV.out
        rw [List.take_of_length_le (by rw [← HN.out]; omega)] at h
        exact h
      subst et
      go_wp2
      go_ret
      exact ⟨rfl, by first | rfl | trivial⟩
set_option maxHeartbeats 4000000 in
theorem dids_any (R : Nat) (vi : Value) (A : Option Addr) (n c : Nat) (L : List Pt) (w : World) (hn : n = L.length) (hE : Dr w R vi A L) (hl : n ≤ 100) :
    Calls Try.prog 17 #[.slice A n c] w fun r w' => ∃ A' c', r = .returned (.slice A' n c') ∧ w'.ownsRow w.heap.size 26 1 (.slice A' n c') n (un (L.map (·.id))) ∧ Below w.heap.size w w' := by
  have HE := Lib.hid hE
  have HN := Lib.hid hn
  have HB0 : Hid (Below w.heap.size w w) := Below.refl _ _
  clear hE hn
  go_enter Try.func17, Try.ntmps17
  go_wp2_with fail
  go_loopw [3, 4] (fun v u wr => ∃ (k : Nat) (B : Option Addr) (c2 : Nat), k ≤ n ∧ u = .int .i64 (k : Int) ∧ v = .slice B k c2 ∧ Hid (wr.ownsRow w.heap.size 26 1 (.slice B k c2) k (un ((L.map (·.id)).take k))) ∧ Hid (Below w.heap.size w wr)) (fun _ u _ => n - (intOf u).toNat)
  case atStart => exact ⟨0, none, 0, by omega, rfl, rfl, World.ownsRow_nil w _ 26 1, HB0.out⟩
  case round =>
    obtain ⟨k, B, c2, hk, rfl, rfl, HO, HB⟩ := hrel
    by_cases hlt : k < n
    · obtain ⟨e, hx⟩ : ∃ x, L[k]? = some x := ⟨L[k]'(by rw [← HN.out]; exact hlt), List.getElem?_eq_getElem _⟩
      obtain ⟨b, o, rfl, ⟨cur, hb⟩, hc⟩ := HE.out (by have := HN.out; omega)
      obtain ⟨m, v, ⟨q0, q1, q2, q3⟩, _, _⟩ := hc k e hx
      have d0 := (HB.out.cell (p := ⟨b, _, none⟩) (lt_of_block hb)).trans q0
      obtain ⟨x, hxi⟩ : ∃ x, x = e.id := ⟨_, rfl⟩
      rw [← hxi] at d0
      have HTK : Hid ((L.map (·.id)).take (k + 1) = (L.map (·.id)).take k ++ [x]) := by
        simp only [Hid]
        rw [List.take_add_one, List.getElem?_map, hx, hxi]
        rfl
      have HS : Hid (w.heap.size ≤ wr.heap.size) := HB.out.size
      clear hx hc hb q0 q1 q2 q3 hxi
      go_wp2_with (at_builtin; refine wpList_append_u32 rfl _ _ rfl w.heap.size wr.heap.size (.slice B k c2) k _ x rfl rfl (HO.out.alloc _) (heap_alloc_new _ _) (by omega) (by have := HS.out; simp; omega) ?_; intro v7 w7 hown7 hg7; obtain ⟨A8, c8, rfl⟩ := own_form1 hown7; have HO7 := Lib.hid hown7; have HB7 : Hid (Below w.heap.size w w7) := (HB.out.alloc HS.out _).grown hg7 (by have := HS.out; simp; omega) (fun g h => (ownlt HO.out g h).1); clear hown7 hg7)
      go_roundw
      case rel => exact ⟨k + 1, A8, c8, by omega, by go_num, rfl, by rw [HTK.out, un_snoc]; exact HO7.out, HB7.out⟩
      case measure => simp [intOf] <;> omega
    · obtain rfl : k = n := by omega
      have HOF : Hid (wr.ownsRow w.heap.size 26 1 (.slice B k c2) k (un (L.map (·.id)))) := by
        have h := HO.out
        rw [List.take_of_length_le (by rw [List.length_map, ← HN.out]; exact Nat.le_refl _)] at h
        exact h
      go_wp2
      go_ret
      exact ⟨_, _, rfl, HOF.out, HB.out⟩
set_option maxHeartbeats 4000000 in
theorem dof_any (R : Nat) (vi : Value) (A : Option Addr) (n c : Nat) (L : List Pt) (p : Nat) (w : World) (hn : n = L.length) (hE : Dr w R vi A L) (hl : n ≤ 100) (hm : ∀ e ∈ L, e.mem.length ≤ 100) :
    Calls Try.prog 14 #[.slice A n c, .int .u32 (p : Int)] w fun r w' => r = .returned (.int .u32 (ofP L p : Int)) ∧ w' = w := by
  have HE := Lib.hid hE
  have HN := Lib.hid hn
  have HM := Lib.hid hm
  clear hE hn hm
  obtain ⟨z, hz⟩ : ∃ z, z = ofP L p := ⟨_, rfl⟩
  have HZ := Lib.hid hz
  rw [← hz]
  clear hz
  go_enter Try.func14, Try.ntmps14
  go_wp2_with fail
  go_loopw [5] (fun u wr => ∃ k : Nat, k ≤ n ∧ u = .int .i64 (k : Int) ∧ Hid (∀ e ∈ L.take k, p ∉ e.mem) ∧ wr = w) (fun u _ => n - (intOf u).toNat)
  case atStart => exact ⟨0, by omega, rfl, (by intro e he; simp at he), by first | rfl | trivial⟩
  case round =>
    obtain ⟨k, hk, rfl, HV, rfl⟩ := hrel
    by_cases hlt : k < n
    · obtain ⟨g, hy⟩ : ∃ g, L[k]? = some g := ⟨L[k]'(by rw [← HN.out]; exact hlt), List.getElem?_eq_getElem _⟩
      obtain ⟨b, o, rfl, _, hc⟩ := HE.out (by have := HN.out; omega)
      obtain ⟨m, v, ⟨q0, q1, q2, q3⟩, f1, f2⟩ := hc k g hy
      have HY := Lib.hid hy
      obtain ⟨x, hx⟩ : ∃ x, x = g.id := ⟨_, rfl⟩
      rw [← hx] at q0
      have HX := Lib.hid hx
      have HC := Lib.hid (has_any m.a m.n m.c g.mem p wr f1.1 f1.rn (by have := HM.out g (List.mem_of_getElem? hy); have := f1.1; omega))
      obtain ⟨t, ht⟩ : ∃ t, t = decide (p ∈ g.mem) := ⟨_, rfl⟩
      rw [← ht] at HC
      have HT := Lib.hid ht
      clear hc hy q2 q3 f1 f2 hx ht
      go_wp2_with fail
      refine HC.out.mono ?_
      rintro r w1 ⟨rfl, hw⟩
      have hw := hw.symm
      subst hw
      cases t
      · have HNM : Hid (∀ e ∈ L.take (k + 1), p ∉ e.mem) := by
          intro e he
          rw [List.take_add_one, HY.out] at he
          rcases List.mem_append.1 he with h | h
          · exact HV.out e h
          · simp at h
            subst h
            have := HT.out.symm
            simpa using this
        go_wp2
        go_roundw
        case rel => exact ⟨k + 1, by omega, by go_num, HNM, by first | rfl | trivial⟩
        case measure => simp [intOf] <;> omega
      · have ez : z = x := by rw [HZ.out, HX.out]; exact of_first HV.out HY.out (by have := HT.out.symm; simpa using this)
        subst ez
        go_wp2
        go_ret
        exact ⟨rfl, by first | rfl | trivial⟩
    · have hkn : k = n := by omega
      subst hkn
      have ez : z = 0 := by
        rw [HZ.out]
        exact of_no (by
          have h := HV.out
          rw [List.take_of_length_le (by rw [← HN.out]; omega)] at h
          exact h)
      subst ez
      go_wp2
      go_ret
      exact ⟨rfl, by first | rfl | trivial⟩
theorem getP_first : ∀ {L : List Pt} {k : Nat} {g : Pt} {x : Nat}, (∀ e ∈ L.take k, e.id ≠ x) → L[k]? = some g → g.id = x → getP L x = some g
  | [], k, g, x, _, h, _ => by simp at h
  | y :: l, 0, g, x, _, h, hx => by
    obtain rfl : y = g := by simpa using h
    unfold getP
    rw [List.find?_cons_of_pos (by simpa using hx)]
  | y :: l, k + 1, g, x, hn, h, hx => by
    have ih := getP_first (L := l) (k := k) (fun e he => hn e (by rw [List.take_succ_cons]; exact List.mem_cons_of_mem _ he)) (by simpa using h) hx
    have hy := hn y (by rw [List.take_succ_cons]; exact List.mem_cons_self ..)
    unfold getP at ih ⊢
    rw [List.find?_cons_of_neg (by simpa using hy)]
    exact ih
abbrev dC (i : Nat) (l : Int) (m v : Sl) : Array Value := #[.int .u32 (i : Int), .slice m.a m.n m.c, .slice v.a v.n v.c, .int .i64 l]
abbrev dZ : Array Value := #[.int .u32 0, .slice none 0 0, .slice none 0 0, .int .i64 0]
abbrev four (W : World) (G : Nat) (a b c d : Value) : World := (((W.setCell ⟨G, 0, none⟩ a).setCell ⟨G, 1, none⟩ b).setCell ⟨G, 2, none⟩ c).setCell ⟨G, 3, none⟩ d
theorem four_row {W : World} {G T : Nat} {x0 x1 x2 x3 : Value} (a b c d : Value) (h : W.heap[G]? = some (.cells #[x0, x1, x2, x3] T (0, 0))) : (four W G a b c d).heap[G]? = some (.cells #[a, b, c, d] T (0, 0)) := by
  have s1 := heap_setCell_same W G 0 _ T a h
  have s2 := heap_setCell_same _ G 1 _ T b s1
  have s3 := heap_setCell_same _ G 2 _ T c s2
  exact heap_setCell_same _ G 3 _ T d s3
theorem four_cells {W : World} {G T : Nat} {x0 x1 x2 x3 : Value} (a b c d : Value) (h : W.heap[G]? = some (.cells #[x0, x1, x2, x3] T (0, 0))) :
    (four W G a b c d).cell? ⟨G, 0, none⟩ = some a ∧ (four W G a b c d).cell? ⟨G, 1, none⟩ = some b ∧ (four W G a b c d).cell? ⟨G, 2, none⟩ = some c ∧ (four W G a b c d).cell? ⟨G, 3, none⟩ = some d := by
  have s := four_row a b c d h
  refine ⟨?_, ?_, ?_, ?_⟩ <;> · rw [cell_of_row _ G _ _ _ _ s]; rfl
theorem four_below {k G : Nat} {w W : World} (a b c d : Value) (h : Below k w W) (hk : k ≤ G) : Below k w (four W G a b c d) := (((h.setCell hk a).setCell hk b).setCell hk c).setCell hk d
theorem four_other {W : World} {G g : Nat} (a b c d : Value) (hg : g ≠ G) : (four W G a b c d).heap[g]? = W.heap[g]? :=
  (((Below.heap_setCell _ _ _ _ hg).trans (Below.heap_setCell _ _ _ _ hg)).trans (Below.heap_setCell _ _ _ _ hg)).trans (Below.heap_setCell _ _ _ _ hg)
def DGetP (R : Nat) (vi : Value) (g : Pt) (w : World) (r : Ending) (w' : World) : Prop := ∃ m v : Sl, r = .returned (.tuple #[.agg (dC g.id g.ld m v), .bool true]) ∧ Fl w' R vi m g.mem ∧ Fl w' R vi v g.inv ∧ Below w.heap.size w w'
theorem fl_oth {w w' : World} {R : Nat} {vi : Value} {s : Sl} {l : List Nat} {G : Nat} (h : Fl w R vi s l) (hg : ∀ g, g ≠ G → w'.heap[g]? = w.heap[g]?) (hn : ∀ cur, w.heap[G]? ≠ some (.cells cur 26 (0, 0))) : Fl w' R vi s l := ⟨h.1, fun hl => by
  obtain ⟨b, o, e1, e2, e3, ⟨cur, e4⟩, e5⟩ := h.2 hl
  have k := hg b (fun e => hn cur (by rw [← e]; exact e4))
  exact ⟨b, o, e1, e2, e3, ⟨cur, k.trans e4⟩, fun j x hj => (World.cell?_of_block k).trans (e5 j x hj)⟩⟩
set_option maxHeartbeats 4000000 in
theorem dget_some (R : Nat) (vi : Value) (A : Option Addr) (n c : Nat) (L : List Pt) (x : Nat) (g : Pt) (w : World) (hn : n = L.length) (hE : Dr w R vi A L) (hl : n ≤ 100) (hg : getP L x = some g) :
    Calls Try.prog 11 #[.slice A n c, .int .u32 (x : Int)] w fun r w' => DGetP R vi g w r w' := by
  obtain ⟨w0, hw0⟩ : ∃ w0, w0 = w.alloc (.cells dZ 36) := ⟨_, rfl⟩
  have hb0 : Below w.heap.size w w0 := by rw [hw0]; exact (Below.refl _ _).alloc (Nat.le_refl _) _
  have hq0 : w0.heap[w.heap.size]? = some (.cells dZ 36 (0, 0)) := by rw [hw0]; exact heap_alloc_new w _
  have y0 := cell_of_row _ w.heap.size 0 _ _ _ hq0
  have y1 := cell_of_row _ w.heap.size 1 _ _ _ hq0
  have y2 := cell_of_row _ w.heap.size 2 _ _ _ hq0
  have y3 := cell_of_row _ w.heap.size 3 _ _ _ hq0
  simp at y0 y1 y2 y3
  have HY4 : Hid (w0.cell? ⟨w.heap.size, 0, none⟩ = some (.int .u32 0) ∧ w0.cell? ⟨w.heap.size, 1, none⟩ = some (.slice none 0 0) ∧ w0.cell? ⟨w.heap.size, 2, none⟩ = some (.slice none 0 0) ∧ w0.cell? ⟨w.heap.size, 3, none⟩ = some (.int .i64 0)) := ⟨y0, y1, y2, y3⟩
  clear y0 y1 y2 y3
  have yf : ∀ i, w0.frozen? ⟨w.heap.size, i, none⟩ = false := fun i => frozen_of_row _ _ i _ _ hq0
  have HE := Lib.hid (hE.after hb0)
  have HN := Lib.hid hn
  have H0 := Lib.hid hw0
  have HB0 := Lib.hid hb0
  have HQ0 := Lib.hid hq0
  have HG := Lib.hid hg
  clear hw0 hb0 hq0 hE hn hg
  go_enter Try.func11, Try.ntmps11
  go_upto_region 1 with (fail)
  rw [← H0.out]
  go_wp2_with fail
  go_loopw [6] (fun u wr => ∃ k : Nat, k ≤ n ∧ u = .int .i64 (k : Int) ∧ Hid (∀ e ∈ L.take k, e.id ≠ x) ∧ wr = w0) (fun u _ => n - (intOf u).toNat)
  case atStart => exact ⟨0, by omega, rfl, (by intro e he; simp at he), by first | rfl | trivial⟩
  case round =>
    obtain ⟨k, hk, rfl, HV, rfl⟩ := hrel
    by_cases hlt : k < n
    · obtain ⟨e, hy⟩ : ∃ e, L[k]? = some e := ⟨L[k]'(by rw [← HN.out]; exact hlt), List.getElem?_eq_getElem _⟩
      obtain ⟨b, o, rfl, _, hc⟩ := HE.out (by have := HN.out; omega)
      obtain ⟨m, v, ⟨q0, q1, q2, q3⟩, f1, f2⟩ := hc k e hy
      have HY := Lib.hid hy
      by_cases hx : e.id = x
      · obtain rfl : e = g := by
          have := getP_first HV.out hy hx
          rw [HG.out] at this
          exact (Option.some.inj this).symm
        subst hx
        obtain ⟨y0, y1, y2, y3⟩ := HY4.out
        have HC4 := Lib.hid (four_cells (.int .u32 (e.id : Int)) (.slice m.a m.n m.c) (.slice v.a v.n v.c) (.int .i64 e.ld) HQ0.out)
        have HB4 := Lib.hid (four_below (.int .u32 (e.id : Int)) (.slice m.a m.n m.c) (.slice v.a v.n v.c) (.int .i64 e.ld) HB0.out (Nat.le_refl w.heap.size))
        have hnn : ∀ cur, wr.heap[w.heap.size]? ≠ some (.cells cur 26 (0, 0)) := fun cur e => by
          rw [HQ0.out] at e
          injection e with e
          injection e with _ e
          exact absurd e (by decide)
        have HF : Hid (Fl (four wr w.heap.size (.int .u32 (e.id : Int)) (.slice m.a m.n m.c) (.slice v.a v.n v.c) (.int .i64 e.ld)) R vi m e.mem ∧ Fl (four wr w.heap.size (.int .u32 (e.id : Int)) (.slice m.a m.n m.c) (.slice v.a v.n v.c) (.int .i64 e.ld)) R vi v e.inv) := ⟨fl_oth f1 (fun g hg => four_other _ _ _ _ hg) hnn, fl_oth f2 (fun g hg => four_other _ _ _ _ hg) hnn⟩
        clear hc hy f1 f2 hnn
        go_wp2
        obtain ⟨e0, e1, e2, e3⟩ := HC4.out
        exact bodyPost_ret (v := .tuple #[.agg (dC e.id e.ld m v), .bool true]) (by simp [results, Try.results11, go_sem, e0, e1, e2, e3]) rfl ⟨m, v, rfl, HF.out.1, HF.out.2, HB4.out⟩
      · have HNM : Hid (∀ e ∈ L.take (k + 1), e.id ≠ x) := by
          intro e' he
          rw [List.take_add_one, HY.out] at he
          rcases List.mem_append.1 he with h | h
          · exact HV.out e' h
          · simp at h
            subst h
            exact hx
        obtain ⟨z, hz⟩ : ∃ z, z = e.id := ⟨_, rfl⟩
        rw [← hz] at q0 hx
        have hx' : ¬ ((z : Int) = (x : Int)) := by omega
        clear hc hy q1 q2 q3 f1 f2 hx hz
        go_wp2
        go_roundw
        case rel => exact ⟨k + 1, by omega, by go_num, HNM, by first | rfl | trivial⟩
        case measure => simp [intOf] <;> omega
    · have hkn : k = n := by omega
      subst hkn
      exact absurd (get_some HG.out).2 (by
        have h := HV.out
        rw [List.take_of_length_le (by rw [← HN.out]; omega)] at h
        exact h g (get_some HG.out).1)
set_option maxHeartbeats 4000000 in
theorem dget_none (R : Nat) (vi : Value) (A : Option Addr) (n c : Nat) (L : List Pt) (x : Nat) (w : World) (hn : n = L.length) (hE : Dr w R vi A L) (hl : n ≤ 100) (hg : getP L x = none) :
    Calls Try.prog 11 #[.slice A n c, .int .u32 (x : Int)] w fun r w' => r = .returned (.tuple #[.agg dZ, .bool false]) ∧ Below w.heap.size w w' := by
  obtain ⟨w0, hw0⟩ : ∃ w0, w0 = w.alloc (.cells dZ 36) := ⟨_, rfl⟩
  have hb0 : Below w.heap.size w w0 := by rw [hw0]; exact (Below.refl _ _).alloc (Nat.le_refl _) _
  have hq0 : w0.heap[w.heap.size]? = some (.cells dZ 36 (0, 0)) := by rw [hw0]; exact heap_alloc_new w _
  have y0 := cell_of_row _ w.heap.size 0 _ _ _ hq0
  have y1 := cell_of_row _ w.heap.size 1 _ _ _ hq0
  have y2 := cell_of_row _ w.heap.size 2 _ _ _ hq0
  have y3 := cell_of_row _ w.heap.size 3 _ _ _ hq0
  simp at y0 y1 y2 y3
  have HY4 : Hid (w0.cell? ⟨w.heap.size, 0, none⟩ = some (.int .u32 0) ∧ w0.cell? ⟨w.heap.size, 1, none⟩ = some (.slice none 0 0) ∧ w0.cell? ⟨w.heap.size, 2, none⟩ = some (.slice none 0 0) ∧ w0.cell? ⟨w.heap.size, 3, none⟩ = some (.int .i64 0)) := ⟨y0, y1, y2, y3⟩
  clear y0 y1 y2 y3
  have yf : ∀ i, w0.frozen? ⟨w.heap.size, i, none⟩ = false := fun i => frozen_of_row _ _ i _ _ hq0
  have HE := Lib.hid (hE.after hb0)
  have HN := Lib.hid hn
  have H0 := Lib.hid hw0
  have HB0 := Lib.hid hb0
  have HQ0 := Lib.hid hq0
  have HG := Lib.hid hg
  clear hw0 hb0 hq0 hE hn hg
  go_enter Try.func11, Try.ntmps11
  go_upto_region 1 with (fail)
  rw [← H0.out]
  go_wp2_with fail
  go_loopw [6] (fun u wr => ∃ k : Nat, k ≤ n ∧ u = .int .i64 (k : Int) ∧ Hid (∀ e ∈ L.take k, e.id ≠ x) ∧ wr = w0) (fun u _ => n - (intOf u).toNat)
  case atStart => exact ⟨0, by omega, rfl, (by intro e he; simp at he), by first | rfl | trivial⟩
  case round =>
    obtain ⟨k, hk, rfl, HV, rfl⟩ := hrel
    by_cases hlt : k < n
    · obtain ⟨e, hy⟩ : ∃ e, L[k]? = some e := ⟨L[k]'(by rw [← HN.out]; exact hlt), List.getElem?_eq_getElem _⟩
      obtain ⟨b, o, rfl, _, hc⟩ := HE.out (by have := HN.out; omega)
      obtain ⟨m, v, ⟨q0, q1, q2, q3⟩, f1, f2⟩ := hc k e hy
      have HY := Lib.hid hy
      by_cases hx : e.id = x
      · exact absurd hx (getP_none HG.out e (List.mem_of_getElem? hy))
      · have HNM : Hid (∀ e ∈ L.take (k + 1), e.id ≠ x) := by
          intro e' he
          rw [List.take_add_one, HY.out] at he
          rcases List.mem_append.1 he with h | h
          · exact HV.out e' h
          · simp at h
            subst h
            exact hx
        obtain ⟨z, hz⟩ : ∃ z, z = e.id := ⟨_, rfl⟩
        rw [← hz] at q0 hx
        have hx' : ¬ ((z : Int) = (x : Int)) := by omega
        clear hc hy q1 q2 q3 f1 f2 hx hz
        go_wp2
        go_roundw
        case rel => exact ⟨k + 1, by omega, by go_num, HNM, by first | rfl | trivial⟩
        case measure => simp [intOf] <;> omega
    · have hkn : k = n := by omega
      subst hkn
      obtain ⟨y0, y1, y2, y3⟩ := HY4.out
      have HC4 := Lib.hid (four_cells (.int .u32 0) (.slice none 0 0) (.slice none 0 0) (.int .i64 0) HQ0.out)
      have HB4 := Lib.hid (four_below (.int .u32 0) (.slice none 0 0) (.slice none 0 0) (.int .i64 0) HB0.out (Nat.le_refl w.heap.size))
      go_wp2
      obtain ⟨e0, e1, e2, e3⟩ := HC4.out
      exact bodyPost_ret (v := .tuple #[.agg dZ, .bool false]) (by simp [results, Try.results11, go_sem, e0, e1, e2, e3]) rfl ⟨rfl, HB4.out⟩
end Go.Proofs.Ytemjmnpclknfaaa.P
