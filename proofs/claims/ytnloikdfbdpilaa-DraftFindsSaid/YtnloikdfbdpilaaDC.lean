/- Draft: entries. -/
import Derived.Test.YtnloikdfbdpilaaDB
namespace Go.Proofs.Ytnloikdfbdpilaa
open Go.RowKit
set_option maxRecDepth 20000

/-- What counts of a ticket: how many players, its rating, since when. -/
structure Tk where
  n : Nat
  r : Int
  s : Int
deriving DecidableEq
/-- The tickets l are read from A on. -/
def Ts (w : World) (B : Nat) (A : Option Addr) (l : List Tk) : Prop :=
  0 < l.length → ∃ b o, A = some ⟨b, o, none⟩ ∧ b < B ∧ ∀ (i : Nat) (t : Tk), l[i]? = some t → ∃ (x y : Int) (P : Option Addr) (c : Nat), w.cell? ⟨b, o + i * 5, none⟩ = some (.int .u32 x) ∧ w.cell? ⟨b, o + i * 5 + 1, none⟩ = some (.int .i64 y) ∧ w.cell? ⟨b, o + i * 5 + 2, none⟩ = some (.slice P t.n c) ∧ w.cell? ⟨b, o + i * 5 + 3, none⟩ = some (.int .i64 t.r) ∧ w.cell? ⟨b, o + i * 5 + 4, none⟩ = some (.int .i64 t.s)
theorem Ts.nil {w : World} {B : Nat} {A : Option Addr} : Ts w B A [] := fun h => absurd h (by simp)
theorem Ts.below {w W : World} {B : Nat} {A : Option Addr} {l : List Tk} (h : Ts w B A l) (hb : Below B w W) : Ts W B A l := fun hl => by
  obtain ⟨b, o, h1, h2, h3⟩ := h hl
  refine ⟨b, o, h1, h2, fun i e he => ?_⟩
  obtain ⟨x, y, P, c, e0, e1, e2, e3, e4⟩ := h3 i e he
  exact ⟨x, y, P, c, (hb.cell (p := ⟨b, _, none⟩) h2).trans e0, (hb.cell (p := ⟨b, _, none⟩) h2).trans e1, (hb.cell (p := ⟨b, _, none⟩) h2).trans e2, (hb.cell (p := ⟨b, _, none⟩) h2).trans e3, (hb.cell (p := ⟨b, _, none⟩) h2).trans e4⟩
theorem Ts.mono {w : World} {B B' : Nat} {A : Option Addr} {l : List Tk} (h : Ts w B A l) (hb : B ≤ B') : Ts w B' A l := fun hl => by
  obtain ⟨b, o, h1, h2, h3⟩ := h hl
  exact ⟨b, o, h1, Nat.lt_of_lt_of_le h2 hb, h3⟩
theorem Ts.later {w W : World} {B : Nat} {A : Option Addr} {l : List Tk} (h : Ts w B A l) (hb : Below B w W) (hB : B ≤ w.heap.size) : Ts W W.heap.size A l := (h.below hb).mono (Nat.le_trans hB hb.size)
/-- A mode. -/
structure Mo where
  k : Int
  b : Int
  s : Int
  c : Int
  e : Int
abbrev Mo.v (m : Mo) : Value := mV m.k m.b m.s m.c m.e
abbrev Mo.cells (m : Mo) : Array Value := mCells m.k m.b m.s m.c m.e
def Mo.win (m : Mo) (x : Int) : Int := Ytnloikdfbdpilaa.win m.k m.b m.s m.c m.e x
def rt (x : Int) : Int := min (max x 0) 10000
/-- The entry of a ticket at a place. -/
def entP (m : Mo) (now : Int) (i : Nat) (t : Tk) : En := ⟨i, t.n, rt t.r, m.win (waitP now t.s)⟩
def entsP (m : Mo) (now : Int) (l : List Tk) : List En := l.mapIdx (entP m now)
theorem entsP_get (m : Mo) (now : Int) (l : List Tk) (k : Nat) (t : Tk) (h : l[k]? = some t) : (entsP m now l)[k]? = some (entP m now k t) := by
  unfold entsP
  rw [List.getElem?_mapIdx, h]
  rfl
theorem entsP_len (m : Mo) (now : Int) (l : List Tk) : (entsP m now l).length = l.length := by simp [entsP]
def zE : En := ⟨0, 0, 0, 0⟩
def rowE (l : List En) (k : Nat) : List En := l.take k ++ List.replicate (l.length - k) zE
theorem rowE_len (l : List En) (k : Nat) (hk : k ≤ l.length) : (rowE l k).length = l.length := by unfold rowE; rw [List.length_append, List.length_take, List.length_replicate]; omega
theorem rowE_succ (l : List En) (k : Nat) (x : En) (hk : l[k]? = some x) : (rowE l k).set k x = rowE l (k + 1) := by
  obtain ⟨hlt, hx⟩ := List.getElem?_eq_some_iff.1 hk
  have ht : (l.take k).length = k := by rw [List.length_take]; omega
  unfold rowE
  rw [show l.length - k = (l.length - (k + 1)) + 1 by omega, List.replicate_succ, List.set_append_right _ _ (by omega), ht, Nat.sub_self, List.set_cons_zero, List.take_add_one, hk, List.append_assoc]
  rfl
theorem er_set : ∀ (l : List En) (k : Nat) (e : En), k < l.length → ((((er l).set (k * 4) (.int .i64 e.p)).set (k * 4 + 1) (.int .i64 e.n)).set (k * 4 + 2) (.int .i64 e.r)).set (k * 4 + 3) (.int .i64 e.v) = er (l.set k e)
  | [], k, e, h => by simp at h
  | x :: l, 0, e, h => by simp [er, ec]
  | x :: l, k + 1, e, h => by
    have ih := er_set l k e (by simpa using h)
    unfold er at ih ⊢
    rw [List.set_cons_succ, List.flatMap_cons, List.flatMap_cons, ← ih]
    simp only [ec, List.cons_append, List.nil_append, show (k + 1) * 4 = k * 4 + 1 + 1 + 1 + 1 by omega, show k * 4 + 1 + 1 + 1 + 1 + 1 = (k * 4 + 1) + 1 + 1 + 1 + 1 by omega, show k * 4 + 1 + 1 + 1 + 1 + 2 = (k * 4 + 2) + 1 + 1 + 1 + 1 by omega, show k * 4 + 1 + 1 + 1 + 1 + 3 = (k * 4 + 3) + 1 + 1 + 1 + 1 by omega, List.set_cons_succ]
theorem e_set {w : World} {g t k : Nat} {l : List En} {e : En} (h : w.heap[g]? = some (.cells (er l).toArray t (0, 0))) (hk : k < l.length) :
    ((((w.setCell ⟨g, k * 4, none⟩ (.int .i64 e.p)).setCell ⟨g, k * 4 + 1, none⟩ (.int .i64 e.n)).setCell ⟨g, k * 4 + 2, none⟩ (.int .i64 e.r)).setCell ⟨g, k * 4 + 3, none⟩ (.int .i64 e.v)).heap[g]? = some (.cells (er (l.set k e)).toArray t (0, 0)) := by
  have h1 := heap_setCell_same w g (k * 4) _ t (.int .i64 e.p) h
  have h2 := heap_setCell_same _ g (k * 4 + 1) _ t (.int .i64 e.n) h1
  have h3 := heap_setCell_same _ g (k * 4 + 2) _ t (.int .i64 e.r) h2
  have h4 := heap_setCell_same _ g (k * 4 + 3) _ t (.int .i64 e.v) h3
  rw [h4, ← er_set l k e hk]
  simp
theorem e_cells {w : World} {g t k : Nat} {l : List En} (h : w.heap[g]? = some (.cells (er l).toArray t (0, 0))) (hk : k < l.length) : ∀ j, j < 4 → ∃ x, w.cell? ⟨g, k * 4 + j, none⟩ = some (.int .i64 x) := fun j hj => by
  have e := er_get l k l[k] j (List.getElem?_eq_getElem hk) hj
  rw [cell_of_row w g _ _ _ _ h, List.getElem?_toArray, e]
  obtain rfl | rfl | rfl | rfl : j = 0 ∨ j = 1 ∨ j = 2 ∨ j = 3 := by omega
  all_goals exact ⟨_, rfl⟩
theorem mkEn (n : Nat) : madeCells (Value.agg #[.int .i64 0, .int .i64 0, .int .i64 0, .int .i64 0]).cells (n * 4) = (er (List.replicate n zE)).toArray := by
  apply Array.ext
  · rw [size_madeCells, List.size_toArray, er_len, List.length_replicate]
  · intro i h1 h2
    rw [size_madeCells] at h1
    have hr : i % 4 < 4 := Nat.mod_lt _ (by decide)
    have e := er_get (List.replicate n zE) (i / 4) zE (i % 4) (by rw [List.getElem?_replicate, if_pos (by omega)]) hr
    rw [show i / 4 * 4 + i % 4 = i by omega] at e
    have e1 : (er (List.replicate n zE)).toArray[i]? = (ec zE)[i % 4]? := by rw [List.getElem?_toArray]; exact e
    rw [Array.getElem?_eq_getElem h2] at e1
    have e2 : (ec zE)[i % 4]? = some (.int .i64 0) := by
      obtain h | h | h | h : i % 4 = 0 ∨ i % 4 = 1 ∨ i % 4 = 2 ∨ i % 4 = 3 := by omega
      all_goals rw [h]; rfl
    rw [e2] at e1
    injection e1 with e1
    rw [e1]
    have e3 : (madeCells #[(Value.int .i64 0), .int .i64 0, .int .i64 0, .int .i64 0] (n * 4))[i]'(by rw [size_madeCells]; exact h1) = (#[(Value.int .i64 0), .int .i64 0, .int .i64 0, .int .i64 0] : Array Value)[i % 4]! := by
      simp [madeCells]
    refine e3.trans ?_
    obtain h | h | h | h : i % 4 = 0 ∨ i % 4 = 1 ∨ i % 4 = 2 ∨ i % 4 = 3 := by omega
    all_goals rw [h]; rfl
theorem run_make_en (n : Nat) (w : World) (hn : n ≤ 1000) : (Instr.makeSlice 64 (.int .i64 (n : Int)) (.int .i64 (n : Int))).run Try.prog w = .ok (.slice (some ⟨w.heap.size, 0, none⟩) n n) (w.alloc (.cells (er (List.replicate n zE)).toArray 80)) := by
  obtain ⟨i0, hi, hz0, hz1, hz2⟩ := info_parts info80
  have h := run_make (P := Try.prog) w 64 80 i0 _ Try.underlying64 hi hz0 .i64 .i64 (n : Int) (n : Int) (by omega) (by omega) (by rw [hz2]; omega) (by omega)
  rw [hz1] at h
  simpa only [Int.toNat_natCast, mkEn] using h
theorem es_row {w : World} {g : Nat} {l : List En} (h : w.heap[g]? = some (.cells (er l).toArray 80 (0, 0))) : Es w w.heap.size (some ⟨g, 0, none⟩) l := fun _ => by
  refine ⟨g, 0, rfl, lt_of_block h, fun i e he => ?_⟩
  have hc : ∀ j u, j < 4 → (ec e)[j]? = some u → w.cell? ⟨g, 0 + i * 4 + j, none⟩ = some u := fun j u hj hu => by
    rw [cell_of_row w g _ _ _ _ h, List.getElem?_toArray, Nat.zero_add, er_get l i e j he hj, hu]
  exact ⟨hc 0 _ (by decide) rfl, hc 1 _ (by decide) rfl, hc 2 _ (by decide) rfl, hc 3 _ (by decide) rfl⟩

set_option linter.unusedSimpArgs false in
set_option maxHeartbeats 8000000 in
theorem entries_any (m : Mo) (now : Int) (A : Option Addr) (n c : Nat) (l : List Tk) (w : World) (hn : n = l.length) (hE : Ts w w.heap.size A l) (hl : n ≤ 1000) (hnow : In64 now) (hs : ∀ t ∈ l, In64 t.s) :
    Calls Try.prog 29 #[m.v, .int .i64 now, .slice A n c] w fun r w' => (∃ A', r = .returned (.slice A' n n) ∧ Es w' w'.heap.size A' (entsP m now l)) ∧ Below w.heap.size w w' := by
  obtain ⟨w0, hw0⟩ : ∃ w0, w0 = w.alloc (.cells m.cells 32) := ⟨_, rfl⟩
  have hb0 : Below w.heap.size w w0 := by rw [hw0]; exact (Below.refl _ _).alloc (Nat.le_refl _) _
  have hq0 : w0.heap[w.heap.size]? = some (.cells m.cells 32 (0, 0)) := by rw [hw0]; exact heap_alloc_new w _
  have hs0 : w0.heap.size = w.heap.size + 1 := by rw [hw0]; simp
  obtain ⟨es, hes⟩ : ∃ es, es = entsP m now l := ⟨_, rfl⟩
  have hel : es.length = n := by rw [hes, entsP_len, hn]
  obtain ⟨w1, hw1⟩ : ∃ w1, w1 = w0.alloc (.cells (er (List.replicate n zE)).toArray 80) := ⟨_, rfl⟩
  have hmk := run_make_en n w0 hl
  rw [← hw1] at hmk
  have hq1 : w1.heap[w0.heap.size]? = some (.cells (er (rowE es 0)).toArray 80 (0, 0)) := by
    rw [hw1, show rowE es 0 = List.replicate n zE by simp [rowE, hel]]
    exact heap_alloc_new w0 _
  have hb1 : Below w0.heap.size w0 w1 := by rw [hw1]; exact (Below.refl _ _).alloc (Nat.le_refl _) _
  have HB1 := Lib.hid (hb0.trans (hb1.mono hb0.size))
  have HQ1 := Lib.hid hq1
  have HM1 : Hid (w1.heap[w.heap.size]? = some (.cells m.cells 32 (0, 0))) := (hb1.block _ (lt_of_block hq0)).trans hq0
  have HE := Lib.hid hE
  have HN := Lib.hid hn
  have HEL := Lib.hid hel
  have HES : Hid (∀ (k : Nat) (t : Tk), l[k]? = some t → es[k]? = some (entP m now k t)) := fun k t h => by rw [hes]; exact entsP_get m now l k t h
  have HS := Lib.hid hs
  have HNOW := Lib.hid hnow
  have H0 := Lib.hid hw0
  have HMR : Hid (w.heap.size < w0.heap.size) := by simp only [Hid]; omega
  obtain ⟨R, hR⟩ : ∃ R, R = w0.heap.size := ⟨_, rfl⟩
  rw [← hR] at hmk HQ1 HMR
  rw [← hes]
  clear hw0 hb0 hq0 hb1 hq1 hE hn hel hes hs hnow hs0 hw1
  obtain ⟨k, b, s, c5, e5⟩ := m
  go_enter Try.func29, Try.ntmps29
  go_upto_region 1 with (fail)
  rw [← H0.out]
  clear H0 hR
  go_wp2_with fail
  go_loopw [15] (fun u wr => ∃ i : Nat, i ≤ n ∧ u = .int .i64 (i : Int) ∧ Hid (wr.heap[R]? = some (.cells (er (rowE es i)).toArray 80 (0, 0)) ∧ wr.heap[w.heap.size]? = some (.cells (mCells k b s c5 e5) 32 (0, 0)) ∧ Below w.heap.size w wr)) (fun u _ => n - (intOf u).toNat)
  case atStart => exact ⟨0, by omega, rfl, HQ1.out, HM1.out, HB1.out⟩
  case round =>
    obtain ⟨i, hi, rfl, HV⟩ := hrel
    by_cases hlt : i < n
    · obtain ⟨t, hy⟩ : ∃ t, l[i]? = some t := ⟨l[i]'(by rw [← HN.out]; exact hlt), List.getElem?_eq_getElem _⟩
      obtain ⟨b1, o1, rfl, hbb1, ha1⟩ := (HE.out.below HV.out.2.2) (by have := HN.out; omega)
      obtain ⟨x, y, P, cp, d0, d1, d2, d3, d4⟩ := ha1 i t hy
      have hts := HS.out t (List.mem_of_getElem? hy)
      have HSU := Lib.hid (rowE_succ es i _ (HES.out i t hy))
      obtain ⟨tn, tr, tsi⟩ := t
      simp only at d2 d3 d4 hts
      have HWT : Hid (∀ W, Calls Try.prog 10 #[.int .i64 now, .int .i64 tsi] W fun r w' => r = .returned (.int .i64 (waitP now tsi)) ∧ w' = W) := fun W => wait_any now tsi W HNOW.out hts
      obtain ⟨wt, hwt⟩ : ∃ wt, wt = waitP now tsi := ⟨_, rfl⟩
      have hwb := wait_bd now tsi
      obtain ⟨wi, hwi⟩ : ∃ wi, wi = win k b s c5 e5 wt := ⟨_, rfl⟩
      obtain ⟨q, hq⟩ : ∃ q, q = rt tr := ⟨_, rfl⟩
      rw [← hwt] at HWT hwb
      have HWI : Hid (∀ W, Calls Try.prog 24 #[mV k b s c5 e5, .int .i64 wt] W fun r w' => r = .returned (.int .i64 wi) ∧ Below W.heap.size W w') := fun W => by rw [hwi]; exact window_any k b s c5 e5 wt W (by omega)
      have HEN : Hid (entP ⟨k, b, s, c5, e5⟩ now i ⟨tn, tr, tsi⟩ = ⟨(i : Int), (tn : Int), q, wi⟩) := by simp only [Hid]; rw [hq, hwi, hwt]; rfl
      obtain ⟨p, hp⟩ : ∃ p, p = max tr 0 := ⟨_, rfl⟩
      have HMX : Hid ((if tr < 0 then 0 else tr) = p) := by simp only [Hid]; rw [hp]; split <;> omega
      have HMI : Hid ((if 10000 < p then 10000 else p) = q) := by simp only [Hid]; rw [hq, hp]; unfold rt; split <;> omega
      obtain ⟨w2, hw2⟩ : ∃ w2, w2 = wr.alloc (.cells #[.int .u32 x, .int .i64 y, .slice P tn cp, .int .i64 tr, .int .i64 tsi] 56) := ⟨_, rfl⟩
      obtain ⟨X, hX⟩ : ∃ X, X = wr.heap.size := ⟨_, rfl⟩
      have hg2 : w2.heap[X]? = some (.cells #[.int .u32 x, .int .i64 y, .slice P tn cp, .int .i64 tr, .int .i64 tsi] 56 (0, 0)) := by rw [hw2, hX]; exact heap_alloc_new wr _
      have hb2 : Below wr.heap.size wr w2 := by rw [hw2]; exact (Below.refl _ _).alloc (Nat.le_refl _) _
      have hr2 : w2.heap[R]? = some (.cells (er (rowE es i)).toArray 80 (0, 0)) := (hb2.block _ (lt_of_block HV.out.1)).trans HV.out.1
      have hm2 : w2.heap[w.heap.size]? = some (.cells (mCells k b s c5 e5) 32 (0, 0)) := (hb2.block _ (lt_of_block HV.out.2.1)).trans HV.out.2.1
      have HB2 : Hid (Below w.heap.size w w2) := HV.out.2.2.trans (hb2.mono HV.out.2.2.size)
      have HXR : Hid (R < X) := by rw [hX]; exact lt_of_block HV.out.1
      have HCF : Hid (∀ W : World, W.heap[X]? = some (.cells #[.int .u32 x, .int .i64 y, .slice P tn cp, .int .i64 tr, .int .i64 tsi] 56 (0, 0)) → W.heap[w.heap.size]? = some (.cells (mCells k b s c5 e5) 32 (0, 0)) → W.cell? ⟨X, 2, none⟩ = some (.slice P tn cp) ∧ W.cell? ⟨X, 3, none⟩ = some (.int .i64 tr) ∧ W.cell? ⟨X, 4, none⟩ = some (.int .i64 tsi) ∧ W.cell? ⟨w.heap.size, 0, none⟩ = some (.int .i64 k) ∧ W.cell? ⟨w.heap.size, 1, none⟩ = some (.int .i64 b) ∧ W.cell? ⟨w.heap.size, 2, none⟩ = some (.int .i64 s) ∧ W.cell? ⟨w.heap.size, 3, none⟩ = some (.int .i64 c5) ∧ W.cell? ⟨w.heap.size, 4, none⟩ = some (.int .i64 e5)) := fun W e1 e2 =>
        ⟨cell_of_row W _ 2 _ _ _ e1, cell_of_row W _ 3 _ _ _ e1, cell_of_row W _ 4 _ _ _ e1, cell_of_row W _ 0 _ _ _ e2, cell_of_row W _ 1 _ _ _ e2, cell_of_row W _ 2 _ _ _ e2, cell_of_row W _ 3 _ _ _ e2, cell_of_row W _ 4 _ _ _ e2⟩
      have HCE : Hid (∀ W, Below w2.heap.size w2 W → W.cell? ⟨X, 2, none⟩ = some (.slice P tn cp) ∧ W.cell? ⟨X, 3, none⟩ = some (.int .i64 tr) ∧ W.cell? ⟨X, 4, none⟩ = some (.int .i64 tsi) ∧ W.cell? ⟨w.heap.size, 0, none⟩ = some (.int .i64 k) ∧ W.cell? ⟨w.heap.size, 1, none⟩ = some (.int .i64 b) ∧ W.cell? ⟨w.heap.size, 2, none⟩ = some (.int .i64 s) ∧ W.cell? ⟨w.heap.size, 3, none⟩ = some (.int .i64 c5) ∧ W.cell? ⟨w.heap.size, 4, none⟩ = some (.int .i64 e5)) := fun W hW => HCF.out W ((hW.block _ (lt_of_block hg2)).trans hg2) ((hW.block _ (lt_of_block hm2)).trans hm2)
      have HBS : Hid (Below w2.heap.size w2 w2) := Below.refl _ _
      have H2 := Lib.hid hw2
      have HXE := Lib.hid hX
      have HG2 := Lib.hid hg2
      have HR2 := Lib.hid hr2
      have HM2 := Lib.hid hm2
      have HKN : Hid (i < n) := hlt
      clear ha1 hy hbb1 hts hwt hwi hq hp hw2 hX hg2 hb2 hr2 hm2 hwb
      go_upto_region 5 with (fail)
      rw [← H2.out]
      rw [← HXE.out]
      clear H2 HXE d0 d1 d2 d3 d4
      have HDp : Hid (Below w2.heap.size w2 w2.drew) := HBS.out.drew
      refine wp_region_held_drew (S := fun W : World => W.cell? ⟨X, 2, none⟩ = some (.slice P tn cp) ∧ W.cell? ⟨X, 3, none⟩ = some (.int .i64 tr) ∧ W.cell? ⟨X, 4, none⟩ = some (.int .i64 tsi) ∧ W.cell? ⟨w.heap.size, 0, none⟩ = some (.int .i64 k) ∧ W.cell? ⟨w.heap.size, 1, none⟩ = some (.int .i64 b) ∧ W.cell? ⟨w.heap.size, 2, none⟩ = some (.int .i64 s) ∧ W.cell? ⟨w.heap.size, 3, none⟩ = some (.int .i64 c5) ∧ W.cell? ⟨w.heap.size, 4, none⟩ = some (.int .i64 e5)) (by kernel_rfl) (HCE.out _ HDp.out) (fun hHeld => ?_)
      obtain ⟨Wp0, hW0⟩ : ∃ W0, W0 = w2.drew := ⟨_, rfl⟩
      rw [← hW0] at hHeld HDp ⊢
      clear hW0
      refine wpAnyH_take (i := 0) (oi := ?oi0p) (v := ?v0p) ?hi0p ?hs0p ?hf0p ?hr0p ?hQ0p ?hy0p ?hS0p ?h0p
      case hi0p => exact (by simp only [List.getElem?_toArray, List.getElem?_cons_zero]; rfl)
      case hs0p => kernel_rfl
      case hf0p => kernel_rfl
      case hr0p => kernel_rfl
      case hQ0p => exact fun _ _ _ h => h
      case hy0p =>
        refine Or.inl ⟨rfl, ?_⟩
        intro W hSw
        obtain ⟨y0, y1, y2, y3, y4, y5, y6, y7⟩ := hSw
        go_simp
        try with_reducible rfl
      case hS0p => assumption
      try simp only [Act.put, List.setIfInBounds_toArray, List.set_cons_zero, List.set_cons_succ]
      refine wpAnyH_take (i := 1) (oi := ?oi1p) (v := ?v1p) ?hi1p ?hs1p ?hf1p ?hr1p ?hQ1p ?hy1p ?hS1p ?h1p
      case hi1p => exact (by simp only [List.getElem?_toArray, List.getElem?_cons_succ, List.getElem?_cons_zero]; rfl)
      case hs1p => kernel_rfl
      case hf1p => kernel_rfl
      case hr1p => kernel_rfl
      case hQ1p => exact fun _ _ _ h => h
      case hy1p =>
        refine Or.inl ⟨rfl, ?_⟩
        intro W hSw
        obtain ⟨y0, y1, y2, y3, y4, y5, y6, y7⟩ := hSw
        go_simp
        try with_reducible rfl
      case hS1p => assumption
      try simp only [Act.put, List.setIfInBounds_toArray, List.set_cons_zero, List.set_cons_succ]
      refine wpAnyH_take (i := 2) (oi := ?oi2p) (v := ?v2p) ?hi2p ?hs2p ?hf2p ?hr2p ?hQ2p ?hy2p ?hS2p ?h2p
      case hi2p => exact (by simp only [List.getElem?_toArray, List.getElem?_cons_succ, List.getElem?_cons_zero]; rfl)
      case hs2p => kernel_rfl
      case hf2p => kernel_rfl
      case hr2p => kernel_rfl
      case hQ2p => exact fun _ _ _ h => h
      case hy2p =>
        refine Or.inl ⟨rfl, ?_⟩
        intro W hSw
        obtain ⟨y0, y1, y2, y3, y4, y5, y6, y7⟩ := hSw
        go_simp
        try with_reducible rfl
      case hS2p => assumption
      try simp only [Act.put, List.setIfInBounds_toArray, List.set_cons_zero, List.set_cons_succ]
      refine wpAnyH_take (i := 3) (oi := ?oi3p) (v := ?v3p) ?hi3p ?hs3p ?hf3p ?hr3p ?hQ3p ?hy3p ?hS3p ?h3p
      case hi3p => exact (by simp only [List.getElem?_toArray, List.getElem?_cons_succ, List.getElem?_cons_zero]; rfl)
      case hs3p => kernel_rfl
      case hf3p => kernel_rfl
      case hr3p => kernel_rfl
      case hQ3p => exact fun _ _ _ h => h
      case hy3p =>
        refine Or.inl ⟨rfl, ?_⟩
        intro W hSw
        obtain ⟨y0, y1, y2, y3, y4, y5, y6, y7⟩ := hSw
        go_simp
        try with_reducible rfl
      case hS3p => assumption
      try simp only [Act.put, List.setIfInBounds_toArray, List.set_cons_zero, List.set_cons_succ]
      refine wpAnyH_take (i := 4) (oi := ?oi4p) (v := ?v4p) ?hi4p ?hs4p ?hf4p ?hr4p ?hQ4p ?hy4p ?hS4p ?h4p
      case hi4p => exact (by simp only [List.getElem?_toArray, List.getElem?_cons_succ, List.getElem?_cons_zero]; rfl)
      case hs4p => kernel_rfl
      case hf4p => kernel_rfl
      case hr4p => kernel_rfl
      case hQ4p => exact fun _ _ _ h => h
      case hy4p =>
        refine Or.inl ⟨rfl, ?_⟩
        intro W hSw
        obtain ⟨y0, y1, y2, y3, y4, y5, y6, y7⟩ := hSw
        go_simp
        try with_reducible rfl
      case hS4p => assumption
      try simp only [Act.put, List.setIfInBounds_toArray, List.set_cons_zero, List.set_cons_succ]
      refine wpAnyH_take (i := 5) (oi := ?oi5p) (v := ?v5p) ?hi5p ?hs5p ?hf5p ?hr5p ?hQ5p ?hy5p ?hS5p ?h5p
      case hi5p => exact (by simp only [List.getElem?_toArray, List.getElem?_cons_succ, List.getElem?_cons_zero]; rfl)
      case hs5p => kernel_rfl
      case hf5p => kernel_rfl
      case hr5p => kernel_rfl
      case hQ5p => exact fun _ _ _ h => h
      case hy5p =>
        refine Or.inl ⟨rfl, ?_⟩
        intro W hSw
        obtain ⟨y0, y1, y2, y3, y4, y5, y6, y7⟩ := hSw
        go_simp
        try with_reducible rfl
      case hS5p => assumption
      try simp only [Act.put, List.setIfInBounds_toArray, List.set_cons_zero, List.set_cons_succ]
      refine wpAnyH_take (i := 6) (oi := ?oi6p) (v := ?v6p) ?hi6p ?hs6p ?hf6p ?hr6p ?hQ6p ?hy6p ?hS6p ?h6p
      case hi6p => exact (by simp only [List.getElem?_toArray, List.getElem?_cons_succ, List.getElem?_cons_zero]; rfl)
      case hs6p => kernel_rfl
      case hf6p => kernel_rfl
      case hr6p => kernel_rfl
      case hQ6p => exact fun _ _ _ h => h
      case hy6p =>
        refine Or.inl ⟨rfl, ?_⟩
        intro W hSw
        obtain ⟨y0, y1, y2, y3, y4, y5, y6, y7⟩ := hSw
        go_simp
        try with_reducible rfl
      case hS6p => assumption
      try simp only [Act.put, List.setIfInBounds_toArray, List.set_cons_zero, List.set_cons_succ]
      refine wpAnyH_take (i := 7) (oi := ?oi7p) (v := ?v7p) ?hi7p ?hs7p ?hf7p ?hr7p ?hQ7p ?hy7p ?hS7p ?h7p
      case hi7p => exact (by simp only [List.getElem?_toArray, List.getElem?_cons_succ, List.getElem?_cons_zero]; rfl)
      case hs7p => kernel_rfl
      case hf7p => kernel_rfl
      case hr7p => kernel_rfl
      case hQ7p => exact fun _ _ _ h => h
      case hy7p =>
        refine Or.inl ⟨rfl, ?_⟩
        intro W hSw
        obtain ⟨y0, y1, y2, y3, y4, y5, y6, y7⟩ := hSw
        go_simp
        try with_reducible rfl
      case hS7p => assumption
      try simp only [Act.put, List.setIfInBounds_toArray, List.set_cons_zero, List.set_cons_succ]
      refine wpAnyH_take (i := 8) (oi := ?oi8p) (v := (.int .i64 p)) ?hi8p ?hs8p ?hf8p ?hr8p ?hQ8p ?hy8p ?hS8p ?h8p
      case hi8p => exact (by simp only [List.getElem?_toArray, List.getElem?_cons_succ, List.getElem?_cons_zero]; rfl)
      case hs8p => kernel_rfl
      case hf8p => kernel_rfl
      case hr8p => kernel_rfl
      case hQ8p => exact fun _ _ _ h => h
      case hy8p =>
        refine Or.inl ⟨rfl, ?_⟩
        intro W hSw
        obtain ⟨y0, y1, y2, y3, y4, y5, y6, y7⟩ := hSw
        have z1 := HMX.out
        go_simp
        all_goals first | with_reducible rfl | (simp; done) | (simp; omega) | omega
      case hS8p => assumption
      try simp only [Act.put, List.setIfInBounds_toArray, List.set_cons_zero, List.set_cons_succ]
      refine wpAnyH_take (i := 9) (oi := ?oi9p) (v := (.int .i64 q)) ?hi9p ?hs9p ?hf9p ?hr9p ?hQ9p ?hy9p ?hS9p ?h9p
      case hi9p => exact (by simp only [List.getElem?_toArray, List.getElem?_cons_succ, List.getElem?_cons_zero]; rfl)
      case hs9p => kernel_rfl
      case hf9p => kernel_rfl
      case hr9p => kernel_rfl
      case hQ9p => exact fun _ _ _ h => h
      case hy9p =>
        refine Or.inl ⟨rfl, ?_⟩
        intro W hSw
        obtain ⟨y0, y1, y2, y3, y4, y5, y6, y7⟩ := hSw
        have z1 := HMI.out
        go_simp
        all_goals first | with_reducible rfl | (simp; done) | (simp; omega) | omega
      case hS9p => assumption
      try simp only [Act.put, List.setIfInBounds_toArray, List.set_cons_zero, List.set_cons_succ]
      refine wpAnyH_take (i := 10) (oi := ?oi10p) (v := ?v10p) ?hi10p ?hs10p ?hf10p ?hr10p ?hQ10p ?hy10p ?hS10p ?h10p
      case hi10p => exact (by simp only [List.getElem?_toArray, List.getElem?_cons_succ, List.getElem?_cons_zero]; rfl)
      case hs10p => kernel_rfl
      case hf10p => kernel_rfl
      case hr10p => kernel_rfl
      case hQ10p => exact fun _ _ _ h => h
      case hy10p =>
        refine Or.inl ⟨rfl, ?_⟩
        intro W hSw
        obtain ⟨y0, y1, y2, y3, y4, y5, y6, y7⟩ := hSw
        go_simp
        try with_reducible rfl
      case hS10p => assumption
      try simp only [Act.put, List.setIfInBounds_toArray, List.set_cons_zero, List.set_cons_succ]
      refine wpAnyH_take (i := 11) (oi := ?oi11p) (v := ?v11p) ?hi11p ?hs11p ?hf11p ?hr11p ?hQ11p ?hy11p ?hS11p ?h11p
      case hi11p => exact (by simp only [List.getElem?_toArray, List.getElem?_cons_succ, List.getElem?_cons_zero]; rfl)
      case hs11p => kernel_rfl
      case hf11p => kernel_rfl
      case hr11p => kernel_rfl
      case hQ11p => exact fun _ _ _ h => h
      case hy11p =>
        refine Or.inl ⟨rfl, ?_⟩
        intro W hSw
        obtain ⟨y0, y1, y2, y3, y4, y5, y6, y7⟩ := hSw
        go_simp
        try with_reducible rfl
      case hS11p => assumption
      try simp only [Act.put, List.setIfInBounds_toArray, List.set_cons_zero, List.set_cons_succ]
      refine wpAnyH_take (i := 12) (oi := ?oi12p) (v := ?v12p) ?hi12p ?hs12p ?hf12p ?hr12p ?hQ12p ?hy12p ?hS12p ?h12p
      case hi12p => exact (by simp only [List.getElem?_toArray, List.getElem?_cons_succ, List.getElem?_cons_zero]; rfl)
      case hs12p => kernel_rfl
      case hf12p => kernel_rfl
      case hr12p => kernel_rfl
      case hQ12p => exact fun _ _ _ h => h
      case hy12p =>
        refine Or.inl ⟨rfl, ?_⟩
        intro W hSw
        obtain ⟨y0, y1, y2, y3, y4, y5, y6, y7⟩ := hSw
        go_simp
        try with_reducible rfl
      case hS12p => assumption
      try simp only [Act.put, List.setIfInBounds_toArray, List.set_cons_zero, List.set_cons_succ]
      refine wpAnyH_take (i := 13) (oi := ?oi13p) (v := ?v13p) ?hi13p ?hs13p ?hf13p ?hr13p ?hQ13p ?hy13p ?hS13p ?h13p
      case hi13p => exact (by simp only [List.getElem?_toArray, List.getElem?_cons_succ, List.getElem?_cons_zero]; rfl)
      case hs13p => kernel_rfl
      case hf13p => kernel_rfl
      case hr13p => kernel_rfl
      case hQ13p => exact fun _ _ _ h => h
      case hy13p =>
        refine Or.inl ⟨rfl, ?_⟩
        intro W hSw
        obtain ⟨y0, y1, y2, y3, y4, y5, y6, y7⟩ := hSw
        go_simp
        try with_reducible rfl
      case hS13p => assumption
      try simp only [Act.put, List.setIfInBounds_toArray, List.set_cons_zero, List.set_cons_succ]
      refine wpAnyH_ready (rs := [14]) (by kernel_rfl) (by simp) ?_
      refine AllReadyH.cons (o := _) rfl (fun K hK => ?_) AllReadyH.nil
      go_simp
      refine (HWT.out Wp0).mono ?_
      rintro r Wp1 ⟨rfl, rfl⟩
      refine hK.out _ _ (HCE.out _ HDp.out) (fun hHeld => ?_)
      clear hK K
      try simp only [Act.put, List.setIfInBounds_toArray, List.set_cons_zero, List.set_cons_succ]
      refine wpAnyH_ready (rs := [15]) (by kernel_rfl) (by simp) ?_
      refine AllReadyH.cons (o := _) rfl (fun K hK => ?_) AllReadyH.nil
      go_simp
      refine (HWI.out Wp1).mono ?_
      rintro r Wp2 ⟨rfl, hbq⟩
      have HBp2 : Hid (Below w2.heap.size w2 Wp2) := HDp.out.trans (hbq.mono HDp.out.size)
      clear hbq
      refine hK.out _ _ (HCE.out _ HBp2.out) (fun hHeld => ?_)
      clear hK K
      try simp only [Act.put, List.setIfInBounds_toArray, List.set_cons_zero, List.set_cons_succ]
      refine wpAnyH_take (i := 16) (oi := ?oi16p) (v := ?v16p) ?hi16p ?hs16p ?hf16p ?hr16p ?hQ16p ?hy16p ?hS16p ?h16p
      case hi16p => exact (by simp only [List.getElem?_toArray, List.getElem?_cons_succ, List.getElem?_cons_zero]; rfl)
      case hs16p => kernel_rfl
      case hf16p => kernel_rfl
      case hr16p => kernel_rfl
      case hQ16p => exact fun _ _ _ h => h
      case hy16p =>
        refine Or.inl ⟨rfl, ?_⟩
        intro W hSw
        obtain ⟨y0, y1, y2, y3, y4, y5, y6, y7⟩ := hSw
        go_simp
        try with_reducible rfl
      case hS16p => assumption
      try simp only [Act.put, List.setIfInBounds_toArray, List.set_cons_zero, List.set_cons_succ]
      refine wpAnyH_take (i := 17) (oi := ?oi17p) (v := ?v17p) ?hi17p ?hs17p ?hf17p ?hr17p ?hQ17p ?hy17p ?hS17p ?h17p
      case hi17p => exact (by simp only [List.getElem?_toArray, List.getElem?_cons_succ, List.getElem?_cons_zero]; rfl)
      case hs17p => kernel_rfl
      case hf17p => kernel_rfl
      case hr17p => kernel_rfl
      case hQ17p => exact fun _ _ _ h => h
      case hy17p =>
        refine Or.inl ⟨rfl, ?_⟩
        intro W hSw
        obtain ⟨y0, y1, y2, y3, y4, y5, y6, y7⟩ := hSw
        have z1 := HKN.out
        go_simp
        try with_reducible rfl
      case hS17p => assumption
      try simp only [Act.put, List.setIfInBounds_toArray, List.set_cons_zero, List.set_cons_succ]
      have HR3 : Hid (Wp2.heap[R]? = some (.cells (er (rowE es i)).toArray 80 (0, 0))) := (HBp2.out.block _ (lt_of_block HR2.out)).trans HR2.out
      have HG3 : Hid (Wp2.heap[X]? = some (.cells #[.int .u32 x, .int .i64 y, .slice P tn cp, .int .i64 tr, .int .i64 tsi] 56 (0, 0))) := (HBp2.out.block _ (lt_of_block HG2.out)).trans HG2.out
      have HM3 : Hid (Wp2.heap[w.heap.size]? = some (.cells (mCells k b s c5 e5) 32 (0, 0))) := (HBp2.out.block _ (lt_of_block HM2.out)).trans HM2.out
      have HIL : Hid (i < (rowE es i).length) := by simp only [Hid]; rw [rowE_len _ _ (by rw [HEL.out]; omega), HEL.out]; exact HKN.out
      obtain ⟨W3, hW3⟩ : ∃ W3, W3 = (((Wp2.setCell ⟨R, i * 4, none⟩ (.int .i64 (i : Int))).setCell ⟨R, i * 4 + 1, none⟩ (.int .i64 (tn : Int))).setCell ⟨R, i * 4 + 2, none⟩ (.int .i64 q)).setCell ⟨R, i * 4 + 3, none⟩ (.int .i64 wi) := ⟨_, rfl⟩
      have HFIN : Hid (W3.heap[R]? = some (.cells (er ((rowE es i).set i (entP ⟨k, b, s, c5, e5⟩ now i ⟨tn, tr, tsi⟩))).toArray 80 (0, 0)) ∧ W3.heap[w.heap.size]? = some (.cells (mCells k b s c5 e5) 32 (0, 0)) ∧ Below w.heap.size w W3) := by
        have h1 := HMR.out
        refine ⟨?_, ?_, ?_⟩
        · rw [HEN.out, hW3]
          exact e_set (e := ⟨(i : Int), (tn : Int), q, wi⟩) HR3.out HIL.out
        · rw [hW3, Below.heap_setCell _ _ _ _ (by show w.heap.size ≠ R; omega), Below.heap_setCell _ _ _ _ (by show w.heap.size ≠ R; omega), Below.heap_setCell _ _ _ _ (by show w.heap.size ≠ R; omega), Below.heap_setCell _ _ _ _ (by show w.heap.size ≠ R; omega)]
          exact HM3.out
        · rw [hW3]
          have hB := HB2.out.trans (HBp2.out.mono HB2.out.size)
          exact (((hB.setCell (by show w.heap.size ≤ R; omega) _).setCell (by show w.heap.size ≤ R; omega) _).setCell (by show w.heap.size ≤ R; omega) _).setCell (by show w.heap.size ≤ R; omega) _
      have HG4 : Hid (W3.heap[X]? = some (.cells #[.int .u32 x, .int .i64 y, .slice P tn cp, .int .i64 tr, .int .i64 tsi] 56 (0, 0))) := by
        have h1 := HXR.out
        simp only [Hid]
        rw [hW3, Below.heap_setCell _ _ _ _ (by show X ≠ R; omega), Below.heap_setCell _ _ _ _ (by show X ≠ R; omega), Below.heap_setCell _ _ _ _ (by show X ≠ R; omega), Below.heap_setCell _ _ _ _ (by show X ≠ R; omega)]
        exact HG3.out
      refine wpAnyH_ready (rs := [18]) (by kernel_rfl) (by simp) ?_
      refine AllReadyH.cons (o := _) rfl (fun K hK => ?_) AllReadyH.nil
      obtain ⟨x0, hc0⟩ := e_cells HR3.out HIL.out 0 (by decide)
      obtain ⟨x1, hc1⟩ := e_cells HR3.out HIL.out 1 (by decide)
      obtain ⟨x2, hc2⟩ := e_cells HR3.out HIL.out 2 (by decide)
      obtain ⟨x3, hc3⟩ := e_cells HR3.out HIL.out 3 (by decide)
      have hf : ∀ j, Wp2.frozen? ⟨R, j, none⟩ = false := fun j => frozen_of_row _ R j _ _ HR3.out
      simp only [Nat.add_zero] at hc0
      go_simp
      rw [← hW3]
      clear hc0 hc1 hc2 hc3 hf hW3
      refine hK.out _ _ (HCF.out _ HG4.out HFIN.out.2.1) (fun hHeld => ?_)
      clear hK K
      try simp only [Act.put, List.setIfInBounds_toArray, List.set_cons_zero, List.set_cons_succ]
      refine wpAnyH_done (by kernel_rfl) ?_ _
      go_wp2
      go_roundw
      case rel => exact ⟨i + 1, by omega, by go_num, by
        simp only [Hid]
        rw [← HSU.out]
        exact ⟨HFIN.out.1, HFIN.out.2.1, HFIN.out.2.2⟩⟩
      case measure => simp [intOf] <;> omega
    · have hkn : i = n := by omega
      subst hkn
      have HZ : Hid (Es wr wr.heap.size (some ⟨R, 0, none⟩) es) := by
        have h := HV.out.1
        rw [show rowE es i = es by unfold rowE; rw [HEL.out, Nat.sub_self, List.replicate_zero, List.append_nil, List.take_of_length_le (by rw [HEL.out]; exact Nat.le_refl _)]] at h
        exact es_row h
      go_wp2
      go_ret
      exact ⟨⟨_, rfl, HZ.out⟩, HV.out.2.2⟩
end Go.Proofs.Ytnloikdfbdpilaa
