/- Fill: tickets in memory; Find, the program's and the document's. -/
import Derived.Test.YtccabdhfnjlbdaaF7
import Derived.Test.YtccabdhfnjlbdaaF9
import Derived.Test.YtccabdhfnjlbdaaFA
import Derived.OwnWalk
namespace Go.Proofs.Ytccabdhfnjlbdaa
open Go.RowKit
set_option maxRecDepth 20000
set_option linter.unusedVariables false

/-- The tickets l are read from A on. -/
def Ts (w : World) (B : Nat) (A : Option Addr) (l : List Tk) : Prop :=
  0 < l.length → ∃ b o, A = some ⟨b, o, none⟩ ∧ b < B ∧ ∀ (i : Nat) (t : Tk), l[i]? = some t → ∃ (x y : Int) (P : Option Addr) (c : Nat), w.cell? ⟨b, o + i * 5, none⟩ = some (.int .u32 x) ∧ w.cell? ⟨b, o + i * 5 + 1, none⟩ = some (.int .i64 y) ∧ w.cell? ⟨b, o + i * 5 + 2, none⟩ = some (.slice P t.n c) ∧ w.cell? ⟨b, o + i * 5 + 3, none⟩ = some (.int .i64 t.r) ∧ w.cell? ⟨b, o + i * 5 + 4, none⟩ = some (.int .i64 t.s)
theorem Ts.nil {w : World} {B : Nat} {A : Option Addr} : Ts w B A [] := fun h => absurd h (by simp)
theorem Ts.below {w W : World} {B : Nat} {A : Option Addr} {l : List Tk} (h : Ts w B A l) (hb : Below B w W) : Ts W B A l := fun hl => by
  obtain ⟨b, o, h1, h2, h3⟩ := h hl
  refine ⟨b, o, h1, h2, fun i e he => ?_⟩
  obtain ⟨x, y, P, c, e0, e1, e2, e3, e4⟩ := h3 i e he
  exact ⟨x, y, P, c, (hb.cell (p := ⟨b, _, none⟩) h2).trans e0, (hb.cell (p := ⟨b, _, none⟩) h2).trans e1, (hb.cell (p := ⟨b, _, none⟩) h2).trans e2, (hb.cell (p := ⟨b, _, none⟩) h2).trans e3, (hb.cell (p := ⟨b, _, none⟩) h2).trans e4⟩
theorem Ts.mono {w : World} {B B' : Nat} {A : Option Addr} {l : List Tk} (h : Ts w B A l) (hb : B ≤ B') : Ts w B' A l := fun hl => by
  obtain ⟨b, o, h1, h2, h3⟩ := h hl
  exact ⟨b, o, h1, Nat.lt_of_lt_of_le h2 hb, h3⟩
theorem Ts.later {w W : World} {B : Nat} {A : Option Addr} {l : List Tk} (h : Ts w B A l) (hb : Below B w W) (hB : B ≤ w.heap.size) : Ts W W.heap.size A l := (h.below hb).mono (Nat.le_trans hB hb.size)
/-- May a ticket sit down? -/
def okP (m : Mo) (now : Int) (rows : List Rw) (t : Tk) : Bool := decide (¬ teamP m t.n rows = 0) && fitsP m now t rows
/-- The first ticket that may sit down, and where. -/
def findR (m : Mo) (now : Int) (rows : List Rw) (l : List Tk) : Int × Int × Bool :=
  match l.findIdx? (okP m now rows) with
  | some k => (k, teamP m (l[k]?.getD default).n rows, true)
  | none => (0, 0, false)
theorem findR_none {m : Mo} {now : Int} {rows : List Rw} {l : List Tk} (h : ∀ t ∈ l, okP m now rows t = false) : findR m now rows l = (0, 0, false) := by
  unfold findR
  rw [List.findIdx?_eq_none_iff.2 h]
theorem findR_some {m : Mo} {now : Int} {rows : List Rw} {l : List Tk} {k : Nat} {t : Tk} (hk : l[k]? = some t) (ht : okP m now rows t = true) (h : ∀ x ∈ l.take k, okP m now rows x = false) : findR m now rows l = ((k : Int), teamP m t.n rows, true) := by
  obtain ⟨hlt, hx⟩ := List.getElem?_eq_some_iff.1 hk
  have e : l.findIdx? (okP m now rows) = some k := by
    rw [List.findIdx?_eq_some_iff_getElem]
    refine ⟨hlt, by rw [hx]; exact ht, fun j hj => ?_⟩
    have := h l[j] (by rw [List.mem_iff_getElem?]; exact ⟨j, by rw [List.getElem?_take, if_pos hj]; exact List.getElem?_eq_getElem _⟩)
    rw [this]
    simp
  unfold findR
  rw [e]
  show ((k : Int), teamP m (l[k]?.getD default).n rows, true) = _
  rw [hk]
  rfl
abbrev fR (x : Int × Int × Bool) : Value := .tuple #[.int .i64 x.1, .int .i64 x.2.1, .bool x.2.2]

set_option maxHeartbeats 8000000 in
theorem find_any (m : Mo) (now : Int) (L : Option Addr) (nl cl : Nat) (l : List Tk) (A : Option Addr) (n c : Nat) (rows : List Rw) (w : World) (hnl : nl = l.length) (hL : Ts w w.heap.size L l) (hll : nl ≤ 1000) (hln : ∀ t ∈ l, t.n ≤ 10 ∧ In64 t.s) (hn : n = rows.length) (hE : Rs w w.heap.size A rows) (hS : ∀ e ∈ rows, e.n ≤ 10) (hl : n ≤ 100) (hnow : In64 now) :
    Calls Try.prog 18 #[m.v, .int .i64 now, .slice L nl cl, .slice A n c] w fun r w' => r = .returned (fR (findR m now rows l)) ∧ Below w.heap.size w w' := by
  obtain ⟨w0, hw0⟩ : ∃ w0, w0 = w.alloc (.cells m.cells 35) := ⟨_, rfl⟩
  have hb0 : Below w.heap.size w w0 := by rw [hw0]; exact (Below.refl _ _).alloc (Nat.le_refl _) _
  have hp0 : w0.heap[w.heap.size]? = some (.cells m.cells 35 (0, 0)) := by rw [hw0]; exact heap_alloc_new w _
  have HCE : Hid (∀ W, Below w0.heap.size w0 W → W.cell? ⟨w.heap.size, 0, none⟩ = some (.int .i64 m.k) ∧ W.cell? ⟨w.heap.size, 1, none⟩ = some (.int .i64 m.b) ∧ W.cell? ⟨w.heap.size, 2, none⟩ = some (.int .i64 m.s) ∧ W.cell? ⟨w.heap.size, 3, none⟩ = some (.int .i64 m.c) ∧ W.cell? ⟨w.heap.size, 4, none⟩ = some (.int .i64 m.e)) := fun W hW => by
    have e0 := (hW.block _ (lt_of_block hp0)).trans hp0
    exact ⟨cell_of_row W _ 0 _ _ _ e0, cell_of_row W _ 1 _ _ _ e0, cell_of_row W _ 2 _ _ _ e0, cell_of_row W _ 3 _ _ _ e0, cell_of_row W _ 4 _ _ _ e0⟩
  have HT : Hid (∀ W t, Below w0.heap.size w0 W → t ∈ l → Calls Try.prog 11 #[m.v, .int .i64 t.n, .slice A n c] W fun r w' => r = .returned (.int .i64 (teamP m t.n rows)) ∧ Below W.heap.size W w') := fun W t hW ht =>
    team_any m t.n A n c rows W (by have := (hln t ht).1; unfold In64; omega) hn ((hE.later hb0 (Nat.le_refl _)).later hW (Nat.le_refl _)) hS hl
  have HF : Hid (∀ W t x y P cp, Below w0.heap.size w0 W → t ∈ l → Calls Try.prog 15 #[m.v, .int .i64 now, .agg #[.int .u32 x, .int .i64 y, .slice P t.n cp, .int .i64 t.r, .int .i64 t.s], .slice A n c] W fun r w' => r = .returned (.bool (fitsP m now t rows)) ∧ Below W.heap.size W w') := fun W t x y P cp hW ht =>
    fits_any m now x y P cp t A n c rows W hn ((hE.later hb0 (Nat.le_refl _)).later hW (Nat.le_refl _)) (by omega) hnow (hln t ht).2
  have HL := Lib.hid (hL.later hb0 (Nat.le_refl _))
  have HNL := Lib.hid hnl
  have H0 := Lib.hid hw0
  have HB0 := Lib.hid hb0
  have HBS : Hid (Below w0.heap.size w0 w0) := Below.refl _ _
  clear hw0 hb0 hp0 hnl hL hln hn hE hS hl hnow
  go_enter Try.func18, Try.ntmps18
  go_upto_region 1 with (fail)
  rw [← H0.out]
  go_wp2_with fail
  go_loopw [16] (fun u wr => ∃ k : Nat, k ≤ nl ∧ u = .int .i64 (k : Int) ∧ Hid ((∀ t ∈ l.take k, okP m now rows t = false) ∧ Below w0.heap.size w0 wr)) (fun u _ => nl - (intOf u).toNat)
  case atStart => exact ⟨0, by omega, rfl, by simp, HBS.out⟩
  case round =>
    obtain ⟨k, hk, rfl, HV⟩ := hrel
    by_cases hlt : k < nl
    · obtain ⟨t, hy⟩ : ∃ t, l[k]? = some t := ⟨l[k]'(by rw [← HNL.out]; exact hlt), List.getElem?_eq_getElem _⟩
      obtain ⟨b1, o1, rfl, hb1, ha1⟩ := (HL.out.below HV.out.2) (by have := HNL.out; omega)
      obtain ⟨x, y, P, cp, d0, d1, d2, d3, d4⟩ := ha1 k _ hy
      have HY := Lib.hid hy
      have hmem := List.mem_of_getElem? hy
      obtain ⟨tm, htm⟩ : ∃ tm, tm = teamP m t.n rows := ⟨_, rfl⟩
      obtain ⟨f, hf⟩ : ∃ f, f = fitsP m now t rows := ⟨_, rfl⟩
      have HT1 : Hid (∀ W, Below w0.heap.size w0 W → Calls Try.prog 11 #[m.v, .int .i64 t.n, .slice A n c] W fun r w' => r = .returned (.int .i64 tm) ∧ Below W.heap.size W w') := fun W hW => by rw [htm]; exact HT.out W t hW hmem
      have HF1 : Hid (∀ W, Below w0.heap.size w0 W → Calls Try.prog 15 #[m.v, .int .i64 now, .agg #[.int .u32 x, .int .i64 y, .slice P t.n cp, .int .i64 t.r, .int .i64 t.s], .slice A n c] W fun r w' => r = .returned (.bool f) ∧ Below W.heap.size W w') := fun W hW => by rw [hf]; exact HF.out W t x y P cp hW hmem
      have HOK : Hid (okP m now rows t = (decide (¬ tm = 0) && f)) := by simp only [Hid, okP]; rw [htm, hf]
      have HSOME : Hid (¬ tm = 0 → f = true → findR m now rows l = ((k : Int), tm, true)) := fun h1 h2 => by
        rw [htm]
        exact findR_some HY.out (by rw [HOK.out, decide_eq_true h1, h2]; rfl) HV.out.1
      have HNEXT : Hid (okP m now rows t = false → ∀ x ∈ l.take (k + 1), okP m now rows x = false) := fun h0 x hx => by
        rw [List.take_add_one, HY.out] at hx
        rcases List.mem_append.1 hx with h | h
        · exact HV.out.1 x h
        · simp at h
          subst h
          exact h0
      clear hy htm hf hmem
      obtain ⟨w2, hw2⟩ : ∃ w2, w2 = wr.alloc (.cells #[.int .u32 x, .int .i64 y, .slice P t.n cp, .int .i64 t.r, .int .i64 t.s] 44) := ⟨_, rfl⟩
      obtain ⟨X, hX⟩ : ∃ X, X = wr.heap.size := ⟨_, rfl⟩
      have hg2 : w2.heap[X]? = some (.cells #[.int .u32 x, .int .i64 y, .slice P t.n cp, .int .i64 t.r, .int .i64 t.s] 44 (0, 0)) := by rw [hw2, hX]; exact heap_alloc_new wr _
      have hb2 : Below wr.heap.size wr w2 := by rw [hw2]; exact (Below.refl _ _).alloc (Nat.le_refl _) _
      have HB2 : Hid (Below w0.heap.size w0 w2) := HV.out.2.trans (hb2.mono HV.out.2.size)
      have HCF : Hid (∀ W : World, Below w2.heap.size w2 W → W.cell? ⟨X, 0, none⟩ = some (.int .u32 x) ∧ W.cell? ⟨X, 1, none⟩ = some (.int .i64 y) ∧ W.cell? ⟨X, 2, none⟩ = some (.slice P t.n cp) ∧ W.cell? ⟨X, 3, none⟩ = some (.int .i64 t.r) ∧ W.cell? ⟨X, 4, none⟩ = some (.int .i64 t.s)) := fun W hW => by
        have e1 := (hW.block X (lt_of_block hg2)).trans hg2
        exact ⟨cell_of_row W _ 0 _ _ _ e1, cell_of_row W _ 1 _ _ _ e1, cell_of_row W _ 2 _ _ _ e1, cell_of_row W _ 3 _ _ _ e1, cell_of_row W _ 4 _ _ _ e1⟩
      have H2 := Lib.hid hw2
      have HXE := Lib.hid hX
      have HX2 : Hid (w0.heap.size ≤ w2.heap.size) := HB2.out.size
      clear ha1 hb1 hw2 hX hg2 hb2
      go_upto_region 4 with (fail)
      rw [← H2.out]
      rw [← HXE.out]
      clear d0 d1 d2 d3 d4 H2 HXE
      obtain ⟨y0, y1, y2, y3, y4⟩ := HCE.out w2 HB2.out
      obtain ⟨z0, z1, z2, z3, z4⟩ := HCF.out w2 (Below.refl _ _)
      go_wp2_with fail
      refine (HT1.out w2 HB2.out).mono ?_
      rintro r w3 ⟨rfl, hb3⟩
      have HB3 := Lib.hid (HB2.out.trans (hb3.mono HB2.out.size))
      have HC3 := Lib.hid hb3
      clear hb3 y0 y1 y2 y3 y4 z0 z1 z2 z3 z4
      obtain ⟨y0, y1, y2, y3, y4⟩ := HCE.out w3 HB3.out
      obtain ⟨z0, z1, z2, z3, z4⟩ := HCF.out w3 HC3.out
      by_cases ht0 : tm = 0
      · subst ht0
        have HOF : Hid (okP m now rows t = false) := by simp only [Hid]; rw [HOK.out]; rfl
        go_wp2
        go_roundw
        case rel => exact ⟨k + 1, by omega, by go_num, HNEXT.out HOF.out, HB3.out⟩
        case measure => simp [intOf] <;> omega
      · have htb : (tm == 0) = false := by simp [ht0]
        go_wp2_with fail
        refine (HF1.out w3 HB3.out).mono ?_
        rintro r w4 ⟨rfl, hb4⟩
        have HB4 := Lib.hid (HB3.out.trans (hb4.mono HB3.out.size))
        clear hb4
        cases f
        · have HOF : Hid (okP m now rows t = false) := by simp only [Hid]; rw [HOK.out, Bool.and_false]
          go_wp2
          go_roundw
          case rel => exact ⟨k + 1, by omega, by go_num, HNEXT.out HOF.out, HB4.out⟩
          case measure => simp [intOf] <;> omega
        · have HFI := Lib.hid (HSOME.out ht0 rfl)
          go_wp2
          go_ret3
          exact ⟨by rw [HFI.out]; rfl, HB0.out.trans (HB4.out.mono HB0.out.size)⟩
    · have hkn : k = nl := by omega
      subst hkn
      have HA : Hid (findR m now rows l = (0, 0, false)) := by
        have h := HV.out.1
        rw [List.take_of_length_le (by rw [← HNL.out]; exact Nat.le_refl _)] at h
        exact findR_none h
      go_wp2
      go_ret3
      exact ⟨by rw [HA.out]; rfl, HB0.out.trans (HV.out.2.mono HB0.out.size)⟩
end Go.Proofs.Ytccabdhfnjlbdaa
