/- Ready: Check, Close, Decline. -/
import Derived.Test.YtemjmnpclknfaaaQ7
namespace Go.Proofs.Ytemjmnpclknfaaa.P
open Go.RowKit
set_option maxRecDepth 20000
set_option linter.unusedVariables false
set_option linter.unusedSimpArgs false

abbrev cZ : Value := .agg #[.int .u32 0, .slice none 0 0, .slice none 0 0, .int .i64 0]
abbrev putZ (W : World) (R : Nat) : World := (((W.setCell ⟨R, 0, none⟩ (.int .u32 0)).setCell ⟨R, 1, none⟩ (.slice none 0 0)).setCell ⟨R, 2, none⟩ (.slice none 0 0)).setCell ⟨R, 3, none⟩ (.int .i64 0)
theorem putZ_below {k R : Nat} {w W : World} (h : Below k w W) (hk : k ≤ R) : Below k w (putZ W R) := put4_below 0 ⟨none, 0, 0⟩ ⟨none, 0, 0⟩ 0 h hk
theorem putZ_cells {W : World} {R : Nat} {z0 z1 z2 z3 : Value} (h : W.heap[R]? = some (.cells #[z0, z1, z2, z3] 33 (0, 0))) : (putZ W R).cell? ⟨R, 0, none⟩ = some (.int .u32 0) ∧ (putZ W R).cell? ⟨R, 1, none⟩ = some (.slice none 0 0) ∧ (putZ W R).cell? ⟨R, 2, none⟩ = some (.slice none 0 0) ∧ (putZ W R).cell? ⟨R, 3, none⟩ = some (.int .i64 0) := cell4 (put4_row 0 ⟨none, 0, 0⟩ ⟨none, 0, 0⟩ 0 h)
/-- A told check whose lists are its own, from block B on. -/
def Tl (B id : Nat) (l ys : List Nat) (t : Int) (v : Value) (W : World) : Prop := ∃ (A1 A2 : Option Addr) (c1 c2 : Nat), v = cV id ⟨A1, l.length, c1⟩ ⟨A2, ys.length, c2⟩ t ∧ W.ownsRow B 26 1 (.slice A1 l.length c1) l.length (un l) ∧ W.ownsRow B 26 1 (.slice A2 ys.length c2) ys.length (un ys)
theorem Tl.kept {B id : Nat} {l ys : List Nat} {t : Int} {v : Value} {W W' : World} (h : Tl B id l ys t v W) (hk : ∀ g cur, B ≤ g → W.heap[g]? = some (.cells cur 26 (0, 0)) → W'.heap[g]? = W.heap[g]?) : Tl B id l ys t v W' := by
  obtain ⟨A1, A2, c1, c2, e, o1, o2⟩ := h
  refine ⟨A1, A2, c1, c2, e, own_after o1 fun g hg => ?_, own_after o2 fun g hg => ?_⟩
  · obtain ⟨cur, hc⟩ := own_type o1 hg
    exact hk g cur (ownlt o1 g hg).1 hc
  · obtain ⟨cur, hc⟩ := own_type o2 hg
    exact hk g cur (ownlt o2 g hg).1 hc
theorem Tl.base {B B' id : Nat} {l ys : List Nat} {t : Int} {v : Value} {W : World} (h : Tl B id l ys t v W) (hB : B' ≤ B) : Tl B' id l ys t v W := by
  obtain ⟨A1, A2, c1, c2, e, o1, o2⟩ := h
  exact ⟨A1, A2, c1, c2, e, own_base' o1 hB, own_base' o2 hB⟩
theorem Tl.after {B id : Nat} {l ys : List Nat} {t : Int} {v : Value} {W W' : World} (h : Tl B id l ys t v W) (hb : Below W.heap.size W W') : Tl B id l ys t v W' := h.kept fun g cur _ hg => hb.block g (lt_of_block hg)
theorem not26' {w : World} {G T : Nat} {c : Array Value} (h : w.heap[G]? = some (.cells c T (0, 0))) (hT : T ≠ 26) : ∀ g cur, w.heap[g]? = some (.cells cur 26 (0, 0)) → g ≠ G := fun g cur e e' => by
  rw [e', h] at e
  injection e with e
  injection e with _ e
  exact hT e
theorem Tl.put {B id : Nat} {l ys : List Nat} {t : Int} {v : Value} {W : World} {R : Nat} {z0 z1 z2 z3 : Value} (h : Tl B id l ys t v W) (hr : W.heap[R]? = some (.cells #[z0, z1, z2, z3] 33 (0, 0))) (id' : Nat) (a b : Sl) (t' : Int) : Tl B id l ys t v (put4 W R id' a b t') :=
  h.kept fun g cur _ hg => put4_other _ _ _ _ (not26' hr (by decide) g cur hg)
/-- What is told of a check that is there. -/
def ChkP (x : Nat) (g : Pt) (w : World) (r : Ending) (w' : World) : Prop := ∃ v, r = .returned (.tuple #[v, .bool true]) ∧ Tl w.heap.size x g.mem g.inv g.ld v w' ∧ Below w.heap.size w w'
set_option maxHeartbeats 4000000 in
theorem check_some (B R : Nat) (most : Int) (vi : Value) (L : List Pt) (x : Nat) (g : Pt) (w : World) (h : Bk w B R most vi L) (hl : L.length ≤ 100) (hg : getP L x = some g) (hm : g.mem.length ≤ 100) (hy : g.inv.length ≤ 100) :
    Calls Try.prog 10 #[bp B, .int .u32 (x : Int)] w fun r w' => ChkP x g w r w' := by
  obtain ⟨w0, hw0⟩ : ∃ w0, w0 = w.alloc (.cells #[.int .u32 0, .slice none 0 0, .slice none 0 0, .int .i64 0] 33) := ⟨_, rfl⟩
  have hb0 : Below w.heap.size w w0 := by rw [hw0]; exact (Below.refl _ _).alloc (Nat.le_refl _) _
  have hq0 : w0.heap[w.heap.size]? = some (.cells #[.int .u32 0, .slice none 0 0, .slice none 0 0, .int .i64 0] 33 (0, 0)) := by rw [hw0]; exact heap_alloc_new w _
  have HC := Lib.hid (at_some B R most vi L x g w0 (h.after hb0) hl hg)
  have H0 := Lib.hid hw0
  have HQ0 := Lib.hid hq0
  have HB0 := Lib.hid hb0
  have HM := Lib.hid hm
  have HY := Lib.hid hy
  clear hw0 hb0 hq0 h hg hl hm hy
  go_enter Try.func10, Try.ntmps10
  go_upto_region 1 with (fail)
  rw [← H0.out]
  go_wp2_with fail
  refine HC.out.mono ?_
  rintro r w1 ⟨y1, y2, y3, rfl, e3, f1, f2, hb1⟩
  obtain ⟨G, hG⟩ : ∃ G, G = w1.heap.size := ⟨_, rfl⟩
  obtain ⟨w2, hw2⟩ : ∃ w2, w2 = w1.alloc (.cells (mC y1 y2 y3) 86) := ⟨_, rfl⟩
  have hb2 : Below w1.heap.size w1 w2 := by rw [hw2]; exact (Below.refl _ _).alloc (Nat.le_refl _) _
  have hq2 : w2.heap[G]? = some (.cells (mC y1 y2 y3) 86 (0, 0)) := by rw [hw2, hG]; exact heap_alloc_new w1 _
  have hb02 := hb1.trans (hb2.mono hb1.size)
  have HCK := Lib.hid (check_any x y1 y2 y3 g.mem g.inv w2 f1.1 f2.1 (f1.after hb2).rn (f2.after hb2).rn HM.out HY.out)
  have g0 := cell_of_row w2 G 0 _ _ _ hq2
  have g1 := cell_of_row w2 G 1 _ _ _ hq2
  have g2 := cell_of_row w2 G 2 _ _ _ hq2
  simp at g0 g1 g2
  have HE3 := Lib.hid e3
  have H2 := Lib.hid hw2
  have HGG := Lib.hid hG
  have HB2 := Lib.hid (HB0.out.trans (hb02.mono HB0.out.size))
  have HQ2 := Lib.hid ((hb02.block _ (lt_of_block HQ0.out)).trans HQ0.out)
  clear hb1 hb2 hq2 hw2 hG e3 f1 f2 hb02
  go_upto_region 2 with (fail)
  rw [← H2.out, ← HGG.out]
  go_wp2_with fail
  refine HCK.out.mono ?_
  rintro r w3 ⟨v, rfl, A1, A2, c1, c2, rfl, o1, o2, hb3⟩
  have hq3 := (hb3.block _ (lt_of_block HQ2.out)).trans HQ2.out
  have x0 := cell_of_row w3 w.heap.size 0 _ _ _ hq3
  have x1 := cell_of_row w3 w.heap.size 1 _ _ _ hq3
  have x2 := cell_of_row w3 w.heap.size 2 _ _ _ hq3
  have x3 := cell_of_row w3 w.heap.size 3 _ _ _ hq3
  simp at x0 x1 x2 x3
  have xf : ∀ i, w3.frozen? ⟨w.heap.size, i, none⟩ = false := fun i => frozen_of_row w3 _ i _ _ hq3
  have HTL : Hid (Tl w.heap.size x g.mem g.inv g.ld (cV x ⟨A1, g.mem.length, c1⟩ ⟨A2, g.inv.length, c2⟩ y3) (put4 w3 w.heap.size x ⟨A1, g.mem.length, c1⟩ ⟨A2, g.inv.length, c2⟩ y3)) := by
    have ht : Tl w2.heap.size x g.mem g.inv g.ld (cV x ⟨A1, g.mem.length, c1⟩ ⟨A2, g.inv.length, c2⟩ y3) w3 := ⟨A1, A2, c1, c2, by rw [HE3.out], o1, o2⟩
    exact (ht.base HB2.out.size).put hq3 _ _ _ _
  have HBF := Lib.hid (put4_below x ⟨A1, g.mem.length, c1⟩ ⟨A2, g.inv.length, c2⟩ y3 (HB2.out.trans (hb3.mono HB2.out.size)) (Nat.le_refl w.heap.size))
  have HCL := Lib.hid (cell4 (put4_row x ⟨A1, g.mem.length, c1⟩ ⟨A2, g.inv.length, c2⟩ y3 hq3))
  clear o1 o2 hb3 hq3 g0 g1 g2
  go_wp2_with fail
  obtain ⟨e0, e1, e2, e3⟩ := HCL.out
  exact bodyPost_ret (v := .tuple #[cV x ⟨A1, g.mem.length, c1⟩ ⟨A2, g.inv.length, c2⟩ y3, .bool true]) (by simp [results, Try.results10, go_sem, e0, e1, e2, e3]) rfl ⟨_, rfl, HTL.out, HBF.out⟩
set_option maxHeartbeats 4000000 in
theorem check_none (B R : Nat) (most : Int) (vi : Value) (L : List Pt) (x : Nat) (w : World) (h : Bk w B R most vi L) (hl : L.length ≤ 100) (hg : getP L x = none) :
    Calls Try.prog 10 #[bp B, .int .u32 (x : Int)] w fun r w' => r = .returned (.tuple #[cZ, .bool false]) ∧ Below w.heap.size w w' := by
  obtain ⟨w0, hw0⟩ : ∃ w0, w0 = w.alloc (.cells #[.int .u32 0, .slice none 0 0, .slice none 0 0, .int .i64 0] 33) := ⟨_, rfl⟩
  have hb0 : Below w.heap.size w w0 := by rw [hw0]; exact (Below.refl _ _).alloc (Nat.le_refl _) _
  have hq0 : w0.heap[w.heap.size]? = some (.cells #[.int .u32 0, .slice none 0 0, .slice none 0 0, .int .i64 0] 33 (0, 0)) := by rw [hw0]; exact heap_alloc_new w _
  have HC := Lib.hid (at_none B R most vi L x w0 (h.after hb0) hl hg)
  have H0 := Lib.hid hw0
  have HQ0 := Lib.hid hq0
  have HB0 := Lib.hid hb0
  clear hw0 hb0 hq0 h hg hl
  go_enter Try.func10, Try.ntmps10
  go_upto_region 1 with (fail)
  rw [← H0.out]
  go_wp2_with fail
  refine HC.out.mono ?_
  rintro r w1 ⟨rfl, hb1⟩
  obtain ⟨w2, hw2⟩ : ∃ w2, w2 = w1.alloc (.cells mZ 86) := ⟨_, rfl⟩
  have hb2 : Below w1.heap.size w1 w2 := by rw [hw2]; exact (Below.refl _ _).alloc (Nat.le_refl _) _
  have hb02 := hb1.trans (hb2.mono hb1.size)
  have hq2 := (hb02.block _ (lt_of_block HQ0.out)).trans HQ0.out
  have x0 := cell_of_row w2 w.heap.size 0 _ _ _ hq2
  have x1 := cell_of_row w2 w.heap.size 1 _ _ _ hq2
  have x2 := cell_of_row w2 w.heap.size 2 _ _ _ hq2
  have x3 := cell_of_row w2 w.heap.size 3 _ _ _ hq2
  simp at x0 x1 x2 x3
  have xf : ∀ i, w2.frozen? ⟨w.heap.size, i, none⟩ = false := fun i => frozen_of_row w2 _ i _ _ hq2
  have HBF := Lib.hid (putZ_below (HB0.out.trans (hb02.mono HB0.out.size)) (Nat.le_refl w.heap.size))
  have HCL := Lib.hid (putZ_cells hq2)
  have H2 := Lib.hid hw2
  clear hb1 hb2 hb02 hq2 hw2
  go_upto_region 2 with (fail)
  rw [← H2.out]
  go_wp2_with fail
  obtain ⟨e0, e1, e2, e3⟩ := HCL.out
  exact bodyPost_ret (v := .tuple #[cZ, .bool false]) (by simp [results, Try.results10, go_sem, e0, e1, e2, e3]) rfl ⟨rfl, HBF.out⟩
theorem PutP.after {B R : Nat} {most : Int} {vi : Value} {L' : List Pt} {w w1 w2 : World} (h : PutP B R most vi L' w w1) (hb : Below w1.heap.size w1 w2) : PutP B R most vi L' w w2 := by
  obtain ⟨vi', h1, h2⟩ := h
  exact ⟨vi', h1.after hb, h2.trans (Stp.of_below (Nat.le_of_lt h1.ctx.1) hb)⟩
/-- What Close tells where the check is there. -/
def ClsP (B R : Nat) (most : Int) (vi : Value) (L' : List Pt) (x : Nat) (g : Pt) (last : Value) (w : World) (r : Ending) (w' : World) : Prop := ∃ v, r = .returned (.tuple #[v, last]) ∧ Tl w.heap.size x g.mem g.inv g.ld v w' ∧ PutP B R most vi L' w w'
theorem Tl.stp {R id B : Nat} {vi vi' : Value} {l ys : List Nat} {t : Int} {v : Value} {w w' : World} (h : Tl B id l ys t v w) (hs : Stp R vi vi' w w') (hv : ∀ g, vi.ownBlock = some g → g < B) : Tl B id l ys t v w' :=
  h.kept fun g cur hB hg => hs.keep g cur 26 hg (by decide) (by decide) (fun _ e => by have := hv g e; omega)
theorem PutP.keep4 {B R : Nat} {most : Int} {vi : Value} {L' : List Pt} {w w' : World} {Q : Nat} {cur : Array Value} (h : PutP B R most vi L' w w') (hq : w.heap[Q]? = some (.cells cur 33 (0, 0))) : w'.heap[Q]? = some (.cells cur 33 (0, 0)) := by
  obtain ⟨vi', _, hs⟩ := h
  exact (hs.keep Q cur 33 hq (by decide) (by decide) (fun e => absurd e (by decide))).trans hq
theorem Bk.put {w : World} {B R : Nat} {most : Int} {vi : Value} {L : List Pt} {Q : Nat} {z0 z1 z2 z3 : Value} (h : Bk w B R most vi L) (hq : w.heap[Q]? = some (.cells #[z0, z1, z2, z3] 33 (0, 0))) (id : Nat) (a b : Sl) (t : Int) : Bk (put4 w Q id a b t) B R most vi L := by
  have ho : ∀ (g : Nat) (cur : Array Value) (T : TypeId), w.heap[g]? = some (.cells cur T (0, 0)) → T ≠ 33 → (put4 w Q id a b t).heap[g]? = w.heap[g]? := fun g cur T hg hT => put4_other _ _ _ _ (fun e => by
    rw [e, hq] at hg
    injection hg with hg
    injection hg with _ hg
    exact hT hg.symm)
  obtain ⟨W', hW'⟩ : ∃ W', W' = put4 w Q id a b t := ⟨_, rfl⟩
  rw [← hW'] at ho ⊢
  clear hW'
  obtain ⟨vt, ths, h1, h2⟩ := h.ex
  refine ⟨(ho B _ 88 h.blk (by decide)).trans h.blk, vt, ths, ⟨(ho R _ 136 h1.row (by decide)).trans h1.row, own_after h1.rio fun g hg => ?_, own_after h1.rto fun g hg => ?_, h1.len, h1.up, h1.ok⟩, fun i p hp => ?_⟩
  · obtain ⟨cur, hc⟩ := own_type h1.rio hg
    exact ho g cur 26 hc (by decide)
  · obtain ⟨cur, hc⟩ := own_type h1.rto hg
    exact ho g cur 86 hc (by decide)
  · obtain ⟨th, e1, e2⟩ := h2 i p hp
    have hf : ∀ s l, Fl w R vi s l → Fl W' R vi s l := fun s l hs => ⟨hs.1, fun hl => by
      obtain ⟨b', o', a1, a2, a3, ⟨cur, a4⟩, a5⟩ := hs.2 hl
      have k := ho b' cur 26 a4 (by decide)
      exact ⟨b', o', a1, a2, a3, ⟨cur, k.trans a4⟩, fun j x hj => (World.cell?_of_block k).trans (a5 j x hj)⟩⟩
    exact ⟨th, e1, e2.1, hf _ _ e2.2.1, hf _ _ e2.2.2⟩
theorem stp_put4 {w : World} {R Q : Nat} {vi : Value} {z0 z1 z2 z3 : Value} (hq : w.heap[Q]? = some (.cells #[z0, z1, z2, z3] 33 (0, 0))) (hR : R ≤ Q) (w0 : World) (hQ : w0.heap.size ≤ Q) {vi0 : Value} (hs : Stp R vi0 vi w0 w) (id : Nat) (a b : Sl) (t : Int) : Stp R vi0 vi w0 (put4 w Q id a b t) :=
  ⟨put4_below _ _ _ _ hs.below hR, Nat.le_trans hs.size (by simp [World.size_setCell]), hs.fz, fun g cur T hg h1 h2 h3 => (put4_other _ _ _ _ (fun e => by have := lt_of_block hg; omega)).trans (hs.keep g cur T hg h1 h2 h3)⟩
theorem PutP.put4 {w0 w : World} {B R : Nat} {most : Int} {vi : Value} {L' : List Pt} {Q : Nat} {z0 z1 z2 z3 : Value} (h : PutP B R most vi L' w0 w) (hq : w.heap[Q]? = some (.cells #[z0, z1, z2, z3] 33 (0, 0))) (hR : R < w0.heap.size) (hQ : w0.heap.size ≤ Q) (id : Nat) (a b : Sl) (t : Int) : PutP B R most vi L' w0 (put4 w Q id a b t) := by
  obtain ⟨vi', h1, h2⟩ := h
  exact ⟨vi', h1.put hq _ _ _ _, stp_put4 hq (by omega) w0 hQ h2 _ _ _ _⟩
set_option maxHeartbeats 4000000 in
theorem close_some (B R : Nat) (most : Int) (vi : Value) (L : List Pt) (x : Nat) (g : Pt) (w : World) (h : Bk w B R most vi L) (hl : L.length ≤ 100) (hg : getP L x = some g) (hm : g.mem.length ≤ 100) (hy : g.inv.length ≤ 100) :
    Calls Try.prog 23 #[bp B, .int .u32 (x : Int)] w fun r w' => ClsP B R most vi (delL L x) x g (.bool true) w r w' := by
  obtain ⟨w0, hw0⟩ : ∃ w0, w0 = w.alloc (.cells #[.int .u32 0, .slice none 0 0, .slice none 0 0, .int .i64 0] 33) := ⟨_, rfl⟩
  have hb0 : Below w.heap.size w w0 := by rw [hw0]; exact (Below.refl _ _).alloc (Nat.le_refl _) _
  have hq0 : w0.heap[w.heap.size]? = some (.cells #[.int .u32 0, .slice none 0 0, .slice none 0 0, .int .i64 0] 33 (0, 0)) := by rw [hw0]; exact heap_alloc_new w _
  have HC := Lib.hid (check_some B R most vi L x g w0 (h.after hb0) hl hg hm hy)
  have HD : Hid (∀ W, Below w.heap.size w W → Calls Try.prog 50 #[bp R, .int .u32 (x : Int)] W fun r w' => DropP B R most vi (delL L x) W r w') := fun W hW => bdrop B R most vi L x W (h.after hW) hl ⟨g, get_some hg⟩
  have HCX := Lib.hid h.ctx
  have HBK := Lib.hid h
  have H0 := Lib.hid hw0
  have HQ0 := Lib.hid hq0
  have HB0 := Lib.hid hb0
  clear hw0 hb0 hq0 h hg hl hm hy
  go_enter Try.func23, Try.ntmps23
  go_upto_region 1 with (fail)
  rw [← H0.out]
  go_wp2_with fail
  refine HC.out.mono ?_
  rintro r w1 ⟨v, rfl, htl, hb1⟩
  obtain ⟨A1, A2, c1, c2, rfl, o1, o2⟩ := id htl
  obtain ⟨Q, hQ⟩ : ∃ Q, Q = w1.heap.size := ⟨_, rfl⟩
  obtain ⟨w2, hw2⟩ : ∃ w2, w2 = w1.alloc (.cells (cC x ⟨A1, g.mem.length, c1⟩ ⟨A2, g.inv.length, c2⟩ g.ld) 33) := ⟨_, rfl⟩
  have hb2 : Below w1.heap.size w1 w2 := by rw [hw2]; exact (Below.refl _ _).alloc (Nat.le_refl _) _
  have hq2 : w2.heap[Q]? = some (.cells (cC x ⟨A1, g.mem.length, c1⟩ ⟨A2, g.inv.length, c2⟩ g.ld) 33 (0, 0)) := by rw [hw2, hQ]; exact heap_alloc_new w1 _
  have hb02 := hb1.trans (hb2.mono hb1.size)
  have HT2 := Lib.hid ((htl.after hb2).base HB0.out.size)
  have HB2 := Lib.hid (HB0.out.trans (hb02.mono HB0.out.size))
  have HQ2 := Lib.hid hq2
  have HR2 := Lib.hid ((hb02.block _ (lt_of_block HQ0.out)).trans HQ0.out)
  have HQQ := Lib.hid hQ
  have H2 := Lib.hid hw2
  have b0 := (HB2.out.cell (p := ⟨B, 0, none⟩) (lt_of_block HBK.out.blk)).trans (cell_of_row w B 0 _ _ _ HBK.out.blk)
  simp at b0
  clear o1 o2 htl hb1 hb2 hq2 hb02 hw2 hQ
  go_upto_region 2 with (fail)
  rw [← H2.out, ← HQQ.out]
  go_wp2_with fail
  refine (HD.out w2 HB2.out).mono ?_
  rintro r w3 ⟨⟨z1, z2, z3, rfl⟩, hp⟩
  have hq3 := hp.keep4 HQ2.out
  have hr3 := hp.keep4 HR2.out
  obtain ⟨q0, q1, q2, q3⟩ := cell4 hq3
  have x0 := cell_of_row w3 w.heap.size 0 _ _ _ hr3
  have x1 := cell_of_row w3 w.heap.size 1 _ _ _ hr3
  have x2 := cell_of_row w3 w.heap.size 2 _ _ _ hr3
  have x3 := cell_of_row w3 w.heap.size 3 _ _ _ hr3
  simp at x0 x1 x2 x3
  have xf : ∀ i, w3.frozen? ⟨w.heap.size, i, none⟩ = false := fun i => frozen_of_row w3 _ i _ _ hr3
  have hpw := hp.from (Nat.le_of_lt HCX.out.1) HB2.out
  have HPF := Lib.hid (hpw.put4 hr3 HCX.out.1 (Nat.le_refl _) x ⟨A1, g.mem.length, c1⟩ ⟨A2, g.inv.length, c2⟩ g.ld)
  have HTF : Hid (Tl w.heap.size x g.mem g.inv g.ld (cV x ⟨A1, g.mem.length, c1⟩ ⟨A2, g.inv.length, c2⟩ g.ld) (put4 w3 w.heap.size x ⟨A1, g.mem.length, c1⟩ ⟨A2, g.inv.length, c2⟩ g.ld)) := by
    obtain ⟨vi', _, hs⟩ := hp
    exact (HT2.out.stp hs HCX.out.2).put hr3 _ _ _ _
  have HCL := Lib.hid (cell4 (put4_row x ⟨A1, g.mem.length, c1⟩ ⟨A2, g.inv.length, c2⟩ g.ld hr3))
  clear hp hq3 hr3 hpw b0
  go_wp2_with fail
  obtain ⟨e0, e1, e2, e3⟩ := HCL.out
  exact bodyPost_ret (v := .tuple #[cV x ⟨A1, g.mem.length, c1⟩ ⟨A2, g.inv.length, c2⟩ g.ld, .bool true]) (by simp [results, Try.results23, go_sem, e0, e1, e2, e3]) rfl ⟨_, rfl, HTF.out, HPF.out⟩
set_option maxHeartbeats 4000000 in
theorem close_none (B R : Nat) (most : Int) (vi : Value) (L : List Pt) (x : Nat) (w : World) (h : Bk w B R most vi L) (hl : L.length ≤ 100) (hg : getP L x = none) :
    Calls Try.prog 23 #[bp B, .int .u32 (x : Int)] w fun r w' => r = .returned (.tuple #[cZ, .bool false]) ∧ Below w.heap.size w w' := by
  obtain ⟨w0, hw0⟩ : ∃ w0, w0 = w.alloc (.cells #[.int .u32 0, .slice none 0 0, .slice none 0 0, .int .i64 0] 33) := ⟨_, rfl⟩
  have hb0 : Below w.heap.size w w0 := by rw [hw0]; exact (Below.refl _ _).alloc (Nat.le_refl _) _
  have hq0 : w0.heap[w.heap.size]? = some (.cells #[.int .u32 0, .slice none 0 0, .slice none 0 0, .int .i64 0] 33 (0, 0)) := by rw [hw0]; exact heap_alloc_new w _
  have HC := Lib.hid (check_none B R most vi L x w0 (h.after hb0) hl hg)
  have H0 := Lib.hid hw0
  have HQ0 := Lib.hid hq0
  have HB0 := Lib.hid hb0
  clear hw0 hb0 hq0 h hg hl
  go_enter Try.func23, Try.ntmps23
  go_upto_region 1 with (fail)
  rw [← H0.out]
  go_wp2_with fail
  refine HC.out.mono ?_
  rintro r w1 ⟨rfl, hb1⟩
  obtain ⟨Q, hQ⟩ : ∃ Q, Q = w1.heap.size := ⟨_, rfl⟩
  obtain ⟨w2, hw2⟩ : ∃ w2, w2 = w1.alloc (.cells #[.int .u32 0, .slice none 0 0, .slice none 0 0, .int .i64 0] 33) := ⟨_, rfl⟩
  have hb2 : Below w1.heap.size w1 w2 := by rw [hw2]; exact (Below.refl _ _).alloc (Nat.le_refl _) _
  have hq2 : w2.heap[Q]? = some (.cells #[.int .u32 0, .slice none 0 0, .slice none 0 0, .int .i64 0] 33 (0, 0)) := by rw [hw2, hQ]; exact heap_alloc_new w1 _
  have hb02 := hb1.trans (hb2.mono hb1.size)
  have hr2 := (hb02.block _ (lt_of_block HQ0.out)).trans HQ0.out
  have q0 := cell_of_row w2 Q 0 _ _ _ hq2
  have q1 := cell_of_row w2 Q 1 _ _ _ hq2
  have q2 := cell_of_row w2 Q 2 _ _ _ hq2
  have q3 := cell_of_row w2 Q 3 _ _ _ hq2
  simp at q0 q1 q2 q3
  have qf : ∀ i, w2.frozen? ⟨Q, i, none⟩ = false := fun i => frozen_of_row w2 _ i _ _ hq2
  have x0 := cell_of_row w2 w.heap.size 0 _ _ _ hr2
  have x1 := cell_of_row w2 w.heap.size 1 _ _ _ hr2
  have x2 := cell_of_row w2 w.heap.size 2 _ _ _ hr2
  have x3 := cell_of_row w2 w.heap.size 3 _ _ _ hr2
  simp at x0 x1 x2 x3
  have xf : ∀ i, w2.frozen? ⟨w.heap.size, i, none⟩ = false := fun i => frozen_of_row w2 _ i _ _ hr2
  have HBF := Lib.hid (putZ_below (HB0.out.trans (hb02.mono HB0.out.size)) (Nat.le_refl w.heap.size))
  have HCL := Lib.hid (putZ_cells hr2)
  have H2 := Lib.hid hw2
  have HQQ := Lib.hid hQ
  clear hb1 hb2 hb02 hq2 hw2 hQ hr2
  go_upto_region 2 with (fail)
  rw [← H2.out, ← HQQ.out]
  go_wp2_with fail
  obtain ⟨e0, e1, e2, e3⟩ := HCL.out
  exact bodyPost_ret (v := .tuple #[cZ, .bool false]) (by simp [results, Try.results23, go_sem, e0, e1, e2, e3]) rfl ⟨rfl, HBF.out⟩
set_option maxHeartbeats 4000000 in
theorem decline_some (B R : Nat) (most : Int) (vi : Value) (L : List Pt) (p : Nat) (g : Pt) (w : World) (h : Bk w B R most vi L) (hl : L.length ≤ 100) (hms : ∀ e ∈ L, e.mem.length ≤ 100) (hg : getP L (ofP L p) = some g) (hm : g.mem.length ≤ 100) (hy : g.inv.length ≤ 100) :
    Calls Try.prog 21 #[bp B, .int .u32 (p : Int)] w fun r w' => ClsP B R most vi (delL L (ofP L p)) (ofP L p) g (.int .i64 0) w r w' := by
  obtain ⟨w0, hw0⟩ : ∃ w0, w0 = w.alloc (.cells #[.int .u32 0, .slice none 0 0, .slice none 0 0, .int .i64 0] 33) := ⟨_, rfl⟩
  have hb0 : Below w.heap.size w w0 := by rw [hw0]; exact (Below.refl _ _).alloc (Nat.le_refl _) _
  have hq0 : w0.heap[w.heap.size]? = some (.cells #[.int .u32 0, .slice none 0 0, .slice none 0 0, .int .i64 0] 33 (0, 0)) := by rw [hw0]; exact heap_alloc_new w _
  have HOF := Lib.hid (of_any B R most vi L p w0 (h.after hb0) hl hms)
  obtain ⟨x, hx⟩ : ∃ x, x = ofP L p := ⟨_, rfl⟩
  rw [← hx] at HOF hg ⊢
  have HC : Hid (∀ W, Below w.heap.size w W → Calls Try.prog 23 #[bp B, .int .u32 (x : Int)] W fun r w' => ClsP B R most vi (delL L x) x g (.bool true) W r w') := fun W hW => close_some B R most vi L x g W (h.after hW) hl hg hm hy
  have HCX := Lib.hid h.ctx
  have H0 := Lib.hid hw0
  have HQ0 := Lib.hid hq0
  have HB0 := Lib.hid hb0
  clear hw0 hb0 hq0 h hg hl hm hy hms hx
  go_enter Try.func21, Try.ntmps21
  go_upto_region 1 with (fail)
  rw [← H0.out]
  go_wp2_with fail
  refine HOF.out.mono ?_
  rintro r w1 ⟨rfl, hb1⟩
  have HB1 := Lib.hid (HB0.out.trans (hb1.mono HB0.out.size))
  have HQ1 := Lib.hid ((hb1.block _ (lt_of_block HQ0.out)).trans HQ0.out)
  clear hb1
  go_wp2_with fail
  refine (HC.out w1 HB1.out).mono ?_
  rintro r w2 ⟨v, rfl, htl, hp⟩
  obtain ⟨A1, A2, c1, c2, rfl, o1, o2⟩ := id htl
  obtain ⟨Q, hQ⟩ : ∃ Q, Q = w2.heap.size := ⟨_, rfl⟩
  obtain ⟨w3, hw3⟩ : ∃ w3, w3 = w2.alloc (.cells (cC x ⟨A1, g.mem.length, c1⟩ ⟨A2, g.inv.length, c2⟩ g.ld) 33) := ⟨_, rfl⟩
  have hb3 : Below w2.heap.size w2 w3 := by rw [hw3]; exact (Below.refl _ _).alloc (Nat.le_refl _) _
  have hq3 : w3.heap[Q]? = some (.cells (cC x ⟨A1, g.mem.length, c1⟩ ⟨A2, g.inv.length, c2⟩ g.ld) 33 (0, 0)) := by rw [hw3, hQ]; exact heap_alloc_new w2 _
  have hr2 := hp.keep4 HQ1.out
  have hr3 := (hb3.block _ (lt_of_block hr2)).trans hr2
  obtain ⟨q0, q1, q2, q3⟩ := cell4 hq3
  have x0 := cell_of_row w3 w.heap.size 0 _ _ _ hr3
  have x1 := cell_of_row w3 w.heap.size 1 _ _ _ hr3
  have x2 := cell_of_row w3 w.heap.size 2 _ _ _ hr3
  have x3 := cell_of_row w3 w.heap.size 3 _ _ _ hr3
  simp at x0 x1 x2 x3
  have xf : ∀ i, w3.frozen? ⟨w.heap.size, i, none⟩ = false := fun i => frozen_of_row w3 _ i _ _ hr3
  have hpw := (hp.from (Nat.le_of_lt HCX.out.1) HB1.out).after hb3
  have HPF := Lib.hid (hpw.put4 hr3 HCX.out.1 (Nat.le_refl _) x ⟨A1, g.mem.length, c1⟩ ⟨A2, g.inv.length, c2⟩ g.ld)
  have HTF : Hid (Tl w.heap.size x g.mem g.inv g.ld (cV x ⟨A1, g.mem.length, c1⟩ ⟨A2, g.inv.length, c2⟩ g.ld) (put4 w3 w.heap.size x ⟨A1, g.mem.length, c1⟩ ⟨A2, g.inv.length, c2⟩ g.ld)) :=
    ((htl.after hb3).base HB1.out.size).put hr3 _ _ _ _
  have HCL := Lib.hid (cell4 (put4_row x ⟨A1, g.mem.length, c1⟩ ⟨A2, g.inv.length, c2⟩ g.ld hr3))
  have H3 := Lib.hid hw3
  have HQQ := Lib.hid hQ
  clear o1 o2 htl hp hb3 hq3 hr2 hr3 hpw hw3 hQ
  go_upto_region 2 with (fail)
  rw [← H3.out, ← HQQ.out]
  go_wp2_with fail
  obtain ⟨e0, e1, e2, e3⟩ := HCL.out
  exact bodyPost_ret (v := .tuple #[cV x ⟨A1, g.mem.length, c1⟩ ⟨A2, g.inv.length, c2⟩ g.ld, .int .i64 0]) (by simp [results, Try.results21, go_sem, e0, e1, e2, e3]) rfl ⟨_, rfl, HTF.out, HPF.out⟩
set_option maxHeartbeats 4000000 in
theorem decline_none (B R : Nat) (most : Int) (vi : Value) (L : List Pt) (p : Nat) (w : World) (h : Bk w B R most vi L) (hl : L.length ≤ 100) (hms : ∀ e ∈ L, e.mem.length ≤ 100) (hg : getP L (ofP L p) = none) :
    Calls Try.prog 21 #[bp B, .int .u32 (p : Int)] w fun r w' => r = .returned (.tuple #[cZ, .int .i64 12]) ∧ Below w.heap.size w w' := by
  obtain ⟨w0, hw0⟩ : ∃ w0, w0 = w.alloc (.cells #[.int .u32 0, .slice none 0 0, .slice none 0 0, .int .i64 0] 33) := ⟨_, rfl⟩
  have hb0 : Below w.heap.size w w0 := by rw [hw0]; exact (Below.refl _ _).alloc (Nat.le_refl _) _
  have hq0 : w0.heap[w.heap.size]? = some (.cells #[.int .u32 0, .slice none 0 0, .slice none 0 0, .int .i64 0] 33 (0, 0)) := by rw [hw0]; exact heap_alloc_new w _
  have HOF := Lib.hid (of_any B R most vi L p w0 (h.after hb0) hl hms)
  obtain ⟨x, hx⟩ : ∃ x, x = ofP L p := ⟨_, rfl⟩
  rw [← hx] at HOF hg
  have HC : Hid (∀ W, Below w.heap.size w W → Calls Try.prog 23 #[bp B, .int .u32 (x : Int)] W fun r w' => r = .returned (.tuple #[cZ, .bool false]) ∧ Below W.heap.size W w') := fun W hW => close_none B R most vi L x W (h.after hW) hl hg
  have H0 := Lib.hid hw0
  have HQ0 := Lib.hid hq0
  have HB0 := Lib.hid hb0
  clear hw0 hb0 hq0 h hg hl hms hx
  go_enter Try.func21, Try.ntmps21
  go_upto_region 1 with (fail)
  rw [← H0.out]
  go_wp2_with fail
  refine HOF.out.mono ?_
  rintro r w1 ⟨rfl, hb1⟩
  have HB1 := Lib.hid (HB0.out.trans (hb1.mono HB0.out.size))
  have HQ1 := Lib.hid ((hb1.block _ (lt_of_block HQ0.out)).trans HQ0.out)
  clear hb1
  go_wp2_with fail
  refine (HC.out w1 HB1.out).mono ?_
  rintro r w2 ⟨rfl, hb2⟩
  obtain ⟨Q, hQ⟩ : ∃ Q, Q = w2.heap.size := ⟨_, rfl⟩
  obtain ⟨w3, hw3⟩ : ∃ w3, w3 = w2.alloc (.cells #[.int .u32 0, .slice none 0 0, .slice none 0 0, .int .i64 0] 33) := ⟨_, rfl⟩
  have hb3 : Below w2.heap.size w2 w3 := by rw [hw3]; exact (Below.refl _ _).alloc (Nat.le_refl _) _
  have hb23 := hb2.trans (hb3.mono hb2.size)
  have hr3 := (hb23.block _ (lt_of_block HQ1.out)).trans HQ1.out
  have x0 := cell_of_row w3 w.heap.size 0 _ _ _ hr3
  have x1 := cell_of_row w3 w.heap.size 1 _ _ _ hr3
  have x2 := cell_of_row w3 w.heap.size 2 _ _ _ hr3
  have x3 := cell_of_row w3 w.heap.size 3 _ _ _ hr3
  simp at x0 x1 x2 x3
  have xf : ∀ i, w3.frozen? ⟨w.heap.size, i, none⟩ = false := fun i => frozen_of_row w3 _ i _ _ hr3
  have HBF := Lib.hid (putZ_below (HB1.out.trans (hb23.mono HB1.out.size)) (Nat.le_refl w.heap.size))
  have HCL := Lib.hid (putZ_cells hr3)
  have H3 := Lib.hid hw3
  clear hb2 hb3 hb23 hr3 hw3 hQ
  go_upto_region 2 with (fail)
  rw [← H3.out]
  go_wp2_with fail
  obtain ⟨e0, e1, e2, e3⟩ := HCL.out
  exact bodyPost_ret (v := .tuple #[cZ, .int .i64 12]) (by simp [results, Try.results21, go_sem, e0, e1, e2, e3]) rfl ⟨rfl, HBF.out⟩
end Go.Proofs.Ytemjmnpclknfaaa.P
