/- Ready: a room in memory; what it is asked. -/
import Derived.Test.YtemjmnpclknfaaaQ1
import Derived.Test.YtemjmnpclknfaaaQ2
namespace Go.Proofs.Ytemjmnpclknfaaa.P
open Go.RowKit
set_option maxRecDepth 20000
set_option linter.unusedVariables false
set_option linter.unusedSimpArgs false

def Ctx (w : World) (R : Nat) (vi : Value) : Prop := R < w.heap.size ∧ ∀ g, vi.ownBlock = some g → g < w.heap.size
theorem Ctx.size {w w' : World} {R : Nat} {vi : Value} (h : Ctx w R vi) (hs : w.heap.size ≤ w'.heap.size) : Ctx w' R vi := ⟨Nat.lt_of_lt_of_le h.1 hs, fun g hg => Nat.lt_of_lt_of_le (h.2 g hg) hs⟩
/-- A list that nobody writes into, in a block that is not the rack's. -/
def Fl (w : World) (R : Nat) (vi : Value) (s : Sl) (l : List Nat) : Prop :=
  s.n = l.length ∧ (0 < l.length → ∃ b o, s.a = some ⟨b, o, none⟩ ∧ R < b ∧ vi.ownBlock ≠ some b ∧ (∃ cur, w.heap[b]? = some (.cells cur 26 (0, 0))) ∧ At32 w b o l)
theorem Fl.rn {w : World} {R : Nat} {vi : Value} {s : Sl} {l : List Nat} (h : Fl w R vi s l) : Rn w s.a l := fun hl => by
  obtain ⟨b, o, e1, _, _, ⟨cur, e4⟩, e5⟩ := h.2 hl
  exact ⟨b, o, e1, lt_of_block e4, e5⟩
theorem Fl.fresh {w w' : World} {R B n c : Nat} {vi : Value} {A : Option Addr} {l : List Nat} (hc : Ctx w R vi) (hB : w.heap.size ≤ B) (h : w'.ownsRow B 26 1 (.slice A n c) n (un l)) : Fl w' R vi ⟨A, n, c⟩ l := by
  obtain ⟨hn, hr⟩ := Rn.of_own h
  refine ⟨hn, fun hl => ?_⟩
  obtain ⟨b, o, e1, e2, e3⟩ := hr hl
  rcases h.2 with ⟨e, h0⟩ | ⟨g, cap, cur, e, hg, hh, _⟩
  · omega
  · injection e with e _ _
    rw [e1] at e
    injection e with e
    injection e with eb eo _
    subst eb
    have h1 := hc.1
    exact ⟨b, o, e1, by omega, fun hv => by have := hc.2 b hv; omega, ⟨cur, hh⟩, e3⟩
/-- What a rack's call keeps. -/
structure Stp (R : Nat) (vi vi' : Value) (w w' : World) : Prop where
  below : Below R w w'
  size : w.heap.size ≤ w'.heap.size
  fz : Fz vi vi' w
  keep : ∀ g cur T, w.heap[g]? = some (.cells cur T (0, 0)) → T ≠ 86 → T ≠ 136 → (T = 26 → vi.ownBlock ≠ some g) → w'.heap[g]? = w.heap[g]?
theorem Stp.of_below {R : Nat} {vi : Value} {w w' : World} (hR : R ≤ w.heap.size) (h : Below w.heap.size w w') : Stp R vi vi w w' := ⟨h.mono hR, h.size, fun g hg => .inl hg, fun g cur T hg _ _ _ => h.block g (lt_of_block hg)⟩
theorem Stp.trans {R : Nat} {vi vi1 vi2 : Value} {w w1 w2 : World} (h : Stp R vi vi1 w w1) (h' : Stp R vi1 vi2 w1 w2) : Stp R vi vi2 w w2 :=
  ⟨h.below.trans h'.below, Nat.le_trans h.size h'.size, fun g hg => by
    rcases h'.fz g hg with e | e
    · exact h.fz g e
    · exact .inr (Nat.le_trans h.size e), fun g cur T hg h1 h2 h3 => by
    have k1 := h.keep g cur T hg h1 h2 h3
    exact (h'.keep g cur T (k1.trans hg) h1 h2 (fun e hv => (h.fz g hv).elim (h3 e) (fun hs => by have := lt_of_block hg; omega))).trans k1⟩
theorem Fl.stp {w w' : World} {R : Nat} {vi vi' : Value} {s : Sl} {l : List Nat} (h : Fl w R vi s l) (hs : Stp R vi vi' w w') : Fl w' R vi' s l := ⟨h.1, fun hl => by
  obtain ⟨b, o, e1, e2, e3, ⟨cur, e4⟩, e5⟩ := h.2 hl
  have k := hs.keep b cur 26 e4 (by decide) (by decide) (fun _ => e3)
  exact ⟨b, o, e1, e2, fun hv => (hs.fz b hv).elim e3 (fun h => by have := lt_of_block e4; omega), ⟨cur, k.trans e4⟩, fun j x hj => (World.cell?_of_block k).trans (e5 j x hj)⟩⟩
theorem Fl.after {w w' : World} {R : Nat} {vi : Value} {s : Sl} {l : List Nat} (h : Fl w R vi s l) (hb : Below w.heap.size w w') : Fl w' R vi s l := ⟨h.1, fun hl => by
  obtain ⟨b, o, e1, e2, e3, ⟨cur, e4⟩, e5⟩ := h.2 hl
  have k := hb.block b (lt_of_block e4)
  exact ⟨b, o, e1, e2, e3, ⟨cur, k.trans e4⟩, fun j x hj => (World.cell?_of_block k).trans (e5 j x hj)⟩⟩
/-- A rack's own change. -/
theorem stp_of {w w' : World} {R : Nat} {most : Int} {vi vi' vt : Value} {ids : List Nat} {ths : List Mk} (h : IsR w R most vi vt ids ths) (hc : ChR R vi vt w w') (hz : Fz vi vi' w) : Stp R vi vi' w w' :=
  ⟨hc.1, hc.2.1, hz, fun g cur T hg h1 h2 h3 => hc.2.2 g (lt_of_block hg) (fun e => by
    subst e
    rw [h.row] at hg
    injection hg with hg
    injection hg with _ hg
    exact h2 hg.symm) (fun e => by
    obtain ⟨cur', hg'⟩ := own_type h.rio e.symm
    rw [hg] at hg'
    injection hg' with hg'
    injection hg' with _ hg'
    exact h3 hg' e.symm) (fun e => by
    obtain ⟨cur', hg'⟩ := own_type h.rto e.symm
    rw [hg] at hg'
    injection hg' with hg'
    injection hg' with _ hg'
    exact h1 hg')⟩
def Gp (w : World) (R : Nat) (vi : Value) (th : Mk) (p : Pt) : Prop := th.2.2 = p.ld ∧ Fl w R vi th.1 p.mem ∧ Fl w R vi th.2.1 p.inv
/-- A book in memory: its block, its rack, what stands there. -/
structure Bk (w : World) (B R : Nat) (most : Int) (vi : Value) (L : List Pt) : Prop where
  blk : w.heap[B]? = some (.cells #[.pointer (some ⟨R, 0, none⟩)] 88 (0, 0))
  ex : ∃ vt ths, IsR w R most vi vt (L.map (·.id)) ths ∧ ∀ (i : Nat) (p : Pt), L[i]? = some p → ∃ th, ths[i]? = some th ∧ Gp w R vi th p
theorem Bk.ctx {w : World} {B R : Nat} {most : Int} {vi : Value} {L : List Pt} (h : Bk w B R most vi L) : Ctx w R vi := by
  obtain ⟨vt, ths, h1, _⟩ := h.ex
  exact ⟨lt_of_block h1.row, fun g hg => (ownlt h1.rio g hg).2⟩
theorem Gp.after {w w' : World} {R : Nat} {vi : Value} {th : Mk} {p : Pt} (h : Gp w R vi th p) (hb : Below w.heap.size w w') : Gp w' R vi th p := ⟨h.1, h.2.1.after hb, h.2.2.after hb⟩
theorem Bk.after {w w' : World} {B R : Nat} {most : Int} {vi : Value} {L : List Pt} (h : Bk w B R most vi L) (hb : Below w.heap.size w w') : Bk w' B R most vi L := by
  obtain ⟨vt, ths, h1, h2⟩ := h.ex
  exact ⟨(hb.block B (lt_of_block h.blk)).trans h.blk, vt, ths, h1.after hb, fun i p hp => by
    obtain ⟨th, e1, e2⟩ := h2 i p hp
    exact ⟨th, e1, e2.after hb⟩⟩
theorem Bk.ris {w : World} {B R : Nat} {most : Int} {vi : Value} {L : List Pt} (h : Bk w B R most vi L) : Ris L := by
  obtain ⟨vt, ths, h1, _⟩ := h.ex
  refine List.pairwise_iff_getElem.2 fun i j hi hj hij => h1.up i j _ _ hij ?_ ?_
  · rw [List.getElem?_map, List.getElem?_eq_getElem hi]; rfl
  · rw [List.getElem?_map, List.getElem?_eq_getElem hj]; rfl
theorem Bk.ok {w : World} {B R : Nat} {most : Int} {vi : Value} {L : List Pt} (h : Bk w B R most vi L) : ∀ e ∈ L, 1 ≤ e.id ∧ e.id ≤ 2147483647 := fun e he => by
  obtain ⟨vt, ths, h1, _⟩ := h.ex
  exact h1.ok _ (List.mem_map.2 ⟨e, he, rfl⟩)
abbrev bp (B : Nat) : Value := .pointer (some ⟨B, 0, none⟩)
def NewP (m : Int) (w : World) (r : Ending) (w' : World) : Prop := ∃ B, r = .returned (bp B) ∧ w.heap.size < B ∧ Bk w' B w.heap.size (max m 0) (.slice none 0 0) [] ∧ Below w.heap.size w w'
set_option maxHeartbeats 2000000 in
theorem new_bk (m : Int) (w : World) : Calls Try.prog 8 #[.int .i64 m] w fun r w' => NewP m w r w' := by
  have HN := Lib.hid (new_any m w)
  go_enter Try.func8, Try.ntmps8
  go_wp2_with fail
  refine HN.out.mono ?_
  rintro r w1 ⟨rfl, h1, hb⟩
  obtain ⟨w2, hw2⟩ : ∃ w2, w2 = w1.alloc (.cells #[.pointer (some ⟨w.heap.size, 0, none⟩)] 88) := ⟨_, rfl⟩
  have hb2 : Below w1.heap.size w1 w2 := by rw [hw2]; exact (Below.refl _ _).alloc (Nat.le_refl _) _
  have HF : Hid (NewP m w (.returned (bp w1.heap.size)) w2) := ⟨_, rfl, lt_of_block h1.row, ⟨by rw [hw2]; exact heap_alloc_new w1 _, _, _, h1.after hb2, fun i p hp => by simp at hp⟩, hb.trans (hb2.mono hb.size)⟩
  rw [hw2] at HF
  clear h1 hb hw2 hb2
  go_wp2
  go_ret
  exact HF.out

def GetP (R : Nat) (vi : Value) (g : Pt) (w : World) (r : Ending) (w' : World) : Prop := ∃ (y1 y2 : Sl) (y3 : Int), r = .returned (.tuple #[mV y1 y2 y3, .bool true]) ∧ y3 = g.ld ∧ Fl w' R vi y1 g.mem ∧ Fl w' R vi y2 g.inv ∧ Below w.heap.size w w'
theorem rget_some (B R : Nat) (most : Int) (vi : Value) (L : List Pt) (x : Nat) (g : Pt) (w : World) (h : Bk w B R most vi L) (hl : L.length ≤ 100) (hg : getP L x = some g) :
    Calls Try.prog 78 #[bp R, .int .u32 (x : Int)] w fun r w' => GetP R vi g w r w' := by
  obtain ⟨vt, ths, h1, h2⟩ := h.ex
  obtain ⟨hm, hi⟩ := get_some hg
  refine (get_there R most vi vt _ ths x w h1 (by simp; omega) (List.mem_map.2 ⟨g, hm, hi⟩)).mono ?_
  rintro r w' ⟨⟨p, y1, y2, y3, e1, e2, rfl⟩, hb⟩
  rw [List.getElem?_map] at e1
  obtain ⟨e, he, hei⟩ := Option.map_eq_some_iff.1 e1
  have := get_at h.ris he
  rw [hei, hg] at this
  injection this with this
  subst this
  obtain ⟨th, a1, a2⟩ := h2 p g he
  rw [e2] at a1
  injection a1 with a1
  subst a1
  exact ⟨y1, y2, y3, rfl, a2.1, a2.2.1.after hb, a2.2.2.after hb, hb⟩
theorem rget_none (B R : Nat) (most : Int) (vi : Value) (L : List Pt) (x : Nat) (w : World) (h : Bk w B R most vi L) (hl : L.length ≤ 100) (hg : getP L x = none) :
    Calls Try.prog 78 #[bp R, .int .u32 (x : Int)] w fun r w' => r = .returned (.tuple #[.agg mZ, .bool false]) ∧ Below w.heap.size w w' := by
  obtain ⟨vt, ths, h1, h2⟩ := h.ex
  exact get_none R most vi vt _ ths x w h1 (by simp; omega) (fun hx => by
    obtain ⟨e, he, hi⟩ := List.mem_map.1 hx
    exact getP_none hg e he hi)
theorem three_fl {w1 : World} {R G : Nat} {vi x y z : Value} {s : Sl} {l : List Nat} (h : Fl w1 R vi s l) (hn : ∀ b cur, w1.heap[b]? = some (.cells cur 26 (0, 0)) → b ≠ G) : Fl (((w1.setCell ⟨G, 0, none⟩ x).setCell ⟨G, 1, none⟩ y).setCell ⟨G, 2, none⟩ z) R vi s l := ⟨h.1, fun hl => by
  obtain ⟨b, o, e1, e2, e3, ⟨cur, e4⟩, e5⟩ := h.2 hl
  have hne := hn b cur e4
  have k : (((w1.setCell ⟨G, 0, none⟩ x).setCell ⟨G, 1, none⟩ y).setCell ⟨G, 2, none⟩ z).heap[b]? = w1.heap[b]? := ((Below.heap_setCell _ _ _ _ hne).trans (Below.heap_setCell _ _ _ _ hne)).trans (Below.heap_setCell _ _ _ _ hne)
  exact ⟨b, o, e1, e2, e3, ⟨cur, k.trans e4⟩, fun j x hj => (World.cell?_of_block k).trans (e5 j x hj)⟩⟩
set_option maxHeartbeats 4000000 in
theorem at_some (B R : Nat) (most : Int) (vi : Value) (L : List Pt) (x : Nat) (g : Pt) (w : World) (h : Bk w B R most vi L) (hl : L.length ≤ 100) (hg : getP L x = some g) :
    Calls Try.prog 37 #[bp B, .int .u32 (x : Int)] w fun r w' => GetP R vi g w r w' := by
  obtain ⟨w0, hw0⟩ : ∃ w0, w0 = w.alloc (.cells (mZ) 86) := ⟨_, rfl⟩
  have hb0 : Below w.heap.size w w0 := by rw [hw0]; exact (Below.refl _ _).alloc (Nat.le_refl _) _
  have hq0 : w0.heap[w.heap.size]? = some (.cells (mZ) 86 (0, 0)) := by rw [hw0]; exact heap_alloc_new w _
  have hbk := h.after hb0
  have c0 := cell_of_row w0 B 0 _ _ _ hbk.blk
  simp at c0
  have H0 := Lib.hid hw0
  have HB0 := Lib.hid hb0
  have HQ0 := Lib.hid hq0
  have HG := Lib.hid (rget_some B R most vi L x g w0 hbk hl hg)
  clear hw0 hb0 hq0 hbk h hg
  go_enter Try.func37, Try.ntmps37
  go_upto_region 1 with (fail)
  rw [← H0.out]
  go_wp2_with fail
  refine HG.out.mono ?_
  rintro r w1 ⟨y1, y2, y3, rfl, e1, f2, f3, hb⟩
  have hq1 := (hb.block _ (lt_of_block HQ0.out)).trans HQ0.out
  have y0 := cell_of_row _ w.heap.size 0 _ _ _ hq1
  have y1' := cell_of_row _ w.heap.size 1 _ _ _ hq1
  have y2' := cell_of_row _ w.heap.size 2 _ _ _ hq1
  simp at y0 y1' y2'
  have yf : ∀ i, w1.frozen? ⟨w.heap.size, i, none⟩ = false := fun i => frozen_of_row _ _ i _ _ hq1
  have HT := Lib.hid (three (.slice y1.a y1.n y1.c) (.slice y2.a y2.n y2.c) (.int .i64 y3) hq1)
  have HB1 : Hid (Below w.heap.size w w1) := HB0.out.trans (hb.mono HB0.out.size)
  have HTB := Lib.hid (three_below (.slice y1.a y1.n y1.c) (.slice y2.a y2.n y2.c) (.int .i64 y3) HB1.out (Nat.le_refl w.heap.size))
  have hk : Below w1.heap.size w1 w1 := Below.refl _ _
  have HF : Hid (y3 = g.ld ∧ Fl w1 R vi y1 g.mem ∧ Fl w1 R vi y2 g.inv) := ⟨e1, f2, f3⟩
  have HNE : Hid (∀ b cur, w1.heap[b]? = some (.cells cur 26 (0, 0)) → b ≠ w.heap.size) := fun b cur hbk e => by
    rw [e, hq1] at hbk
    injection hbk with hbk
    injection hbk with _ hbk
    exact absurd hbk (by decide)
  clear hq1 hb e1 f2 f3 hk
  go_wp2
  obtain ⟨e0, e1, e2, _⟩ := HT.out
  refine bodyPost_ret (v := .tuple #[mV y1 y2 y3, .bool true]) (by simp [results, Try.results37, go_sem, e0, e1, e2]) rfl ⟨y1, y2, y3, rfl, HF.out.1, ?_, ?_, HTB.out⟩
  · exact three_fl HF.out.2.1 HNE.out
  · exact three_fl HF.out.2.2 HNE.out
set_option maxHeartbeats 4000000 in
theorem at_none (B R : Nat) (most : Int) (vi : Value) (L : List Pt) (x : Nat) (w : World) (h : Bk w B R most vi L) (hl : L.length ≤ 100) (hg : getP L x = none) :
    Calls Try.prog 37 #[bp B, .int .u32 (x : Int)] w fun r w' => r = .returned (.tuple #[.agg mZ, .bool false]) ∧ Below w.heap.size w w' := by
  obtain ⟨w0, hw0⟩ : ∃ w0, w0 = w.alloc (.cells (mZ) 86) := ⟨_, rfl⟩
  have hb0 : Below w.heap.size w w0 := by rw [hw0]; exact (Below.refl _ _).alloc (Nat.le_refl _) _
  have hq0 : w0.heap[w.heap.size]? = some (.cells (mZ) 86 (0, 0)) := by rw [hw0]; exact heap_alloc_new w _
  have hbk := h.after hb0
  have c0 := cell_of_row w0 B 0 _ _ _ hbk.blk
  simp at c0
  have H0 := Lib.hid hw0
  have HB0 := Lib.hid hb0
  have HQ0 := Lib.hid hq0
  have HG := Lib.hid (rget_none B R most vi L x w0 hbk hl hg)
  clear hw0 hb0 hq0 hbk h hg
  go_enter Try.func37, Try.ntmps37
  go_upto_region 1 with (fail)
  rw [← H0.out]
  go_wp2_with fail
  refine HG.out.mono ?_
  rintro r w1 ⟨rfl, hb⟩
  have hq1 := (hb.block _ (lt_of_block HQ0.out)).trans HQ0.out
  have y0 := cell_of_row _ w.heap.size 0 _ _ _ hq1
  have y1' := cell_of_row _ w.heap.size 1 _ _ _ hq1
  have y2' := cell_of_row _ w.heap.size 2 _ _ _ hq1
  simp at y0 y1' y2'
  have yf : ∀ i, w1.frozen? ⟨w.heap.size, i, none⟩ = false := fun i => frozen_of_row _ _ i _ _ hq1
  have HT := Lib.hid (three (.slice none 0 0) (.slice none 0 0) (.int .i64 0) hq1)
  have HB1 : Hid (Below w.heap.size w w1) := HB0.out.trans (hb.mono HB0.out.size)
  have HTB := Lib.hid (three_below (.slice none 0 0) (.slice none 0 0) (.int .i64 0) HB1.out (Nat.le_refl w.heap.size))
  clear hq1 hb
  go_wp2
  obtain ⟨e0, e1, e2, _⟩ := HT.out
  exact bodyPost_ret (v := .tuple #[.agg mZ, .bool false]) (by simp [results, Try.results37, go_sem, e0, e1, e2]) rfl ⟨rfl, HTB.out⟩
end Go.Proofs.Ytemjmnpclknfaaa.P
