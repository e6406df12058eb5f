/- Queue: Get and Drop. -/
import Derived.Test.YtemjmnpclknfaaaGreatUE
import Derived.Test.YtemjmnpclknfaaaGreatXA
namespace Go.Proofs.YtemjmnpclknfaaaGreat.T
open Go.RowKit
open Go.Proofs.YtemjmnpclknfaaaGreat.P (Sl un)
set_option maxRecDepth 20000
set_option linter.unusedVariables false
set_option linter.unusedSimpArgs false

theorem row5 {W : World} {T : Nat} {a b c d e : Value} (x y z u v : Value) (h : W.heap[T]? = some (.cells #[a, b, c, d, e] 39 (0, 0))) : (((((W.setCell ⟨T, 0, none⟩ x).setCell ⟨T, 1, none⟩ y).setCell ⟨T, 2, none⟩ z).setCell ⟨T, 3, none⟩ u).setCell ⟨T, 4, none⟩ v).heap[T]? = some (.cells #[x, y, z, u, v] 39 (0, 0)) :=
  heap_setCell_same _ T 4 _ 39 _ (heap_setCell_same _ T 3 _ 39 _ (heap_setCell_same _ T 2 _ 39 _ (heap_setCell_same _ T 1 _ 39 _ (heap_setCell_same _ T 0 _ 39 _ h))))
theorem oth5 {W : World} {T k : Nat} (x y z u v : Value) (h : k ≠ T) : (((((W.setCell ⟨T, 0, none⟩ x).setCell ⟨T, 1, none⟩ y).setCell ⟨T, 2, none⟩ z).setCell ⟨T, 3, none⟩ u).setCell ⟨T, 4, none⟩ v).heap[k]? = W.heap[k]? := by
  rw [Below.heap_setCell _ _ _ _ h, Below.heap_setCell _ _ _ _ h, Below.heap_setCell _ _ _ _ h, Below.heap_setCell _ _ _ _ h, Below.heap_setCell _ _ _ _ h]
/-- What is told of a ticket that is there: its players are its own. -/
def QGetP (e : Tk) (w : World) (r : Ending) (w' : World) : Prop := ∃ A c, r = .returned (.tuple #[.agg (mC e.id e.md ⟨A, e.mem.length, c⟩ e.rt e.sn), .bool true]) ∧ w'.ownsRow w.heap.size 33 1 (.slice A e.mem.length c) e.mem.length (un e.mem) ∧ Below w.heap.size w w'
set_option maxHeartbeats 4000000 in
theorem qget_there (B R : Nat) (mo : Int) (vi : Value) (ms : Sl) (L : List Tk) (e : Tk) (w : World) (h : Bq w B R mo vi ms L) (hl : L.length ≤ 1000) (he : e ∈ L) (hm : e.mem.length ≤ 1000) :
    Calls Tryz.prog 14 #[qp B, .int .u32 (e.id : Int)] w fun r w' => QGetP e w r w' := by
  obtain ⟨T, hT⟩ : ∃ T, T = w.heap.size := ⟨_, rfl⟩
  obtain ⟨w0, hw0⟩ : ∃ w0, w0 = w.alloc (.cells #[.int .u32 0, .int .i64 0, .slice none 0 0, .int .i64 0, .int .i64 0] 39) := ⟨_, rfl⟩
  have hb0 : Below w.heap.size w w0 := by rw [hw0]; exact (Below.refl _ _).alloc (Nat.le_refl _) _
  have hq0 : w0.heap[T]? = some (.cells #[.int .u32 0, .int .i64 0, .slice none 0 0, .int .i64 0, .int .i64 0] 39 (0, 0)) := by rw [hw0, hT]; exact heap_alloc_new w _
  obtain ⟨k, hk⟩ := List.mem_iff_getElem?.1 he
  have HWA := Lib.hid (waiting_any B R mo vi ms L w0 (h.after hb0))
  have HGA := Lib.hid (get_at (h.after hb0) hl hk)
  have H0 := Lib.hid hw0
  have HT := Lib.hid hT
  have HQ0 := Lib.hid hq0
  have HB0 := Lib.hid hb0
  have HM := Lib.hid hm
  obtain ⟨x, hx⟩ : ∃ x, x = e.id := ⟨_, rfl⟩
  obtain ⟨md, hmd⟩ : ∃ x, x = e.md := ⟨_, rfl⟩
  obtain ⟨rt, hrt⟩ : ∃ x, x = e.rt := ⟨_, rfl⟩
  obtain ⟨sn, hsn⟩ : ∃ x, x = e.sn := ⟨_, rfl⟩
  have HEE : Hid (e.id = x ∧ e.md = md ∧ e.rt = rt ∧ e.sn = sn) := ⟨hx.symm, hmd.symm, hrt.symm, hsn.symm⟩
  rw [← hx, ← hmd, ← hrt, ← hsn] at HGA
  rw [← hx]
  clear hw0 hT hb0 hq0 h hl he hm hk hx hmd hrt hsn
  go_enter Tryz.func14, Tryz.ntmps14
  go_upto_region 1 with (fail)
  rw [← H0.out, ← HT.out]
  go_wp2_with fail
  refine HWA.out.mono ?_
  rintro r wq ⟨rfl, hw⟩
  have hw := hw.symm
  subst hw
  go_wp2_with fail
  refine HGA.out.mono ?_
  rintro r w2 ⟨s, rfl, f2, hb2⟩
  obtain ⟨G, hG⟩ : ∃ G, G = w2.heap.size := ⟨_, rfl⟩
  obtain ⟨w3, hw3⟩ : ∃ W, W = w2.alloc (.cells (mC x md s rt sn) 39) := ⟨_, rfl⟩
  have hb3 : Below w2.heap.size w2 w3 := by rw [hw3]; exact (Below.refl _ _).alloc (Nat.le_refl _) _
  have hq3 : w3.heap[G]? = some (.cells (mC x md s rt sn) 39 (0, 0)) := by rw [hw3, hG]; exact heap_alloc_new w2 _
  have hb23 := hb2.trans (hb3.mono hb2.size)
  have HOWN := Lib.hid (own_any x md rt sn s e.mem w3 f2.1 (f2.after hb3).rn HM.out)
  have HQ3 := Lib.hid ((hb23.block T (lt_of_block HQ0.out)).trans HQ0.out)
  have HB3 : Hid (Below w.heap.size w w3) := HB0.out.trans (hb23.mono HB0.out.size)
  have H3 := Lib.hid hw3
  have HGG := Lib.hid hG
  have z0 := cell_of_row w3 G 0 _ _ _ hq3
  have z1 := cell_of_row w3 G 1 _ _ _ hq3
  have z2 := cell_of_row w3 G 2 _ _ _ hq3
  have z3 := cell_of_row w3 G 3 _ _ _ hq3
  have z4 := cell_of_row w3 G 4 _ _ _ hq3
  simp at z0 z1 z2 z3 z4
  clear hb2 f2 hb3 hq3 hb23 hw3 hG
  go_upto_region 2 with (fail)
  rw [← H3.out, ← HGG.out]
  go_wp2_with fail
  refine HOWN.out.mono ?_
  rintro r w4 ⟨A, c, rfl, ho, hb4⟩
  have hq4 := (hb4.block T (lt_of_block HQ3.out)).trans HQ3.out
  have x0 := cell_of_row w4 T 0 _ _ _ hq4
  have x1 := cell_of_row w4 T 1 _ _ _ hq4
  have x2 := cell_of_row w4 T 2 _ _ _ hq4
  have x3 := cell_of_row w4 T 3 _ _ _ hq4
  have x4 := cell_of_row w4 T 4 _ _ _ hq4
  simp at x0 x1 x2 x3 x4
  have xf : ∀ i, w4.frozen? ⟨T, i, none⟩ = false := fun i => frozen_of_row _ _ i _ _ hq4
  have HTT := Lib.hid (three (.int .u32 (x : Int)) (.int .i64 md) (.slice A e.mem.length c) (.int .i64 rt) (.int .i64 sn) hq4)
  have HTB := Lib.hid (three_below (k := w.heap.size) (B := T) (.int .u32 (x : Int)) (.int .i64 md) (.slice A e.mem.length c) (.int .i64 rt) (.int .i64 sn) (HB3.out.trans (hb4.mono HB3.out.size)) (by rw [HT.out]; exact Nat.le_refl _))
  have HOO : Hid ((((((w4.setCell ⟨T, 0, none⟩ (.int .u32 (x : Int))).setCell ⟨T, 1, none⟩ (.int .i64 md)).setCell ⟨T, 2, none⟩ (.slice A e.mem.length c)).setCell ⟨T, 3, none⟩ (.int .i64 rt)).setCell ⟨T, 4, none⟩ (.int .i64 sn)).ownsRow w.heap.size 33 1 (.slice A e.mem.length c) e.mem.length (un e.mem)) := by
    refine P.own_base' (P.own_after ho fun g hg => oth5 _ _ _ _ _ fun e' => ?_) HB3.out.size
    obtain ⟨cur, hc⟩ := own_type ho hg
    rw [e', hq4] at hc
    injection hc with hc
    injection hc with _ hc
    exact absurd hc (by decide)
  clear ho hb4 hq4 z0 z1 z2 z3 z4
  go_wp2
  obtain ⟨t0, t1, t2, t3, t4, _⟩ := HTT.out
  exact bodyPost_ret (v := .tuple #[.agg (mC x md ⟨A, e.mem.length, c⟩ rt sn), .bool true]) (by simp [results, Tryz.results14, go_sem, t0, t1, t2, t3, t4]) rfl ⟨A, c, by rw [HEE.out.1, HEE.out.2.1, HEE.out.2.2.1, HEE.out.2.2.2], HOO.out, HTB.out⟩
set_option maxHeartbeats 4000000 in
theorem qget_none (B R : Nat) (mo : Int) (vi : Value) (ms : Sl) (L : List Tk) (x : Nat) (w : World) (h : Bq w B R mo vi ms L) (hl : L.length ≤ 1000) (hx : x ∉ L.map (·.id)) :
    Calls Tryz.prog 14 #[qp B, .int .u32 (x : Int)] w fun r w' => r = .returned (.tuple #[.agg mZ, .bool false]) ∧ Below w.heap.size w w' := by
  obtain ⟨T, hT⟩ : ∃ T, T = w.heap.size := ⟨_, rfl⟩
  obtain ⟨w0, hw0⟩ : ∃ w0, w0 = w.alloc (.cells #[.int .u32 0, .int .i64 0, .slice none 0 0, .int .i64 0, .int .i64 0] 39) := ⟨_, rfl⟩
  have hb0 : Below w.heap.size w w0 := by rw [hw0]; exact (Below.refl _ _).alloc (Nat.le_refl _) _
  have hq0 : w0.heap[T]? = some (.cells #[.int .u32 0, .int .i64 0, .slice none 0 0, .int .i64 0, .int .i64 0] 39 (0, 0)) := by rw [hw0, hT]; exact heap_alloc_new w _
  have HWA := Lib.hid (waiting_any B R mo vi ms L w0 (h.after hb0))
  obtain ⟨vt, ths, h4, _⟩ := (h.after hb0).ex
  have HGA := Lib.hid (get_none R mo vi vt _ ths x w0 h4 (by rw [List.length_map]; exact hl) hx)
  have H0 := Lib.hid hw0
  have HT := Lib.hid hT
  have HQ0 := Lib.hid hq0
  have HB0 := Lib.hid hb0
  clear hw0 hT hb0 hq0 h hl hx h4
  go_enter Tryz.func14, Tryz.ntmps14
  go_upto_region 1 with (fail)
  rw [← H0.out, ← HT.out]
  go_wp2_with fail
  refine HWA.out.mono ?_
  rintro r wq ⟨rfl, hw⟩
  have hw := hw.symm
  subst hw
  go_wp2_with fail
  refine HGA.out.mono ?_
  rintro r w2 ⟨rfl, hb2⟩
  obtain ⟨w3, hw3⟩ : ∃ W, W = w2.alloc (.cells #[.int .u32 0, .int .i64 0, .slice none 0 0, .int .i64 0, .int .i64 0] 39) := ⟨_, rfl⟩
  have hb3 : Below w2.heap.size w2 w3 := by rw [hw3]; exact (Below.refl _ _).alloc (Nat.le_refl _) _
  have hb23 := hb2.trans (hb3.mono hb2.size)
  have hq4 := (hb23.block T (lt_of_block HQ0.out)).trans HQ0.out
  have HB3 : Hid (Below w.heap.size w w3) := HB0.out.trans (hb23.mono HB0.out.size)
  have H3 := Lib.hid hw3
  have x0 := cell_of_row w3 T 0 _ _ _ hq4
  have x1 := cell_of_row w3 T 1 _ _ _ hq4
  have x2 := cell_of_row w3 T 2 _ _ _ hq4
  have x3 := cell_of_row w3 T 3 _ _ _ hq4
  have x4 := cell_of_row w3 T 4 _ _ _ hq4
  simp at x0 x1 x2 x3 x4
  have xf : ∀ i, w3.frozen? ⟨T, i, none⟩ = false := fun i => frozen_of_row _ _ i _ _ hq4
  have HTT := Lib.hid (three (.int .u32 0) (.int .i64 0) (.slice none 0 0) (.int .i64 0) (.int .i64 0) hq4)
  have HTB := Lib.hid (three_below (k := w.heap.size) (B := T) (.int .u32 0) (.int .i64 0) (.slice none 0 0) (.int .i64 0) (.int .i64 0) HB3.out (by rw [HT.out]; exact Nat.le_refl _))
  clear hb2 hb3 hb23 hw3 hq4
  go_upto_region 2 with (fail)
  rw [← H3.out]
  go_wp2
  obtain ⟨t0, t1, t2, t3, t4, _⟩ := HTT.out
  exact bodyPost_ret (v := .tuple #[.agg mZ, .bool false]) (by simp [results, Tryz.results14, go_sem, t0, t1, t2, t3, t4]) rfl ⟨rfl, HTB.out⟩
def delT (L : List Tk) (x : Nat) : List Tk := L.filter fun e => decide (e.id ≠ x)
theorem Bq.ris {w : World} {B R : Nat} {mo : Int} {vi : Value} {ms : Sl} {L : List Tk} (h : Bq w B R mo vi ms L) : L.Pairwise fun a b => a.id < b.id := by
  obtain ⟨vt, ths, h1, _⟩ := h.ex
  refine List.pairwise_iff_getElem.2 fun i j hi hj hij => h1.up i j _ _ hij ?_ ?_
  · rw [List.getElem?_map, List.getElem?_eq_getElem hi]; rfl
  · rw [List.getElem?_map, List.getElem?_eq_getElem hj]; rfl
theorem Bq.okid {w : World} {B R : Nat} {mo : Int} {vi : Value} {ms : Sl} {L : List Tk} (h : Bq w B R mo vi ms L) : ∀ e ∈ L, P.okN e.id := fun e he => by
  obtain ⟨vt, ths, h1, _⟩ := h.ex
  exact h1.ok _ (List.mem_map.2 ⟨e, he, rfl⟩)
theorem del_delT : ∀ {L : List Tk} {p : Nat} {e : Tk}, (L.Pairwise fun a b => a.id < b.id) → L[p]? = some e → L.take p ++ L.drop (p + 1) = delT L e.id
  | [], p, e, _, hp => by simp at hp
  | y :: l, 0, e, h, hp => by
    obtain rfl : y = e := by simpa using hp
    have h1 := List.pairwise_cons.1 h
    unfold delT
    rw [List.filter_cons, if_neg (by simp), filtT_all (fun e he' => by have := h1.1 e he'; simp; omega)]
    rfl
  | y :: l, p + 1, e, h, hp => by
    have hp : l[p]? = some e := by simpa using hp
    have h1 := List.pairwise_cons.1 h
    have hx := h1.1 e (List.mem_of_getElem? hp)
    have ih := del_delT h1.2 hp
    unfold delT at ih ⊢
    rw [List.filter_cons, if_pos (by simp; omega), ← ih]
    rfl
theorem split_at {L : List Tk} {p : Nat} {e : Tk} (h : L.Pairwise fun a b => a.id < b.id) (hp : L[p]? = some e) : (∀ x ∈ L.take p, x.id < e.id) ∧ (∀ x ∈ L.drop (p + 1), e.id < x.id) ∧ L.take p ++ e :: L.drop (p + 1) = L := by
  have hl := (List.getElem?_eq_some_iff.1 hp).1
  have e1 : L.drop p = e :: L.drop (p + 1) := by rw [List.drop_eq_getElem_cons hl, (List.getElem?_eq_some_iff.1 hp).2]
  have e2 : L.take p ++ e :: L.drop (p + 1) = L := by rw [← e1, List.take_append_drop]
  have h' := h
  rw [← e2, List.pairwise_append] at h'
  exact ⟨fun x hx => h'.2.2 x hx e (by simp), (List.pairwise_cons.1 h'.2.1).1, e2⟩
theorem ins_delT {L : List Tk} {p : Nat} {e : Tk} (h : L.Pairwise fun a b => a.id < b.id) (hp : L[p]? = some e) : insT (delT L e.id) e = L := by
  obtain ⟨h1, h2, h3⟩ := split_at h hp
  have hl := (List.getElem?_eq_some_iff.1 hp).1
  have hlt : (L.take p).length = p := by rw [List.length_take]; omega
  have hd := del_delT h hp
  have a1 : (delT L e.id).take p = L.take p := by rw [← hd, List.take_left' hlt]
  have a2 : (delT L e.id).drop p = L.drop (p + 1) := by rw [← hd, List.drop_left' hlt]
  have := new_insT (L := delT L e.id) (p := p) (g := e) (by rw [a1]; exact h1) (by rw [a2]; exact h2)
  rw [← this, a1, a2, List.append_assoc]
  exact h3
/-- What a drop leaves. -/
def QDropP (B R : Nat) (mo : Int) (vi : Value) (ms : Sl) (L : List Tk) (e : Tk) (w : World) (r : Ending) (w' : World) : Prop := ∃ (s : Sl) (vi' : Value), r = .returned (.tuple #[.agg (mC e.id e.md s e.rt e.sn), .bool true]) ∧ P.Fl w' R vi' s e.mem ∧ Bq w' B R mo vi' ms (delT L e.id) ∧ Stp R vi vi' w w' ∧ ∀ M, M < w.heap.size → (AvQ w R mo vi L M → AvQ w' R mo vi' (delT L e.id) M ∧ (0 < e.mem.length → ∀ b o, s.a = some ⟨b, o, none⟩ → b ≠ M)) ∧ (AvT w R mo vi L M → w'.heap[M]? = w.heap[M]? ∧ AvT w' R mo vi' (delT L e.id) M)
theorem del_get {α : Type} (l : List α) (p : Nat) (h : p ≤ l.length) (i : Nat) : (l.take p ++ l.drop (p + 1))[i]? = if i < p then l[i]? else l[i + 1]? := by
  by_cases h1 : i < p
  · rw [if_pos h1, List.getElem?_append_left (by rw [List.length_take]; omega), List.getElem?_take, if_pos h1]
  · rw [if_neg h1, List.getElem?_append_right (by rw [List.length_take]; omega), List.getElem?_drop, List.length_take, Nat.min_eq_left h]
    congr 1
    omega
theorem drop_raw {B R : Nat} {mo : Int} {vi : Value} {ms : Sl} {L : List Tk} {e : Tk} {w w0 w1 W : World} {T p y1 : Nat} {y2 y4 y5 : Int} {y3 : Sl} {vt vi' vt' : Value} {ths : List Mk} {cs : Array Value} (h : Bq w B R mo vi ms L) (he : e ∈ L) (hb0 : Below w.heap.size w w0) (hq0 : w0.heap[T]? = some (.cells cs 39 (0, 0))) (h1 : IsR w0 R mo vi vt (L.map (·.id)) ths) (h2 : ∀ (i : Nat) (p : Tk), L[i]? = some p → ∃ s : Sl, ths[i]? = some (tk (s, p)) ∧ P.Fl w0 R vi s p.mem) (hown : ∀ g, vt.ownBlock = some g → g < w.heap.size) (hp : (L.map (·.id))[p]? = some e.id) (hy : ths[p]? = some (y1, y2, y3, y4, y5)) (hch : ChR R vi vt w0 w1) (ev : vi'.ownBlock = vi.ownBlock) (et : vt'.ownBlock = vt.ownBlock) (hi : IsR w1 R mo vi' vt' ((L.map (·.id)).take p ++ (L.map (·.id)).drop (p + 1)) (ths.take p ++ ths.drop (p + 1))) (hT : T = w.heap.size) (hW : ∀ k, k ≠ T → W.heap[k]? = w1.heap[k]?) (hWb : Below R w1 W) (hWs : w1.heap.size ≤ W.heap.size) :
    QDropP B R mo vi ms L e w (.returned (.tuple #[.agg (mC y1 y2 y3 y4 y5), .bool true])) W := by
  have hR : R < w.heap.size := h.ctx.1
  have hL : L[p]? = some e := by
    rw [List.getElem?_map] at hp
    obtain ⟨e', he', hid⟩ := Option.map_eq_some_iff.1 hp
    obtain ⟨j, hj⟩ := List.mem_iff_getElem?.1 he
    have hup := h.ris
    obtain ⟨l1, q1⟩ := List.getElem?_eq_some_iff.1 he'
    obtain ⟨l2, q2⟩ := List.getElem?_eq_some_iff.1 hj
    rw [List.pairwise_iff_getElem] at hup
    rcases Nat.lt_trichotomy p j with hh | hh | hh
    · have := hup p j l1 l2 hh; rw [q1, q2] at this; omega
    · subst hh; exact hj
    · have := hup j p l2 l1 hh; rw [q1, q2] at this; omega
  have hpl := (List.getElem?_eq_some_iff.1 hL).1
  have hlt : ths.length = L.length := by simpa using h1.len
  have hdel := del_delT h.ris hL
  have hs0 := stp_of h1 hch (fun g hg => .inl (ev ▸ hg) : Fz vi vi' w0)
  have hsW : Stp R vi vi' w0 W := ⟨hs0.below.trans hWb, Nat.le_trans hs0.size hWs, hs0.fz, fun g cur Ty hg t1 t2 t3 => by
    by_cases hgT : g = T
    · subst hgT
      rw [hq0] at hg
      injection hg with hg
      injection hg with _ hg
      exact absurd hg.symm t1
    · exact (hW g hgT).trans (hs0.keep g cur Ty hg t1 t2 t3)⟩
  obtain ⟨s, e1, e2⟩ := h2 p e hL
  rw [hy] at e1
  injection e1 with e1
  simp only [tk, Prod.mk.injEq] at e1
  obtain ⟨rfl, rfl, rfl, rfl, rfl⟩ := e1
  have hiW : IsR W R mo vi' vt' ((delT L e.id).map (·.id)) (ths.take p ++ ths.drop (p + 1)) := by
    rw [← hdel, List.map_append, List.map_take, List.map_drop]
    refine ⟨(hW R (by omega)).trans hi.row, own_after hi.rio fun g hg => hW g fun e' => ?_, own_after hi.rto fun g hg => hW g fun e' => ?_, hi.len, hi.up, hi.ok⟩
    · have := (ownlt h1.rio g (ev ▸ hg)).2
      have := h.ctx.2 g (ev ▸ hg)
      omega
    · have := hown g (et ▸ hg)
      omega
  have hpl2 : ∀ (X : Sl → Tk → Prop), (∀ (i : Nat) (q : Tk), L[i]? = some q → ∃ s : Sl, ths[i]? = some (tk (s, q)) ∧ X s q) → ∀ (i : Nat) (q : Tk), (delT L e.id)[i]? = some q → ∃ s : Sl, (ths.take p ++ ths.drop (p + 1))[i]? = some (tk (s, q)) ∧ X s q := fun X hX i q hq => by
    rw [← hdel, del_get _ _ (by omega)] at hq
    rw [del_get _ _ (by omega)]
    by_cases a1 : i < p
    · rw [if_pos a1] at hq ⊢
      exact hX i q hq
    · rw [if_neg a1] at hq ⊢
      exact hX (i + 1) q hq
  obtain ⟨cur, b1, b2, b3⟩ := (h.after hb0).blk
  refine ⟨y3, vi', rfl, fl_stp e2 hsW, ⟨⟨cur, (hsW.keep B cur 68 b1 (by decide) (by decide) (fun e' => absurd e' (by decide))).trans b1, b2, b3⟩, vt', _, hiW, hpl2 (fun s q => P.Fl W R vi' s q.mem) (fun i q hq => by
    obtain ⟨s, c1, c2⟩ := h2 i q hq
    exact ⟨s, c1, fl_stp c2 hsW⟩)⟩, hsW.from (Nat.le_of_lt hR) hb0, fun M hM => ⟨fun hav => ?_, fun hat => ?_⟩⟩
  case refine_2 =>
    obtain ⟨vt2, ths2, k1, k2, k3, k4⟩ := hat.after hb0
    obtain ⟨rfl, rfl⟩ := isr_one h1 k1
    exact ⟨(hW M (by omega)).trans ((hch.2.2 M (Nat.lt_of_lt_of_le hM hb0.size) (fun e' => k4 e'.symm) (fun e' => k3 e'.symm) (fun e' => k2 e'.symm)).trans (hb0.block M hM)), vt', _, hiW, fun e' => k2 (et ▸ e'), fun e' => k3 (ev ▸ e'), k4⟩
  obtain ⟨hv0, vt2, ths2, k1, k2⟩ := hav.after hb0
  obtain ⟨rfl, rfl⟩ := isr_one h1 k1
  refine ⟨⟨fun e' => hv0 (ev ▸ e'), vt', _, hiW, hpl2 (fun s q => P.Fl W R vi' s q.mem ∧ (0 < q.mem.length → ∀ b o, s.a = some ⟨b, o, none⟩ → b ≠ M)) (fun i q hq => by
    obtain ⟨s, c1, c2, c3⟩ := k2 i q hq
    exact ⟨s, c1, fl_stp c2 hsW, c3⟩)⟩, ?_⟩
  obtain ⟨s, c1, c2, c3⟩ := k2 p e hL
  rw [hy] at c1
  injection c1 with c1
  simp only [tk, Prod.mk.injEq] at c1
  obtain ⟨_, _, rfl, _, _⟩ := c1
  exact c3
set_option maxHeartbeats 4000000 in
theorem qdrop_there (B R : Nat) (mo : Int) (vi : Value) (ms : Sl) (L : List Tk) (e : Tk) (w : World) (h : Bq w B R mo vi ms L) (hl : L.length ≤ 1000) (he : e ∈ L) :
    Calls Tryz.prog 7 #[qp B, .int .u32 (e.id : Int)] w fun r w' => QDropP B R mo vi ms L e w r w' := by
  obtain ⟨T, hT⟩ : ∃ T, T = w.heap.size := ⟨_, rfl⟩
  obtain ⟨w0, hw0⟩ : ∃ w0, w0 = w.alloc (.cells #[.int .u32 0, .int .i64 0, .slice none 0 0, .int .i64 0, .int .i64 0] 39) := ⟨_, rfl⟩
  have hb0 : Below w.heap.size w w0 := by rw [hw0]; exact (Below.refl _ _).alloc (Nat.le_refl _) _
  have hq0 : w0.heap[T]? = some (.cells #[.int .u32 0, .int .i64 0, .slice none 0 0, .int .i64 0, .int .i64 0] 39 (0, 0)) := by rw [hw0, hT]; exact heap_alloc_new w _
  have HWA := Lib.hid (waiting_any B R mo vi ms L w0 (h.after hb0))
  obtain ⟨vt, ths, h10, h20⟩ := h.ex
  have hown : ∀ g, vt.ownBlock = some g → g < w.heap.size := fun g hg => (ownlt h10.rto g hg).2
  have hvi : ∀ g, vi.ownBlock = some g → g < w.heap.size := fun g hg => (ownlt h10.rio g hg).2
  have h1 := h10.after hb0
  have h2 : ∀ (i : Nat) (p : Tk), L[i]? = some p → ∃ s : Sl, ths[i]? = some (tk (s, p)) ∧ P.Fl w0 R vi s p.mem := fun i p hp => by
    obtain ⟨s, e1, e2⟩ := h20 i p hp
    exact ⟨s, e1, e2.after hb0⟩
  have HDR := Lib.hid (drop_there R mo vi vt _ ths e.id w0 h1 (by rw [List.length_map]; exact hl) (List.mem_map.2 ⟨e, he, rfl⟩))
  have HALL : Hid (Bq w B R mo vi ms L ∧ e ∈ L ∧ IsR w0 R mo vi vt (L.map (·.id)) ths ∧ (∀ (i : Nat) (p : Tk), L[i]? = some p → ∃ s : Sl, ths[i]? = some (tk (s, p)) ∧ P.Fl w0 R vi s p.mem) ∧ (∀ g, vt.ownBlock = some g → g < w.heap.size) ∧ (∀ g, vi.ownBlock = some g → g < w.heap.size)) := ⟨h, he, h1, h2, hown, hvi⟩
  have HR : Hid (R < w.heap.size) := h.ctx.1
  have H0 := Lib.hid hw0
  have HT := Lib.hid hT
  have HQ0 := Lib.hid hq0
  have HB0 := Lib.hid hb0
  obtain ⟨x, hx⟩ : ∃ x, x = e.id := ⟨_, rfl⟩
  rw [← hx] at HDR ⊢
  have HX := Lib.hid hx
  clear hw0 hT hb0 hq0 h hl he h10 h20 hown hvi h1 h2 hx
  go_enter Tryz.func7, Tryz.ntmps7
  go_upto_region 1 with (fail)
  rw [← H0.out, ← HT.out]
  go_wp2_with fail
  refine HWA.out.mono ?_
  rintro r wq ⟨rfl, hw⟩
  have hw := hw.symm
  subst hw
  go_wp2_with fail
  refine HDR.out.mono ?_
  rintro r w1 ⟨p, y1, y2, y3, y4, y5, hp, hy, rfl, hch, vi', vt', ev, et, hi⟩
  obtain ⟨a1, a2, a3, a4, a5, a6⟩ := HALL.out
  have hq1 : w1.heap[T]? = some (.cells #[.int .u32 0, .int .i64 0, .slice none 0 0, .int .i64 0, .int .i64 0] 39 (0, 0)) := (hch.2.2 T (lt_of_block HQ0.out) (by have := HT.out; have := HR.out; omega) (fun e' => by have := a6 T e'.symm; have := HT.out; omega) (fun e' => by have := a5 T e'.symm; have := HT.out; omega)).trans HQ0.out
  have x0 := cell_of_row w1 T 0 _ _ _ hq1
  have x1 := cell_of_row w1 T 1 _ _ _ hq1
  have x2 := cell_of_row w1 T 2 _ _ _ hq1
  have x3 := cell_of_row w1 T 3 _ _ _ hq1
  have x4 := cell_of_row w1 T 4 _ _ _ hq1
  simp at x0 x1 x2 x3 x4
  have xf : ∀ i, w1.frozen? ⟨T, i, none⟩ = false := fun i => frozen_of_row _ _ i _ _ hq1
  have HTT := Lib.hid (three (.int .u32 (y1 : Int)) (.int .i64 y2) (.slice y3.a y3.n y3.c) (.int .i64 y4) (.int .i64 y5) hq1)
  have HFIN : Hid (QDropP B R mo vi ms L e w (.returned (.tuple #[.agg (mC y1 y2 y3 y4 y5), .bool true])) (((((w1.setCell ⟨T, 0, none⟩ (.int .u32 (y1 : Int))).setCell ⟨T, 1, none⟩ (.int .i64 y2)).setCell ⟨T, 2, none⟩ (.slice y3.a y3.n y3.c)).setCell ⟨T, 3, none⟩ (.int .i64 y4)).setCell ⟨T, 4, none⟩ (.int .i64 y5))) :=
    drop_raw a1 a2 HB0.out HQ0.out a3 a4 a5 (by rw [hp, HX.out]) hy hch ev et hi HT.out (fun k hk => oth5 _ _ _ _ _ hk) (three_below _ _ _ _ _ (Below.refl _ _) (by have := HT.out; have := HR.out; omega)) (by simp)
  clear hp hy hch ev et hi a1 a2 a3 a4 a5 a6 hq1
  go_wp2
  obtain ⟨t0, t1, t2, t3, t4, _⟩ := HTT.out
  exact bodyPost_ret (v := .tuple #[.agg (mC y1 y2 y3 y4 y5), .bool true]) (by simp [results, Tryz.results7, go_sem, t0, t1, t2, t3, t4]) rfl HFIN.out
end Go.Proofs.YtemjmnpclknfaaaGreat.T
