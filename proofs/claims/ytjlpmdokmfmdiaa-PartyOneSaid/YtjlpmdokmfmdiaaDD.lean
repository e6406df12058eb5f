/- Party: the document's refuse, leave, lead, join. -/
import Derived.Test.YtjlpmdokmfmdiaaDC
namespace Go.Proofs.Ytjlpmdokmfmdiaa.P
open Go.RowKit
set_option maxRecDepth 20000
set_option linter.unusedVariables false
set_option linter.unusedSimpArgs false

def DP1 (R : Nat) (vi : Value) (S : List Pt × Int) (w : World) (r : Ending) (w' : World) : Prop := ∃ A n c, r = .returned (.tuple #[.slice A n c, .int .i64 S.2]) ∧ Dd w' R vi A n S.1 ∧ Below w.heap.size w w'
def DP2 (R : Nat) (vi : Value) (S : List Pt × Bool × Int) (w : World) (r : Ending) (w' : World) : Prop := ∃ A n c, r = .returned (.tuple #[.slice A n c, .bool S.2.1, .int .i64 S.2.2]) ∧ Dd w' R vi A n S.1 ∧ Below w.heap.size w w'
def DP3 (R : Nat) (vi : Value) (S : List Pt × Nat × Bool × Int) (w : World) (r : Ending) (w' : World) : Prop := ∃ A n c, r = .returned (.tuple #[.slice A n c, .int .u32 (S.2.1 : Int), .bool S.2.2.1, .int .i64 S.2.2.2]) ∧ Dd w' R vi A n S.1 ∧ Below w.heap.size w w'
def DP4 (R : Nat) (vi : Value) (S : List Pt × Nat × Int) (w : World) (r : Ending) (w' : World) : Prop := ∃ A n c, r = .returned (.tuple #[.slice A n c, .int .u32 (S.2.1 : Int), .int .i64 S.2.2]) ∧ Dd w' R vi A n S.1 ∧ Below w.heap.size w w'
theorem cut_inv {g : Pt} {p : Nat} (h : p ∉ g.mem) : cut g p = ⟨g.id, g.ld, g.mem, wo g.inv p⟩ := by unfold cut; rw [wo_not h]
theorem cut_mem {g : Pt} {p : Nat} (h : p ∉ g.inv) : cut g p = ⟨g.id, g.ld, wo g.mem p, g.inv⟩ := by unfold cut; rw [wo_not h]
theorem dwo_fl (R : Nat) (vi : Value) (s : Sl) (l : List Nat) (p m : Nat) (w : World) (hc : Ctx w R vi) (hs : Fl w R vi s l) (hm : m = (wo l p).length) (hl : l.length ≤ 100) : Calls Try.prog 120 #[.slice s.a s.n s.c, .int .u32 (p : Int)] w fun r w' => CallL R vi (wo l p) m w r w' :=
  (dwo_any s.a s.n s.c l p w hs.1 hs.rn (by have := hs.1; omega)).mono fun r w' ⟨A, n, c, h1, h2, h3⟩ => by
    have e : n = m := by rw [hm]; exact (Rn.of_own h2).1
    subst e
    exact ⟨A, c, h1, Fl.fresh hc (Nat.le_refl _) h2, h3⟩
set_option maxHeartbeats 8000000 in
theorem drefuse_any (R : Nat) (vi : Value) (A : Option Addr) (n c : Nat) (L : List Pt) (x p : Nat) (w : World) (h : Dd w R vi A n L) (hI : Inv L) (hl : n ≤ 100) :
    Calls Try.prog 55 #[.slice A n c, .int .u32 (x : Int), .int .u32 (p : Int)] w fun r w' => DP2 R vi (refuseS L x p) w r w' := by
  have HD := Lib.hid h
  have HI := Lib.hid hI
  have HL := Lib.hid hl
  cases hg : getP L x with
  | none =>
    have e : refuseS L x p = (L, false, 12) := by unfold refuseS; rw [hg]
    rw [e]
    have HG := Lib.hid (dget_none R vi A n c L x w h.n h.dr hl hg)
    clear h hI hl hg e
    go_enter Try.func55, Try.ntmps55
    go_wp2_with fail
    refine HG.out.mono ?_
    rintro r w1 ⟨rfl, hb⟩
    have HF : Hid (∀ w', Below w1.heap.size w1 w' → DP2 R vi (L, false, 12) w (.returned (.tuple #[.slice A n c, .bool false, .int .i64 12])) w') := fun w' hb' => ⟨_, _, _, rfl, HD.out.after (hb.trans (hb'.mono hb.size)), hb.trans (hb'.mono hb.size)⟩
    clear hb
    go_wp2
    exact bodyPost_ret (v := .tuple #[.slice A n c, .bool false, .int .i64 12]) (by simp [results, Try.results55, go_sem]) rfl (HF.out _ ((Below.refl _ _).alloc (Nat.le_refl _) _))
  | some g =>
    obtain ⟨hm, hix⟩ := get_some hg
    have HK := Lib.hid (hI.each g hm)
    have HG := Lib.hid (dget_some R vi A n c L x g w h.n h.dr hl hg)
    obtain ⟨gi, hgi⟩ : ∃ z, z = g.id := ⟨_, rfl⟩
    obtain ⟨gl, hgl⟩ : ∃ z, z = g.ld := ⟨_, rfl⟩
    have HGI : Hid (gi = g.id ∧ gl = g.ld) := ⟨hgi, hgl⟩
    by_cases hp : p ∈ g.inv
    · have e : refuseS L x p = (putS L (cut g p), overB (cut g p), 0) := by unfold refuseS; rw [hg]; simp only; rw [if_pos hp]
      rw [e]
      obtain ⟨t, ht⟩ : ∃ t, t = overB (cut g p) := ⟨_, rfl⟩
      have HT := Lib.hid ht
      rw [← ht]
      have HEQ : Hid ((⟨gi, gl, g.mem, wo g.inv p⟩ : Pt) = cut g p) := by simp only [Hid]; rw [cut_inv (fun hh => HK.out.dis p hh hp), hgi, hgl]
      have HPM : Hid (decide (p ∈ g.inv) = true) := by simp only [Hid]; simpa using hp
      obtain ⟨m8, hm8⟩ : ∃ m, m = (wo g.inv p).length := ⟨_, rfl⟩
      have HM8 := Lib.hid hm8
      clear h hI hl hg e hp ht hm hix hgi hgl hm8
      go_enter Try.func55, Try.ntmps55
      go_wp2_with fail
      refine HG.out.mono ?_
      rintro r w1 ⟨m, v, rfl, f1, f2, hb⟩
      rw [← HGI.out.1, ← HGI.out.2]
      obtain ⟨G, hG⟩ : ∃ G, G = w1.heap.size := ⟨_, rfl⟩
      obtain ⟨w3, hw3⟩ : ∃ W, W = w1.alloc (.cells #[.int .u32 (gi : Int), .int .u32 (gl : Int), .slice m.a m.n m.c, .slice v.a v.n v.c] 124) := ⟨_, rfl⟩
      have hq : w3.heap[G]? = some (.cells #[.int .u32 (gi : Int), .int .u32 (gl : Int), .slice m.a m.n m.c, .slice v.a v.n v.c] 124 (0, 0)) := by rw [hw3, hG]; exact heap_alloc_new w1 _
      have hb3 : Below w1.heap.size w1 w3 := by rw [hw3]; exact (Below.refl _ _).alloc (Nat.le_refl _) _
      have z0 := cell_of_row _ G 0 _ _ _ hq
      have z1 := cell_of_row _ G 1 _ _ _ hq
      have z2 := cell_of_row _ G 2 _ _ _ hq
      have z3 := cell_of_row _ G 3 _ _ _ hq
      simp at z0 z1 z2 z3
      have HW3 : Hid (Below w.heap.size w w3 ∧ Fl w3 R vi m g.mem ∧ Fl w3 R vi v g.inv ∧ w3.heap[G]? = some (.cells #[.int .u32 (gi : Int), .int .u32 (gl : Int), .slice m.a m.n m.c, .slice v.a v.n v.c] 124 (0, 0))) := ⟨hb.trans (hb3.mono hb.size), f1.after hb3, f2.after hb3, hq⟩
      have HGW : Hid (w.heap.size ≤ G) := by have := hb.size; simp only [Hid]; omega
      have H3 := Lib.hid hw3
      have HGG := Lib.hid hG
      clear hw3 hG hq hb3 hb f1 f2
      have HH := Lib.hid (has_any v.a v.n v.c g.inv p w3 HW3.out.2.2.1.1 HW3.out.2.2.1.rn (by have := HK.out.four; have := HW3.out.2.2.1.1; omega))
      rw [HPM.out] at HH
      go_upto_region 2 with (fail)
      rw [← H3.out, ← HGG.out]
      go_wp2_with fail
      refine HH.out.mono ?_
      rintro r wq ⟨rfl, hw⟩
      have hw := hw.symm
      subst hw
      have HWO := Lib.hid (dwo_fl R vi v g.inv p m8 w3 (HD.out.ctx.size HW3.out.1.size) HW3.out.2.2.1 HM8.out (by have := HK.out.four; omega))
      go_wp2_with fail
      refine HWO.out.mono ?_
      rintro r w4 ⟨A4, c4, rfl, f4, hb4⟩
      have hq4 := (hb4.block _ (lt_of_block HW3.out.2.2.2)).trans HW3.out.2.2.2
      have hB4 : Below w.heap.size w w4 := HW3.out.1.trans (hb4.mono HW3.out.1.size)
      clear z0 z1 z2 z3
      have z3 := cell_of_row _ G 3 _ _ _ hq4
      simp at z3
      have zf : ∀ i, w4.frozen? ⟨G, i, none⟩ = false := fun i => frozen_of_row _ _ i _ _ hq4
      obtain ⟨w5, hw5⟩ : ∃ w5, w5 = w4.setCell ⟨G, 3, none⟩ (.slice A4 m8 c4) := ⟨_, rfl⟩
      have hq5 : w5.heap[G]? = some (.cells #[.int .u32 (gi : Int), .int .u32 (gl : Int), .slice m.a m.n m.c, .slice A4 m8 c4] 124 (0, 0)) := by rw [hw5]; exact heap_setCell_same _ G 3 _ 124 _ hq4
      have ho5 : ∀ k, k ≠ G → w5.heap[k]? = w4.heap[k]? := fun k hk => by rw [hw5]; exact Below.heap_setCell _ _ _ _ hk
      have hB5 : Below w.heap.size w w5 := by rw [hw5]; exact hB4.setCell HGW.out _
      have x0 := cell_of_row _ G 0 _ _ _ hq5
      have x1 := cell_of_row _ G 1 _ _ _ hq5
      have x2 := cell_of_row _ G 2 _ _ _ hq5
      have x3 := cell_of_row _ G 3 _ _ _ hq5
      simp at x0 x1 x2 x3
      have HPT : Hid (Calls Try.prog 119 #[.slice A n c, .agg #[.int .u32 (gi : Int), .int .u32 (gl : Int), .slice m.a m.n m.c, .slice A4 m8 c4]] w5 fun r w' => DPutP R vi (putS L (cut g p)) t w5 r w') := by
        have hh := dput_any R vi A n c L ⟨gi, gl, g.mem, wo g.inv p⟩ (m) (⟨A4, m8, c4⟩) w5 (HD.out.ctx.size (hB5).size) HD.out.n (HD.out.dr.after hB5) HL.out HI.out.ris (fl_oth (HW3.out.2.1.after hb4) ho5 (drow hq4)) (fl_oth f4 ho5 (drow hq4)) (by show (g.mem).length ≤ 100 ∧ (wo g.inv p).length ≤ 100; have h1 := HK.out.four; have h2 := wo_len g.mem p; have h3 := wo_len g.inv p; (try simp only [List.length_append, List.length_cons, List.length_nil]); omega)
        dsimp only at hh
        rw [HEQ.out, ← HT.out] at hh
        exact hh
      have HBW := Lib.hid (hB5)
      have HW5 := Lib.hid hw5
      clear hw5 hq5 ho5 hB5 hq4 hB4 hb4 f4
      go_upto_region 5 with (fail)
      rw [← HW5.out]
      clear z3 zf
      go_wp2_with fail
      refine HPT.out.mono ?_
      rintro r w9 ⟨A9, n9, c9, rfl, hn9, hd9, hb9⟩
      have HFIN : Hid (DP2 R vi (putS L (cut g p), t, 0) w (.returned (.tuple #[.slice A9 n9 c9, .bool t, .int .i64 0])) w9) := ⟨_, _, _, rfl, ⟨hn9, hd9, (HD.out.ctx.size HBW.out.size).size hb9.size⟩, HBW.out.trans (hb9.mono HBW.out.size)⟩
      clear hn9 hd9 hb9
      go_wp2
      exact bodyPost_ret (v := .tuple #[.slice A9 n9 c9, .bool t, .int .i64 0]) (by simp [results, Try.results55, go_sem]) rfl HFIN.out
    · have e : refuseS L x p = (L, false, 12) := by unfold refuseS; rw [hg]; simp only; rw [if_neg hp]
      rw [e]
      have HPM : Hid (decide (p ∈ g.inv) = false) := by simp only [Hid]; simpa using hp
      clear h hI hl hg e hp hm hix hgi hgl
      go_enter Try.func55, Try.ntmps55
      go_wp2_with fail
      refine HG.out.mono ?_
      rintro r w1 ⟨m, v, rfl, f1, f2, hb⟩
      rw [← HGI.out.1, ← HGI.out.2]
      obtain ⟨G, hG⟩ : ∃ G, G = w1.heap.size := ⟨_, rfl⟩
      obtain ⟨w3, hw3⟩ : ∃ W, W = w1.alloc (.cells #[.int .u32 (gi : Int), .int .u32 (gl : Int), .slice m.a m.n m.c, .slice v.a v.n v.c] 124) := ⟨_, rfl⟩
      have hq : w3.heap[G]? = some (.cells #[.int .u32 (gi : Int), .int .u32 (gl : Int), .slice m.a m.n m.c, .slice v.a v.n v.c] 124 (0, 0)) := by rw [hw3, hG]; exact heap_alloc_new w1 _
      have hb3 : Below w1.heap.size w1 w3 := by rw [hw3]; exact (Below.refl _ _).alloc (Nat.le_refl _) _
      have z0 := cell_of_row _ G 0 _ _ _ hq
      have z1 := cell_of_row _ G 1 _ _ _ hq
      have z2 := cell_of_row _ G 2 _ _ _ hq
      have z3 := cell_of_row _ G 3 _ _ _ hq
      simp at z0 z1 z2 z3
      have HW3 : Hid (Below w.heap.size w w3 ∧ Fl w3 R vi m g.mem ∧ Fl w3 R vi v g.inv ∧ w3.heap[G]? = some (.cells #[.int .u32 (gi : Int), .int .u32 (gl : Int), .slice m.a m.n m.c, .slice v.a v.n v.c] 124 (0, 0))) := ⟨hb.trans (hb3.mono hb.size), f1.after hb3, f2.after hb3, hq⟩
      have HGW : Hid (w.heap.size ≤ G) := by have := hb.size; simp only [Hid]; omega
      have H3 := Lib.hid hw3
      have HGG := Lib.hid hG
      clear hw3 hG hq hb3 hb f1 f2
      have HH := Lib.hid (has_any v.a v.n v.c g.inv p w3 HW3.out.2.2.1.1 HW3.out.2.2.1.rn (by have := HK.out.four; have := HW3.out.2.2.1.1; omega))
      rw [HPM.out] at HH
      go_upto_region 2 with (fail)
      rw [← H3.out, ← HGG.out]
      go_wp2_with fail
      refine HH.out.mono ?_
      rintro r wq ⟨rfl, hw⟩
      have hw := hw.symm
      subst hw
      have HFIN : Hid (DP2 R vi (L, false, 12) w (.returned (.tuple #[.slice A n c, .bool false, .int .i64 12])) w3) := ⟨_, _, _, rfl, HD.out.after HW3.out.1, HW3.out.1⟩
      go_wp2
      exact bodyPost_ret (v := .tuple #[.slice A n c, .bool false, .int .i64 12]) (by simp [results, Try.results55, go_sem]) rfl HFIN.out
set_option maxHeartbeats 8000000 in
theorem dleave_any (R : Nat) (vi : Value) (A : Option Addr) (n c : Nat) (L : List Pt) (p : Nat) (w : World) (h : Dd w R vi A n L) (hI : Inv L) (hl : n ≤ 100) :
    Calls Try.prog 56 #[.slice A n c, .int .u32 (p : Int)] w fun r w' => DP3 R vi (leaveS L p) w r w' := by
  have HD := Lib.hid h
  have HI := Lib.hid hI
  have HL := Lib.hid hl
  obtain ⟨x, hx⟩ : ∃ x, x = ofP L p := ⟨_, rfl⟩
  have HOF := Lib.hid (dof_any R vi A n c L p w h.n h.dr hl (fun e he => by have := (hI.each e he).four; omega))
  rw [← hx] at HOF
  cases hg : getP L x with
  | none =>
    have e : leaveS L p = (L, 0, false, 12) := by unfold leaveS; rw [← hx, hg]
    rw [e]
    have HG := Lib.hid (dget_none R vi A n c L x w h.n h.dr hl hg)
    clear h hI hl hg e hx
    go_enter Try.func56, Try.ntmps56
    go_wp2_with fail
    refine HOF.out.mono ?_
    rintro r wq ⟨rfl, hw⟩
    have hw := hw.symm
    subst hw
    go_wp2_with fail
    refine HG.out.mono ?_
    rintro r w1 ⟨rfl, hb⟩
    have HF : Hid (∀ w', Below w1.heap.size w1 w' → DP3 R vi (L, 0, false, 12) w (.returned (.tuple #[.slice A n c, .int .u32 0, .bool false, .int .i64 12])) w') := fun w' hb' => ⟨_, _, _, rfl, HD.out.after (hb.trans (hb'.mono hb.size)), hb.trans (hb'.mono hb.size)⟩
    clear hb
    go_wp2
    exact bodyPost_ret (v := .tuple #[.slice A n c, .int .u32 0, .bool false, .int .i64 12]) (by simp [results, Try.results56, go_sem]) rfl (HF.out _ ((Below.refl _ _).alloc (Nat.le_refl _) _))
  | some g =>
    obtain ⟨hm, hix⟩ := get_some hg
    have HK := Lib.hid (hI.each g hm)
    have HG := Lib.hid (dget_some R vi A n c L x g w h.n h.dr hl hg)
    have hpg : p ∈ g.mem := by
      rcases of_cases hI.ris (fun e he => (hI.each e he).id.1) p with ⟨q1, q2, q3⟩ | ⟨g2, q0, q1, q2, q3, q4⟩
      · rw [← hx] at q1
        rw [q1, q3] at hg
        cases hg
      · rw [← hx] at q2
        rw [q2, q3] at hg
        injection hg with hg
        rw [← hg]
        exact q1
    obtain ⟨gi, hgi⟩ : ∃ z, z = g.id := ⟨_, rfl⟩
    obtain ⟨gl, hgl⟩ : ∃ z, z = g.ld := ⟨_, rfl⟩
    have HGI : Hid (gi = g.id ∧ gl = g.ld) := ⟨hgi, hgl⟩
    have e : leaveS L p = (putS L (cut g p), gi, overB (cut g p), 0) := by unfold leaveS; rw [← hx, hg]; simp only; rw [hgi]
    rw [e]
    obtain ⟨t, ht⟩ : ∃ t, t = overB (cut g p) := ⟨_, rfl⟩
    have HT := Lib.hid ht
    rw [← ht]
    have HEQ : Hid ((⟨gi, gl, wo g.mem p, g.inv⟩ : Pt) = cut g p) := by simp only [Hid]; rw [cut_mem (fun hh => HK.out.dis p hpg hh), hgi, hgl]
    obtain ⟨m8, hm8⟩ : ∃ m, m = (wo g.mem p).length := ⟨_, rfl⟩
    have HM8 := Lib.hid hm8
    clear h hI hl hg e hx ht hm hix hgi hgl hm8 hpg
    go_enter Try.func56, Try.ntmps56
    go_wp2_with fail
    refine HOF.out.mono ?_
    rintro r wq ⟨rfl, hw⟩
    have hw := hw.symm
    subst hw
    go_wp2_with fail
    refine HG.out.mono ?_
    rintro r w1 ⟨m, v, rfl, f1, f2, hb⟩
    rw [← HGI.out.1, ← HGI.out.2]
    obtain ⟨G, hG⟩ : ∃ G, G = w1.heap.size := ⟨_, rfl⟩
    obtain ⟨w3, hw3⟩ : ∃ W, W = w1.alloc (.cells #[.int .u32 (gi : Int), .int .u32 (gl : Int), .slice m.a m.n m.c, .slice v.a v.n v.c] 124) := ⟨_, rfl⟩
    have hq : w3.heap[G]? = some (.cells #[.int .u32 (gi : Int), .int .u32 (gl : Int), .slice m.a m.n m.c, .slice v.a v.n v.c] 124 (0, 0)) := by rw [hw3, hG]; exact heap_alloc_new w1 _
    have hb3 : Below w1.heap.size w1 w3 := by rw [hw3]; exact (Below.refl _ _).alloc (Nat.le_refl _) _
    have z0 := cell_of_row _ G 0 _ _ _ hq
    have z1 := cell_of_row _ G 1 _ _ _ hq
    have z2 := cell_of_row _ G 2 _ _ _ hq
    have z3 := cell_of_row _ G 3 _ _ _ hq
    simp at z0 z1 z2 z3
    have HW3 : Hid (Below w.heap.size w w3 ∧ Fl w3 R vi m g.mem ∧ Fl w3 R vi v g.inv ∧ w3.heap[G]? = some (.cells #[.int .u32 (gi : Int), .int .u32 (gl : Int), .slice m.a m.n m.c, .slice v.a v.n v.c] 124 (0, 0))) := ⟨hb.trans (hb3.mono hb.size), f1.after hb3, f2.after hb3, hq⟩
    have HGW : Hid (w.heap.size ≤ G) := by have := hb.size; simp only [Hid]; omega
    have H3 := Lib.hid hw3
    have HGG := Lib.hid hG
    clear hw3 hG hq hb3 hb f1 f2
    go_upto_region 2 with (fail)
    rw [← H3.out, ← HGG.out]
    have HWO := Lib.hid (dwo_fl R vi m g.mem p m8 w3 (HD.out.ctx.size HW3.out.1.size) HW3.out.2.1 HM8.out (by have := HK.out.four; omega))
    go_wp2_with fail
    refine HWO.out.mono ?_
    rintro r w4 ⟨A4, c4, rfl, f4, hb4⟩
    have hq4 := (hb4.block _ (lt_of_block HW3.out.2.2.2)).trans HW3.out.2.2.2
    have hB4 : Below w.heap.size w w4 := HW3.out.1.trans (hb4.mono HW3.out.1.size)
    clear z0 z1 z2 z3
    have z2 := cell_of_row _ G 2 _ _ _ hq4
    simp at z2
    have zf : ∀ i, w4.frozen? ⟨G, i, none⟩ = false := fun i => frozen_of_row _ _ i _ _ hq4
    obtain ⟨w5, hw5⟩ : ∃ w5, w5 = w4.setCell ⟨G, 2, none⟩ (.slice A4 m8 c4) := ⟨_, rfl⟩
    have hq5 : w5.heap[G]? = some (.cells #[.int .u32 (gi : Int), .int .u32 (gl : Int), .slice A4 m8 c4, .slice v.a v.n v.c] 124 (0, 0)) := by rw [hw5]; exact heap_setCell_same _ G 2 _ 124 _ hq4
    have ho5 : ∀ k, k ≠ G → w5.heap[k]? = w4.heap[k]? := fun k hk => by rw [hw5]; exact Below.heap_setCell _ _ _ _ hk
    have hB5 : Below w.heap.size w w5 := by rw [hw5]; exact hB4.setCell HGW.out _
    have HQ5 := Lib.hid hq5
    have x0 := cell_of_row _ G 0 _ _ _ hq5
    have x1 := cell_of_row _ G 1 _ _ _ hq5
    have x2 := cell_of_row _ G 2 _ _ _ hq5
    have x3 := cell_of_row _ G 3 _ _ _ hq5
    simp at x0 x1 x2 x3
    have HPT : Hid (Calls Try.prog 119 #[.slice A n c, .agg #[.int .u32 (gi : Int), .int .u32 (gl : Int), .slice A4 m8 c4, .slice v.a v.n v.c]] w5 fun r w' => DPutP R vi (putS L (cut g p)) t w5 r w') := by
      have hh := dput_any R vi A n c L ⟨gi, gl, wo g.mem p, g.inv⟩ (⟨A4, m8, c4⟩) (v) w5 (HD.out.ctx.size (hB5).size) HD.out.n (HD.out.dr.after hB5) HL.out HI.out.ris (fl_oth f4 ho5 (drow hq4)) (fl_oth (HW3.out.2.2.1.after hb4) ho5 (drow hq4)) (by show (wo g.mem p).length ≤ 100 ∧ (g.inv).length ≤ 100; have h1 := HK.out.four; have h2 := wo_len g.mem p; have h3 := wo_len g.inv p; (try simp only [List.length_append, List.length_cons, List.length_nil]); omega)
      dsimp only at hh
      rw [HEQ.out, ← HT.out] at hh
      exact hh
    have HBW := Lib.hid (hB5)
    have HW5 := Lib.hid hw5
    clear hw5 hq5 ho5 hB5 hq4 hB4 hb4 f4
    go_upto_region 5 with (fail)
    rw [← HW5.out]
    clear z2 zf
    go_wp2_with fail
    refine HPT.out.mono ?_
    rintro r w9 ⟨A9, n9, c9, rfl, hn9, hd9, hb9⟩
    have HFIN : Hid (DP3 R vi (putS L (cut g p), gi, t, 0) w (.returned (.tuple #[.slice A9 n9 c9, .int .u32 (gi : Int), .bool t, .int .i64 0])) w9) := ⟨_, _, _, rfl, ⟨hn9, hd9, (HD.out.ctx.size HBW.out.size).size hb9.size⟩, HBW.out.trans (hb9.mono HBW.out.size)⟩
    have HC9 : Hid (∀ W, Below w9.heap.size w9 W → W.cell? ⟨G, 0, none⟩ = some (.int .u32 (gi : Int))) := fun W hW => cell_of_row W G 0 _ _ _ ((hW.block _ (Nat.lt_of_lt_of_le (lt_of_block HQ5.out) hb9.size)).trans ((hb9.block _ (lt_of_block HQ5.out)).trans HQ5.out))
    have HFIN2 : Hid (∀ W, Below w9.heap.size w9 W → DP3 R vi (putS L (cut g p), gi, t, 0) w (.returned (.tuple #[.slice A9 n9 c9, .int .u32 (gi : Int), .bool t, .int .i64 0])) W) := fun W hW => ⟨_, _, _, rfl, ⟨hn9, hd9.after hW, ((HD.out.ctx.size HBW.out.size).size hb9.size).size hW.size⟩, (HBW.out.trans (hb9.mono HBW.out.size)).trans (hW.mono (Nat.le_trans HBW.out.size hb9.size))⟩
    have HBB9 : Hid (Below w9.heap.size w9 w9) := Below.refl _ _
    clear x0 x1 x2 x3
    clear hn9 hd9 hb9
    go_upto_region 6 with (fail)
    have HDk : Hid (Below w9.heap.size w9 w9.drew) := HBB9.out.drew
    refine wp_region_held_drew (S := fun W : World => W.cell? ⟨G, 0, none⟩ = some (.int .u32 (gi : Int))) (by kernel_rfl) (HC9.out _ (HDk.out)) (fun hHeld => ?_)
    obtain ⟨Wk0, hW0⟩ : ∃ W0, W0 = w9.drew := ⟨_, rfl⟩
    rw [← hW0] at hHeld HDk ⊢
    clear hW0
    refine wpAnyH_take (i := 0) (oi := ?oi0k) (v := ?v0k) ?hi0k ?hs0k ?hf0k ?hr0k ?hQ0k ?hy0k ?hS0k ?h0k
    case hi0k => exact (by simp only [List.getElem?_toArray, List.getElem?_cons_zero]; rfl)
    case hs0k => kernel_rfl
    case hf0k => kernel_rfl
    case hr0k => kernel_rfl
    case hQ0k => exact fun _ _ _ h => h
    case hy0k =>
      refine Or.inl ⟨rfl, ?_⟩
      intro W hSw
      go_simp
      try with_reducible rfl
    case hS0k => assumption
    try simp only [Act.put, List.setIfInBounds_toArray, List.set_cons_zero, List.set_cons_succ]
    refine wpAnyH_take (i := 1) (oi := ?oi1k) (v := ?v1k) ?hi1k ?hs1k ?hf1k ?hr1k ?hQ1k ?hy1k ?hS1k ?h1k
    case hi1k => exact (by simp only [List.getElem?_toArray, List.getElem?_cons_succ, List.getElem?_cons_zero]; rfl)
    case hs1k => kernel_rfl
    case hf1k => kernel_rfl
    case hr1k => kernel_rfl
    case hQ1k => exact fun _ _ _ h => h
    case hy1k =>
      refine Or.inl ⟨rfl, ?_⟩
      intro W hSw
      go_simp
      try with_reducible rfl
    case hS1k => assumption
    try simp only [Act.put, List.setIfInBounds_toArray, List.set_cons_zero, List.set_cons_succ]
    refine wpAnyH_take (i := 2) (oi := ?oi2k) (v := ?v2k) ?hi2k ?hs2k ?hf2k ?hr2k ?hQ2k ?hy2k ?hS2k ?h2k
    case hi2k => exact (by simp only [List.getElem?_toArray, List.getElem?_cons_succ, List.getElem?_cons_zero]; rfl)
    case hs2k => kernel_rfl
    case hf2k => kernel_rfl
    case hr2k => kernel_rfl
    case hQ2k => exact fun _ _ _ h => h
    case hy2k =>
      refine Or.inl ⟨rfl, ?_⟩
      intro W hSw
      go_simp
      try with_reducible rfl
    case hS2k => assumption
    try simp only [Act.put, List.setIfInBounds_toArray, List.set_cons_zero, List.set_cons_succ]
    refine wpAnyH_take (i := 3) (oi := ?oi3k) (v := ?v3k) ?hi3k ?hs3k ?hf3k ?hr3k ?hQ3k ?hy3k ?hS3k ?h3k
    case hi3k => exact (by simp only [List.getElem?_toArray, List.getElem?_cons_succ, List.getElem?_cons_zero]; rfl)
    case hs3k => kernel_rfl
    case hf3k => kernel_rfl
    case hr3k => kernel_rfl
    case hQ3k => exact fun _ _ _ h => h
    case hy3k =>
      refine Or.inl ⟨rfl, ?_⟩
      intro W hSw
      go_simp
      try with_reducible rfl
    case hS3k => assumption
    try simp only [Act.put, List.setIfInBounds_toArray, List.set_cons_zero, List.set_cons_succ]
    refine wpAnyH_take (i := 4) (oi := ?oi4k) (v := ?v4k) ?hi4k ?hs4k ?hf4k ?hr4k ?hQ4k ?hy4k ?hS4k ?h4k
    case hi4k => exact (by simp only [List.getElem?_toArray, List.getElem?_cons_succ, List.getElem?_cons_zero]; rfl)
    case hs4k => kernel_rfl
    case hf4k => kernel_rfl
    case hr4k => kernel_rfl
    case hQ4k => exact fun _ _ _ h => h
    case hy4k =>
      refine Or.inl ⟨rfl, ?_⟩
      intro W hSw
      go_simp
      try with_reducible rfl
    case hS4k => assumption
    try simp only [Act.put, List.setIfInBounds_toArray, List.set_cons_zero, List.set_cons_succ]
    refine wpAnyH_take (i := 5) (oi := ?oi5k) (v := ?v5k) ?hi5k ?hs5k ?hf5k ?hr5k ?hQ5k ?hy5k ?hS5k ?h5k
    case hi5k => exact (by simp only [List.getElem?_toArray, List.getElem?_cons_succ, List.getElem?_cons_zero]; rfl)
    case hs5k => kernel_rfl
    case hf5k => kernel_rfl
    case hr5k => kernel_rfl
    case hQ5k => exact fun _ _ _ h => h
    case hy5k =>
      refine Or.inl ⟨rfl, ?_⟩
      intro W hSw
      go_simp
      try with_reducible rfl
    case hS5k => assumption
    try simp only [Act.put, List.setIfInBounds_toArray, List.set_cons_zero, List.set_cons_succ]
    refine wpAnyH_take (i := 6) (oi := ?oi6k) (v := ?v6k) ?hi6k ?hs6k ?hf6k ?hr6k ?hQ6k ?hy6k ?hS6k ?h6k
    case hi6k => exact (by simp only [List.getElem?_toArray, List.getElem?_cons_succ, List.getElem?_cons_zero]; rfl)
    case hs6k => kernel_rfl
    case hf6k => kernel_rfl
    case hr6k => kernel_rfl
    case hQ6k => exact fun _ _ _ h => h
    case hy6k =>
      refine Or.inl ⟨rfl, ?_⟩
      intro W hSw
      go_simp
      try with_reducible rfl
    case hS6k => assumption
    try simp only [Act.put, List.setIfInBounds_toArray, List.set_cons_zero, List.set_cons_succ]
    refine wpAnyH_take (i := 7) (oi := ?oi7k) (v := ?v7k) ?hi7k ?hs7k ?hf7k ?hr7k ?hQ7k ?hy7k ?hS7k ?h7k
    case hi7k => exact (by simp only [List.getElem?_toArray, List.getElem?_cons_succ, List.getElem?_cons_zero]; rfl)
    case hs7k => kernel_rfl
    case hf7k => kernel_rfl
    case hr7k => kernel_rfl
    case hQ7k => exact fun _ _ _ h => h
    case hy7k =>
      refine Or.inl ⟨rfl, ?_⟩
      intro W hSw
      go_simp
      try with_reducible rfl
    case hS7k => assumption
    try simp only [Act.put, List.setIfInBounds_toArray, List.set_cons_zero, List.set_cons_succ]
    refine wpAnyH_done (by kernel_rfl) ?_ _
    go_wp2
    exact bodyPost_ret (v := .tuple #[.slice A9 n9 c9, .int .u32 (gi : Int), .bool t, .int .i64 0]) (by simp [results, Try.results56, go_sem]) rfl (HFIN2.out _ HDk.out)
end Go.Proofs.Ytjlpmdokmfmdiaa.P
