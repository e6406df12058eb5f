/- Frames: what a reader makes of bytes. -/
import Derived.Test.YtggoclmboemmlaaF4
import Derived.WalkMore
namespace Go.Proofs.Ytggoclmboemmlaa
open Go.RowKit

theorem Try.info24 : (Try.prog.info? 24).map (fun i => (i.zero, i.size, i.bytes)) = some (some (.slice none 0 0), 1, 24) := by kernel_rfl
theorem wpList_append_frame {w : World} {ops : Array Oper} {rest : List Oper} {o : Oper} {a : Act} {Q : Exit → Act → World → Prop} (hgd : o.guard = none) (s x : Operand)
    (ho : o.op = .call { callee := .builtin .append, args := #[s, x], argTypes := #[22, 22] })
    (base n : Nat) (v u : Value) (vs : List Value) (hs : a.eval s = v) (hu1 : u.oneCell' = true)
    (hx : a.eval x = .slice (some ⟨w.heap.size, 0, none⟩) 1 1)
    (hown : w.ownsRow base 24 1 v n vs) (hlen : n ≤ 1000000) (hbase : base ≤ w.heap.size)
    (h : ∀ v' w', w'.ownsRow base 24 1 v' (n + 1) (vs ++ [u]) → (w.alloc (.cells #[u] 24)).grownBy w' v.ownBlock → (v'.ownBlock = v.ownBlock ∨ v'.ownBlock = some (w.heap.size + 1)) → wpList Try.prog ops Q rest (a.put o.dst v') w') : wpList Try.prog ops Q (o :: rest) a (w.alloc (.cells #[u] 24)) := by
  obtain ⟨i0, hi, hz0, hz1, hz2⟩ := info_parts Try.info24
  exact wpList_append_own_at (w.alloc (.cells #[u] 24)) hgd s x 22 ho base 24 i0 (.slice none 0 0) 1 24 Try.underlying22 hi hz0 hz1 hz2 rfl (by decide) v n vs hs (hown.alloc _) ⟨w.heap.size, 0, none⟩ 1 1 [u] hx rfl (cell_one_new _ _ _)
    (by simpa using hu1) (by unfold maxLen; omega) (by omega) (by simp; omega) (fun v' w' h1 h2 _ h4 => h v' w' h1 h2 (by simpa using h4))

/-- A row of frames of one's own, each in bytes of one's own, at B or behind it. -/
def Frs (w : World) (B : Nat) (fv : Value) (fs : List (List UInt8)) (vs : List Value) : Prop :=
  w.ownsRow B 24 1 fv fs.length vs ∧ ∀ j (hj : j < fs.length), ∃ A n c, vs[j]? = some (.slice A n c) ∧ w.ownsRow B 5 1 (.slice A n c) fs[j].length (bv fs[j])
theorem own_base {w : World} {B C : Nat} {e : TypeId} {v : Value} {n : Nat} {xs : List Value} (h : w.ownsRow B e 1 v n xs) (hb : C ≤ B) : w.ownsRow C e 1 v n xs := by
  refine ⟨h.1, ?_⟩
  rcases h.2 with hn | ⟨g, cap, cur, hv, hb0, hg, r⟩
  · exact .inl hn
  · exact .inr ⟨g, cap, cur, hv, Nat.le_trans hb hb0, hg, r⟩
theorem Frs.kept {C : Nat → Prop} {w w' : World} {B B' : Nat} {fv : Value} {fs : List (List UInt8)} {vs : List Value} (h : Frs w B fv fs vs) (hB : B' ≤ B) (hk : Kp C w w') (hc : ∀ k, B ≤ k → ¬ C k) : Frs w' B' fv fs vs :=
  ⟨own_base (hk.own h.1 (fun k hk => hc k (h.1.lt k hk).1)) hB, fun j hj => by
    obtain ⟨A, n, c, h1, h2⟩ := h.2 j hj
    exact ⟨A, n, c, h1, own_base (hk.own h2 (fun k hk => hc k (h2.lt k hk).1)) hB⟩⟩
theorem Frs.below_frs {w w' : World} {B B' : Nat} {fv : Value} {fs : List (List UInt8)} {vs : List Value} (h : Frs w B fv fs vs) (hB : B' ≤ B) (hk : Kp (fun _ => False) w w') : Frs w' B' fv fs vs :=
  h.kept hB hk (fun _ _ e => e)
theorem own_type {w : World} {B H : Nat} {e t : TypeId} {v : Value} {n : Nat} {xs : List Value} {cs : Array Value} {fz : Nat × Nat} (h : w.ownsRow B e 1 v n xs) (hr : w.heap[H]? = some (.cells cs t fz)) (hne : e ≠ t) : v.ownBlock ≠ some H := by
  intro ho
  rcases h.2 with ⟨rfl, _⟩ | ⟨g, cap, cur, rfl, _, hg, _⟩
  · cases ho
  · injection ho with ho
    subst ho
    rw [hr] at hg
    injection hg with hg
    injection hg with _ hg
    exact hne hg.symm
theorem Frs.kept50 {w w' : World} {B B' H : Nat} {fv v : Value} {d : Bool} {fs : List (List UInt8)} {vs : List Value} (h : Frs w B fv fs vs) (hB : B' ≤ B) (hk : Kp (fun k => k = H) w w') (hr : w.heap[H]? = some (.cells #[v, .bool d] 50 (0, 0))) : Frs w' B' fv fs vs :=
  ⟨own_base (hk.own h.1 (fun k hk e => own_type h.1 hr (by decide) (by rw [hk]; exact congrArg some e))) hB, fun j hj => by
    obtain ⟨A, n, c, h1, h2⟩ := h.2 j hj
    exact ⟨A, n, c, h1, own_base (hk.own h2 (fun k hk e => own_type h2 hr (by decide) (by rw [hk]; exact congrArg some e))) hB⟩⟩
theorem Frs.lt {w : World} {B : Nat} {fv : Value} {fs : List (List UInt8)} {vs : List Value} (h : Frs w B fv fs vs) : ∀ u ∈ vs, ∀ k, u.ownBlock = some k → k < w.heap.size := by
  intro u hu k hk
  obtain ⟨j, hj, e⟩ := List.getElem_of_mem hu
  have hl := h.1.1
  obtain ⟨A, n, c, h1, h2⟩ := h.2 j (by omega)
  rw [List.getElem?_eq_getElem hj, e] at h1
  injection h1 with h1
  subst h1
  exact (h2.lt k hk).2
theorem Frs.form {w : World} {B : Nat} {fv : Value} {fs : List (List UInt8)} {vs : List Value} (h : Frs w B fv fs vs) : ∃ A c, fv = .slice A fs.length c := by
  rcases h.1.2 with ⟨rfl, h2⟩ | ⟨g, cap, cur, rfl, _⟩
  · exact ⟨none, 0, by rw [h2]⟩
  · exact ⟨_, cap, rfl⟩
theorem Frs.nil (w : World) (B : Nat) : Frs w B (.slice none 0 0) [] [] := ⟨World.ownsRow_nil w B 24 1, fun j hj => by simp at hj⟩
theorem own_pgH {w : World} {H : Nat} {v : Value} {l : List UInt8} (h : w.ownsRow (H + 1) 5 1 v l.length (bv l)) : ∃ g, H < g ∧ Pg w g v l ∧ (v.ownBlock = some g ∨ v.ownBlock = none) := by
  rcases h.2 with ⟨rfl, h2⟩ | ⟨g, cap, cur, rfl, _⟩
  · obtain ⟨A, c, e, hc, hr⟩ := own_pb h
    exact ⟨H + 1, by omega, ⟨A, c, e, hc, fun hx => absurd hx (by omega)⟩, .inr rfl⟩
  · obtain ⟨g', hg, hb⟩ := own_pg h
    rcases hb with e | e
    · injection e with e
      subst e
      exact ⟨g, (h.lt g rfl).1, hg, .inl rfl⟩
    · cases e

/-- How long the slice is that a reader holds. -/
def restLen (H : Nat) (w : World) : Nat := match w.cell? ⟨H, 0, none⟩ with | some (.slice _ n _) => n | _ => 0
theorem restLen_row {H : Nat} {w : World} {A : Option Addr} {n c : Nat} {d : Bool} (hr : w.heap[H]? = some (.cells #[.slice A n c, .bool d] 50 (0, 0))) : restLen H w = n := by
  unfold restLen
  rw [row_cell hr]

set_option maxHeartbeats 4000000 in
set_option maxRecDepth 4000 in
theorem feed_any (H : Nat) (v y : Value) (h b : List UInt8) (w : World) (hr : IsR w H v h false) (hp : Pb w y b) (hlen : h.length + b.length ≤ 900000) :
    Calls Try.prog 16 #[.pointer (some ⟨H, 0, none⟩), y] w fun e w' => ∃ A n c vs v', e = .returned (.tuple #[.slice A n c, .int .i64 (if (parse (h ++ b)).2.2 then 6 else 0)]) ∧
      Frs w' w.heap.size (.slice A n c) (parse (h ++ b)).1 vs ∧ IsR w' H v' (parse (h ++ b)).2.1 (parse (h ++ b)).2.2 ∧
      (v'.ownBlock = v.ownBlock ∨ v'.ownBlock = none ∨ ∃ k, v'.ownBlock = some k ∧ w.heap.size ≤ k) ∧ (∀ u ∈ vs, ∀ k, v'.ownBlock = some k → u.ownBlock ≠ some k) ∧ Kp (fun k => k = H ∨ v.ownBlock = some k) w w' := by
  obtain ⟨Ay, cy, rfl, _, _⟩ := id hp
  have hd := dead_any H v false w hr.1
  have hput := put_any H v _ h b false w hr hp (by omega)
  obtain ⟨L, hL⟩ : ∃ L, L = h ++ b := ⟨_, rfl⟩
  have hLl : L.length ≤ 900000 := by rw [hL, List.length_append]; exact hlen
  rw [← hL] at hput ⊢
  have HD := Lib.hid hd
  have HPUT := Lib.hid hput
  have HLL := Lib.hid hLl
  clear hd hput hr hp hL hLl hlen
  go_enter Try.func16, Try.ntmps16
  go_wp2_with fail
  go_step3
  go_wp2_with fail
  refine HD.out.mono ?_
  rintro e w0 ⟨rfl, rfl⟩
  go_wp2_with fail
  refine HPUT.out.mono ?_
  rintro e w1 ⟨rfl, v1, hr1, hat1, hk1⟩
  obtain ⟨g, hgH, hpg1, hgo⟩ := own_pgH hr1.2
  have HW1 := Lib.hid (show IsR w1 H v1 L false ∧ (v1.ownBlock = v.ownBlock ∨ v1.ownBlock = some w.heap.size) ∧ Kp (fun k => k = H ∨ v.ownBlock = some k) w w1 ∧ w.heap.size ≤ w1.heap.size from ⟨hr1, hat1, hk1, hk1.size⟩)
  have HPG1 := Lib.hid hpg1
  have HG1 := Lib.hid (show 0 < L.length → g < w1.heap.size from fun h => by obtain ⟨_, _, _, _, hr⟩ := hpg1; obtain ⟨_, _, h2, _⟩ := hr h; exact h2)
  have HGH := Lib.hid hgH
  clear hr1 hat1 hk1 hpg1 hgo hgH HD HPUT
  go_wp2_with fail
  go_step3
  go_wp2_with fail
  go_loopw [6] (fun fv wr => ∃ (fs : List (List UInt8)) (r : List UInt8) (vs : List Value) (x : Value) (A6 : Option Addr) (nf c6 : Nat), fv = .slice A6 nf c6 ∧ Hid (nf = fs.length) ∧ Hid (Frs wr w1.heap.size (.slice A6 nf c6) fs vs) ∧ Hid (fs ++ (parse r).1 = (parse L).1 ∧ (parse r).2 = (parse L).2) ∧ Hid (Pg wr g x r) ∧ Hid (wr.heap[H]? = some (.cells #[x, .bool false] 50 (0, 0))) ∧ Hid (Kp (fun k => k = H) w1 wr) ∧ Hid (fs = [] → x = v1 ∧ r = L) ∧ Hid (r.length + fs.length ≤ L.length)) (fun _ wr => restLen H wr)
  case atStart => exact ⟨[], L, [], v1, none, 0, 0, rfl, Lib.hid rfl, Lib.hid (Frs.nil _ _), Lib.hid ⟨rfl, rfl⟩, HPG1, Lib.hid HW1.out.1.1, Lib.hid (Kp.refl _ _), Lib.hid (fun _ => ⟨rfl, rfl⟩), Lib.hid (by simp)⟩
  case round =>
    clear HPG1
    obtain ⟨fs, r, vs, x, A6, nf, c6, rfl, hnf, ho, he, hpg, hrow, hkp, hx0, hrl0⟩ := hrel
    have hrl := Lib.hid (show r.length ≤ 900000 ∧ fs.length ≤ 900000 by have := hrl0.out; have := HLL.out; omega)
    have hlen := length_any H x r false wr hrow.out hpg.out.pb
    have HLEN := Lib.hid hlen
    clear hlen
    go_wp2_with fail
    refine HLEN.out.mono ?_
    rintro e w2 ⟨rfl, hb2⟩
    have hbl : Kp (fun _ => False) wr w2 := Kp.of_below _ hb2
    clear HLEN hb2
    have HBL := Lib.hid hbl
    by_cases h2 : r.length < 2
    · have e2 : lenE r = .returned (.tuple #[.int .i64 0, .bool false]) := by
        unfold lenE
        rw [if_pos h2, decide_eq_false (by omega)]
      rw [e2]
      clear hbl e2
      have H2 := Lib.hid h2
      clear h2
      have hbl : Kp (fun _ => False) wr w2 := HBL.out
      have hpr : parse r = ([], r, false) := parse_short H2.out
      have hfs : (parse L).1 = fs := by rw [← he.out.1, hpr, List.append_nil]
      have h2 : (parse L).2 = (r, false) := by rw [← he.out.2, hpr]
      have HPL1 := Lib.hid hfs
      have HPL2 := Lib.hid h2
      clear hpr hfs h2
      by_cases hf0 : fs = []
      · have hn0 : nf = 0 := by have := hnf.out; rw [hf0] at this; exact this
        subst hn0
        go_wp2_with fail
        rw [Exit.noGoto_ret]
        go_ret2
        obtain ⟨rfl, rfl⟩ := hx0.out hf0
        refine ⟨A6, _, c6, vs, x, by rw [HPL2.out]; rfl, ?_, ?_, ?_, ?_, ?_⟩
        · rw [HPL1.out]
          exact ho.out.below_frs (Nat.le_trans HW1.out.2.2.2 (Nat.le_refl _)) hbl
        · rw [HPL2.out]
          exact ⟨hbl.heap hrow.out (fun e => e), hbl.own (hkp.out.own HW1.out.1.2 (fun k hk e => by have := (HW1.out.1.2.lt k hk).1; have e' : k = H := e; omega)) (fun _ _ e => e)⟩
        · rcases HW1.out.2.1 with e | e
          · exact .inl e
          · exact .inr (.inr ⟨_, e, Nat.le_refl _⟩)
        · intro u hu
          have := ho.out.1.1
          rw [hf0] at this
          have hv0 : vs = [] := List.eq_nil_of_length_eq_zero (by simpa using this)
          rw [hv0] at hu
          cases hu
        · exact (HW1.out.2.2.1.trans hkp.out (fun i _ e => .inl e)).trans hbl (fun i _ e => e.elim)
      · have hn0 : 0 < nf := by have := hnf.out; have : 0 < fs.length := List.length_pos_iff.2 hf0; omega
        have hst := settle_any H g x r false w2 (hbl.heap hrow.out (fun e => e)) (hpg.out.kept hbl (fun e => e)) (by have := hrl.out; omega)
        have HST := Lib.hid hst
        clear hst
        go_wp2_with fail
        refine HST.out.mono ?_
        rintro e w5 ⟨rfl, v5, hr5, hv5, hk5⟩
        go_wp2_with fail
        rw [Exit.noGoto_ret]
        go_ret2
        refine ⟨A6, _, c6, vs, v5, by rw [HPL2.out]; rfl, ?_, ?_, ?_, ?_, ?_⟩
        · rw [HPL1.out]
          exact (ho.out.below_frs (Nat.le_trans HW1.out.2.2.2 (Nat.le_refl _)) hbl).kept50 (Nat.le_refl _) hk5 (by exact hbl.heap hrow.out (fun e => e))
        · rw [HPL2.out]
          exact hr5
        · cases hv : v5.ownBlock with
          | none => exact .inr (.inl rfl)
          | some k => exact .inr (.inr ⟨k, rfl, Nat.le_trans (Nat.le_trans HW1.out.2.2.2 hkp.out.size) (Nat.le_trans hbl.size (hv5 k hv))⟩)
        · intro u hu k hk e
          have h1 := hv5 k hk
          have h2 := (ho.out.below_frs (Nat.le_refl _) hbl).lt u hu k e
          omega
        · exact ((HW1.out.2.2.1.trans hkp.out (fun i _ e => .inl e)).trans hbl (fun i _ e => e.elim)).trans hk5 (fun i _ e => .inl e)
    · have e2 : lenE r = .returned (.tuple #[.int .i64 (hd2 r : Int), .bool true]) := by
        unfold lenE
        rw [if_neg h2, decide_eq_true (by omega)]
      rw [e2]
      obtain ⟨q, hq⟩ : ∃ q, q = hd2 r := ⟨_, rfl⟩
      rw [← hq]
      have hq70 : q ≤ 70000 := by
        rw [hq]
        unfold hd2
        have h1 := (r.getD 0 0).toNat_lt
        have h2 := (r.getD 1 0).toNat_lt
        omega
      have hrt := right_any (q : Int) w2
      obtain ⟨ok, hok⟩ : ∃ ok, ok = decide (1 ≤ (q : Int) ∧ (q : Int) ≤ 1024) := ⟨_, rfl⟩
      rw [← hok] at hrt
      have HRT := Lib.hid hrt
      have HQ := Lib.hid hq
      have HOK := Lib.hid hok
      have H2 := Lib.hid h2
      clear hrt hq hok hbl e2 h2
      go_wp2_with fail
      refine HRT.out.mono ?_
      rintro e w3 ⟨rfl, rfl⟩
      clear HRT
      cases ok with
      | false =>
        have hr2 := HBL.out.heap hrow.out (fun e => e)
        have hpr : parse r = ([], [], true) := parse_wrong H2.out (by
          have := HOK.out
          rw [← HQ.out]
          have := decide_eq_false_iff_not.1 this.symm
          omega)
        have HPL1 := Lib.hid (show (parse L).1 = fs by rw [← he.out.1, hpr, List.append_nil])
        have HPL2 := Lib.hid (show (parse L).2 = ([], true) by rw [← he.out.2, hpr])
        have hfr : ∀ i, w2.frozen? ⟨H, i, none⟩ = false := fun i => frozen_of_row w2 _ _ _ _ hr2
        have c0 := row_cell hr2
        have c1 : w2.cell? ⟨H, 1, none⟩ = some (.bool false) := by
          rw [cell_of_row w2 H 1 _ _ _ hr2]
          rfl
        have hset : ((w2.setCell ⟨H, 0, none⟩ (.slice none 0 0)).setCell ⟨H, 1, none⟩ (.bool true)).heap[H]? = some (.cells #[.slice none 0 0, .bool true] 50 (0, 0)) := by
          rw [heap_setCell_same _ H 1 _ 50 _ (row_set hr2)]
          rfl
        have hks : Kp (fun k => k = H) w2 ((w2.setCell ⟨H, 0, none⟩ (.slice none 0 0)).setCell ⟨H, 1, none⟩ (.bool true)) := (Kp.setCell w2 ⟨H, 0, none⟩ _).trans (Kp.setCell _ ⟨H, 1, none⟩ _) (fun i _ e => e)
        have HSET := Lib.hid hset
        have HKS := Lib.hid hks
        have HR2 := Lib.hid hr2
        clear hr2 hpr hset hks
        go_wp2_with fail
        rw [Exit.noGoto_ret]
        go_ret2
        refine ⟨A6, _, c6, vs, .slice none 0 0, by rw [HPL2.out]; rfl, ?_, ?_, .inr (.inl rfl), fun u _ k hk => (by cases hk), ?_⟩
        · rw [HPL1.out]
          exact (ho.out.below_frs (Nat.le_trans HW1.out.2.2.2 (Nat.le_refl _)) HBL.out).kept50 (Nat.le_refl _) HKS.out HR2.out
        · rw [HPL2.out]
          exact ⟨HSET.out, World.ownsRow_nil _ (H + 1) 5 1⟩
        · exact ((HW1.out.2.2.1.trans hkp.out (fun i _ e => .inl e)).trans HBL.out (fun i _ e => e.elim)).trans HKS.out (fun i _ e => .inl e)
      | true =>
        have hok2 := HOK.out.symm
        rw [decide_eq_true_iff] at hok2
        have hr2 := HBL.out.heap hrow.out (fun e => e)
        have hha := has_any H q x r false w2 hr2 (hpg.out.kept HBL.out (fun e => e)).pb hq70
        obtain ⟨wh, hwh⟩ : ∃ wh, wh = decide (2 + q ≤ r.length) := ⟨_, rfl⟩
        rw [← hwh] at hha
        have HHA := Lib.hid hha
        have HWH := Lib.hid hwh
        have HOK2 := Lib.hid hok2
        have HR2 := Lib.hid hr2
        clear hha hwh hok2 hr2 HOK
        go_wp2_with fail
        refine HHA.out.mono ?_
        rintro e w3 ⟨rfl, rfl⟩
        clear HHA
        cases wh with
        | false =>
          have hbl : Kp (fun _ => False) wr w2 := HBL.out
          have hw3 := decide_eq_false_iff_not.1 HWH.out.symm
          have HW3 := Lib.hid hw3
          clear hw3 hq70
          have hpr : parse r = ([], r, false) := parse_wait H2.out (by rw [← HQ.out]; have := HOK2.out; omega) (by rw [← HQ.out]; have := HW3.out; omega)
          have hfs : (parse L).1 = fs := by rw [← he.out.1, hpr, List.append_nil]
          have h2 : (parse L).2 = (r, false) := by rw [← he.out.2, hpr]
          have HPL1 := Lib.hid hfs
          have HPL2 := Lib.hid h2
          clear hpr hfs h2
          by_cases hf0 : fs = []
          · have hn0 : nf = 0 := by have := hnf.out; rw [hf0] at this; exact this
            subst hn0
            go_wp2_with fail
            rw [Exit.noGoto_ret]
            go_ret2
            obtain ⟨rfl, rfl⟩ := hx0.out hf0
            refine ⟨A6, _, c6, vs, x, by rw [HPL2.out]; rfl, ?_, ?_, ?_, ?_, ?_⟩
            · rw [HPL1.out]
              exact ho.out.below_frs (Nat.le_trans HW1.out.2.2.2 (Nat.le_refl _)) hbl
            · rw [HPL2.out]
              exact ⟨hbl.heap hrow.out (fun e => e), hbl.own (hkp.out.own HW1.out.1.2 (fun k hk e => by have := (HW1.out.1.2.lt k hk).1; have e' : k = H := e; omega)) (fun _ _ e => e)⟩
            · rcases HW1.out.2.1 with e | e
              · exact .inl e
              · exact .inr (.inr ⟨_, e, Nat.le_refl _⟩)
            · intro u hu
              have := ho.out.1.1
              rw [hf0] at this
              have hv0 : vs = [] := List.eq_nil_of_length_eq_zero (by simpa using this)
              rw [hv0] at hu
              cases hu
            · exact (HW1.out.2.2.1.trans hkp.out (fun i _ e => .inl e)).trans hbl (fun i _ e => e.elim)
          · have hn0 : 0 < nf := by have := hnf.out; have : 0 < fs.length := List.length_pos_iff.2 hf0; omega
            have hst := settle_any H g x r false w2 (hbl.heap hrow.out (fun e => e)) (hpg.out.kept hbl (fun e => e)) (by have := hrl.out; omega)
            have HST := Lib.hid hst
            clear hst
            go_wp2_with fail
            refine HST.out.mono ?_
            rintro e w5 ⟨rfl, v5, hr5, hv5, hk5⟩
            go_wp2_with fail
            rw [Exit.noGoto_ret]
            go_ret2
            refine ⟨A6, _, c6, vs, v5, by rw [HPL2.out]; rfl, ?_, ?_, ?_, ?_, ?_⟩
            · rw [HPL1.out]
              exact (ho.out.below_frs (Nat.le_trans HW1.out.2.2.2 (Nat.le_refl _)) hbl).kept50 (Nat.le_refl _) hk5 (by exact hbl.heap hrow.out (fun e => e))
            · rw [HPL2.out]
              exact hr5
            · cases hv : v5.ownBlock with
              | none => exact .inr (.inl rfl)
              | some k => exact .inr (.inr ⟨k, rfl, Nat.le_trans (Nat.le_trans HW1.out.2.2.2 hkp.out.size) (Nat.le_trans hbl.size (hv5 k hv))⟩)
            · intro u hu k hk e
              have h1 := hv5 k hk
              have h2 := (ho.out.below_frs (Nat.le_refl _) hbl).lt u hu k e
              omega
            · exact ((HW1.out.2.2.1.trans hkp.out (fun i _ e => .inl e)).trans hbl (fun i _ e => e.elim)).trans hk5 (fun i _ e => .inl e)
        | true =>
          have hw3 := decide_eq_true_iff.1 HWH.out.symm
          have htk := take_any H g q x r false w2 HR2.out (hpg.out.kept HBL.out (fun e => e)) (by have := HGH.out; omega) (by have := hrl.out; omega) (by have := HOK2.out; omega) hw3
          have HTK := Lib.hid htk
          have HWHT := HWH
          clear htk hw3 hq70 HWH
          go_wp2_with fail
          refine HTK.out.mono ?_
          rintro e w4 ⟨A7, n7, c7, rfl, x4, hr4, hp4, ho4, hk4⟩
          have hfl : fs.length ≤ 900000 := by have := hrl.out; omega
          have ho4f : Frs w4 w1.heap.size (.slice A6 nf c6) fs vs := (ho.out.below_frs (Nat.le_refl _) HBL.out).kept50 (Nat.le_refl _) hk4 HR2.out
          have hsz4 : w1.heap.size ≤ w4.heap.size := Nat.le_trans hkp.out.size (Nat.le_trans HBL.out.size hk4.size)
          have HO4 := Lib.hid ho4f
          have HO7 := Lib.hid ho4
          have HR4 := Lib.hid hr4
          have HP4 := Lib.hid hp4
          have HK4 := Lib.hid hk4
          have HFL := Lib.hid hfl
          have HSZ := Lib.hid hsz4
          clear hr4 hp4 ho4 hk4 hfl ho4f hsz4 HTK
          go_wp2_with (at_builtin; refine wpList_append_frame rfl (.tmp 45) (.tmp 51) rfl w1.heap.size fs.length (.slice A6 nf c6) (.slice A7 n7 c7) vs rfl rfl rfl HO4.out.1 (by have := HFL.out; omega) HSZ.out ?_; intro v6 w6 hown6 hg6 hat6)
          have hpt := parse_take H2.out (by rw [← HQ.out]; have := HOK2.out; omega) (by rw [← HQ.out]; have := decide_eq_true_iff.1 HWHT.out.symm; omega)
          rw [← HQ.out] at hpt
          have hcl : ((r.drop 2).take q).length = q := by have := decide_eq_true_iff.1 HWHT.out.symm; simp; omega
          have hk46 : Kp (fun k => (Value.slice A6 nf c6).ownBlock = some k) w4 w6 := (Kp.alloc _ w4 _).trans (Kp.of_grown hg6) (fun i _ e => e)
          have hne5 : ∀ {B : Nat} {u : Value} {n : Nat} {xs : List Value} k, w4.ownsRow B 5 1 u n xs → u.ownBlock = some k → (Value.slice A6 nf c6).ownBlock ≠ some k := by
            intro B u n xs k hu hk e
            obtain ⟨_, hu2⟩ := hu
            rcases hu2 with ⟨rfl, _⟩ | ⟨g', cap, cur, rfl, _, hg', _⟩
            · cases hk
            · injection hk with hk
              subst hk
              exact own_type HO4.out.1 hg' (by decide) e
          have HFR6 : Hid (Frs w6 w1.heap.size v6 (fs ++ [(r.drop 2).take q]) (vs ++ [.slice A7 n7 c7])) := Lib.hid ⟨by rw [List.length_append]; exact hown6, fun j hj => by
            rw [List.length_append] at hj
            simp at hj
            have hvl : vs.length = fs.length := by simpa using HO4.out.1.1
            by_cases hjf : j < fs.length
            · obtain ⟨A8, n8, c8, h1, h2⟩ := HO4.out.2 j hjf
              refine ⟨A8, n8, c8, by rw [List.getElem?_append_left (by omega)]; exact h1, ?_⟩
              rw [List.getElem_append_left hjf]
              exact hk46.own h2 (fun k hk => hne5 k h2 hk)
            · have hje : j = fs.length := by omega
              subst hje
              refine ⟨A7, n7, c7, by rw [List.getElem?_append_right (by omega), hvl, Nat.sub_self]; rfl, ?_⟩
              rw [List.getElem_append_right (by omega)]
              simp only [Nat.sub_self, List.getElem_cons_zero]
              rw [hcl]
              exact own_base (hk46.own HO7.out (fun k hk => hne5 k HO7.out hk)) (Nat.le_trans hkp.out.size HBL.out.size)⟩
          have hR6 := hk46.heap HR4.out (own_type HO4.out.1 HR4.out (by decide))
          have hP6 : Pg w6 g x4 (r.drop (2 + q)) := by
            obtain ⟨Ax, cx, e1, e2, e3⟩ := HP4.out
            refine ⟨Ax, cx, e1, e2, fun hx => ?_⟩
            obtain ⟨ox, e4, e5, e6⟩ := e3 hx
            exact ⟨ox, e4, Nat.lt_of_lt_of_le e5 hk46.size, fun j u hu => (World.cell?_of_block (hk46.block g e5 (fun e => by have h1 := (HO4.out.1.lt g e).1; have h2 := HG1.out (by have := hrl0.out; have := H2.out; omega); omega))).trans (e6 j u hu)⟩
          obtain ⟨A9, c9, rfl⟩ := HFR6.out.form
          have HR6 := Lib.hid hR6
          have HP6 := Lib.hid hP6
          have HPT := Lib.hid hpt
          have HK46 := Lib.hid hk46
          have HCL := Lib.hid hcl
          clear hR6 hP6 hpt hk46 hne5 hown6 hg6 hat6 hcl
          go_roundw
          case rel =>
            refine ⟨fs ++ [(r.drop 2).take q], r.drop (2 + q), vs ++ [.slice A7 n7 c7], x4, A9, _, c9, rfl, Lib.hid rfl, HFR6, Lib.hid ⟨?_, ?_⟩, HP6, HR6, Lib.hid ?_, Lib.hid (fun e => absurd e (by simp)), Lib.hid ?_⟩
            · have h := he.out.1
              rw [HPT.out] at h
              rw [List.append_assoc]
              exact h
            · have h := he.out.2
              rw [HPT.out] at h
              exact h
            · exact ((hkp.out.trans HBL.out (fun i _ e => e.elim)).trans HK4.out (fun i _ e => e)).trans HK46.out (fun i hi e => by have := (HO4.out.1.lt i e).1; omega)
            · have := hrl0.out
              have := H2.out
              simp
              omega
          case measure =>
            obtain ⟨Ax, cx, e1, _⟩ := HP6.out
            obtain ⟨Ar, cr, e3, _⟩ := hpg.out
            have h1 := HR6.out
            have h2 := hrow.out
            rw [e1] at h1
            rw [e3] at h2
            rw [restLen_row h1, restLen_row h2]
            have := H2.out
            simp
            omega
end Go.Proofs.Ytggoclmboemmlaa
