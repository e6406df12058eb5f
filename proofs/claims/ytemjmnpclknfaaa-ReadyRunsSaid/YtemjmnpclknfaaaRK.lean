/- Ready: ReadyRuns' walk. -/
import Derived.Test.YtemjmnpclknfaaaRI
namespace Go.Proofs.Ytemjmnpclknfaaa.P
open Go.RowKit
set_option maxRecDepth 20000
set_option linter.unusedVariables false
set_option linter.unusedSimpArgs false

/-- How things stand behind some acts. -/
def PS (w : World) (B : Nat) (mo : Int) (L : List Pt) (A : Option Addr) (n : Nat) (wr : World) : Prop :=
  ∃ vi, Bk wr B w.heap.size mo vi L ∧ Dd wr w.heap.size vi A n L ∧ Inv L ∧ (L.length : Int) ≤ mo ∧ Below w.heap.size w wr
theorem PS.below {w W W' : World} {B : Nat} {mo : Int} {L : List Pt} {A : Option Addr} {n : Nat} (h : PS w B mo L A n W) (hb : Below W.heap.size W W') : PS w B mo L A n W' := by
  obtain ⟨vi, h1, h2, h3, h4, h5⟩ := h
  exact ⟨vi, h1.after hb, h2.after hb, h3, h4, h5.trans (hb.mono h5.size)⟩
theorem PS.all {w W : World} {B : Nat} {mo : Int} {L : List Pt} {A : Option Addr} {n : Nat} (h : PS w B mo L A n W) : Below w.heap.size w W := by
  obtain ⟨vi, h1, h2, h3, h4, h5⟩ := h
  exact h5
/-- One more act. -/
theorem PS.act {w W : World} {B n c : Nat} {mo : Int} {L : List Pt} {A : Option Addr} (h : PS w B mo L A n W) (hmo : 0 ≤ mo ∧ mo ≤ 20) (d : Int) (id p : Nat) (PA : Option Addr) (pc : Nat) (ps : List Nat) (t : Int) (hR : Rn w PA ps) (hps : ps.length ≤ 12 ∧ ps.length ≤ pc) :
    Calls Try.prog 9 #[bp B, .slice A n c, .int .i64 mo, .agg #[.int .u8 d, .int .u32 (id : Int), .int .u32 (p : Int), .slice PA ps.length pc, .int .i64 t]] W fun r w' => ∃ A' n' c', r = .returned (.tuple #[.slice A' n' c', .bool true]) ∧ PS w B mo (actL mo d L id p ps t) A' n' w' ∧ ∀ (X : Nat) (cur : Array Value), W.heap[X]? = some (Obj.cells cur 29 (0, 0)) → w'.heap[X]? = some (Obj.cells cur 29 (0, 0)) := by
  obtain ⟨vi, h1, h2, h3, h4, h5⟩ := h
  refine (do_any B w.heap.size mo vi L A n c d id p PA pc ps t W h1 h2 h3 h4 hmo hps (fun W' hW => hR.after (h5.trans hW))).mono ?_
  rintro r w' ⟨A', n', c', vi', rfl, hb', hd', hs⟩
  have hx := nx_act h3 hmo h4 d id p ps t
  exact ⟨A', n', c', rfl, ⟨vi', hb', hd', hx.1, hx.2, h5.trans hs.below⟩, fun X cur hX => (hs.keep X cur 29 hX (by decide) (by decide) (fun e => absurd e (by decide))).trans hX⟩
def LkP (x : Nat) (l : Int) (M1 M2 : List Nat) (is : Bool) (W : World) (r : Ending) (w' : World) : Prop := ∃ a1 a2 : Sl, r = .returned (.tuple #[cV x a1 a2 l, .bool is]) ∧ S32 w' (.slice a1.a a1.n a1.c) M1 ∧ S32 w' (.slice a2.a a2.n a2.c) M2 ∧ Below W.heap.size W w'
def LgP (x : Nat) (l : Int) (M1 M2 : List Nat) (is : Bool) (W : World) (r : Ending) (w' : World) : Prop := ∃ a1 a2 : Sl, r = .returned (.tuple #[.agg (dC x l a1 a2), .bool is]) ∧ S32 w' (.slice a1.a a1.n a1.c) M1 ∧ S32 w' (.slice a2.a a2.n a2.c) M2 ∧ Below W.heap.size W w'
/-- A look at one check: the room's and the document's are one. -/
theorem PS.look {w W0 : World} {B n c : Nat} {mo : Int} {L : List Pt} {A : Option Addr} (h : PS w B mo L A n W0) (hmo : mo ≤ 20) (id : Nat) :
    ∃ (x : Nat) (l : Int) (M1 M2 : List Nat) (is : Bool), (M1.length ≤ 100 ∧ M2.length ≤ 100 ∧ M2.Nodup) ∧ (∀ W, Below W0.heap.size W0 W → Calls Try.prog 10 #[bp B, .int .u32 (id : Int)] W fun r w' => LkP x l M1 M2 is W r w') ∧ (∀ W, Below W0.heap.size W0 W → Calls Try.prog 11 #[.slice A n c, .int .u32 (id : Int)] W fun r w' => LgP x l M1 M2 is W r w') := by
  obtain ⟨vi, h1, h2, h3, h4, h5⟩ := h
  have hn : n ≤ 100 := by have := h2.n; omega
  cases hg : getP L id with
  | none =>
    refine ⟨0, 0, [], [], false, ⟨by simp, by simp, List.nodup_nil⟩, fun W hW => ?_, fun W hW => ?_⟩
    · exact (check_none B w.heap.size mo vi L id W (h1.after hW) (by omega) hg).mono fun r w' ⟨e, hb⟩ => ⟨sN, sN, e, s32_nil w', s32_nil w', hb⟩
    · exact (dget_none w.heap.size vi A n c L id W h2.n (h2.dr.after hW) hn hg).mono fun r w' ⟨e, hb⟩ => ⟨sN, sN, e, s32_nil w', s32_nil w', hb⟩
  | some g =>
    have k := h3.each g (get_some hg).1
    have k1 := k.les
    have k2 := k.eight
    refine ⟨g.id, g.ld, g.mem, g.inv, true, ⟨by omega, by omega, k.nodI⟩, fun W hW => ?_, fun W hW => ?_⟩
    · refine (check_some B w.heap.size mo vi L id g W (h1.after hW) (by omega) hg (by omega) (by omega)).mono ?_
      rintro r w' ⟨v, e, ht, hb⟩
      rw [← (get_some hg).2] at ht
      obtain ⟨A1, A2, c1, c2, rfl, o1, o2⟩ := ht
      exact ⟨⟨A1, g.mem.length, c1⟩, ⟨A2, g.inv.length, c2⟩, e, .of_own o1, .of_own o2, hb⟩
    · refine (dget_some w.heap.size vi A n c L id g W h2.n (h2.dr.after hW) hn hg).mono ?_
      rintro r w' ⟨m, v, e, f1, f2, hb⟩
      exact ⟨m, v, e, .of_fl f1, .of_fl f2, hb⟩
set_option maxHeartbeats 16000000 in
theorem runs_any (most : Int) (p : Option Addr × Nat) (acts : List Ac) (w : World) (hA : As w w.heap.size p.1 acts) (hl : acts.length ≤ 9223372036854775807) (hR : ∀ e ∈ acts, Ra w e) :
    Calls Try.prog 3 #[.int .i64 most, .slice p.1 acts.length p.2] w fun r w' => r = .returned (.bool true) ∧ Below w.heap.size w w' := by
  obtain ⟨P, cp⟩ := p
  simp only at hA ⊢
  obtain ⟨n0, hn⟩ : ∃ n, n = acts.length := ⟨_, rfl⟩
  rw [← hn] at hl ⊢
  have HA := Lib.hid hA
  have HR := Lib.hid hR
  have HN := Lib.hid hn
  have HAW : Hid (∀ W, Calls Try.prog 18 #[] W fun r w' => r = .returned (.bool true) ∧ Below W.heap.size W w') := fun W => awake_any W
  have HNW := Lib.hid (new_bk most w)
  clear hA hR hn
  by_cases h20 : 20 < most
  · go_enter Try.func3, Try.ntmps3
    go_wp2
    go_ret
    exact ⟨rfl, Below.refl _ _⟩
  by_cases h80 : 60 < n0
  · go_enter Try.func3, Try.ntmps3
    go_wp2
    go_ret
    exact ⟨rfl, Below.refl _ _⟩
  obtain ⟨mo, hmo⟩ : ∃ mo, mo = max most 0 := ⟨_, rfl⟩
  have HMO : Hid (0 ≤ mo ∧ mo ≤ 20) := by simp only [Hid]; omega
  have HME : Hid (max 0 most = mo) := by simp only [Hid]; omega
  have HMX := Lib.hid hmo
  clear hmo
  go_enter Try.func3, Try.ntmps3
  go_wp2_with fail
  refine HNW.out.mono ?_
  rintro r w1 ⟨B, rfl, hB, hbk, hb1⟩
  rw [← HMX.out] at hbk
  have HS : Hid (PS w B mo [] none 0 w1) := ⟨_, hbk, ⟨rfl, Dr.nil, hbk.ctx⟩, Inv.nil, by have := HMO.out; simp; omega, hb1⟩
  clear hbk hb1
  go_wp2_with fail
  go_loopw [6, 7] (fun vl i wr => ∃ (k n c : Nat) (A : Option Addr) (L : List Pt), k ≤ n0 ∧ i = .int .i64 (k : Int) ∧ vl = .slice A n c ∧ Hid (PS w B mo L A n wr)) (fun _ i _ => n0 - (intOf i).toNat)
  case atStart => exact ⟨0, 0, 0, none, [], Nat.zero_le _, rfl, rfl, HS.out⟩
  case round =>
    obtain ⟨k, n, c, A, L, hk, rfl, rfl, HM⟩ := hrel
    by_cases hlt : k < n0
    · obtain ⟨⟨d, id, p, PA, pc, ps, t⟩, hy⟩ : ∃ e, acts[k]? = some e := ⟨acts[k]'(by rw [← HN.out]; exact hlt), List.getElem?_eq_getElem _⟩
      obtain ⟨hd, hi, hp, hrn, hpl, hpcc, hx, ht⟩ := HR.out _ (List.mem_of_getElem? hy)
      simp only at hd hi hp hrn hpl hpcc
      obtain ⟨b1, o1, rfl, hb1, ha1⟩ := HA.out (by have := HN.out; omega)
      obtain ⟨e0, e1, e2, e3, e4⟩ := ha1 k _ hy
      have d0 := (HM.out.all.cell (p := ⟨b1, _, none⟩) hb1).trans e0
      have d1 := (HM.out.all.cell (p := ⟨b1, _, none⟩) hb1).trans e1
      have d2 := (HM.out.all.cell (p := ⟨b1, _, none⟩) hb1).trans e2
      have d3 := (HM.out.all.cell (p := ⟨b1, _, none⟩) hb1).trans e3
      have d4 := (HM.out.all.cell (p := ⟨b1, _, none⟩) hb1).trans e4
      simp only at d0 d1 d2 d3 d4
      obtain ⟨X, hX⟩ : ∃ X, X = wr.heap.size := ⟨_, rfl⟩
      obtain ⟨v1, hv1⟩ : ∃ v1, v1 = wr.alloc (.cells #[.int .u8 d, .int .u32 (id : Int), .int .u32 (p : Int), .slice PA ps.length pc, .int .i64 t] 29) := ⟨_, rfl⟩
      have hbv1 : Below wr.heap.size wr v1 := by rw [hv1]; exact (Below.refl _ _).alloc (Nat.le_refl _) _
      have hqv1 : v1.heap[X]? = some (.cells #[.int .u8 d, .int .u32 (id : Int), .int .u32 (p : Int), .slice PA ps.length pc, .int .i64 t] 29 (0, 0)) := by rw [hv1, hX]; exact heap_alloc_new wr _
      have HM1 := Lib.hid (HM.out.below hbv1)
      have HRN := Lib.hid hrn
      have HPC := Lib.hid hpcc
      have HV1 := Lib.hid hv1
      have HQV1 := Lib.hid hqv1
      have HXX := Lib.hid hX
      have t0 := cell_of_row v1 X 0 _ _ _ hqv1
      have t1 := cell_of_row v1 X 1 _ _ _ hqv1
      have t2 := cell_of_row v1 X 2 _ _ _ hqv1
      have t3 := cell_of_row v1 X 3 _ _ _ hqv1
      have t4 := cell_of_row v1 X 4 _ _ _ hqv1
      simp at t0 t1 t2 t3 t4
      clear hy ha1 hb1 e0 e1 e2 e3 e4 hv1 hbv1 hqv1 hd hi hp hX hrn hx ht
      go_upto_region 11 with (fail)
      rw [← HV1.out, ← HXX.out]
      clear d0 d1 d2 d3 d4
      by_cases h12 : 12 < ps.length
      · have h12' : (12 : Int) < (ps.length : Int) := by omega
        have HBF := Lib.hid HM1.out.all
        go_wp2_with fail
        go_ret
        exact ⟨rfl, HBF.out⟩
      · have h12' : ¬ ((12 : Int) < (ps.length : Int)) := by omega
        have HACT := Lib.hid (HM1.out.act (c := c) HMO.out d id p PA pc ps t HRN.out ⟨by omega, HPC.out⟩)
        go_wp2_with fail
        first | rw [HME.out] | skip
        refine HACT.out.mono ?_
        rintro r w2 ⟨A2, n2, c2, rfl, hps, hkp⟩
        have HF2 := Lib.hid hps
        have HQ2 := Lib.hid (hkp X _ HQV1.out)
        obtain ⟨L2, hL2⟩ : ∃ L2, L2 = actL mo d L id p ps t := ⟨_, rfl⟩
        rw [← hL2] at HF2
        obtain ⟨x, l, M1, M2, is, hM, hck, hge⟩ := HF2.out.look (c := c2) HMO.out.2 id
        have HMM := Lib.hid hM
        have HCK := Lib.hid hck
        have HGE := Lib.hid hge
        clear hps hkp hL2 hM hck hge t0 t1 t2 t3 t4
        have t0 := cell_of_row w2 X 0 _ _ _ HQ2.out
        have t1 := cell_of_row w2 X 1 _ _ _ HQ2.out
        have t2 := cell_of_row w2 X 2 _ _ _ HQ2.out
        have t3 := cell_of_row w2 X 3 _ _ _ HQ2.out
        have t4 := cell_of_row w2 X 4 _ _ _ HQ2.out
        simp at t0 t1 t2 t3 t4
        go_wp2_with fail
        refine (HCK.out w2 (Below.refl _ _)).mono ?_
        rintro r w3 ⟨a1, a2, rfl, s1, s2, hb3⟩
        obtain ⟨Y, hY⟩ : ∃ Y, Y = w3.heap.size := ⟨_, rfl⟩
        obtain ⟨w4, hw4⟩ : ∃ W, W = w3.alloc (.cells #[.int .u32 (x : Int), .slice a1.a a1.n a1.c, .slice a2.a a2.n a2.c, .int .i64 l] 33) := ⟨_, rfl⟩
        have hqY : w4.heap[Y]? = some (.cells #[.int .u32 (x : Int), .slice a1.a a1.n a1.c, .slice a2.a a2.n a2.c, .int .i64 l] 33 (0, 0)) := by rw [hw4, hY]; exact heap_alloc_new w3 _
        have hbw4 : Below w3.heap.size w3 w4 := by rw [hw4]; exact (Below.refl _ _).alloc (Nat.le_refl _) _
        have Hw4 := Lib.hid hw4
        have HY := Lib.hid hY
        have HQY := Lib.hid hqY
        have hb24 := hb3.trans (hbw4.mono hb3.size)
        have HQ4 := Lib.hid ((hb24.block _ (lt_of_block HQ2.out)).trans HQ2.out)
        clear t0 t1 t2 t3 t4
        have t0 := cell_of_row w4 X 0 _ _ _ HQ4.out
        have t1 := cell_of_row w4 X 1 _ _ _ HQ4.out
        have t2 := cell_of_row w4 X 2 _ _ _ HQ4.out
        have t3 := cell_of_row w4 X 3 _ _ _ HQ4.out
        have t4 := cell_of_row w4 X 4 _ _ _ HQ4.out
        simp at t0 t1 t2 t3 t4
        have HB24 := Lib.hid hb24
        have HS1 := Lib.hid (s1.after hbw4)
        have HS2 := Lib.hid (s2.after hbw4)
        clear hY hw4 hqY hbw4 hb3 hb24 s1 s2
        go_upto_region 15 with (fail)
        rw [← Hw4.out, ← HY.out]
        go_wp2_with fail
        refine (HGE.out w4 HB24.out).mono ?_
        rintro r w5 ⟨m, v, rfl, f1, f2, hb5⟩
        obtain ⟨Z, hZ⟩ : ∃ Y, Y = w5.heap.size := ⟨_, rfl⟩
        obtain ⟨w8, hw8⟩ : ∃ W, W = w5.alloc (.cells #[.int .u32 (x : Int), .slice m.a m.n m.c, .slice v.a v.n v.c, .int .i64 l] 36) := ⟨_, rfl⟩
        have hqZ : w8.heap[Z]? = some (.cells #[.int .u32 (x : Int), .slice m.a m.n m.c, .slice v.a v.n v.c, .int .i64 l] 36 (0, 0)) := by rw [hw8, hZ]; exact heap_alloc_new w5 _
        have hbw8 : Below w5.heap.size w5 w8 := by rw [hw8]; exact (Below.refl _ _).alloc (Nat.le_refl _) _
        have Hw8 := Lib.hid hw8
        have HZ := Lib.hid hZ
        have HQZ := Lib.hid hqZ
        have hb48 := hb5.trans (hbw8.mono hb5.size)
        have HQ8 := Lib.hid ((hb48.block _ (lt_of_block HQ4.out)).trans HQ4.out)
        have HQY8 := Lib.hid ((hb48.block _ (lt_of_block HQY.out)).trans HQY.out)
        have HB28 : Hid (Below w2.heap.size w2 w8) := HB24.out.trans (hb48.mono HB24.out.size)
        have HS81 := Lib.hid (HS1.out.after hb48)
        have HS82 := Lib.hid (HS2.out.after hb48)
        have HS83 := Lib.hid (f1.after hbw8)
        have HS84 := Lib.hid (f2.after hbw8)
        have HF8 := Lib.hid (HF2.out.below HB28.out)
        have HSM : Hid (∀ W, Below w8.heap.size w8 W → Calls Try.prog 12 #[cV x a1 a2 l, .agg (dC x l m v)] W fun r w' => r = .returned (.bool true) ∧ Below W.heap.size W w') := fun W hW => lsame_any x l a1 a2 m v M1 M2 W (HS81.out.after hW) (HS82.out.after hW) (HS83.out.after hW) (HS84.out.after hW) HMM.out.1 HMM.out.2.1 HMM.out.2.2
        obtain ⟨q, hq⟩ : ∃ q, q = ofP L2 p := ⟨_, rfl⟩
        have HOA : Hid (∀ W, Below w8.heap.size w8 W → Calls Try.prog 13 #[bp B, .int .u32 (p : Int)] W fun r w' => r = .returned (.int .u32 (q : Int)) ∧ Below W.heap.size W w') := fun W hW => by
          obtain ⟨vi, h1, h2, h3, h4, h5⟩ := HF8.out.below hW
          rw [hq]
          exact of_any B w.heap.size mo vi L2 p W h1 (by have := HMO.out; omega) (fun e he => by have := (h3.each e he).eight; omega)
        have HOB : Hid (∀ W, Below w8.heap.size w8 W → Calls Try.prog 14 #[.slice A2 n2 c2, .int .u32 (p : Int)] W fun r w' => r = .returned (.int .u32 (q : Int)) ∧ Below W.heap.size W w') := fun W hW => by
          obtain ⟨vi, h1, h2, h3, h4, h5⟩ := HF8.out.below hW
          rw [hq]
          exact (dof_any w.heap.size vi A2 n2 c2 L2 p W h2.n h2.dr (by have := h2.n; have := HMO.out; omega) (fun e he => by have := (h3.each e he).eight; omega)).mono fun r w' h => ⟨h.1, by rw [h.2]; exact Below.refl _ _⟩
        obtain ⟨LI, hLI⟩ : ∃ LI, LI = L2.map (·.id) := ⟨_, rfl⟩
        have HLI : Hid (LI.length ≤ 1000) := by
          obtain ⟨vi, h1, h2, h3, h4, h5⟩ := HF8.out
          simp only [Hid]
          rw [hLI, List.length_map]
          have := HMO.out
          omega
        have HIA : Hid (∀ W, Below w8.heap.size w8 W → Calls Try.prog 16 #[bp B] W fun r w' => ∃ A6 n6 c6, r = .returned (.slice A6 n6 c6) ∧ w'.ownsRow W.heap.size 26 1 (.slice A6 n6 c6) n6 (un LI) ∧ Below W.heap.size W w') := fun W hW => by
          obtain ⟨vi, h1, h2, h3, h4, h5⟩ := HF8.out.below hW
          rw [hLI]
          exact rids_any B w.heap.size mo vi L2 W h1 (by have := HMO.out; omega)
        have HIB : Hid (∀ W, Below w8.heap.size w8 W → Calls Try.prog 17 #[.slice A2 n2 c2] W fun r w' => ∃ A7 c7, r = .returned (.slice A7 n2 c7) ∧ w'.ownsRow W.heap.size 26 1 (.slice A7 n2 c7) n2 (un LI) ∧ Below W.heap.size W w') := fun W hW => by
          obtain ⟨vi, h1, h2, h3, h4, h5⟩ := HF8.out.below hW
          rw [hLI]
          exact dids_any w.heap.size vi A2 n2 c2 L2 W h2.n h2.dr (by have := h2.n; have := HMO.out; omega)
        have HCE : Hid (∀ W, Below w8.heap.size w8 W → (fun W : World => (W.cell? ⟨Y, 0, none⟩ = some (.int .u32 (x : Int)) ∧ W.cell? ⟨Y, 1, none⟩ = some (.slice a1.a a1.n a1.c) ∧ W.cell? ⟨Y, 2, none⟩ = some (.slice a2.a a2.n a2.c) ∧ W.cell? ⟨Y, 3, none⟩ = some (.int .i64 l)) ∧ (W.cell? ⟨Z, 0, none⟩ = some (.int .u32 (x : Int)) ∧ W.cell? ⟨Z, 1, none⟩ = some (.slice m.a m.n m.c) ∧ W.cell? ⟨Z, 2, none⟩ = some (.slice v.a v.n v.c) ∧ W.cell? ⟨Z, 3, none⟩ = some (.int .i64 l)) ∧ W.cell? ⟨X, 2, none⟩ = some (.int .u32 (p : Int))) W) := fun W hW => by
          have e1 := (hW.block _ (lt_of_block HQ8.out)).trans HQ8.out
          have e2 := (hW.block _ (lt_of_block HQY8.out)).trans HQY8.out
          have e3 := (hW.block _ (lt_of_block HQZ.out)).trans HQZ.out
          exact ⟨⟨cell_of_row W _ 0 _ _ _ e2, cell_of_row W _ 1 _ _ _ e2, cell_of_row W _ 2 _ _ _ e2, cell_of_row W _ 3 _ _ _ e2⟩, ⟨cell_of_row W _ 0 _ _ _ e3, cell_of_row W _ 1 _ _ _ e3, cell_of_row W _ 2 _ _ _ e3, cell_of_row W _ 3 _ _ _ e3⟩, cell_of_row W _ 2 _ _ _ e1⟩
        have HBS : Hid (Below w8.heap.size w8 w8) := Below.refl _ _
        clear hZ hw8 hqZ hbw8 hb5 hb48 f1 f2 hq hLI t0 t1 t2 t3 t4
        go_upto_region 16 with (fail)
        rw [← Hw8.out, ← HZ.out]
        have HDz : Hid (Below w8.heap.size w8 w8.drew) := HBS.out.drew
        refine wp_region_held_drew (S := fun W : World => (W.cell? ⟨Y, 0, none⟩ = some (.int .u32 (x : Int)) ∧ W.cell? ⟨Y, 1, none⟩ = some (.slice a1.a a1.n a1.c) ∧ W.cell? ⟨Y, 2, none⟩ = some (.slice a2.a a2.n a2.c) ∧ W.cell? ⟨Y, 3, none⟩ = some (.int .i64 l)) ∧ (W.cell? ⟨Z, 0, none⟩ = some (.int .u32 (x : Int)) ∧ W.cell? ⟨Z, 1, none⟩ = some (.slice m.a m.n m.c) ∧ W.cell? ⟨Z, 2, none⟩ = some (.slice v.a v.n v.c) ∧ W.cell? ⟨Z, 3, none⟩ = some (.int .i64 l)) ∧ W.cell? ⟨X, 2, none⟩ = some (.int .u32 (p : Int))) (by kernel_rfl) (HCE.out _ (HDz.out)) (fun hHeld => ?_)
        obtain ⟨Wz0, hW0⟩ : ∃ W0, W0 = w8.drew := ⟨_, rfl⟩
        rw [← hW0] at hHeld HDz ⊢
        clear hW0
        refine wpAnyH_take (i := 0) (oi := ?oi0z) (v := ?v0z) ?hi0z ?hs0z ?hf0z ?hr0z ?hQ0z ?hy0z ?hS0z ?h0z
        case hi0z => exact (by simp only [List.getElem?_toArray, List.getElem?_cons_zero]; rfl)
        case hs0z => kernel_rfl
        case hf0z => kernel_rfl
        case hr0z => kernel_rfl
        case hQ0z => exact fun _ _ _ h => h
        case hy0z =>
          refine Or.inl ⟨rfl, ?_⟩
          intro W hSw
          obtain ⟨⟨q0, q1, q2, q3⟩, ⟨p0, p1, p2, p3⟩, s0⟩ := hSw
          go_simp
          try with_reducible rfl
        case hS0z => assumption
        try simp only [Act.put, List.setIfInBounds_toArray, List.set_cons_zero, List.set_cons_succ]
        refine wpAnyH_take (i := 1) (oi := ?oi1z) (v := (.bool false)) ?hi1z ?hs1z ?hf1z ?hr1z ?hQ1z ?hy1z ?hS1z ?h1z
        case hi1z => exact (by simp only [List.getElem?_toArray, List.getElem?_cons_succ, List.getElem?_cons_zero]; rfl)
        case hs1z => kernel_rfl
        case hf1z => kernel_rfl
        case hr1z => kernel_rfl
        case hQ1z => exact fun _ _ _ h => h
        case hy1z =>
          refine Or.inl ⟨rfl, ?_⟩
          intro W hSw
          obtain ⟨⟨q0, q1, q2, q3⟩, ⟨p0, p1, p2, p3⟩, s0⟩ := hSw
          go_simp
          try simp
        case hS1z => assumption
        try simp only [Act.put, List.setIfInBounds_toArray, List.set_cons_zero, List.set_cons_succ]
        refine wpAnyH_take (i := 2) (oi := ?oi2z) (v := ?v2z) ?hi2z ?hs2z ?hf2z ?hr2z ?hQ2z ?hy2z ?hS2z ?h2z
        case hi2z => exact (by simp only [List.getElem?_toArray, List.getElem?_cons_succ, List.getElem?_cons_zero]; rfl)
        case hs2z => kernel_rfl
        case hf2z => kernel_rfl
        case hr2z => kernel_rfl
        case hQ2z => exact fun _ _ _ h => h
        case hy2z =>
          refine Or.inl ⟨rfl, ?_⟩
          intro W hSw
          obtain ⟨⟨q0, q1, q2, q3⟩, ⟨p0, p1, p2, p3⟩, s0⟩ := hSw
          go_simp
          try with_reducible rfl
        case hS2z => assumption
        try simp only [Act.put, List.setIfInBounds_toArray, List.set_cons_zero, List.set_cons_succ]
        refine wpAnyH_take (i := 3) (oi := ?oi3z) (v := ?v3z) ?hi3z ?hs3z ?hf3z ?hr3z ?hQ3z ?hy3z ?hS3z ?h3z
        case hi3z => exact (by simp only [List.getElem?_toArray, List.getElem?_cons_succ, List.getElem?_cons_zero]; rfl)
        case hs3z => kernel_rfl
        case hf3z => kernel_rfl
        case hr3z => kernel_rfl
        case hQ3z => exact fun _ _ _ h => h
        case hy3z =>
          refine Or.inl ⟨rfl, ?_⟩
          intro W hSw
          obtain ⟨⟨q0, q1, q2, q3⟩, ⟨p0, p1, p2, p3⟩, s0⟩ := hSw
          go_simp
          try with_reducible rfl
        case hS3z => assumption
        try simp only [Act.put, List.setIfInBounds_toArray, List.set_cons_zero, List.set_cons_succ]
        refine wpAnyH_take (i := 4) (oi := ?oi4z) (v := ?v4z) ?hi4z ?hs4z ?hf4z ?hr4z ?hQ4z ?hy4z ?hS4z ?h4z
        case hi4z => exact (by simp only [List.getElem?_toArray, List.getElem?_cons_succ, List.getElem?_cons_zero]; rfl)
        case hs4z => kernel_rfl
        case hf4z => kernel_rfl
        case hr4z => kernel_rfl
        case hQ4z => exact fun _ _ _ h => h
        case hy4z =>
          refine Or.inl ⟨rfl, ?_⟩
          intro W hSw
          obtain ⟨⟨q0, q1, q2, q3⟩, ⟨p0, p1, p2, p3⟩, s0⟩ := hSw
          go_simp
          try with_reducible rfl
        case hS4z => assumption
        try simp only [Act.put, List.setIfInBounds_toArray, List.set_cons_zero, List.set_cons_succ]
        refine wpAnyH_take (i := 5) (oi := ?oi5z) (v := (.bool false)) ?hi5z ?hs5z ?hf5z ?hr5z ?hQ5z ?hy5z ?hS5z ?h5z
        case hi5z => exact (by simp only [List.getElem?_toArray, List.getElem?_cons_succ, List.getElem?_cons_zero]; rfl)
        case hs5z => kernel_rfl
        case hf5z => kernel_rfl
        case hr5z => kernel_rfl
        case hQ5z => exact fun _ _ _ h => h
        case hy5z =>
          refine Or.inl ⟨rfl, ?_⟩
          intro W hSw
          obtain ⟨⟨q0, q1, q2, q3⟩, ⟨p0, p1, p2, p3⟩, s0⟩ := hSw
          go_simp
          try simp
        case hS5z => assumption
        try simp only [Act.put, List.setIfInBounds_toArray, List.set_cons_zero, List.set_cons_succ]
        refine wpAnyH_take (i := 6) (oi := ?oi6z) (v := ?v6z) ?hi6z ?hs6z ?hf6z ?hr6z ?hQ6z ?hy6z ?hS6z ?h6z
        case hi6z => exact (by simp only [List.getElem?_toArray, List.getElem?_cons_succ, List.getElem?_cons_zero]; rfl)
        case hs6z => kernel_rfl
        case hf6z => kernel_rfl
        case hr6z => kernel_rfl
        case hQ6z => exact fun _ _ _ h => h
        case hy6z =>
          refine Or.inl ⟨rfl, ?_⟩
          intro W hSw
          obtain ⟨⟨q0, q1, q2, q3⟩, ⟨p0, p1, p2, p3⟩, s0⟩ := hSw
          go_simp
          try with_reducible rfl
        case hS6z => assumption
        try simp only [Act.put, List.setIfInBounds_toArray, List.set_cons_zero, List.set_cons_succ]
        refine wpAnyH_take (i := 7) (oi := ?oi7z) (v := ?v7z) ?hi7z ?hs7z ?hf7z ?hr7z ?hQ7z ?hy7z ?hS7z ?h7z
        case hi7z => exact (by simp only [List.getElem?_toArray, List.getElem?_cons_succ, List.getElem?_cons_zero]; rfl)
        case hs7z => kernel_rfl
        case hf7z => kernel_rfl
        case hr7z => kernel_rfl
        case hQ7z => exact fun _ _ _ h => h
        case hy7z =>
          refine Or.inl ⟨rfl, ?_⟩
          intro W hSw
          obtain ⟨⟨q0, q1, q2, q3⟩, ⟨p0, p1, p2, p3⟩, s0⟩ := hSw
          go_simp
          try with_reducible rfl
        case hS7z => assumption
        try simp only [Act.put, List.setIfInBounds_toArray, List.set_cons_zero, List.set_cons_succ]
        refine wpAnyH_take (i := 8) (oi := ?oi8z) (v := ?v8z) ?hi8z ?hs8z ?hf8z ?hr8z ?hQ8z ?hy8z ?hS8z ?h8z
        case hi8z => exact (by simp only [List.getElem?_toArray, List.getElem?_cons_succ, List.getElem?_cons_zero]; rfl)
        case hs8z => kernel_rfl
        case hf8z => kernel_rfl
        case hr8z => kernel_rfl
        case hQ8z => exact fun _ _ _ h => h
        case hy8z =>
          refine Or.inl ⟨rfl, ?_⟩
          intro W hSw
          obtain ⟨⟨q0, q1, q2, q3⟩, ⟨p0, p1, p2, p3⟩, s0⟩ := hSw
          go_simp
          try with_reducible rfl
        case hS8z => assumption
        try simp only [Act.put, List.setIfInBounds_toArray, List.set_cons_zero, List.set_cons_succ]
        refine wpAnyH_take (i := 9) (oi := ?oi9z) (v := ?v9z) ?hi9z ?hs9z ?hf9z ?hr9z ?hQ9z ?hy9z ?hS9z ?h9z
        case hi9z => exact (by simp only [List.getElem?_toArray, List.getElem?_cons_succ, List.getElem?_cons_zero]; rfl)
        case hs9z => kernel_rfl
        case hf9z => kernel_rfl
        case hr9z => kernel_rfl
        case hQ9z => exact fun _ _ _ h => h
        case hy9z =>
          refine Or.inl ⟨rfl, ?_⟩
          intro W hSw
          obtain ⟨⟨q0, q1, q2, q3⟩, ⟨p0, p1, p2, p3⟩, s0⟩ := hSw
          go_simp
          try with_reducible rfl
        case hS9z => assumption
        try simp only [Act.put, List.setIfInBounds_toArray, List.set_cons_zero, List.set_cons_succ]
        refine wpAnyH_ready (rs := [10]) (by kernel_rfl) (by simp) ?_
        refine AllReadyH.cons (o := _) rfl (fun K hK => ?_) AllReadyH.nil
        go_simp
        refine ((HSM.out Wz0 HDz.out)).mono ?_
        rintro r Wz1 ⟨rfl, hbq⟩
        have HBz1 := Lib.hid (HDz.out.trans (hbq.mono HDz.out.size))
        clear hbq
        refine hK.out _ _ (HCE.out _ (HBz1.out)) (fun hHeld => ?_)
        clear hK K
        try simp only [Act.put, List.setIfInBounds_toArray, List.set_cons_zero, List.set_cons_succ]
        refine wpAnyH_take (i := 11) (oi := ?oi11z) (v := (.bool false)) ?hi11z ?hs11z ?hf11z ?hr11z ?hQ11z ?hy11z ?hS11z ?h11z
        case hi11z => exact (by simp only [List.getElem?_toArray, List.getElem?_cons_succ, List.getElem?_cons_zero]; rfl)
        case hs11z => kernel_rfl
        case hf11z => kernel_rfl
        case hr11z => kernel_rfl
        case hQ11z => exact fun _ _ _ h => h
        case hy11z =>
          refine Or.inl ⟨rfl, ?_⟩
          intro W hSw
          obtain ⟨⟨q0, q1, q2, q3⟩, ⟨p0, p1, p2, p3⟩, s0⟩ := hSw
          go_simp
          try simp
        case hS11z => assumption
        try simp only [Act.put, List.setIfInBounds_toArray, List.set_cons_zero, List.set_cons_succ]
        refine wpAnyH_take (i := 12) (oi := ?oi12z) (v := ?v12z) ?hi12z ?hs12z ?hf12z ?hr12z ?hQ12z ?hy12z ?hS12z ?h12z
        case hi12z => exact (by simp only [List.getElem?_toArray, List.getElem?_cons_succ, List.getElem?_cons_zero]; rfl)
        case hs12z => kernel_rfl
        case hf12z => kernel_rfl
        case hr12z => kernel_rfl
        case hQ12z => exact fun _ _ _ h => h
        case hy12z =>
          refine Or.inl ⟨rfl, ?_⟩
          intro W hSw
          obtain ⟨⟨q0, q1, q2, q3⟩, ⟨p0, p1, p2, p3⟩, s0⟩ := hSw
          go_simp
          try with_reducible rfl
        case hS12z => assumption
        try simp only [Act.put, List.setIfInBounds_toArray, List.set_cons_zero, List.set_cons_succ]
        refine wpAnyH_take (i := 13) (oi := ?oi13z) (v := ?v13z) ?hi13z ?hs13z ?hf13z ?hr13z ?hQ13z ?hy13z ?hS13z ?h13z
        case hi13z => exact (by simp only [List.getElem?_toArray, List.getElem?_cons_succ, List.getElem?_cons_zero]; rfl)
        case hs13z => kernel_rfl
        case hf13z => kernel_rfl
        case hr13z => kernel_rfl
        case hQ13z => exact fun _ _ _ h => h
        case hy13z =>
          refine Or.inl ⟨rfl, ?_⟩
          intro W hSw
          obtain ⟨⟨q0, q1, q2, q3⟩, ⟨p0, p1, p2, p3⟩, s0⟩ := hSw
          go_simp
          try with_reducible rfl
        case hS13z => assumption
        try simp only [Act.put, List.setIfInBounds_toArray, List.set_cons_zero, List.set_cons_succ]
        refine wpAnyH_take (i := 14) (oi := ?oi14z) (v := ?v14z) ?hi14z ?hs14z ?hf14z ?hr14z ?hQ14z ?hy14z ?hS14z ?h14z
        case hi14z => exact (by simp only [List.getElem?_toArray, List.getElem?_cons_succ, List.getElem?_cons_zero]; rfl)
        case hs14z => kernel_rfl
        case hf14z => kernel_rfl
        case hr14z => kernel_rfl
        case hQ14z => exact fun _ _ _ h => h
        case hy14z =>
          refine Or.inl ⟨rfl, ?_⟩
          intro W hSw
          obtain ⟨⟨q0, q1, q2, q3⟩, ⟨p0, p1, p2, p3⟩, s0⟩ := hSw
          go_simp
          try with_reducible rfl
        case hS14z => assumption
        try simp only [Act.put, List.setIfInBounds_toArray, List.set_cons_zero, List.set_cons_succ]
        refine wpAnyH_take (i := 15) (oi := ?oi15z) (v := ?v15z) ?hi15z ?hs15z ?hf15z ?hr15z ?hQ15z ?hy15z ?hS15z ?h15z
        case hi15z => exact (by simp only [List.getElem?_toArray, List.getElem?_cons_succ, List.getElem?_cons_zero]; rfl)
        case hs15z => kernel_rfl
        case hf15z => kernel_rfl
        case hr15z => kernel_rfl
        case hQ15z => exact fun _ _ _ h => h
        case hy15z =>
          refine Or.inl ⟨rfl, ?_⟩
          intro W hSw
          obtain ⟨⟨q0, q1, q2, q3⟩, ⟨p0, p1, p2, p3⟩, s0⟩ := hSw
          go_simp
          try with_reducible rfl
        case hS15z => assumption
        try simp only [Act.put, List.setIfInBounds_toArray, List.set_cons_zero, List.set_cons_succ]
        refine wpAnyH_take (i := 16) (oi := ?oi16z) (v := ?v16z) ?hi16z ?hs16z ?hf16z ?hr16z ?hQ16z ?hy16z ?hS16z ?h16z
        case hi16z => exact (by simp only [List.getElem?_toArray, List.getElem?_cons_succ, List.getElem?_cons_zero]; rfl)
        case hs16z => kernel_rfl
        case hf16z => kernel_rfl
        case hr16z => kernel_rfl
        case hQ16z => exact fun _ _ _ h => h
        case hy16z =>
          refine Or.inl ⟨rfl, ?_⟩
          intro W hSw
          obtain ⟨⟨q0, q1, q2, q3⟩, ⟨p0, p1, p2, p3⟩, s0⟩ := hSw
          go_simp
          try with_reducible rfl
        case hS16z => assumption
        try simp only [Act.put, List.setIfInBounds_toArray, List.set_cons_zero, List.set_cons_succ]
        refine wpAnyH_take (i := 18) (oi := ?oi18z) (v := ?v18z) ?hi18z ?hs18z ?hf18z ?hr18z ?hQ18z ?hy18z ?hS18z ?h18z
        case hi18z => exact (by simp only [List.getElem?_toArray, List.getElem?_cons_succ, List.getElem?_cons_zero]; rfl)
        case hs18z => kernel_rfl
        case hf18z => kernel_rfl
        case hr18z => kernel_rfl
        case hQ18z => exact fun _ _ _ h => h
        case hy18z =>
          refine Or.inl ⟨rfl, ?_⟩
          intro W hSw
          obtain ⟨⟨q0, q1, q2, q3⟩, ⟨p0, p1, p2, p3⟩, s0⟩ := hSw
          go_simp
          try with_reducible rfl
        case hS18z => assumption
        try simp only [Act.put, List.setIfInBounds_toArray, List.set_cons_zero, List.set_cons_succ]
        refine wpAnyH_take (i := 19) (oi := ?oi19z) (v := ?v19z) ?hi19z ?hs19z ?hf19z ?hr19z ?hQ19z ?hy19z ?hS19z ?h19z
        case hi19z => exact (by simp only [List.getElem?_toArray, List.getElem?_cons_succ, List.getElem?_cons_zero]; rfl)
        case hs19z => kernel_rfl
        case hf19z => kernel_rfl
        case hr19z => kernel_rfl
        case hQ19z => exact fun _ _ _ h => h
        case hy19z =>
          refine Or.inl ⟨rfl, ?_⟩
          intro W hSw
          obtain ⟨⟨q0, q1, q2, q3⟩, ⟨p0, p1, p2, p3⟩, s0⟩ := hSw
          go_simp
          try with_reducible rfl
        case hS19z => assumption
        try simp only [Act.put, List.setIfInBounds_toArray, List.set_cons_zero, List.set_cons_succ]
        refine wpAnyH_take (i := 20) (oi := ?oi20z) (v := ?v20z) ?hi20z ?hs20z ?hf20z ?hr20z ?hQ20z ?hy20z ?hS20z ?h20z
        case hi20z => exact (by simp only [List.getElem?_toArray, List.getElem?_cons_succ, List.getElem?_cons_zero]; rfl)
        case hs20z => kernel_rfl
        case hf20z => kernel_rfl
        case hr20z => kernel_rfl
        case hQ20z => exact fun _ _ _ h => h
        case hy20z =>
          refine Or.inl ⟨rfl, ?_⟩
          intro W hSw
          obtain ⟨⟨q0, q1, q2, q3⟩, ⟨p0, p1, p2, p3⟩, s0⟩ := hSw
          go_simp
          try with_reducible rfl
        case hS20z => assumption
        try simp only [Act.put, List.setIfInBounds_toArray, List.set_cons_zero, List.set_cons_succ]
        refine wpAnyH_ready (rs := [17]) (by kernel_rfl) (by simp) ?_
        refine AllReadyH.cons (o := _) rfl (fun K hK => ?_) AllReadyH.nil
        go_simp
        refine ((HOA.out Wz1 HBz1.out)).mono ?_
        rintro r Wz2 ⟨rfl, hbq⟩
        have HBz2 := Lib.hid (HBz1.out.trans (hbq.mono HBz1.out.size))
        clear hbq
        refine hK.out _ _ (HCE.out _ (HBz2.out)) (fun hHeld => ?_)
        clear hK K
        try simp only [Act.put, List.setIfInBounds_toArray, List.set_cons_zero, List.set_cons_succ]
        refine wpAnyH_ready (rs := [21]) (by kernel_rfl) (by simp) ?_
        refine AllReadyH.cons (o := _) rfl (fun K hK => ?_) AllReadyH.nil
        go_simp
        refine ((HOB.out Wz2 HBz2.out)).mono ?_
        rintro r Wz3 ⟨rfl, hbq⟩
        have HBz3 := Lib.hid (HBz2.out.trans (hbq.mono HBz2.out.size))
        clear hbq
        refine hK.out _ _ (HCE.out _ (HBz3.out)) (fun hHeld => ?_)
        clear hK K
        try simp only [Act.put, List.setIfInBounds_toArray, List.set_cons_zero, List.set_cons_succ]
        refine wpAnyH_take (i := 22) (oi := ?oi22z) (v := (.bool false)) ?hi22z ?hs22z ?hf22z ?hr22z ?hQ22z ?hy22z ?hS22z ?h22z
        case hi22z => exact (by simp only [List.getElem?_toArray, List.getElem?_cons_succ, List.getElem?_cons_zero]; rfl)
        case hs22z => kernel_rfl
        case hf22z => kernel_rfl
        case hr22z => kernel_rfl
        case hQ22z => exact fun _ _ _ h => h
        case hy22z =>
          refine Or.inl ⟨rfl, ?_⟩
          intro W hSw
          obtain ⟨⟨q0, q1, q2, q3⟩, ⟨p0, p1, p2, p3⟩, s0⟩ := hSw
          go_simp
          try simp
        case hS22z => assumption
        try simp only [Act.put, List.setIfInBounds_toArray, List.set_cons_zero, List.set_cons_succ]
        refine wpAnyH_take (i := 23) (oi := ?oi23z) (v := ?v23z) ?hi23z ?hs23z ?hf23z ?hr23z ?hQ23z ?hy23z ?hS23z ?h23z
        case hi23z => exact (by simp only [List.getElem?_toArray, List.getElem?_cons_succ, List.getElem?_cons_zero]; rfl)
        case hs23z => kernel_rfl
        case hf23z => kernel_rfl
        case hr23z => kernel_rfl
        case hQ23z => exact fun _ _ _ h => h
        case hy23z =>
          refine Or.inl ⟨rfl, ?_⟩
          intro W hSw
          obtain ⟨⟨q0, q1, q2, q3⟩, ⟨p0, p1, p2, p3⟩, s0⟩ := hSw
          go_simp
          try with_reducible rfl
        case hS23z => assumption
        try simp only [Act.put, List.setIfInBounds_toArray, List.set_cons_zero, List.set_cons_succ]
        refine wpAnyH_take (i := 24) (oi := ?oi24z) (v := ?v24z) ?hi24z ?hs24z ?hf24z ?hr24z ?hQ24z ?hy24z ?hS24z ?h24z
        case hi24z => exact (by simp only [List.getElem?_toArray, List.getElem?_cons_succ, List.getElem?_cons_zero]; rfl)
        case hs24z => kernel_rfl
        case hf24z => kernel_rfl
        case hr24z => kernel_rfl
        case hQ24z => exact fun _ _ _ h => h
        case hy24z =>
          refine Or.inl ⟨rfl, ?_⟩
          intro W hSw
          obtain ⟨⟨q0, q1, q2, q3⟩, ⟨p0, p1, p2, p3⟩, s0⟩ := hSw
          go_simp
          try with_reducible rfl
        case hS24z => assumption
        try simp only [Act.put, List.setIfInBounds_toArray, List.set_cons_zero, List.set_cons_succ]
        refine wpAnyH_take (i := 25) (oi := ?oi25z) (v := ?v25z) ?hi25z ?hs25z ?hf25z ?hr25z ?hQ25z ?hy25z ?hS25z ?h25z
        case hi25z => exact (by simp only [List.getElem?_toArray, List.getElem?_cons_succ, List.getElem?_cons_zero]; rfl)
        case hs25z => kernel_rfl
        case hf25z => kernel_rfl
        case hr25z => kernel_rfl
        case hQ25z => exact fun _ _ _ h => h
        case hy25z =>
          refine Or.inl ⟨rfl, ?_⟩
          intro W hSw
          obtain ⟨⟨q0, q1, q2, q3⟩, ⟨p0, p1, p2, p3⟩, s0⟩ := hSw
          go_simp
          try with_reducible rfl
        case hS25z => assumption
        try simp only [Act.put, List.setIfInBounds_toArray, List.set_cons_zero, List.set_cons_succ]
        refine wpAnyH_take (i := 27) (oi := ?oi27z) (v := ?v27z) ?hi27z ?hs27z ?hf27z ?hr27z ?hQ27z ?hy27z ?hS27z ?h27z
        case hi27z => exact (by simp only [List.getElem?_toArray, List.getElem?_cons_succ, List.getElem?_cons_zero]; rfl)
        case hs27z => kernel_rfl
        case hf27z => kernel_rfl
        case hr27z => kernel_rfl
        case hQ27z => exact fun _ _ _ h => h
        case hy27z =>
          refine Or.inl ⟨rfl, ?_⟩
          intro W hSw
          obtain ⟨⟨q0, q1, q2, q3⟩, ⟨p0, p1, p2, p3⟩, s0⟩ := hSw
          go_simp
          try with_reducible rfl
        case hS27z => assumption
        try simp only [Act.put, List.setIfInBounds_toArray, List.set_cons_zero, List.set_cons_succ]
        refine wpAnyH_ready (rs := [26]) (by kernel_rfl) (by simp) ?_
        refine AllReadyH.cons (o := _) rfl (fun K hK => ?_) AllReadyH.nil
        go_simp
        refine ((HIA.out Wz3 HBz3.out)).mono ?_
        rintro r Wz4 ⟨A6, n6, c6, rfl, ho6, hbq⟩
        have HBz4 := Lib.hid (HBz3.out.trans (hbq.mono HBz3.out.size))
        have HS6 : Hid (S32 Wz4 (.slice A6 n6 c6) LI) := ⟨A6, c6, by rw [(Rn.of_own ho6).1], (Rn.of_own ho6).2⟩
        clear ho6
        clear hbq
        refine hK.out _ _ (HCE.out _ (HBz4.out)) (fun hHeld => ?_)
        clear hK K
        try simp only [Act.put, List.setIfInBounds_toArray, List.set_cons_zero, List.set_cons_succ]
        refine wpAnyH_ready (rs := [28]) (by kernel_rfl) (by simp) ?_
        refine AllReadyH.cons (o := _) rfl (fun K hK => ?_) AllReadyH.nil
        go_simp
        refine ((HIB.out Wz4 HBz4.out)).mono ?_
        rintro r Wz5 ⟨A7, c7, rfl, ho7, hbq⟩
        have HBz5 := Lib.hid (HBz4.out.trans (hbq.mono HBz4.out.size))
        have HS7 : Hid (S32 Wz5 (.slice A7 n2 c7) LI) := ⟨A7, c7, by rw [← (Rn.of_own ho7).1], (Rn.of_own ho7).2⟩
        have HS8 : Hid (S32 Wz5 (.slice A6 n6 c6) LI) := HS6.out.after hbq
        clear ho7
        clear hbq
        refine hK.out _ _ (HCE.out _ (HBz5.out)) (fun hHeld => ?_)
        clear hK K
        try simp only [Act.put, List.setIfInBounds_toArray, List.set_cons_zero, List.set_cons_succ]
        refine wpAnyH_ready (rs := [29]) (by kernel_rfl) (by simp) ?_
        refine AllReadyH.cons (o := _) rfl (fun K hK => ?_) AllReadyH.nil
        go_simp
        refine ((same_eq _ _ LI Wz5 HLI.out HS8.out HS7.out)).mono ?_
        rintro r Wz6 ⟨rfl, hbq⟩
        have HBz6 := Lib.hid (HBz5.out.trans (hbq.mono HBz5.out.size))
        clear hbq
        refine hK.out _ _ (HCE.out _ (HBz6.out)) (fun hHeld => ?_)
        clear hK K
        try simp only [Act.put, List.setIfInBounds_toArray, List.set_cons_zero, List.set_cons_succ]
        refine wpAnyH_take (i := 30) (oi := ?oi30z) (v := (.bool false)) ?hi30z ?hs30z ?hf30z ?hr30z ?hQ30z ?hy30z ?hS30z ?h30z
        case hi30z => exact (by simp only [List.getElem?_toArray, List.getElem?_cons_succ, List.getElem?_cons_zero]; rfl)
        case hs30z => kernel_rfl
        case hf30z => kernel_rfl
        case hr30z => kernel_rfl
        case hQ30z => exact fun _ _ _ h => h
        case hy30z =>
          refine Or.inl ⟨rfl, ?_⟩
          intro W hSw
          obtain ⟨⟨q0, q1, q2, q3⟩, ⟨p0, p1, p2, p3⟩, s0⟩ := hSw
          go_simp
          try simp
        case hS30z => assumption
        try simp only [Act.put, List.setIfInBounds_toArray, List.set_cons_zero, List.set_cons_succ]
        refine wpAnyH_take (i := 31) (oi := ?oi31z) (v := ?v31z) ?hi31z ?hs31z ?hf31z ?hr31z ?hQ31z ?hy31z ?hS31z ?h31z
        case hi31z => exact (by simp only [List.getElem?_toArray, List.getElem?_cons_succ, List.getElem?_cons_zero]; rfl)
        case hs31z => kernel_rfl
        case hf31z => kernel_rfl
        case hr31z => kernel_rfl
        case hQ31z => exact fun _ _ _ h => h
        case hy31z =>
          refine Or.inl ⟨rfl, ?_⟩
          intro W hSw
          obtain ⟨⟨q0, q1, q2, q3⟩, ⟨p0, p1, p2, p3⟩, s0⟩ := hSw
          go_simp
          try with_reducible rfl
        case hS31z => assumption
        try simp only [Act.put, List.setIfInBounds_toArray, List.set_cons_zero, List.set_cons_succ]
        refine wpAnyH_done (by kernel_rfl) ?_ _
        have HFN := Lib.hid (HF8.out.below HBz6.out)
        go_wp2_with fail
        go_roundw
        case rel => exact ⟨k + 1, n2, c2, A2, L2, by omega, by go_num, rfl, HFN.out⟩
        case measure => simp [intOf] <;> omega
    · have hkn : k = n0 := by omega
      subst hkn
      have HBF := Lib.hid HM.out.all
      go_wp2_with fail
      refine (HAW.out wr).mono ?_
      rintro r w9 ⟨rfl, hb⟩
      have HB9 := Lib.hid (HBF.out.trans (hb.mono HBF.out.size))
      clear hb
      go_wp2
      go_ret
      exact ⟨rfl, HB9.out⟩
end Go.Proofs.Ytemjmnpclknfaaa.P
