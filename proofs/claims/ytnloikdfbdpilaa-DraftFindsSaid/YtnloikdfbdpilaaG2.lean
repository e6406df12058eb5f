/- Draft: the document's Find. -/
import Derived.Test.YtnloikdfbdpilaaG1
import Derived.Test.YtnloikdfbdpilaaDJ3
namespace Go.Proofs.Ytnloikdfbdpilaa
open Go.RowKit
set_option maxRecDepth 20000
set_option linter.unusedVariables false

theorem Ts.of_own30 {w : World} {base m c : Nat} {A : Option Addr} {l : List FT} (h : w.ownsRow base 30 5 (.slice A m c) m (fr l)) : Ts w w.heap.size A (l.map (·.t)) := fun hl => by
  have hlen := h.1
  rw [fr_len] at hlen
  rw [List.length_map] at hl
  rcases h.2 with ⟨_, h0⟩ | ⟨g, cap, cur, e1, _, hh, _, _, _, ht⟩
  · omega
  · injection e1 with e1 _ _
    subst e1
    refine ⟨g, 0, rfl, lt_of_block hh, fun i t he => ?_⟩
    rw [List.getElem?_map] at he
    obtain ⟨e, hel, rfl⟩ := Option.map_eq_some_iff.1 he
    have hil := (List.getElem?_eq_some_iff.1 hel).1
    have hc : ∀ j u, j < 5 → (fc e)[j]? = some u → w.cell? ⟨g, 0 + i * 5 + j, none⟩ = some u := fun j u hj hu => by
      rw [cell_of_row w g _ _ _ _ hh, ← Array.getElem?_toList, Nat.zero_add, ← hu, ← fr_get l i e j hel hj, ← ht, List.getElem?_take, if_pos (by omega)]
    exact ⟨e.x, e.y, e.P, e.c, hc 0 _ (by decide) rfl, hc 1 _ (by decide) rfl, hc 2 _ (by decide) rfl, hc 3 _ (by decide) rfl, hc 4 _ (by decide) rfl⟩
theorem info30 : (Try.prog.info? 30).map (fun i => (i.zero, i.size, i.bytes)) = some (some (.agg #[.int .u32 0, .int .i64 0, .slice none 0 0, .int .i64 0, .int .i64 0]), 5, 56) := by kernel_rfl
theorem wpList_append_rt {w : World} {ops : Array Oper} {rest : List Oper} {op : Oper} {a : Act} {Q : Exit → Act → World → Prop} (hgd : op.guard = none) (s x : Operand)
    (ho : op.op = .call { callee := .builtin .append, args := #[s, x], argTypes := #[24, 24] }) (base G : Nat) (v : Value) (m : Nat) (xs : List Value) (e : FT) (hs : a.eval s = v) (hx : a.eval x = .slice (some ⟨G, 0, none⟩) 1 1)
    (hown : w.ownsRow base 30 5 v m xs) (hG : w.heap[G]? = some (.cells (fc e).toArray 30 (0, 0))) (hm : m ≤ 1000) (hbase : base ≤ w.heap.size)
    (h : ∀ v' w', w'.ownsRow base 30 5 v' (m + 1) (xs ++ fc e) → w.grownBy w' v.ownBlock → wpList Try.prog ops Q rest (a.put op.dst v') w') : wpList Try.prog ops Q (op :: rest) a w := by
  refine wpList_plain hgd fun K hK => ?_
  obtain ⟨i0, hi, hz0, hz1, hz2⟩ := info_parts info30
  obtain ⟨v', w', hr, h2, h3, _⟩ := run_append_own (P := Try.prog) w base 24 op.type 30 i0 _ 5 _ Try.underlying24 hi hz0 hz1 hz2 rfl (by decide) v m xs hown ⟨G, 0, none⟩ 1 1 (fc e) rfl (fun j u hu => by
    have := cell_of_row w G j _ _ _ hG
    rw [List.getElem?_toArray, hu] at this
    rw [← this, Go.WideShapes.add_plain, Nat.zero_add]) (by
    intro u hu
    simp only [fc, List.mem_cons, List.not_mem_nil, or_false] at hu
    rcases hu with rfl | rfl | rfl | rfl | rfl <;> rfl) (by unfold maxLen; omega) (by omega) hbase
  unfold Oper.wp execOp
  simp only [ho, resolve, invoke, builtin, Sem.run_bind, Sem.run_pure, Result.andThen_ok, List.map_toArray, List.map_cons, List.map_nil, hs, hx, hr]
  exact hK _ _ (h v' w' h2 h3)
def fP (es : List En) : Option Nat → List Int
  | none => []
  | some m0 => (mX m0 es).map (·.p)
theorem tXb {mask : Nat} {l : List Tk} : (tX mask l).length ≤ l.length := (sel_sub _ _).length_le

set_option linter.unusedSimpArgs false in
set_option maxHeartbeats 32000000 in
theorem rfind_any (m : Mo) (now : Int) (A : Option Addr) (n c : Nat) (l : List Tk) (w : World) (hn : n = l.length) (hE : Ts w w.heap.size A l) (hl : n ≤ 20) (hnow : In64 now) (hs : Sm l) :
    Calls Try.prog 21 #[m.v, .int .i64 now, .slice A n c] w fun r w' => TPost w (findP m now l) r w' := by
  obtain ⟨w0, hw0⟩ : ∃ w0, w0 = w.alloc (.cells m.cells 23) := ⟨_, rfl⟩
  have hb0 : Below w.heap.size w w0 := by rw [hw0]; exact (Below.refl _ _).alloc (Nat.le_refl _) _
  have hq0 : w0.heap[w.heap.size]? = some (.cells m.cells 23 (0, 0)) := by rw [hw0]; exact heap_alloc_new w _
  have HWR : Hid (∀ W, Calls Try.prog 30 #[m.v] W fun r w' => r = .returned (sV m.wr) ∧ Below W.heap.size W w') := fun W => rwrongM_any m.k m.b m.s m.c m.e W
  have HCE : Hid (∀ W, Below w0.heap.size w0 W → W.cell? ⟨w.heap.size, 0, none⟩ = some (.int .i64 m.k) ∧ W.cell? ⟨w.heap.size, 1, none⟩ = some (.int .i64 m.b) ∧ W.cell? ⟨w.heap.size, 2, none⟩ = some (.int .i64 m.s) ∧ W.cell? ⟨w.heap.size, 3, none⟩ = some (.int .i64 m.c) ∧ W.cell? ⟨w.heap.size, 4, none⟩ = some (.int .i64 m.e)) := fun W hW => by
    have e2 := (hW.block _ (lt_of_block hq0)).trans hq0
    exact ⟨cell_of_row W _ 0 _ _ _ e2, cell_of_row W _ 1 _ _ _ e2, cell_of_row W _ 2 _ _ _ e2, cell_of_row W _ 3 _ _ _ e2, cell_of_row W _ 4 _ _ _ e2⟩
  obtain ⟨o, ho⟩ : ∃ o, o = findP m now l := ⟨_, rfl⟩
  rw [← ho]
  have H0 := Lib.hid hw0
  have HB0 := Lib.hid hb0
  have HE := Lib.hid (hE.later hb0 (Nat.le_refl _))
  have HN := Lib.hid hn
  have HS := Lib.hid hs
  have HNOW := Lib.hid hnow
  obtain ⟨c0, c1, c2, c3, c4⟩ := HCE.out w0 (Below.refl _ _)
  obtain ⟨mw, hmw⟩ : ∃ mw, mw = m.wr := ⟨_, rfl⟩
  rw [← hmw] at HWR
  by_cases hbad : mw.isEmpty = false ∨ 16 < n
  · have HRES : Hid (∀ W, Below w.heap.size w W → TPost w o (.returned (.tuple #[.slice none 0 0, .slice none 0 0, .bool false])) W) := fun W hb => by
      have hon : o = none := by
        rw [ho]
        unfold findP
        rw [← hmw, ← hn, if_pos hbad]
      rw [hon]
      exact ⟨⟨none, 0, none, 0, rfl, Zs.nil, Zs.nil⟩, hb⟩
    clear hw0 hb0 hq0 hn hE hs ho hmw hnow
    by_cases he : mw.isEmpty = true
    · have h16 : 16 < n := hbad.resolve_left (fun h => by rw [he] at h; cases h)
      clear hbad
      go_enter Try.func21, Try.ntmps21
      go_upto_region 1 with (fail)
      rw [← H0.out]
      go_wp2_with fail
      refine (HWR.out w0).mono ?_
      rintro r w1 ⟨rfl, hb⟩
      have HB1 := Lib.hid (HB0.out.trans (hb.mono HB0.out.size))
      clear hb
      go_wp2
      exact bodyPost_ret (v := .tuple #[.slice none 0 0, .slice none 0 0, .bool false]) (by simp [results, Try.results21, go_sem]) rfl (HRES.out _ HB1.out)
    · have hef : mw.isEmpty = false := by simpa using he
      clear hbad
      go_enter Try.func21, Try.ntmps21
      go_upto_region 1 with (fail)
      rw [← H0.out]
      go_wp2_with fail
      refine (HWR.out w0).mono ?_
      rintro r w1 ⟨rfl, hb⟩
      have HB1 := Lib.hid (HB0.out.trans (hb.mono HB0.out.size))
      clear hb
      go_wp2
      exact bodyPost_ret (v := .tuple #[.slice none 0 0, .slice none 0 0, .bool false]) (by simp [results, Try.results21, go_sem]) rfl (HRES.out _ HB1.out)
  · have he : mw.isEmpty = true := by
      cases h : mw.isEmpty
      · exact absurd (.inl h) hbad
      · rfl
    have h16 : ¬ 16 < n := fun h => hbad (.inr h)
    have HMW : Hid (m.wr = []) := by rw [← hmw]; exact List.isEmpty_iff.1 he
    have hbd := wrongM_bounds (k := m.k) (b := m.b) (s := m.s) (c := m.c) (e := m.e) (by rw [← he, hmw]; rfl)
    have hk1 := hbd.1
    obtain ⟨es, hes⟩ : ∃ es, es = entsP m now l := ⟨_, rfl⟩
    have HES := Lib.hid hes
    have HEL : Hid (es.length = n) := by simp only [Hid]; rw [hes, entsP_len, hn]
    have HOK : Hid (∀ e ∈ es, Ok e) := by rw [hes]; exact ents_ok hs
    have HEM : Hid (∀ e ∈ es, ∃ (i : Nat) (t : Tk), l[i]? = some t ∧ e.p = (i : Int) ∧ e.n = (t.n : Int) ∧ e.r = rt t.r) := fun e h => by
      rw [hes] at h
      obtain ⟨i, t, hi, rfl⟩ := ents_mem h
      exact ⟨i, t, hi, rfl, rfl, rfl⟩
    have HOF : Hid (∀ mask, sel (fM mask true) (ints n) = (mX mask es).map (·.p)) := fun mask => by rw [hn, hes]; exact of_X m now l mask
    have HO := Lib.hid ho
    have HWP : Hid (wrap64 ((2 : Int) ^ n) = ((2 ^ n : Nat) : Int) ∧ 2 ^ n ≤ 65536) := ⟨wrap_pow (by omega), by
      have := Nat.pow_le_pow_right (n := 2) (by decide) (show n ≤ 16 by omega)
      simpa using this⟩
    have HXB : Hid (∀ mask, (mX mask es).length ≤ n ∧ ∀ e ∈ mX mask es, e ∈ es) := fun mask => by
      have a1 := (sel_sub (bitM mask) es).length_le
      rw [HEL.out] at a1
      exact ⟨a1, fun e h => (sel_sub _ _).subset h⟩
    clear hw0 hb0 hq0 hn hE hs hmw ho hbad hes hbd hnow
    go_enter Try.func21, Try.ntmps21
    go_upto_region 1 with (fail)
    rw [← H0.out]
    go_wp2_with fail
    refine (HWR.out w0).mono ?_
    rintro r wL ⟨rfl, hb⟩
    have HBV : Hid (Below w0.heap.size w0 wL) := hb
    clear hb c0 c1 c2 c3 c4
    go_wp2_with fail
    go_loopw [9, 10, 11, 12, 13] (fun up ua ub ui u wq => ∃ (mk : Nat) (oM : Option Nat) (Ap : Option Addr) (cp : Nat) (Aa : Option Addr) (ca : Nat) (Ab : Option Addr) (cb : Nat), u = .int .i64 (mk : Int) ∧ mk ≤ 70000 ∧ up = .slice Ap (fP es oM).length cp ∧ ua = .slice Aa ((gP m.k es oM).getD ([], [])).1.length ca ∧ ub = .slice Ab ((gP m.k es oM).getD ([], [])).2.length cb ∧ ui = .bool oM.isSome ∧ Hid (1 ≤ mk ∧ InvF m.k es mk oM ∧ Zs wq wq.heap.size Ap (fP es oM) ∧ Zs wq wq.heap.size Aa ((gP m.k es oM).getD ([], [])).1 ∧ Zs wq wq.heap.size Ab ((gP m.k es oM).getD ([], [])).2 ∧ Below wL.heap.size wL wq)) (fun _ _ _ _ u _ => 100000 - (intOf u).toNat)
    case atStart => exact ⟨1, none, none, 0, none, 0, none, 0, rfl, by omega, rfl, rfl, rfl, rfl, by omega, fun mk h1 h2 => by omega, Zs.nil, Zs.nil, Zs.nil, Below.refl _ _⟩
    case round =>
      obtain ⟨mk, oM, Ap, cp, Aa, ca, Ab, cb, rfl, hmk, rfl, rfl, rfl, rfl, HJ⟩ := hrel
      by_cases hlt2 : (mk : Int) < wrap64 (2 ^ n)
      · have HLT : Hid (mk < 2 ^ n) := by
          have h := HWP.out.1
          rw [h] at hlt2
          simp only [Hid]
          omega
        obtain ⟨wM, rfl⟩ : ∃ wM, wM = wr := ⟨wr, rfl⟩
        have HBQ : Hid (Below w0.heap.size w0 wM) := HBV.out.trans (HJ.out.2.2.2.2.2.mono HBV.out.size)
        have HL3 : Hid (mk < 65536) := by have := HLT.out; have := HWP.out.2; simp only [Hid]; omega
        have HX := Lib.hid (HXB.out mk)
        obtain ⟨xl, hxl⟩ : ∃ xl, xl = (mX mk es).map (·.p) := ⟨_, rfl⟩
        obtain ⟨nX, hnX⟩ : ∃ nX, nX = xl.length := ⟨_, rfl⟩
        obtain ⟨p1, hp1⟩ : ∃ p1, p1 = sumN (mX mk es) := ⟨_, rfl⟩
        obtain ⟨v1, hv1⟩ : ∃ v1, v1 = sumW (mX mk es) := ⟨_, rfl⟩
        have hmkn : mk < 4294967296 := by have := HL3.out; omega
        have HC1 : Hid (∀ W, Calls Try.prog 33 #[.int .i64 (mk : Int), .int .i64 (n : Int), .bool true] W fun r w' => (∃ A' c', r = .returned (.slice A' nX c') ∧ Zs w' w'.heap.size A' xl) ∧ Below W.heap.size W w') := fun W => by
          rw [hnX, hxl, ← HOF.out]
          exact of_any mk n true W (by omega) hmkn
        have hX8 := HX.out.1
        have hnXn : nX ≤ n := by rw [hnX, hxl, List.length_map]; omega
        have HG1 : Hid (∀ W A' c', Below w0.heap.size w0 W → Zs W W.heap.size A' xl → Calls Try.prog 34 #[.slice A n c, .slice A' nX c'] W fun r w' => r = .returned (.tuple #[.int .i64 p1, .int .i64 v1]) ∧ Below W.heap.size W w') := fun W A' c' hb hz => by
          rw [hp1, hv1]
          exact weigh_any A n c l A' nX c' (mX mk es) W HN.out (HE.out.later hb (Nat.le_refl _)) (by rw [hnX, hxl, List.length_map]) (by rw [← hxl]; exact hz) (fun e h => HEM.out e (HX.out.2 e h)) (fun e h => HOK.out e (HX.out.2 e h)) (by omega) (by omega)
        have HP1 : Hid (p1 = sumN (mX mk es)) := hp1
        have HXL : Hid (xl = (mX mk es).map (·.p)) := hxl
        have HNX := Lib.hid hnX
        have HXP : Hid (xl = (pX mk l).map fun q => (q.2 : Int)) := by simp only [Hid]; rw [hxl, HES.out]; exact pX_p m now mk l
        have HPXL : Hid (nX = (pX mk l).length) := by simp only [Hid]; rw [hnX, HXP.out, List.length_map]
        have HTXL : Hid (nX = (tX mk l).length) := by simp only [Hid]; rw [HPXL.out, ← pX_t, List.length_map]
        obtain ⟨np, hnp⟩ : ∃ np, np = (fP es oM).length := ⟨_, rfl⟩
        obtain ⟨na, hna⟩ : ∃ na, na = ((gP m.k es oM).getD ([], [])).1.length := ⟨_, rfl⟩
        obtain ⟨nb, hnb⟩ : ∃ nb, nb = ((gP m.k es oM).getD ([], [])).2.length := ⟨_, rfl⟩
        rw [← hnp, ← hna, ← hnb]
        have HNP := Lib.hid hnp
        have HNA := Lib.hid hna
        have HNB := Lib.hid hnb
        have HNP16 : Hid (np ≤ 16) := by
          simp only [Hid]
          rw [hnp]
          cases oM with
          | none => simp [fP]
          | some m0 => unfold fP; rw [List.length_map]; have := (HXB.out m0).1; omega
        have hs1 := (sum_bd (mX mk es) fun e h => HOK.out e (HX.out.2 e h)).1
        have hp1b : 0 ≤ p1 ∧ p1 ≤ 200 := by rw [hp1]; omega
        clear hxl hnX hp1 hv1 hnp hna hnb hX8 hs1 hmkn
        go_wp2_with fail
        refine (HC1.out wM).mono ?_
        rintro r w2 ⟨⟨AX, cX, rfl, hzx⟩, hb⟩
        have HB2 : Hid (Below wM.heap.size wM w2) := hb
        have HZX2 := Lib.hid hzx
        clear hb hzx
        go_wp2_with fail
        refine (HG1.out w2 AX cX (HBQ.out.trans (HB2.out.mono HBQ.out.size)) HZX2.out).mono ?_
        rintro r w3 ⟨rfl, hb⟩
        have HB3 := Lib.hid (HB2.out.trans (hb.mono HB2.out.size))
        have HZX3 := Lib.hid (HZX2.out.later hb (Nat.le_refl _))
        clear hb
        obtain ⟨z0, z1, z2, z3, z4⟩ := HCE.out w3 (HBQ.out.trans (HB3.out.mono HBQ.out.size))
        by_cases hg1 : p1 = 2 * m.k
        · have hb1 : (p1 != 2 * m.k) = false := by simp [hg1]
          have HG1E : Hid (p1 = 2 * m.k) := hg1
          by_cases hx8 : 8 < nX
          · have HSK : Hid (InvF m.k es (mk + 1) oM) := invF_skip HJ.out.2.1 (.inl fun h => by
              have h2 := part_full h.2
              have h3 := sumN_nonneg _ h2.2
              have h4 := HNX.out
              rw [HXL.out, List.length_map] at h4
              omega)
            clear hg1
            go_wp2
            go_roundw
            case rel => exact ⟨mk + 1, oM, Ap, cp, Aa, ca, Ab, cb, by go_num, by have := HL3.out; omega, by rw [HNP.out], by rw [HNA.out], by rw [HNB.out], rfl, by have := HJ.out.1; omega, HSK.out, HJ.out.2.2.1.later (HB3.out) (Nat.le_refl _), HJ.out.2.2.2.1.later (HB3.out) (Nat.le_refl _), HJ.out.2.2.2.2.1.later (HB3.out) (Nat.le_refl _), HJ.out.2.2.2.2.2.trans ((HB3.out).mono HJ.out.2.2.2.2.2.size)⟩
            case measure => simp [intOf] <;> omega
          · clear hg1
            cases oM with
            | none =>
              go_wp2_with fail
              go_loopw [17, 18] (fun oo u wq => ∃ (i : Nat) (lf : List FT), i ≤ nX ∧ u = .int .i64 (i : Int) ∧ Hid (lf.map (·.t) = (tX mk l).take i ∧ wq.ownsRow w3.heap.size 30 5 oo lf.length (fr lf) ∧ Below w3.heap.size w3 wq)) (fun _ u _ => nX - (intOf u).toNat)
              case atStart => exact ⟨0, [], by omega, rfl, rfl, World.ownsRow_nil w3 _ 30 5, Below.refl _ _⟩
              case round =>
                obtain ⟨i, lf, hi, rfl, HI⟩ := hrel
                obtain ⟨B, d9, rfl⟩ := own_form HI.out.2.1
                obtain ⟨fl, hfl⟩ : ∃ fl, fl = lf.length := ⟨_, rfl⟩
                have hfb : fl ≤ 100 := by
                  have h1 := congrArg List.length HI.out.1
                  rw [List.length_map, List.length_take] at h1
                  omega
                rw [← hfl] at HI ⊢
                have HFL := Lib.hid hfl
                clear hfl
                by_cases hlt3 : i < nX
                · obtain ⟨q, hq⟩ : ∃ q, (pX mk l)[i]? = some q := ⟨(pX mk l)[i]'(by rw [← HPXL.out]; exact hlt3), List.getElem?_eq_getElem _⟩
                  have hlq := pX_get (List.mem_of_getElem? hq)
                  have HTQ : Hid ((tX mk l).take (i + 1) = (tX mk l).take i ++ [q.1]) := by
                    simp only [Hid]
                    rw [List.take_add_one, ← pX_t, List.getElem?_map, hq]
                    rfl
                  have hxq : xl[i]? = some (q.2 : Int) := by rw [HXP.out, List.getElem?_map, hq]; rfl
                  obtain ⟨bx, ox, hAXe, hbx, hcx⟩ := (HZX3.out.later HI.out.2.2 (Nat.le_refl _)) (by have := HNX.out; omega)
                  have d0' := hcx i _ hxq
                  obtain ⟨b1, o1, hAe, hb1, ha1⟩ := (HE.out.later (HBV.out.trans ((HJ.out.2.2.2.2.2.trans ((HB3.out.trans (HI.out.2.2.mono HB3.out.size)).mono HJ.out.2.2.2.2.2.size)).mono HBV.out.size)) (Nat.le_refl _)) (by have := (List.getElem?_eq_some_iff.1 hlq).1; omega)
                  obtain ⟨x, y, P, cpp, d0, d1, d2, d3, d4⟩ := ha1 q.2 q.1 hlq
                  have hqn : q.2 < n := by rw [HN.out]; exact (List.getElem?_eq_some_iff.1 hlq).1
                  obtain ⟨⟨tn, tr, ts⟩, qi⟩ := q
                  simp only at d0 d1 d2 d3 d4 hqn HTQ d0'
                  obtain ⟨w4, hw4⟩ : ∃ w4, w4 = wr.alloc (.cells #[.int .u32 x, .int .i64 y, .slice P tn cpp, .int .i64 tr, .int .i64 ts] 30) := ⟨_, rfl⟩
                  have hg4 : w4.heap[wr.heap.size]? = some (.cells (fc ⟨x, y, P, cpp, ⟨tn, tr, ts⟩⟩).toArray 30 (0, 0)) := by rw [hw4]; exact heap_alloc_new wr _
                  have hb4 : Below wr.heap.size wr w4 := by rw [hw4]; exact (Below.refl _ _).alloc (Nat.le_refl _) _
                  have HO4 : Hid (w4.ownsRow w3.heap.size 30 5 (.slice B fl d9) fl (fr lf)) := own_after HI.out.2.1 fun g hg => hb4.block g (own_lt HI.out.2.1 g hg).2
                  have HB4 : Hid (Below w3.heap.size w3 w4) := HI.out.2.2.trans (hb4.mono HI.out.2.2.size)
                  have HG4 := Lib.hid hg4
                  have H4 := Lib.hid hw4
                  have ht4 : Hid (∀ W : World, W = w4 → W.ownsRow w3.heap.size 30 5 (.slice B fl d9) fl (fr lf) ∧ W.heap[wr.heap.size]? = some (.cells (fc ⟨x, y, P, cpp, ⟨tn, tr, ts⟩⟩).toArray 30 (0, 0)) ∧ w3.heap.size ≤ W.heap.size) := fun W e => by rw [e]; exact ⟨HO4.out, HG4.out, HB4.out.size⟩
                  have q1 : (0 : Int) ≤ (qi : Int) := by omega
                  clear hw4 hg4 hb4 hq hlq hxq hbx hcx hb1 ha1
                  subst hAXe
                  subst hAe
                  go_wp2_with (at_builtin; refine wpList_append_rt rfl (.tmp 74) (.tmp 82) rfl w3.heap.size wr.heap.size (.slice B fl d9) fl (fr lf) ⟨x, y, P, cpp, ⟨tn, tr, ts⟩⟩ rfl rfl (ht4.out _ H4.out.symm).1 (ht4.out _ H4.out.symm).2.1 (by omega) (ht4.out _ H4.out.symm).2.2 ?_; intro v5 w5 ho5 hg5; rw [← H4.out] at hg5; obtain ⟨B5, c5, rfl⟩ := own_form ho5; have HR5 : Hid (w5.ownsRow w3.heap.size 30 5 (.slice B5 (fl + 1) c5) (fl + 1) (fr lf ++ fc ⟨x, y, P, cpp, ⟨tn, tr, ts⟩⟩) ∧ Below w3.heap.size w3 w5) := ⟨ho5, HB4.out.grown hg5 HB4.out.size (fun g h => (own_lt HO4.out g h).1)⟩; clear ho5 hg5)
                  go_roundw
                  case rel => exact ⟨i + 1, lf ++ [⟨x, y, P, cpp, ⟨tn, tr, ts⟩⟩], by omega, by go_num, by rw [List.map_append, HI.out.1, HTQ.out]; rfl, by rw [List.length_append, ← HFL.out, fr_snoc]; exact HR5.out.1, HR5.out.2⟩
                  case measure => simp [intOf] <;> omega
                · have hkn : nX = i := by omega
                  subst hkn
                  obtain ⟨wT, rfl⟩ : ∃ wT, wT = wr := ⟨wr, rfl⟩
                  have HTT : Hid (lf.map (·.t) = tX mk l) := by
                    have h := HI.out.1
                    rw [List.take_of_length_le (by rw [← HTXL.out]; exact Nat.le_refl _)] at h
                    exact h
                  have HFT : Hid (fl = (tX mk l).length ∧ fl ≤ 8) := by
                    have h1 := congrArg List.length HTT.out
                    rw [List.length_map, ← HFL.out] at h1
                    have h2 := HTXL.out
                    exact ⟨h1, by omega⟩
                  have HTS : Hid (Ts wT wT.heap.size B (tX mk l)) := by
                    have h := Ts.of_own30 (by rw [HFL.out] at HI; exact HI.out.2.1)
                    rw [HTT.out] at h
                    exact h
                  have HBT : Hid (Below wM.heap.size wM wT) := HB3.out.trans (HI.out.2.2.mono HB3.out.size)
                  have HBT0 : Hid (Below w0.heap.size w0 wT) := HBQ.out.trans (HBT.out.mono HBQ.out.size)
                  have HZXT := Lib.hid (HZX3.out.later HI.out.2.2 (Nat.le_refl _))
                  have HST : Hid (Sm (tX mk l)) := fun t h => HS.out t ((sel_sub _ _).subset h)
                  obtain ⟨z0, z1, z2, z3, z4⟩ := HCE.out wT HBT0.out
                  have HRF := Lib.hid (rfits_any m now B fl d9 (tX mk l) wT HFT.out.1 HTS.out (by have := HFT.out.2; omega) HNOW.out (fun t h => (HST.out t h).2))
                  have HRTM : Hid (∀ W, Below wT.heap.size wT W → Calls Try.prog 18 #[m.v, .slice B fl d9] W fun r w' => TPost W (teamsP m (tX mk l)) r w') := fun W hW => rteams_any m B fl d9 (tX mk l) W HFT.out.1 (HTS.out.later hW (Nat.le_refl _)) (by have := HFT.out.2; omega) HST.out
                  clear HI HFL hfb
                  go_wp2_with fail
                  refine HRF.out.mono ?_
                  rintro r w8 ⟨⟨t, rfl, ht⟩, hb⟩
                  have HB8 : Hid (Below wT.heap.size wT w8) := hb
                  have HB8M := Lib.hid (HBT.out.trans (HB8.out.mono HBT.out.size))
                  have HTF := Lib.hid ht
                  clear hb ht z0 z1 z2 z3 z4
                  cases t
                  · have HSK : Hid (InvF m.k es (mk + 1) none) := invF_skip HJ.out.2.1 (.inl fun h => by
                      have h2 := HTF.out.2 ⟨HMW.out, (X_fit m now l mk).2 (by rw [← HES.out]; exact h.1)⟩
                      cases h2)
                    go_wp2
                    go_roundw
                    case rel => exact ⟨mk + 1, none, Ap, cp, Aa, ca, Ab, cb, by go_num, by have := HL3.out; omega, by rw [HNP.out], by rw [HNA.out], by rw [HNB.out], rfl, by have := HJ.out.1; omega, HSK.out, HJ.out.2.2.1.later (HB8M.out) (Nat.le_refl _), HJ.out.2.2.2.1.later (HB8M.out) (Nat.le_refl _), HJ.out.2.2.2.2.1.later (HB8M.out) (Nat.le_refl _), HJ.out.2.2.2.2.2.trans ((HB8M.out).mono HJ.out.2.2.2.2.2.size)⟩
                    case measure => simp [intOf] <;> omega
                  · obtain ⟨oT, hoT⟩ : ∃ oT, oT = teamsP m (tX mk l) := ⟨_, rfl⟩
                    rw [← hoT] at HRTM
                    have HXT : Hid (partP m.k (mX mk es) = oT.map fun r => (at_ xl r.1, at_ xl r.2)) := by
                      simp only [Hid]
                      rw [hoT]
                      unfold teamsP
                      rw [if_neg (fun h => h.elim (fun h => by rw [HMW.out] at h; cases h) (fun h => by have := HFT.out; omega)), HES.out, X_part, ← HES.out, ← HXL.out]
                    have HFITX : Hid (Fit (mX mk es)) := by rw [HES.out]; exact (X_fit m now l mk).1 (HTF.out.1 (by first | rfl | trivial)).2
                    have HIX0 : Hid (∀ PA PB, oT = some (PA, PB) → (∀ jz ∈ PA, ∃ j : Nat, jz = (j : Int) ∧ j < (tX mk l).length) ∧ ∀ jz ∈ PB, ∃ j : Nat, jz = (j : Int) ∧ j < (tX mk l).length) := fun PA PB h => by
                      rw [hoT] at h
                      unfold teamsP at h
                      split at h
                      · cases h
                      · obtain ⟨way, _, _, rfl, rfl⟩ := part_get h
                        have hm : ∀ s : List En, (∀ e ∈ s, e ∈ entsP m 0 (tX mk l)) → ∀ jz ∈ s.map (·.p), ∃ j : Nat, jz = (j : Int) ∧ j < (tX mk l).length := fun s hs jz hj => by
                          obtain ⟨e, he, rfl⟩ := List.mem_map.1 hj
                          obtain ⟨j, t, hjt, rfl⟩ := ents_mem (hs e he)
                          exact ⟨j, rfl, (List.getElem?_eq_some_iff.1 hjt).1⟩
                        exact ⟨hm _ fun e he => sA_mem he, hm _ fun e he => sB_mem he⟩
                    have HPLEN : Hid (∀ PA PB, oT = some (PA, PB) → PA.length ≤ 20 ∧ PB.length ≤ 20) := fun PA PB h => by
                      rw [hoT] at h
                      unfold teamsP at h
                      split at h
                      · cases h
                      · obtain ⟨way, _, _, rfl, rfl⟩ := part_get h
                        have h2 := sA_len way (entsP m 0 (tX mk l)).length (entsP m 0 (tX mk l))
                        have h3 := sB_len way (entsP m 0 (tX mk l)).length (entsP m 0 (tX mk l))
                        rw [entsP_len] at h2 h3
                        have := HFT.out
                        simp only [List.length_map]
                        rw [entsP_len]
                        omega
                    clear hoT
                    obtain ⟨z0, z1, z2, z3, z4⟩ := HCE.out w8 (HBT0.out.trans (HB8.out.mono HBT0.out.size))
                    go_wp2_with fail
                    refine (HRTM.out w8 HB8.out).mono ?_
                    rintro r w9 ⟨⟨AP, dP, AQ, dQ, rfl, hz1, hz2⟩, hb⟩
                    have HB9M := Lib.hid (HB8M.out.trans (hb.mono HB8M.out.size))
                    have HZX9 := Lib.hid (HZXT.out.later (HB8.out.trans (hb.mono HB8.out.size)) (Nat.le_refl _))
                    clear hb z0 z1 z2 z3 z4
                    cases oT with
                    | none =>
                      simp only [Option.getD_none, Option.isSome_none, List.length_nil]
                      clear hz1 hz2
                      have HSK : Hid (InvF m.k es (mk + 1) none) := invF_skip HJ.out.2.1 (.inl fun h => by
                        have h2 := h.2
                        rw [HXT.out] at h2
                        cases h2)
                      go_wp2
                      go_roundw
                      case rel => exact ⟨mk + 1, none, Ap, cp, Aa, ca, Ab, cb, by go_num, by have := HL3.out; omega, by rw [HNP.out], by rw [HNA.out], by rw [HNB.out], rfl, by have := HJ.out.1; omega, HSK.out, HJ.out.2.2.1.later (HB9M.out) (Nat.le_refl _), HJ.out.2.2.2.1.later (HB9M.out) (Nat.le_refl _), HJ.out.2.2.2.2.1.later (HB9M.out) (Nat.le_refl _), HJ.out.2.2.2.2.2.trans ((HB9M.out).mono HJ.out.2.2.2.2.2.size)⟩
                      case measure => simp [intOf] <;> omega
                    | some PQ =>
                      obtain ⟨PA, PB⟩ := PQ
                      simp only [Option.getD_some, Option.isSome_some] at hz1 hz2 ⊢
                      have HZP := Lib.hid hz1
                      have HZQ0 := Lib.hid hz2
                      obtain ⟨nPA, hnPA⟩ : ∃ nPA, nPA = PA.length := ⟨_, rfl⟩
                      obtain ⟨nPB, hnPB⟩ : ∃ nPB, nPB = PB.length := ⟨_, rfl⟩
                      rw [← hnPA, ← hnPB]
                      have HLPA := Lib.hid hnPA
                      have HLPB := Lib.hid hnPB
                      have HPN : Hid (PA.length ≤ 20 ∧ PB.length ≤ 20) := HPLEN.out PA PB rfl
                      have hPAb : nPA ≤ 20 := by rw [HLPA.out]; exact HPN.out.1
                      have hPBb : nPB ≤ 20 := by rw [HLPB.out]; exact HPN.out.2
                      have HIXA : Hid (∀ jz ∈ PA, ∃ j : Nat, jz = (j : Int) ∧ j < nX) := fun jz h => by rw [HTXL.out]; exact (HIX0.out PA PB rfl).1 jz h
                      have HIXB : Hid (∀ jz ∈ PB, ∃ j : Nat, jz = (j : Int) ∧ j < nX) := fun jz h => by rw [HTXL.out]; exact (HIX0.out PA PB rfl).2 jz h
                      have HGOOD : Hid (Good m.k (mX mk es)) := ⟨HFITX.out, by rw [HXT.out]; rfl⟩
                      have HTKE : Hid (InvF m.k es (mk + 1) (some mk)) := invF_take HJ.out.2.1 HGOOD.out (.inl rfl)
                      clear hz1 hz2 hnPA hnPB
                      go_wp2_with fail
                      go_loopw [10, 22] (fun o u wq => ∃ i : Nat, i ≤ nPA ∧ u = .int .i64 (i : Int) ∧ Hid (wq.ownsRow w9.heap.size 3 1 o (at_ xl (PA.take i)).length (zv (at_ xl (PA.take i))) ∧ Below w9.heap.size w9 wq)) (fun _ u _ => nPA - (intOf u).toNat)
                      case atStart => exact ⟨0, by omega, rfl, World.ownsRow_nil w9 _ 3 1, Below.refl _ _⟩
                      case round =>
                        obtain ⟨i, hi, rfl, HI⟩ := hrel
                        obtain ⟨B, d9, rfl⟩ := own_form HI.out.1
                        obtain ⟨ml, hml⟩ : ∃ ml, ml = (at_ xl (PA.take i)).length := ⟨_, rfl⟩
                        have hmb : ml ≤ 1000 := by rw [hml]; unfold at_; rw [List.length_map, List.length_take]; have := HPN.out; omega
                        rw [← hml] at HI ⊢
                        have HML := Lib.hid hml
                        clear hml
                        by_cases hlt3 : i < nPA
                        · obtain ⟨jz, hjz⟩ : ∃ j, PA[i]? = some j := ⟨PA[i]'(by rw [← HLPA.out]; exact hlt3), List.getElem?_eq_getElem _⟩
                          obtain ⟨j, rfl, hjn⟩ : ∃ j : Nat, jz = (j : Int) ∧ j < nX := HIXA.out jz (List.mem_of_getElem? hjz)
                          obtain ⟨y, hyj⟩ : ∃ y, xl[j]? = some y := ⟨xl[j]'(by rw [← HNX.out]; exact hjn), List.getElem?_eq_getElem _⟩
                          have HSN : Hid (at_ xl (PA.take (i + 1)) = at_ xl (PA.take i) ++ [y]) := by
                            simp only [Hid]
                            unfold at_
                            rw [List.take_add_one, hjz, List.map_append]
                            simp only [Option.toList, List.map_cons, List.map_nil, Int.toNat_natCast, List.getD_eq_getElem?_getD, hyj, Option.getD_some]
                          obtain ⟨bq, oq, hAPe, hbq, hcq⟩ := (HZP.out.later HI.out.2 (Nat.le_refl _)) (by have := HLPA.out; omega)
                          obtain ⟨bx, ox, hAXe, hbx, hcx⟩ := (HZX9.out.later HI.out.2 (Nat.le_refl _)) (by have := HNX.out; omega)
                          have d0 := hcq i _ hjz
                          have d1 := hcx j _ hyj
                          obtain ⟨w4, hw4⟩ : ∃ w4, w4 = wr.alloc (.cells #[.int .i64 y] 3) := ⟨_, rfl⟩
                          have hg4 : w4.heap[wr.heap.size]? = some (.cells #[.int .i64 y] 3 (0, 0)) := by rw [hw4]; exact heap_alloc_new wr _
                          have hb4 : Below wr.heap.size wr w4 := by rw [hw4]; exact (Below.refl _ _).alloc (Nat.le_refl _) _
                          have HO4 : Hid (w4.ownsRow w9.heap.size 3 1 (.slice B ml d9) ml (zv (at_ xl (PA.take i)))) := own_after HI.out.1 fun g hg => hb4.block g (own_lt HI.out.1 g hg).2
                          have HB4 : Hid (Below w9.heap.size w9 w4) := HI.out.2.trans (hb4.mono HI.out.2.size)
                          have HG4 := Lib.hid hg4
                          have H4 := Lib.hid hw4
                          have ht4 : Hid (∀ W : World, W = w4 → W.ownsRow w9.heap.size 3 1 (.slice B ml d9) ml (zv (at_ xl (PA.take i))) ∧ W.heap[wr.heap.size]? = some (.cells #[.int .i64 y] 3 (0, 0)) ∧ w9.heap.size ≤ W.heap.size) := fun W e => by rw [e]; exact ⟨HO4.out, HG4.out, HB4.out.size⟩
                          have q1 : (0 : Int) ≤ (j : Int) := by omega
                          clear hw4 hg4 hb4 hjz hyj hbq hcq hbx hcx
                          subst hAPe
                          subst hAXe
                          go_wp2_with (at_builtin; refine wpList_append_z rfl (.tmp 104) (.tmp 112) rfl w9.heap.size wr.heap.size (.slice B ml d9) ml (zv (at_ xl (PA.take i))) y rfl rfl (ht4.out _ H4.out.symm).1 (ht4.out _ H4.out.symm).2.1 (by omega) (ht4.out _ H4.out.symm).2.2 ?_; intro v5 w5 ho5 hg5; rw [← H4.out] at hg5; obtain ⟨B5, c5, rfl⟩ := own_form ho5; have HR5 : Hid (w5.ownsRow w9.heap.size 3 1 (.slice B5 (ml + 1) c5) (ml + 1) (zv (at_ xl (PA.take i)) ++ [.int .i64 y]) ∧ Below w9.heap.size w9 w5) := ⟨ho5, HB4.out.grown hg5 HB4.out.size (fun g h => (own_lt HO4.out g h).1)⟩; clear ho5 hg5)
                          go_roundw
                          case rel =>
                            have HFN : Hid (w5.ownsRow w9.heap.size 3 1 (.slice B5 (ml + 1) c5) (at_ xl (PA.take (i + 1))).length (zv (at_ xl (PA.take (i + 1)))) ∧ Below w9.heap.size w9 w5) := by
                              simp only [Hid]
                              rw [HSN.out, List.length_append, ← HML.out]
                              have h6 : ∀ l : List Int, zv (l ++ [y]) = zv l ++ [.int .i64 y] := fun l => by simp [zv]
                              rw [h6]
                              exact HR5.out
                            exact ⟨i + 1, by omega, by go_num, HFN.out⟩
                          case measure => simp [intOf] <;> omega
                        · have hkn : nPA = i := by omega
                          subst hkn
                          have HFa : Hid (Zs wr wr.heap.size B (at_ xl PA) ∧ ml = (at_ xl PA).length ∧ Below w9.heap.size w9 wr) := by
                            have h1 := Zs.of_own HI.out.1
                            have h2 := HML.out
                            rw [List.take_of_length_le (by rw [← HLPA.out]; exact Nat.le_refl _)] at h1 h2
                            exact ⟨h1, h2, HI.out.2⟩
                          clear HI hmb HML
                          obtain ⟨wA, rfl⟩ : ∃ wA, wA = wr := ⟨wr, rfl⟩
                          obtain ⟨BA, dA, mA, rfl, rfl, rfl⟩ : ∃ BA dA mA, BA = B ∧ dA = d9 ∧ mA = ml := ⟨B, d9, ml, rfl, rfl, rfl⟩
                          have HZQ := Lib.hid (HZQ0.out.later HFa.out.2.2 (Nat.le_refl _))
                          have HZXA := Lib.hid (HZX9.out.later HFa.out.2.2 (Nat.le_refl _))
                          go_wp2_with fail
                          go_loopw [11, 23] (fun o u wq => ∃ i : Nat, i ≤ nPB ∧ u = .int .i64 (i : Int) ∧ Hid (wq.ownsRow wA.heap.size 3 1 o (at_ xl (PB.take i)).length (zv (at_ xl (PB.take i))) ∧ Below wA.heap.size wA wq)) (fun _ u _ => nPB - (intOf u).toNat)
                          case atStart => exact ⟨0, by omega, rfl, World.ownsRow_nil wA _ 3 1, Below.refl _ _⟩
                          case round =>
                            obtain ⟨i, hi, rfl, HI⟩ := hrel
                            obtain ⟨B, d9, rfl⟩ := own_form HI.out.1
                            obtain ⟨ml, hml⟩ : ∃ ml, ml = (at_ xl (PB.take i)).length := ⟨_, rfl⟩
                            have hmb : ml ≤ 1000 := by rw [hml]; unfold at_; rw [List.length_map, List.length_take]; have := HPN.out; omega
                            rw [← hml] at HI ⊢
                            have HML := Lib.hid hml
                            clear hml
                            by_cases hlt3 : i < nPB
                            · obtain ⟨jz, hjz⟩ : ∃ j, PB[i]? = some j := ⟨PB[i]'(by rw [← HLPB.out]; exact hlt3), List.getElem?_eq_getElem _⟩
                              obtain ⟨j, rfl, hjn⟩ : ∃ j : Nat, jz = (j : Int) ∧ j < nX := HIXB.out jz (List.mem_of_getElem? hjz)
                              obtain ⟨y, hyj⟩ : ∃ y, xl[j]? = some y := ⟨xl[j]'(by rw [← HNX.out]; exact hjn), List.getElem?_eq_getElem _⟩
                              have HSN : Hid (at_ xl (PB.take (i + 1)) = at_ xl (PB.take i) ++ [y]) := by
                                simp only [Hid]
                                unfold at_
                                rw [List.take_add_one, hjz, List.map_append]
                                simp only [Option.toList, List.map_cons, List.map_nil, Int.toNat_natCast, List.getD_eq_getElem?_getD, hyj, Option.getD_some]
                              obtain ⟨bq, oq, hAPe, hbq, hcq⟩ := (HZQ.out.later HI.out.2 (Nat.le_refl _)) (by have := HLPB.out; omega)
                              obtain ⟨bx, ox, hAXe, hbx, hcx⟩ := (HZXA.out.later HI.out.2 (Nat.le_refl _)) (by have := HNX.out; omega)
                              have d0 := hcq i _ hjz
                              have d1 := hcx j _ hyj
                              obtain ⟨w4, hw4⟩ : ∃ w4, w4 = wr.alloc (.cells #[.int .i64 y] 3) := ⟨_, rfl⟩
                              have hg4 : w4.heap[wr.heap.size]? = some (.cells #[.int .i64 y] 3 (0, 0)) := by rw [hw4]; exact heap_alloc_new wr _
                              have hb4 : Below wr.heap.size wr w4 := by rw [hw4]; exact (Below.refl _ _).alloc (Nat.le_refl _) _
                              have HO4 : Hid (w4.ownsRow wA.heap.size 3 1 (.slice B ml d9) ml (zv (at_ xl (PB.take i)))) := own_after HI.out.1 fun g hg => hb4.block g (own_lt HI.out.1 g hg).2
                              have HB4 : Hid (Below wA.heap.size wA w4) := HI.out.2.trans (hb4.mono HI.out.2.size)
                              have HG4 := Lib.hid hg4
                              have H4 := Lib.hid hw4
                              have ht4 : Hid (∀ W : World, W = w4 → W.ownsRow wA.heap.size 3 1 (.slice B ml d9) ml (zv (at_ xl (PB.take i))) ∧ W.heap[wr.heap.size]? = some (.cells #[.int .i64 y] 3 (0, 0)) ∧ wA.heap.size ≤ W.heap.size) := fun W e => by rw [e]; exact ⟨HO4.out, HG4.out, HB4.out.size⟩
                              have q1 : (0 : Int) ≤ (j : Int) := by omega
                              clear hw4 hg4 hb4 hjz hyj hbq hcq hbx hcx
                              subst hAPe
                              subst hAXe
                              go_wp2_with (at_builtin; refine wpList_append_z rfl (.tmp 120) (.tmp 128) rfl wA.heap.size wr.heap.size (.slice B ml d9) ml (zv (at_ xl (PB.take i))) y rfl rfl (ht4.out _ H4.out.symm).1 (ht4.out _ H4.out.symm).2.1 (by omega) (ht4.out _ H4.out.symm).2.2 ?_; intro v5 w5 ho5 hg5; rw [← H4.out] at hg5; obtain ⟨B5, c5, rfl⟩ := own_form ho5; have HR5 : Hid (w5.ownsRow wA.heap.size 3 1 (.slice B5 (ml + 1) c5) (ml + 1) (zv (at_ xl (PB.take i)) ++ [.int .i64 y]) ∧ Below wA.heap.size wA w5) := ⟨ho5, HB4.out.grown hg5 HB4.out.size (fun g h => (own_lt HO4.out g h).1)⟩; clear ho5 hg5)
                              go_roundw
                              case rel =>
                                have HFN : Hid (w5.ownsRow wA.heap.size 3 1 (.slice B5 (ml + 1) c5) (at_ xl (PB.take (i + 1))).length (zv (at_ xl (PB.take (i + 1)))) ∧ Below wA.heap.size wA w5) := by
                                  simp only [Hid]
                                  rw [HSN.out, List.length_append, ← HML.out]
                                  have h6 : ∀ l : List Int, zv (l ++ [y]) = zv l ++ [.int .i64 y] := fun l => by simp [zv]
                                  rw [h6]
                                  exact HR5.out
                                exact ⟨i + 1, by omega, by go_num, HFN.out⟩
                              case measure => simp [intOf] <;> omega
                            · have hkn : nPB = i := by omega
                              subst hkn
                              have HFb : Hid (Zs wr wr.heap.size B (at_ xl PB) ∧ ml = (at_ xl PB).length ∧ Below wA.heap.size wA wr) := by
                                have h1 := Zs.of_own HI.out.1
                                have h2 := HML.out
                                rw [List.take_of_length_le (by rw [← HLPB.out]; exact Nat.le_refl _)] at h1 h2
                                exact ⟨h1, h2, HI.out.2⟩
                              clear HI hmb HML
                              go_wp2_with fail
                              go_roundw
                              case rel => exact ⟨mk + 1, some mk, AX, cX, BA, dA, B, d9, by go_num, by have := HL3.out; omega, by rw [HNX.out, HXL.out]; rfl, by rw [HFa.out.2.1, show gP m.k es (some mk) = partP m.k (mX mk es) from rfl, HXT.out]; rfl, by rw [HFb.out.2.1, show gP m.k es (some mk) = partP m.k (mX mk es) from rfl, HXT.out]; rfl, rfl, by have := HJ.out.1; omega, HTKE.out, by rw [show fP es (some mk) = xl from HXL.out.symm]; exact HZXA.out.later HFb.out.2.2 (Nat.le_refl _), by rw [show gP m.k es (some mk) = partP m.k (mX mk es) from rfl, HXT.out]; exact HFa.out.1.later HFb.out.2.2 (Nat.le_refl _), by rw [show gP m.k es (some mk) = partP m.k (mX mk es) from rfl, HXT.out]; exact HFb.out.1, HJ.out.2.2.2.2.2.trans ((HB9M.out.trans ((HFa.out.2.2.trans (HFb.out.2.2.mono HFa.out.2.2.size)).mono HB9M.out.size)).mono HJ.out.2.2.2.2.2.size)⟩
                              case measure => simp [intOf] <;> omega
            | some m0 =>
              have HAH := Lib.hid (ahead_any AX Ap nX cX np cp xl (fP es (some m0)) w3 HNX.out HNP.out HZX3.out (HJ.out.2.2.1.later HB3.out (Nat.le_refl _)) (by omega) (by have := HNP16.out; omega))
              obtain ⟨ah, hah⟩ : ∃ ah, ah = aheadP xl (fP es (some m0)) := ⟨_, rfl⟩
              rw [← hah] at HAH
              have HAE : Hid (aheadP ((mX mk es).map (·.p)) ((mX m0 es).map (·.p)) = ah) := by simp only [Hid]; rw [hah, ← HXL.out]; rfl
              clear hah
              go_wp2_with fail
              refine HAH.out.mono ?_
              rintro r w6 ⟨rfl, hb⟩
              have HB6 := Lib.hid (HB3.out.trans (hb.mono HB3.out.size))
              have HZX6 := Lib.hid (HZX3.out.later hb (Nat.le_refl _))
              clear hb z0 z1 z2 z3 z4
              cases ah
              · have HSK : Hid (InvF m.k es (mk + 1) (some m0)) := invF_skip HJ.out.2.1 (.inr ⟨m0, rfl, HAE.out⟩)
                go_wp2
                go_roundw
                case rel => exact ⟨mk + 1, some m0, Ap, cp, Aa, ca, Ab, cb, by go_num, by have := HL3.out; omega, by rw [HNP.out], by rw [HNA.out], by rw [HNB.out], rfl, by have := HJ.out.1; omega, HSK.out, HJ.out.2.2.1.later (HB6.out) (Nat.le_refl _), HJ.out.2.2.2.1.later (HB6.out) (Nat.le_refl _), HJ.out.2.2.2.2.1.later (HB6.out) (Nat.le_refl _), HJ.out.2.2.2.2.2.trans ((HB6.out).mono HJ.out.2.2.2.2.2.size)⟩
                case measure => simp [intOf] <;> omega
              · go_wp2_with fail
                go_loopw [17, 18] (fun oo u wq => ∃ (i : Nat) (lf : List FT), i ≤ nX ∧ u = .int .i64 (i : Int) ∧ Hid (lf.map (·.t) = (tX mk l).take i ∧ wq.ownsRow w6.heap.size 30 5 oo lf.length (fr lf) ∧ Below w6.heap.size w6 wq)) (fun _ u _ => nX - (intOf u).toNat)
                case atStart => exact ⟨0, [], by omega, rfl, rfl, World.ownsRow_nil w6 _ 30 5, Below.refl _ _⟩
                case round =>
                  obtain ⟨i, lf, hi, rfl, HI⟩ := hrel
                  obtain ⟨B, d9, rfl⟩ := own_form HI.out.2.1
                  obtain ⟨fl, hfl⟩ : ∃ fl, fl = lf.length := ⟨_, rfl⟩
                  have hfb : fl ≤ 100 := by
                    have h1 := congrArg List.length HI.out.1
                    rw [List.length_map, List.length_take] at h1
                    omega
                  rw [← hfl] at HI ⊢
                  have HFL := Lib.hid hfl
                  clear hfl
                  by_cases hlt3 : i < nX
                  · obtain ⟨q, hq⟩ : ∃ q, (pX mk l)[i]? = some q := ⟨(pX mk l)[i]'(by rw [← HPXL.out]; exact hlt3), List.getElem?_eq_getElem _⟩
                    have hlq := pX_get (List.mem_of_getElem? hq)
                    have HTQ : Hid ((tX mk l).take (i + 1) = (tX mk l).take i ++ [q.1]) := by
                      simp only [Hid]
                      rw [List.take_add_one, ← pX_t, List.getElem?_map, hq]
                      rfl
                    have hxq : xl[i]? = some (q.2 : Int) := by rw [HXP.out, List.getElem?_map, hq]; rfl
                    obtain ⟨bx, ox, hAXe, hbx, hcx⟩ := (HZX6.out.later HI.out.2.2 (Nat.le_refl _)) (by have := HNX.out; omega)
                    have d0' := hcx i _ hxq
                    obtain ⟨b1, o1, hAe, hb1, ha1⟩ := (HE.out.later (HBV.out.trans ((HJ.out.2.2.2.2.2.trans ((HB6.out.trans (HI.out.2.2.mono HB6.out.size)).mono HJ.out.2.2.2.2.2.size)).mono HBV.out.size)) (Nat.le_refl _)) (by have := (List.getElem?_eq_some_iff.1 hlq).1; omega)
                    obtain ⟨x, y, P, cpp, d0, d1, d2, d3, d4⟩ := ha1 q.2 q.1 hlq
                    have hqn : q.2 < n := by rw [HN.out]; exact (List.getElem?_eq_some_iff.1 hlq).1
                    obtain ⟨⟨tn, tr, ts⟩, qi⟩ := q
                    simp only at d0 d1 d2 d3 d4 hqn HTQ d0'
                    obtain ⟨w4, hw4⟩ : ∃ w4, w4 = wr.alloc (.cells #[.int .u32 x, .int .i64 y, .slice P tn cpp, .int .i64 tr, .int .i64 ts] 30) := ⟨_, rfl⟩
                    have hg4 : w4.heap[wr.heap.size]? = some (.cells (fc ⟨x, y, P, cpp, ⟨tn, tr, ts⟩⟩).toArray 30 (0, 0)) := by rw [hw4]; exact heap_alloc_new wr _
                    have hb4 : Below wr.heap.size wr w4 := by rw [hw4]; exact (Below.refl _ _).alloc (Nat.le_refl _) _
                    have HO4 : Hid (w4.ownsRow w6.heap.size 30 5 (.slice B fl d9) fl (fr lf)) := own_after HI.out.2.1 fun g hg => hb4.block g (own_lt HI.out.2.1 g hg).2
                    have HB4 : Hid (Below w6.heap.size w6 w4) := HI.out.2.2.trans (hb4.mono HI.out.2.2.size)
                    have HG4 := Lib.hid hg4
                    have H4 := Lib.hid hw4
                    have ht4 : Hid (∀ W : World, W = w4 → W.ownsRow w6.heap.size 30 5 (.slice B fl d9) fl (fr lf) ∧ W.heap[wr.heap.size]? = some (.cells (fc ⟨x, y, P, cpp, ⟨tn, tr, ts⟩⟩).toArray 30 (0, 0)) ∧ w6.heap.size ≤ W.heap.size) := fun W e => by rw [e]; exact ⟨HO4.out, HG4.out, HB4.out.size⟩
                    have q1 : (0 : Int) ≤ (qi : Int) := by omega
                    clear hw4 hg4 hb4 hq hlq hxq hbx hcx hb1 ha1
                    subst hAXe
                    subst hAe
                    go_wp2_with (at_builtin; refine wpList_append_rt rfl (.tmp 74) (.tmp 82) rfl w6.heap.size wr.heap.size (.slice B fl d9) fl (fr lf) ⟨x, y, P, cpp, ⟨tn, tr, ts⟩⟩ rfl rfl (ht4.out _ H4.out.symm).1 (ht4.out _ H4.out.symm).2.1 (by omega) (ht4.out _ H4.out.symm).2.2 ?_; intro v5 w5 ho5 hg5; rw [← H4.out] at hg5; obtain ⟨B5, c5, rfl⟩ := own_form ho5; have HR5 : Hid (w5.ownsRow w6.heap.size 30 5 (.slice B5 (fl + 1) c5) (fl + 1) (fr lf ++ fc ⟨x, y, P, cpp, ⟨tn, tr, ts⟩⟩) ∧ Below w6.heap.size w6 w5) := ⟨ho5, HB4.out.grown hg5 HB4.out.size (fun g h => (own_lt HO4.out g h).1)⟩; clear ho5 hg5)
                    go_roundw
                    case rel => exact ⟨i + 1, lf ++ [⟨x, y, P, cpp, ⟨tn, tr, ts⟩⟩], by omega, by go_num, by rw [List.map_append, HI.out.1, HTQ.out]; rfl, by rw [List.length_append, ← HFL.out, fr_snoc]; exact HR5.out.1, HR5.out.2⟩
                    case measure => simp [intOf] <;> omega
                  · have hkn : nX = i := by omega
                    subst hkn
                    obtain ⟨wT, rfl⟩ : ∃ wT, wT = wr := ⟨wr, rfl⟩
                    have HTT : Hid (lf.map (·.t) = tX mk l) := by
                      have h := HI.out.1
                      rw [List.take_of_length_le (by rw [← HTXL.out]; exact Nat.le_refl _)] at h
                      exact h
                    have HFT : Hid (fl = (tX mk l).length ∧ fl ≤ 8) := by
                      have h1 := congrArg List.length HTT.out
                      rw [List.length_map, ← HFL.out] at h1
                      have h2 := HTXL.out
                      exact ⟨h1, by omega⟩
                    have HTS : Hid (Ts wT wT.heap.size B (tX mk l)) := by
                      have h := Ts.of_own30 (by rw [HFL.out] at HI; exact HI.out.2.1)
                      rw [HTT.out] at h
                      exact h
                    have HBT : Hid (Below wM.heap.size wM wT) := HB6.out.trans (HI.out.2.2.mono HB6.out.size)
                    have HBT0 : Hid (Below w0.heap.size w0 wT) := HBQ.out.trans (HBT.out.mono HBQ.out.size)
                    have HZXT := Lib.hid (HZX6.out.later HI.out.2.2 (Nat.le_refl _))
                    have HST : Hid (Sm (tX mk l)) := fun t h => HS.out t ((sel_sub _ _).subset h)
                    obtain ⟨z0, z1, z2, z3, z4⟩ := HCE.out wT HBT0.out
                    have HRF := Lib.hid (rfits_any m now B fl d9 (tX mk l) wT HFT.out.1 HTS.out (by have := HFT.out.2; omega) HNOW.out (fun t h => (HST.out t h).2))
                    have HRTM : Hid (∀ W, Below wT.heap.size wT W → Calls Try.prog 18 #[m.v, .slice B fl d9] W fun r w' => TPost W (teamsP m (tX mk l)) r w') := fun W hW => rteams_any m B fl d9 (tX mk l) W HFT.out.1 (HTS.out.later hW (Nat.le_refl _)) (by have := HFT.out.2; omega) HST.out
                    clear HI HFL hfb
                    go_wp2_with fail
                    refine HRF.out.mono ?_
                    rintro r w8 ⟨⟨t, rfl, ht⟩, hb⟩
                    have HB8 : Hid (Below wT.heap.size wT w8) := hb
                    have HB8M := Lib.hid (HBT.out.trans (HB8.out.mono HBT.out.size))
                    have HTF := Lib.hid ht
                    clear hb ht z0 z1 z2 z3 z4
                    cases t
                    · have HSK : Hid (InvF m.k es (mk + 1) (some m0)) := invF_skip HJ.out.2.1 (.inl fun h => by
                        have h2 := HTF.out.2 ⟨HMW.out, (X_fit m now l mk).2 (by rw [← HES.out]; exact h.1)⟩
                        cases h2)
                      go_wp2
                      go_roundw
                      case rel => exact ⟨mk + 1, (some m0), Ap, cp, Aa, ca, Ab, cb, by go_num, by have := HL3.out; omega, by rw [HNP.out], by rw [HNA.out], by rw [HNB.out], rfl, by have := HJ.out.1; omega, HSK.out, HJ.out.2.2.1.later (HB8M.out) (Nat.le_refl _), HJ.out.2.2.2.1.later (HB8M.out) (Nat.le_refl _), HJ.out.2.2.2.2.1.later (HB8M.out) (Nat.le_refl _), HJ.out.2.2.2.2.2.trans ((HB8M.out).mono HJ.out.2.2.2.2.2.size)⟩
                      case measure => simp [intOf] <;> omega
                    · obtain ⟨oT, hoT⟩ : ∃ oT, oT = teamsP m (tX mk l) := ⟨_, rfl⟩
                      rw [← hoT] at HRTM
                      have HXT : Hid (partP m.k (mX mk es) = oT.map fun r => (at_ xl r.1, at_ xl r.2)) := by
                        simp only [Hid]
                        rw [hoT]
                        unfold teamsP
                        rw [if_neg (fun h => h.elim (fun h => by rw [HMW.out] at h; cases h) (fun h => by have := HFT.out; omega)), HES.out, X_part, ← HES.out, ← HXL.out]
                      have HFITX : Hid (Fit (mX mk es)) := by rw [HES.out]; exact (X_fit m now l mk).1 (HTF.out.1 (by first | rfl | trivial)).2
                      have HIX0 : Hid (∀ PA PB, oT = some (PA, PB) → (∀ jz ∈ PA, ∃ j : Nat, jz = (j : Int) ∧ j < (tX mk l).length) ∧ ∀ jz ∈ PB, ∃ j : Nat, jz = (j : Int) ∧ j < (tX mk l).length) := fun PA PB h => by
                        rw [hoT] at h
                        unfold teamsP at h
                        split at h
                        · cases h
                        · obtain ⟨way, _, _, rfl, rfl⟩ := part_get h
                          have hm : ∀ s : List En, (∀ e ∈ s, e ∈ entsP m 0 (tX mk l)) → ∀ jz ∈ s.map (·.p), ∃ j : Nat, jz = (j : Int) ∧ j < (tX mk l).length := fun s hs jz hj => by
                            obtain ⟨e, he, rfl⟩ := List.mem_map.1 hj
                            obtain ⟨j, t, hjt, rfl⟩ := ents_mem (hs e he)
                            exact ⟨j, rfl, (List.getElem?_eq_some_iff.1 hjt).1⟩
                          exact ⟨hm _ fun e he => sA_mem he, hm _ fun e he => sB_mem he⟩
                      have HPLEN : Hid (∀ PA PB, oT = some (PA, PB) → PA.length ≤ 20 ∧ PB.length ≤ 20) := fun PA PB h => by
                        rw [hoT] at h
                        unfold teamsP at h
                        split at h
                        · cases h
                        · obtain ⟨way, _, _, rfl, rfl⟩ := part_get h
                          have h2 := sA_len way (entsP m 0 (tX mk l)).length (entsP m 0 (tX mk l))
                          have h3 := sB_len way (entsP m 0 (tX mk l)).length (entsP m 0 (tX mk l))
                          rw [entsP_len] at h2 h3
                          have := HFT.out
                          simp only [List.length_map]
                          rw [entsP_len]
                          omega
                      clear hoT
                      obtain ⟨z0, z1, z2, z3, z4⟩ := HCE.out w8 (HBT0.out.trans (HB8.out.mono HBT0.out.size))
                      go_wp2_with fail
                      refine (HRTM.out w8 HB8.out).mono ?_
                      rintro r w9 ⟨⟨AP, dP, AQ, dQ, rfl, hz1, hz2⟩, hb⟩
                      have HB9M := Lib.hid (HB8M.out.trans (hb.mono HB8M.out.size))
                      have HZX9 := Lib.hid (HZXT.out.later (HB8.out.trans (hb.mono HB8.out.size)) (Nat.le_refl _))
                      clear hb z0 z1 z2 z3 z4
                      cases oT with
                      | none =>
                        simp only [Option.getD_none, Option.isSome_none, List.length_nil]
                        clear hz1 hz2
                        have HSK : Hid (InvF m.k es (mk + 1) (some m0)) := invF_skip HJ.out.2.1 (.inl fun h => by
                          have h2 := h.2
                          rw [HXT.out] at h2
                          cases h2)
                        go_wp2
                        go_roundw
                        case rel => exact ⟨mk + 1, (some m0), Ap, cp, Aa, ca, Ab, cb, by go_num, by have := HL3.out; omega, by rw [HNP.out], by rw [HNA.out], by rw [HNB.out], rfl, by have := HJ.out.1; omega, HSK.out, HJ.out.2.2.1.later (HB9M.out) (Nat.le_refl _), HJ.out.2.2.2.1.later (HB9M.out) (Nat.le_refl _), HJ.out.2.2.2.2.1.later (HB9M.out) (Nat.le_refl _), HJ.out.2.2.2.2.2.trans ((HB9M.out).mono HJ.out.2.2.2.2.2.size)⟩
                        case measure => simp [intOf] <;> omega
                      | some PQ =>
                        obtain ⟨PA, PB⟩ := PQ
                        simp only [Option.getD_some, Option.isSome_some] at hz1 hz2 ⊢
                        have HZP := Lib.hid hz1
                        have HZQ0 := Lib.hid hz2
                        obtain ⟨nPA, hnPA⟩ : ∃ nPA, nPA = PA.length := ⟨_, rfl⟩
                        obtain ⟨nPB, hnPB⟩ : ∃ nPB, nPB = PB.length := ⟨_, rfl⟩
                        rw [← hnPA, ← hnPB]
                        have HLPA := Lib.hid hnPA
                        have HLPB := Lib.hid hnPB
                        have HPN : Hid (PA.length ≤ 20 ∧ PB.length ≤ 20) := HPLEN.out PA PB rfl
                        have hPAb : nPA ≤ 20 := by rw [HLPA.out]; exact HPN.out.1
                        have hPBb : nPB ≤ 20 := by rw [HLPB.out]; exact HPN.out.2
                        have HIXA : Hid (∀ jz ∈ PA, ∃ j : Nat, jz = (j : Int) ∧ j < nX) := fun jz h => by rw [HTXL.out]; exact (HIX0.out PA PB rfl).1 jz h
                        have HIXB : Hid (∀ jz ∈ PB, ∃ j : Nat, jz = (j : Int) ∧ j < nX) := fun jz h => by rw [HTXL.out]; exact (HIX0.out PA PB rfl).2 jz h
                        have HGOOD : Hid (Good m.k (mX mk es)) := ⟨HFITX.out, by rw [HXT.out]; rfl⟩
                        have HTKE : Hid (InvF m.k es (mk + 1) (some mk)) := invF_take HJ.out.2.1 HGOOD.out (.inr ⟨m0, rfl, HAE.out⟩)
                        clear hz1 hz2 hnPA hnPB
                        go_wp2_with fail
                        go_loopw [10, 22] (fun o u wq => ∃ i : Nat, i ≤ nPA ∧ u = .int .i64 (i : Int) ∧ Hid (wq.ownsRow w9.heap.size 3 1 o (at_ xl (PA.take i)).length (zv (at_ xl (PA.take i))) ∧ Below w9.heap.size w9 wq)) (fun _ u _ => nPA - (intOf u).toNat)
                        case atStart => exact ⟨0, by omega, rfl, World.ownsRow_nil w9 _ 3 1, Below.refl _ _⟩
                        case round =>
                          obtain ⟨i, hi, rfl, HI⟩ := hrel
                          obtain ⟨B, d9, rfl⟩ := own_form HI.out.1
                          obtain ⟨ml, hml⟩ : ∃ ml, ml = (at_ xl (PA.take i)).length := ⟨_, rfl⟩
                          have hmb : ml ≤ 1000 := by rw [hml]; unfold at_; rw [List.length_map, List.length_take]; have := HPN.out; omega
                          rw [← hml] at HI ⊢
                          have HML := Lib.hid hml
                          clear hml
                          by_cases hlt3 : i < nPA
                          · obtain ⟨jz, hjz⟩ : ∃ j, PA[i]? = some j := ⟨PA[i]'(by rw [← HLPA.out]; exact hlt3), List.getElem?_eq_getElem _⟩
                            obtain ⟨j, rfl, hjn⟩ : ∃ j : Nat, jz = (j : Int) ∧ j < nX := HIXA.out jz (List.mem_of_getElem? hjz)
                            obtain ⟨y, hyj⟩ : ∃ y, xl[j]? = some y := ⟨xl[j]'(by rw [← HNX.out]; exact hjn), List.getElem?_eq_getElem _⟩
                            have HSN : Hid (at_ xl (PA.take (i + 1)) = at_ xl (PA.take i) ++ [y]) := by
                              simp only [Hid]
                              unfold at_
                              rw [List.take_add_one, hjz, List.map_append]
                              simp only [Option.toList, List.map_cons, List.map_nil, Int.toNat_natCast, List.getD_eq_getElem?_getD, hyj, Option.getD_some]
                            obtain ⟨bq, oq, hAPe, hbq, hcq⟩ := (HZP.out.later HI.out.2 (Nat.le_refl _)) (by have := HLPA.out; omega)
                            obtain ⟨bx, ox, hAXe, hbx, hcx⟩ := (HZX9.out.later HI.out.2 (Nat.le_refl _)) (by have := HNX.out; omega)
                            have d0 := hcq i _ hjz
                            have d1 := hcx j _ hyj
                            obtain ⟨w4, hw4⟩ : ∃ w4, w4 = wr.alloc (.cells #[.int .i64 y] 3) := ⟨_, rfl⟩
                            have hg4 : w4.heap[wr.heap.size]? = some (.cells #[.int .i64 y] 3 (0, 0)) := by rw [hw4]; exact heap_alloc_new wr _
                            have hb4 : Below wr.heap.size wr w4 := by rw [hw4]; exact (Below.refl _ _).alloc (Nat.le_refl _) _
                            have HO4 : Hid (w4.ownsRow w9.heap.size 3 1 (.slice B ml d9) ml (zv (at_ xl (PA.take i)))) := own_after HI.out.1 fun g hg => hb4.block g (own_lt HI.out.1 g hg).2
                            have HB4 : Hid (Below w9.heap.size w9 w4) := HI.out.2.trans (hb4.mono HI.out.2.size)
                            have HG4 := Lib.hid hg4
                            have H4 := Lib.hid hw4
                            have ht4 : Hid (∀ W : World, W = w4 → W.ownsRow w9.heap.size 3 1 (.slice B ml d9) ml (zv (at_ xl (PA.take i))) ∧ W.heap[wr.heap.size]? = some (.cells #[.int .i64 y] 3 (0, 0)) ∧ w9.heap.size ≤ W.heap.size) := fun W e => by rw [e]; exact ⟨HO4.out, HG4.out, HB4.out.size⟩
                            have q1 : (0 : Int) ≤ (j : Int) := by omega
                            clear hw4 hg4 hb4 hjz hyj hbq hcq hbx hcx
                            subst hAPe
                            subst hAXe
                            go_wp2_with (at_builtin; refine wpList_append_z rfl (.tmp 104) (.tmp 112) rfl w9.heap.size wr.heap.size (.slice B ml d9) ml (zv (at_ xl (PA.take i))) y rfl rfl (ht4.out _ H4.out.symm).1 (ht4.out _ H4.out.symm).2.1 (by omega) (ht4.out _ H4.out.symm).2.2 ?_; intro v5 w5 ho5 hg5; rw [← H4.out] at hg5; obtain ⟨B5, c5, rfl⟩ := own_form ho5; have HR5 : Hid (w5.ownsRow w9.heap.size 3 1 (.slice B5 (ml + 1) c5) (ml + 1) (zv (at_ xl (PA.take i)) ++ [.int .i64 y]) ∧ Below w9.heap.size w9 w5) := ⟨ho5, HB4.out.grown hg5 HB4.out.size (fun g h => (own_lt HO4.out g h).1)⟩; clear ho5 hg5)
                            go_roundw
                            case rel =>
                              have HFN : Hid (w5.ownsRow w9.heap.size 3 1 (.slice B5 (ml + 1) c5) (at_ xl (PA.take (i + 1))).length (zv (at_ xl (PA.take (i + 1)))) ∧ Below w9.heap.size w9 w5) := by
                                simp only [Hid]
                                rw [HSN.out, List.length_append, ← HML.out]
                                have h6 : ∀ l : List Int, zv (l ++ [y]) = zv l ++ [.int .i64 y] := fun l => by simp [zv]
                                rw [h6]
                                exact HR5.out
                              exact ⟨i + 1, by omega, by go_num, HFN.out⟩
                            case measure => simp [intOf] <;> omega
                          · have hkn : nPA = i := by omega
                            subst hkn
                            have HFa : Hid (Zs wr wr.heap.size B (at_ xl PA) ∧ ml = (at_ xl PA).length ∧ Below w9.heap.size w9 wr) := by
                              have h1 := Zs.of_own HI.out.1
                              have h2 := HML.out
                              rw [List.take_of_length_le (by rw [← HLPA.out]; exact Nat.le_refl _)] at h1 h2
                              exact ⟨h1, h2, HI.out.2⟩
                            clear HI hmb HML
                            obtain ⟨wA, rfl⟩ : ∃ wA, wA = wr := ⟨wr, rfl⟩
                            obtain ⟨BA, dA, mA, rfl, rfl, rfl⟩ : ∃ BA dA mA, BA = B ∧ dA = d9 ∧ mA = ml := ⟨B, d9, ml, rfl, rfl, rfl⟩
                            have HZQ := Lib.hid (HZQ0.out.later HFa.out.2.2 (Nat.le_refl _))
                            have HZXA := Lib.hid (HZX9.out.later HFa.out.2.2 (Nat.le_refl _))
                            go_wp2_with fail
                            go_loopw [11, 23] (fun o u wq => ∃ i : Nat, i ≤ nPB ∧ u = .int .i64 (i : Int) ∧ Hid (wq.ownsRow wA.heap.size 3 1 o (at_ xl (PB.take i)).length (zv (at_ xl (PB.take i))) ∧ Below wA.heap.size wA wq)) (fun _ u _ => nPB - (intOf u).toNat)
                            case atStart => exact ⟨0, by omega, rfl, World.ownsRow_nil wA _ 3 1, Below.refl _ _⟩
                            case round =>
                              obtain ⟨i, hi, rfl, HI⟩ := hrel
                              obtain ⟨B, d9, rfl⟩ := own_form HI.out.1
                              obtain ⟨ml, hml⟩ : ∃ ml, ml = (at_ xl (PB.take i)).length := ⟨_, rfl⟩
                              have hmb : ml ≤ 1000 := by rw [hml]; unfold at_; rw [List.length_map, List.length_take]; have := HPN.out; omega
                              rw [← hml] at HI ⊢
                              have HML := Lib.hid hml
                              clear hml
                              by_cases hlt3 : i < nPB
                              · obtain ⟨jz, hjz⟩ : ∃ j, PB[i]? = some j := ⟨PB[i]'(by rw [← HLPB.out]; exact hlt3), List.getElem?_eq_getElem _⟩
                                obtain ⟨j, rfl, hjn⟩ : ∃ j : Nat, jz = (j : Int) ∧ j < nX := HIXB.out jz (List.mem_of_getElem? hjz)
                                obtain ⟨y, hyj⟩ : ∃ y, xl[j]? = some y := ⟨xl[j]'(by rw [← HNX.out]; exact hjn), List.getElem?_eq_getElem _⟩
                                have HSN : Hid (at_ xl (PB.take (i + 1)) = at_ xl (PB.take i) ++ [y]) := by
                                  simp only [Hid]
                                  unfold at_
                                  rw [List.take_add_one, hjz, List.map_append]
                                  simp only [Option.toList, List.map_cons, List.map_nil, Int.toNat_natCast, List.getD_eq_getElem?_getD, hyj, Option.getD_some]
                                obtain ⟨bq, oq, hAPe, hbq, hcq⟩ := (HZQ.out.later HI.out.2 (Nat.le_refl _)) (by have := HLPB.out; omega)
                                obtain ⟨bx, ox, hAXe, hbx, hcx⟩ := (HZXA.out.later HI.out.2 (Nat.le_refl _)) (by have := HNX.out; omega)
                                have d0 := hcq i _ hjz
                                have d1 := hcx j _ hyj
                                obtain ⟨w4, hw4⟩ : ∃ w4, w4 = wr.alloc (.cells #[.int .i64 y] 3) := ⟨_, rfl⟩
                                have hg4 : w4.heap[wr.heap.size]? = some (.cells #[.int .i64 y] 3 (0, 0)) := by rw [hw4]; exact heap_alloc_new wr _
                                have hb4 : Below wr.heap.size wr w4 := by rw [hw4]; exact (Below.refl _ _).alloc (Nat.le_refl _) _
                                have HO4 : Hid (w4.ownsRow wA.heap.size 3 1 (.slice B ml d9) ml (zv (at_ xl (PB.take i)))) := own_after HI.out.1 fun g hg => hb4.block g (own_lt HI.out.1 g hg).2
                                have HB4 : Hid (Below wA.heap.size wA w4) := HI.out.2.trans (hb4.mono HI.out.2.size)
                                have HG4 := Lib.hid hg4
                                have H4 := Lib.hid hw4
                                have ht4 : Hid (∀ W : World, W = w4 → W.ownsRow wA.heap.size 3 1 (.slice B ml d9) ml (zv (at_ xl (PB.take i))) ∧ W.heap[wr.heap.size]? = some (.cells #[.int .i64 y] 3 (0, 0)) ∧ wA.heap.size ≤ W.heap.size) := fun W e => by rw [e]; exact ⟨HO4.out, HG4.out, HB4.out.size⟩
                                have q1 : (0 : Int) ≤ (j : Int) := by omega
                                clear hw4 hg4 hb4 hjz hyj hbq hcq hbx hcx
                                subst hAPe
                                subst hAXe
                                go_wp2_with (at_builtin; refine wpList_append_z rfl (.tmp 120) (.tmp 128) rfl wA.heap.size wr.heap.size (.slice B ml d9) ml (zv (at_ xl (PB.take i))) y rfl rfl (ht4.out _ H4.out.symm).1 (ht4.out _ H4.out.symm).2.1 (by omega) (ht4.out _ H4.out.symm).2.2 ?_; intro v5 w5 ho5 hg5; rw [← H4.out] at hg5; obtain ⟨B5, c5, rfl⟩ := own_form ho5; have HR5 : Hid (w5.ownsRow wA.heap.size 3 1 (.slice B5 (ml + 1) c5) (ml + 1) (zv (at_ xl (PB.take i)) ++ [.int .i64 y]) ∧ Below wA.heap.size wA w5) := ⟨ho5, HB4.out.grown hg5 HB4.out.size (fun g h => (own_lt HO4.out g h).1)⟩; clear ho5 hg5)
                                go_roundw
                                case rel =>
                                  have HFN : Hid (w5.ownsRow wA.heap.size 3 1 (.slice B5 (ml + 1) c5) (at_ xl (PB.take (i + 1))).length (zv (at_ xl (PB.take (i + 1)))) ∧ Below wA.heap.size wA w5) := by
                                    simp only [Hid]
                                    rw [HSN.out, List.length_append, ← HML.out]
                                    have h6 : ∀ l : List Int, zv (l ++ [y]) = zv l ++ [.int .i64 y] := fun l => by simp [zv]
                                    rw [h6]
                                    exact HR5.out
                                  exact ⟨i + 1, by omega, by go_num, HFN.out⟩
                                case measure => simp [intOf] <;> omega
                              · have hkn : nPB = i := by omega
                                subst hkn
                                have HFb : Hid (Zs wr wr.heap.size B (at_ xl PB) ∧ ml = (at_ xl PB).length ∧ Below wA.heap.size wA wr) := by
                                  have h1 := Zs.of_own HI.out.1
                                  have h2 := HML.out
                                  rw [List.take_of_length_le (by rw [← HLPB.out]; exact Nat.le_refl _)] at h1 h2
                                  exact ⟨h1, h2, HI.out.2⟩
                                clear HI hmb HML
                                go_wp2_with fail
                                go_roundw
                                case rel => exact ⟨mk + 1, some mk, AX, cX, BA, dA, B, d9, by go_num, by have := HL3.out; omega, by rw [HNX.out, HXL.out]; rfl, by rw [HFa.out.2.1, show gP m.k es (some mk) = partP m.k (mX mk es) from rfl, HXT.out]; rfl, by rw [HFb.out.2.1, show gP m.k es (some mk) = partP m.k (mX mk es) from rfl, HXT.out]; rfl, rfl, by have := HJ.out.1; omega, HTKE.out, by rw [show fP es (some mk) = xl from HXL.out.symm]; exact HZXA.out.later HFb.out.2.2 (Nat.le_refl _), by rw [show gP m.k es (some mk) = partP m.k (mX mk es) from rfl, HXT.out]; exact HFa.out.1.later HFb.out.2.2 (Nat.le_refl _), by rw [show gP m.k es (some mk) = partP m.k (mX mk es) from rfl, HXT.out]; exact HFb.out.1, HJ.out.2.2.2.2.2.trans ((HB9M.out.trans ((HFa.out.2.2.trans (HFb.out.2.2.mono HFa.out.2.2.size)).mono HB9M.out.size)).mono HJ.out.2.2.2.2.2.size)⟩
                                case measure => simp [intOf] <;> omega
        · have hb1 : (p1 != 2 * m.k) = true := by simp [hg1]
          have HSK : Hid (InvF m.k es (mk + 1) oM) := invF_skip HJ.out.2.1 (.inl fun h => hg1 (by rw [HP1.out]; exact (part_full h.2).1))
          clear hg1
          go_wp2
          go_roundw
          case rel => exact ⟨mk + 1, oM, Ap, cp, Aa, ca, Ab, cb, by go_num, by have := HL3.out; omega, by rw [HNP.out], by rw [HNA.out], by rw [HNB.out], rfl, by have := HJ.out.1; omega, HSK.out, HJ.out.2.2.1.later (HB3.out) (Nat.le_refl _), HJ.out.2.2.2.1.later (HB3.out) (Nat.le_refl _), HJ.out.2.2.2.2.1.later (HB3.out) (Nat.le_refl _), HJ.out.2.2.2.2.2.trans ((HB3.out).mono HJ.out.2.2.2.2.2.size)⟩
          case measure => simp [intOf] <;> omega
      · have HGEN : Hid (2 ^ n ≤ mk) := by
          have h := HWP.out.1
          rw [h] at hlt2
          simp only [Hid]
          omega
        have HOO : Hid (o = gP m.k es oM ∧ o.isSome = oM.isSome) := by
          have hinv : InvF m.k (entsP m now l) (2 ^ l.length) oM := by
            have h := HJ.out.2.1
            rw [← HES.out, ← HN.out]
            cases oM with
            | none => exact fun q h3 h4 => h q h3 (by have := HGEN.out; omega)
            | some m0 => exact ⟨h.1, fun q h3 h4 h5 => h.2 q h3 (by have := HGEN.out; omega) h5⟩
          have h1 := find_masks HMW.out (by have := HN.out; omega) hinv
          rw [← HO.out, ← HES.out] at h1
          refine ⟨h1, ?_⟩
          rw [h1]
          cases oM with
          | none => rfl
          | some m0 => exact HJ.out.2.1.1.2
        have HRES : Hid (TPost w o (.returned (.tuple #[.slice Aa ((gP m.k es oM).getD ([], [])).1.length ca, .slice Ab ((gP m.k es oM).getD ([], [])).2.length cb, .bool oM.isSome])) wr) := by
          refine ⟨⟨Aa, ca, Ab, cb, ?_, ?_, ?_⟩, HB0.out.trans ((HBV.out.trans (HJ.out.2.2.2.2.2.mono HBV.out.size)).mono HB0.out.size)⟩
          · rw [HOO.out.2, HOO.out.1]
          · rw [HOO.out.1]; exact HJ.out.2.2.2.1
          · rw [HOO.out.1]; exact HJ.out.2.2.2.2.1
        obtain ⟨na, hna⟩ : ∃ na, na = ((gP m.k es oM).getD ([], [])).1.length := ⟨_, rfl⟩
        obtain ⟨nb, hnb⟩ : ∃ nb, nb = ((gP m.k es oM).getD ([], [])).2.length := ⟨_, rfl⟩
        obtain ⟨iso, hiso⟩ : ∃ iso, iso = oM.isSome := ⟨_, rfl⟩
        rw [← hna, ← hnb, ← hiso] at HRES ⊢
        clear hna hnb hiso
        go_wp2
        exact bodyPost_ret (v := .tuple #[.slice Aa na ca, .slice Ab nb cb, .bool iso]) (by simp [results, Try.results21, go_sem]) rfl HRES.out
end Go.Proofs.Ytnloikdfbdpilaa
