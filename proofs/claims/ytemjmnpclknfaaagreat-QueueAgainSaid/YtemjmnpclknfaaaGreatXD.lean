/- Queue: QueueAgain's walk. -/
import Derived.Test.YtemjmnpclknfaaaGreatXC
import Derived.Test.YtemjmnpclknfaaaGreatM3
namespace Go.Proofs.YtemjmnpclknfaaaGreat.T
open Go.RowKit
open Go.Proofs.YtemjmnpclknfaaaGreat.P (Sl un)
set_option maxRecDepth 20000
set_option linter.unusedVariables false
set_option linter.unusedSimpArgs false

abbrev ml3 : List M5 := [(2, 0, 0, 0, 0), (4, 0, 0, 0, 0)]
theorem eM3 (m : Int) (h : 0 ≤ m ∧ m < ((ml3.length : Nat) : Int)) : (eM ml3 m).1 ≤ 4 := by
  have hh : m = 0 ∨ m = 1 := by have := h.2; simp at this; omega
  rcases hh with rfl | rfl <;> decide
def RtOk (L : List Tk) : Prop := ∀ e ∈ L, 0 ≤ e.rt ∧ e.rt ≤ 10000
theorem RtOk.next {ml : List M5} {L : List Tk} {t : Tk} (h : RtOk L) : RtOk (nextQ ml L t) := by
  unfold nextQ
  by_cases hz : errQ ml L t = 0
  · rw [if_pos hz]
    intro e he
    rcases (mem_insT (no_ids (errQ_ok hz).2.2.2.2.2.1)).1 he with rfl | he
    · exact (errQ_ok hz).2.2.2.2.1
    · exact h e he
  · rw [if_neg hz]
    exact h
/-- A ticket that was dropped may be put again. -/
theorem QI.again {ml : List M5} {L : List Tk} {e : Tk} (h : QI ml L) (he : e ∈ L) (hr : RtOk L) (hid : P.okN e.id) : errQ ml (delT L e.id) e = 0 := by
  have hsub : ∀ x, x ∈ delT L e.id → x ∈ L ∧ x.id ≠ e.id := fun x hx => by
    obtain ⟨a, b⟩ := List.mem_filter.1 hx
    exact ⟨a, by simpa using b⟩
  refine errQ_zero hid (h.ok e he) (h.md e he) (h.sz e he) (hr e he) ?_ ?_
  · rintro (hh | ⟨x, hx, hh⟩ | hh)
    · obtain ⟨x, hx, hxi⟩ := List.mem_map.1 hh
      exact (hsub x hx).2 hxi
    · refine hh fun z hz hze => ?_
      exact h.dis x (hsub x hx).1 e he (hsub x hx).2 z hz hze
    · exact hh (h.nd e he)
  · have h1 := h.cnt e.md
    have h2 : cntM (delT L e.id) e.md < cntM L e.md := by
      unfold cntM delT
      rw [List.filter_filter]
      have hmem : e ∈ L.filter fun x => decide (x.md = e.md) := List.mem_filter.2 ⟨he, by simp⟩
      have e1 : (L.filter fun x => decide (x.md = e.md) && decide (x.id ≠ e.id)) = (L.filter fun x => decide (x.md = e.md)).filter fun x => decide (x.id ≠ e.id) := by
        rw [List.filter_filter]
        exact List.filter_congr fun x _ => Bool.and_comm _ _
      rw [e1]
      have hs := List.filter_sublist (l := L.filter fun x => decide (x.md = e.md)) (p := fun x => decide (x.id ≠ e.id))
      refine Nat.lt_of_le_of_ne hs.length_le fun hh => ?_
      have := hs.eq_of_length hh
      rw [← this] at hmem
      have := (List.mem_filter.1 hmem).2
      simp at this
    omega
theorem QI.del {ml : List M5} {L : List Tk} (x : Nat) (h : QI ml L) : QI ml (delT L x) := by
  have hs : (delT L x).Sublist L := List.filter_sublist
  exact ⟨fun e he => h.md e (hs.subset he), fun e he => h.ok e (hs.subset he), fun e he => h.nd e (hs.subset he), fun e he => h.sz e (hs.subset he), fun e he e' he' => h.dis e (hs.subset he) e' (hs.subset he'), fun m => Nat.le_trans (hs.filter _).length_le (h.cnt m), h.ids.sublist (hs.map _)⟩
theorem sort_one {ml : List M5} {L LS LT : List Tk} (h : QI ml L) {m : Int} (h1 : LS.Perm (L.filter fun e => decide (e.md = m))) (h2 : LT.Perm (L.filter fun e => decide (e.md = m))) (s1 : LS.Pairwise leT) (s2 : LT.Pairwise leT) : LS = LT := by
  refine List.Perm.eq_of_pairwise (le := leT) (fun a b ha hb l1 l2 => ?_) s1 s2 (h1.trans h2.symm)
  have a1 := (List.mem_filter.1 (h1.mem_iff.1 ha)).1
  have b1 := (List.mem_filter.1 (h2.mem_iff.1 hb)).1
  unfold leT at l1 l2
  exact h.inj a1 b1 (by omega)
theorem Rt.kept {w w' : World} {g : Nat} {lf : List (Sl × Tk)} (h : Rt w g lf) (hk : w'.heap[g]? = w.heap[g]?) : Rt w' g lf := by
  obtain ⟨cur, h1, h2⟩ := h
  exact ⟨cur, hk.trans h1, h2⟩
theorem Bq.aside {W W' : World} {B R M : Nat} {mo : Int} {vi : Value} {ms : Sl} {L : List Tk} {cs : Array Value} (h : Bq W B R mo vi ms L) (ha : AvQ W R mo vi L M) (hM : W.heap[M]? = some (.cells cs 33 (0, 0))) (hk : ∀ k, k ≠ M → W'.heap[k]? = W.heap[k]?) : Bq W' B R mo vi ms L := by
  obtain ⟨⟨cur, b1, b2, b3⟩, _⟩ := h
  obtain ⟨h0, vt, ths, h1, h2⟩ := ha
  have ne : ∀ {k T : Nat} {c : Array Value}, W.heap[k]? = some (.cells c T (0, 0)) → T ≠ 33 → k ≠ M := fun hc hT e => by
    rw [e, hM] at hc
    injection hc with hc
    injection hc with _ hc
    exact hT hc.symm
  refine ⟨⟨cur, (hk B (ne b1 (by decide))).trans b1, b2, b3⟩, vt, ths, ⟨(hk R (ne h1.row (by decide))).trans h1.row, own_after h1.rio fun g hg => hk g fun e => h0 (by rw [hg, e]), own_after h1.rto fun g hg => hk g ?_, h1.len, h1.up, h1.ok⟩, fun i p hp => ?_⟩
  · obtain ⟨c, hc⟩ := own_type h1.rto hg
    exact ne hc (by decide)
  · obtain ⟨s, e1, e2, e3⟩ := h2 i p hp
    refine ⟨s, e1, e2.1, fun hl => ?_⟩
    obtain ⟨b, o, c1, c2, c3, ⟨cb, c4⟩, c5⟩ := e2.2 hl
    have hb := hk b (e3 hl b o c1)
    exact ⟨b, o, c1, c2, c3, ⟨cb, hb.trans c4⟩, fun j x hj => (World.cell?_of_block hb).trans (c5 j x hj)⟩
theorem fl_av {W W' : World} {R M : Nat} {vi : Value} {s : Sl} {l : List Nat} (h : P.Fl W R vi s l) (ha : 0 < l.length → ∀ b o, s.a = some ⟨b, o, none⟩ → b ≠ M) (hk : ∀ k, k ≠ M → W'.heap[k]? = W.heap[k]?) : P.Fl W' R vi s l := ⟨h.1, fun hl => by
  obtain ⟨b, o, c1, c2, c3, ⟨cb, c4⟩, c5⟩ := h.2 hl
  have hb := hk b (ha hl b o c1)
  exact ⟨b, o, c1, c2, c3, ⟨cb, hb.trans c4⟩, fun j x hj => (World.cell?_of_block hb).trans (c5 j x hj)⟩⟩
set_option maxHeartbeats 32000000 in
theorem again_all (p : Option Addr × Nat) (l : List Tc) (y : Nat) (w : World) (hs : Ts w w.heap.size p.1 l) (hl : l.length ≤ 9223372036854775807) (hb : ∀ e ∈ l, Rk w e) :
    Calls Tryz.prog 4 #[.slice p.1 l.length p.2, .int .u32 (y : Int)] w fun e w' => e = .returned (.bool true) ∧ Below w.heap.size w w' := by
  obtain ⟨A, c⟩ := p
  show Calls Tryz.prog 4 #[.slice A l.length c, .int .u32 (y : Int)] w _
  obtain ⟨n, hn⟩ : ∃ n, n = l.length := ⟨_, rfl⟩
  have HS : Hid (Ts w w.heap.size A l) := hs
  have HBK := Lib.hid hb
  have HN := Lib.hid hn
  rw [← hn] at hl ⊢
  clear hs hb hn
  by_cases h60 : 30 < n
  · have h60i : decide ((30 : Int) < (n : Int)) = true := decide_eq_true (by omega)
    have h60n : decide (30 < n) = true := decide_eq_true h60
    clear h60
    go_enter Tryz.func4, Tryz.ntmps4
    go_wp2
    go_ret
    exact ⟨by first | rfl | simp, Below.refl _ _⟩
  have h60i : decide ((30 : Int) < (n : Int)) = false := decide_eq_false (by omega)
  have h60n : decide (30 < n) = false := decide_eq_false h60
  have hn60 : n ≤ 30 := by omega
  obtain ⟨H0, hH0⟩ : ∃ k, k = w.heap.size := ⟨_, rfl⟩
  obtain ⟨w1, hw1⟩ : ∃ W, W = w.alloc (.cells #[.int .i64 2, .int .i64 0, .int .i64 0, .int .i64 0, .int .i64 0, .int .i64 4, .int .i64 0, .int .i64 0, .int .i64 0, .int .i64 0] 58) := ⟨_, rfl⟩
  have hb1 : Below w.heap.size w w1 := by rw [hw1]; exact (Below.refl _ _).alloc (Nat.le_refl _) _
  have hq1 : w1.heap[H0]? = some (.cells #[.int .i64 2, .int .i64 0, .int .i64 0, .int .i64 0, .int .i64 0, .int .i64 4, .int .i64 0, .int .i64 0, .int .i64 0, .int .i64 0] 58 (0, 0)) := by rw [hw1, hH0]; exact heap_alloc_new w _
  have hR1 : Rm w1 (some ⟨H0, 0, none⟩) ml3 := fun _ => ⟨H0, 0, rfl, ⟨_, hq1⟩, fun j v hj => by
    rw [cell_of_row w1 H0 _ _ _ _ hq1, Nat.zero_add, ← hj]
    simp [m5]⟩
  have HUS := Lib.hid (usual_any (some ⟨H0, 0, none⟩) 2 2 ml3 w1 rfl hR1 (by decide))
  have HB1 := Lib.hid hb1
  have H1 := Lib.hid hw1
  have HH0 := Lib.hid hH0
  clear hw1 hb1 hq1 hR1 hH0 h60 hl
  go_enter Tryz.func4, Tryz.ntmps4
  go_wp2_with fail
  rw [← H1.out, ← HH0.out]
  refine HUS.out.mono ?_
  rintro r w2 ⟨cs, A2, c2, rfl, hcs, hR2, hb2⟩
  have HNW := Lib.hid (qs_new cs A2 2 c2 ml3 w w2 (HB1.out.trans (hb2.mono HB1.out.size)) hcs rfl hR2 (by decide))
  clear hcs hR2 hb2 HUS
  go_wp2_with fail
  refine HNW.out.mono ?_
  rintro r w3 ⟨B, R, ms, rfl, hqs0⟩
  have HS0 : Hid ((Qs w w3 B R (16 * ((2 : Nat) : Int)) ms ml3 [] ∧ QI ml3 []) ∧ RtOk []) := ⟨⟨hqs0, QI.nil _⟩, fun e he => by simp at he⟩
  clear hqs0 HNW h60i h60n
  go_wp2_with fail
  go_loopw [6] (fun u wr => ∃ (k : Nat) (L : List Tk), k ≤ n ∧ u = .int .i64 (k : Int) ∧ Hid ((Qs w wr B R (16 * ((2 : Nat) : Int)) ms ml3 L ∧ QI ml3 L) ∧ RtOk L)) (fun u _ => n - (intOf u).toNat)
  case atStart => exact ⟨0, [], by omega, rfl, HS0.out⟩
  case round =>
    rename World => wl
    obtain ⟨k, L, hk, rfl, HVR⟩ := hrel
    have HV := Lib.hid HVR.out.1
    have HRO := Lib.hid HVR.out.2
    by_cases hlt : k < n
    · obtain ⟨e, he⟩ : ∃ e, l[k]? = some e := ⟨l[k]'(by rw [← HN.out]; exact hlt), List.getElem?_eq_getElem _⟩
      obtain ⟨b, o, rfl, hb, hcc⟩ := HS.out (by rw [← HN.out]; omega)
      have hbw := HV.out.1.2.2.2.1
      obtain ⟨a0, a1, a2, a3, a4⟩ := hcc k e he
      have d0 := (hbw.cell (p := ⟨b, _, none⟩) hb).trans a0
      have d1 := (hbw.cell (p := ⟨b, _, none⟩) hb).trans a1
      have d2 := (hbw.cell (p := ⟨b, _, none⟩) hb).trans a2
      have d3 := (hbw.cell (p := ⟨b, _, none⟩) hb).trans a3
      have d4 := (hbw.cell (p := ⟨b, _, none⟩) hb).trans a4
      have HRK : Hid (P.Rn wl e.a e.t.mem) := (HBK.out e (List.mem_of_getElem? he)).1.after hbw
      obtain ⟨q, hq⟩ : ∃ q, q = e.t.mem.length := ⟨_, rfl⟩
      have HQ := Lib.hid hq
      have HBW := Lib.hid hbw
      rw [← hq] at d2
      clear a0 a1 a2 a3 a4 hbw hcc hb he hq
      by_cases h8 : 8 < q
      · have h8i : decide ((8 : Int) < (q : Int)) = true := decide_eq_true (by omega)
        have h8n : decide (8 < q) = true := decide_eq_true h8
        clear h8
        go_wp2
        go_ret
        exact ⟨by first | rfl | simp, HBW.out⟩
      · have h8i : decide ((8 : Int) < (q : Int)) = false := decide_eq_false (by omega)
        have h8n : decide (8 < q) = false := decide_eq_false h8
        have HQ8 : Hid (q ≤ 8) := by simp only [Hid]; omega
        have HLO := Lib.hid (lown_any e.t ⟨e.a, q, e.c⟩ wl HQ.out HRK.out (by have := HQ.out; omega))
        clear h8
        go_wp2_with fail
        refine HLO.out.mono ?_
        rintro r w5 ⟨A5, c5, rfl, ho, hb5⟩
        have HPT := Lib.hid (qs_put (HV.out.1.after hb5) HV.out.2 rfl (by decide) e.t ⟨A5, q, c5⟩ HQ.out (P.Rn.of_own ho).2 (by have := HQ.out; have := HQ8.out; omega))
        clear ho hb5 d0 d1 d2 d3 d4 h8i h8n
        go_wp2_with fail
        refine HPT.out.mono ?_
        rintro r w6 ⟨rfl, hqs, hqi⟩
        have HV6 : Hid ((Qs w w6 B R (16 * ((2 : Nat) : Int)) ms ml3 (nextQ ml3 L e.t) ∧ QI ml3 (nextQ ml3 L e.t)) ∧ RtOk (nextQ ml3 L e.t)) := ⟨⟨hqs, hqi⟩, HRO.out.next⟩
        clear hqs hqi
        go_wp2_with fail
        go_roundw
        case rel => exact ⟨k + 1, nextQ ml3 L e.t, by omega, by go_num, HV6.out⟩
        case measure => simp [intOf] <;> omega
    · have hkn : k = n := by omega
      subst hkn
      obtain ⟨⟨vi, hbq⟩, hrm, hmsn, hbw, hRw, hm8⟩ := HV.out.1
      have HBQ := Lib.hid hbq
      have HRM := Lib.hid hrm
      have HMS := Lib.hid hmsn
      have HBW := Lib.hid hbw
      have HRW := Lib.hid hRw
      have HM8 := Lib.hid hm8
      have HQI := Lib.hid HV.out.2
      have HLL : Hid (L.length ≤ 32) := by have := HQI.out.len; simpa [Hid] using this
      clear hbq hrm hmsn hbw hRw hm8 hlt
      by_cases hin : y ∉ L.map (·.id)
      · have HG := Lib.hid (qget_none B R _ vi ms L y wl HBQ.out (by have := HLL.out; omega) hin)
        clear hin
        go_wp2_with fail
        refine HG.out.mono ?_
        rintro r w4 ⟨rfl, hb4⟩
        obtain ⟨G7, hG7⟩ : ∃ k, k = w4.heap.size := ⟨_, rfl⟩
        obtain ⟨w5, hw5⟩ : ∃ W, W = w4.alloc (.cells #[.int .u32 0, .int .i64 0, .slice none 0 0, .int .i64 0, .int .i64 0] 39) := ⟨_, rfl⟩
        have hq5 : w5.heap[G7]? = some (.cells #[.int .u32 0, .int .i64 0, .slice none 0 0, .int .i64 0, .int .i64 0] 39 (0, 0)) := by rw [hw5, hG7]; exact heap_alloc_new w4 _
        have hb5 : Below w4.heap.size w4 w5 := by rw [hw5]; exact (Below.refl _ _).alloc (Nat.le_refl _) _
        have HB5 : Hid (Below w.heap.size w w5) := HBW.out.trans ((hb4.trans (hb5.mono hb4.size)).mono HBW.out.size)
        have z0 := cell_of_row w5 G7 0 _ _ _ hq5
        simp at z0
        have H5 := Lib.hid hw5
        have HG7 := Lib.hid hG7
        have HAW := Lib.hid (qawake w5)
        clear hb4 hq5 hb5 hw5 hG7
        go_upto_region 11 with (fail)
        rw [← H5.out, ← HG7.out]
        go_wp2_with fail
        refine HAW.out.mono ?_
        rintro r w6 ⟨rfl, hb6⟩
        have HB6 : Hid (Below w.heap.size w w6) := HB5.out.trans (hb6.mono HB5.out.size)
        clear hb6
        go_wp2
        go_ret
        exact ⟨by first | rfl | simp, HB6.out⟩
      obtain ⟨e, heL, hid⟩ := List.mem_map.1 (Classical.not_not.1 hin)
      subst hid
      have HEL := Lib.hid heL
      clear hin heL
      obtain ⟨q, hq⟩ : ∃ q, q = e.mem.length := ⟨_, rfl⟩
      have HQ := Lib.hid hq
      have HQ4 : Hid (0 < q ∧ q ≤ 4) := by
        have h1 := HQI.out.sz e HEL.out
        have h2 := eM3 e.md (HQI.out.md e HEL.out)
        simp only [Hid]
        omega
      have HG := Lib.hid (qget_there B R _ vi ms L e wl HBQ.out (by have := HLL.out; omega) HEL.out (by have := HQ4.out; omega))
      go_wp2_with fail
      refine HG.out.mono ?_
      rintro r w2 ⟨A1, c1, rfl, ho1, hb2⟩
      rw [← hq] at ho1 ⊢
      obtain ⟨bt, rfl, hbt, curt, hqt, hct⟩ : ∃ bt, A1 = some ⟨bt, 0, none⟩ ∧ wl.heap.size ≤ bt ∧ ∃ cur, w2.heap[bt]? = some (.cells cur 33 (0, 0)) ∧ q ≤ cur.size := by
        rcases ho1.2 with ⟨_, h0⟩ | ⟨g, cap, cur, e1, hg, hh, hnc, _, hcs, _⟩
        · have := HQ4.out; omega
        · injection e1 with e1 _ _
          exact ⟨g, e1, hg, cur, hh, by omega⟩
      obtain ⟨G7, hG7⟩ : ∃ k, k = w2.heap.size := ⟨_, rfl⟩
      obtain ⟨w3, hw3⟩ : ∃ W, W = w2.alloc (.cells (mC e.id e.md ⟨some ⟨bt, 0, none⟩, q, c1⟩ e.rt e.sn) 39) := ⟨_, rfl⟩
      have hq3 : w3.heap[G7]? = some (.cells (mC e.id e.md ⟨some ⟨bt, 0, none⟩, q, c1⟩ e.rt e.sn) 39 (0, 0)) := by rw [hw3, hG7]; exact heap_alloc_new w2 _
      have hb3 : Below w2.heap.size w2 w3 := by rw [hw3]; exact (Below.refl _ _).alloc (Nat.le_refl _) _
      have HL3 : Hid (Below wl.heap.size wl w3) := hb2.trans (hb3.mono hb2.size)
      have HT3 : Hid (w3.heap[bt]? = some (.cells curt 33 (0, 0))) := (hb3.block bt (lt_of_block hqt)).trans hqt
      have HG3 := Lib.hid hq3
      have HG7S : Hid (wl.heap.size ≤ G7 ∧ wl.heap.size ≤ bt) := ⟨by rw [hG7]; exact hb2.size, hbt⟩
      have HCT := Lib.hid hct
      have z0 := cell_of_row w3 G7 0 _ _ _ hq3
      have z1 := cell_of_row w3 G7 1 _ _ _ hq3
      have z2 := cell_of_row w3 G7 2 _ _ _ hq3
      have z3 := cell_of_row w3 G7 3 _ _ _ hq3
      have z4 := cell_of_row w3 G7 4 _ _ _ hq3
      simp at z0 z1 z2 z3 z4
      have H3 := Lib.hid hw3
      have HG7 := Lib.hid hG7
      have HMD := Lib.hid (qmode_any B R _ vi ms L e.md w3 (HBQ.out.after HL3.out) (by have := HLL.out; omega) (fun e he => by have := HM8.out e he; omega))
      clear hq ho1 hb2 hbt hqt hct hw3 hq3 hb3 hG7
      go_upto_region 11 with (fail)
      rw [← H3.out, ← HG7.out]
      go_wp2_with fail
      refine HMD.out.mono ?_
      rintro r w4 ⟨A9, n9, c9, lf9, rfl, hn9, hp9, hs9, hf9, hr9, hb4⟩
      have HL4 : Hid (Below wl.heap.size wl w4) := HL3.out.trans (hb4.mono HL3.out.size)
      have HLF9 : Hid (n9 = lf9.length ∧ (lf9.map (·.2)).Perm (L.filter fun x => decide (x.md = e.md)) ∧ (lf9.map (·.2)).Pairwise leT) := ⟨hn9, hp9, hs9⟩
      have HF9 := Lib.hid hf9
      have HR9 : Hid (0 < n9 → ∃ g, A9 = some ⟨g, 0, none⟩ ∧ wl.heap.size ≤ g ∧ Rt w4 g lf9) := fun h0 => by
        obtain ⟨g, e1, e2, e3⟩ := hr9 h0
        exact ⟨g, e1, Nat.le_trans HL3.out.size e2, e3⟩
      have HT4 : Hid (w4.heap[bt]? = some (.cells curt 33 (0, 0))) := (hb4.block bt (lt_of_block HT3.out)).trans HT3.out
      have HG4 : Hid (w4.heap[G7]? = some (.cells (mC e.id e.md ⟨some ⟨bt, 0, none⟩, q, c1⟩ e.rt e.sn) 39 (0, 0))) := (hb4.block G7 (lt_of_block HG3.out)).trans HG3.out
      have HDR := Lib.hid (qdrop_there B R _ vi ms L e w4 (HBQ.out.after HL4.out) (by have := HLL.out; omega) HEL.out)
      clear hn9 hp9 hs9 hf9 hr9 hb4 z0 z1 z2 z3 z4 HMD
      go_wp2_with fail
      refine HDR.out.mono ?_
      rintro r w5 ⟨sx, v5, rfl, fx5, hq5, hst5, hkp5⟩
      have HX5 := Lib.hid fx5
      have HQ5 := Lib.hid hq5
      have HST5 := Lib.hid hst5
      have HKP5 := Lib.hid hkp5
      have HAT4 : Hid (∀ M, wl.heap.size ≤ M → AvT w4 R (16 * ((2 : Nat) : Int)) vi L M) := fun M hM => AvT.of HBQ.out HL4.out hM
      have HAQ4 : Hid (AvQ w4 R (16 * ((2 : Nat) : Int)) vi L bt) := AvQ.of HBQ.out HL4.out HG7S.out.2
      have HG5 : Hid (w5.heap[G7]? = some (.cells (mC e.id e.md ⟨some ⟨bt, 0, none⟩, q, c1⟩ e.rt e.sn) 39 (0, 0))) := ((HKP5.out G7 (lt_of_block HG4.out)).2 (HAT4.out G7 HG7S.out.1)).1.trans HG4.out
      have HT5 : Hid (w5.heap[bt]? = some (.cells curt 33 (0, 0))) := (HST5.out.keep bt curt 33 HT4.out (by decide) (by decide) (fun _ => HAQ4.out.1)).trans HT4.out
      have HAQ5 := Lib.hid ((HKP5.out bt (lt_of_block HT4.out)).1 HAQ4.out)
      have HR95 : Hid (0 < n9 → ∃ g, A9 = some ⟨g, 0, none⟩ ∧ wl.heap.size ≤ g ∧ g < w4.heap.size ∧ Rt w5 g lf9 ∧ AvT w5 R (16 * ((2 : Nat) : Int)) v5 (delT L e.id) g) := fun h0 => by
        obtain ⟨g, e1, e2, e3⟩ := HR9.out h0
        have hg := e3.lt
        have hk := (HKP5.out g hg).2 (HAT4.out g e2)
        exact ⟨g, e1, e2, hg, e3.kept hk.1, hk.2⟩
      have HF95 : Hid (∀ x ∈ lf9, P.Fl w5 R v5 x.1 x.2.mem) := fun x hx => fl_stp (HF9.out x hx) HST5.out
      have HATG : Hid (AvT w5 R (16 * ((2 : Nat) : Int)) v5 (delT L e.id) G7) := ((HKP5.out G7 (lt_of_block HG4.out)).2 (HAT4.out G7 HG7S.out.1)).2
      have HB5 : Hid (Below w.heap.size w w5) := (HBW.out.trans (HL4.out.mono HBW.out.size)).trans (HST5.out.below.mono HRW.out)
      obtain ⟨sxa, sxn, sxc⟩ := sx
      have hsn : sxn = q := by rw [HQ.out]; exact HX5.out.1
      subst hsn
      obtain ⟨G10, hG10⟩ : ∃ k, k = w5.heap.size := ⟨_, rfl⟩
      obtain ⟨w6, hw6⟩ : ∃ W, W = w5.alloc (.cells (mC e.id e.md ⟨sxa, sxn, sxc⟩ e.rt e.sn) 39) := ⟨_, rfl⟩
      have hq6 : w6.heap[G10]? = some (.cells (mC e.id e.md ⟨sxa, sxn, sxc⟩ e.rt e.sn) 39 (0, 0)) := by rw [hw6, hG10]; exact heap_alloc_new w5 _
      have hb6 : Below w5.heap.size w5 w6 := by rw [hw6]; exact (Below.refl _ _).alloc (Nat.le_refl _) _
      have HB56 := Lib.hid hb6
      have HQ6 := Lib.hid hq6
      have HG10S : Hid (w5.heap.size ≤ G10) := by rw [hG10]; exact Nat.le_refl _
      have H6 := Lib.hid hw6
      have HG10 := Lib.hid hG10
      have HGN := Lib.hid (qget_none B R _ v5 ms (delT L e.id) e.id w6 (HQ5.out.after hb6) (by
        have : (delT L e.id).length ≤ L.length := List.length_filter_le _ _
        have := HLL.out
        omega) (fun hh => by
        obtain ⟨x, hx, hxi⟩ := List.mem_map.1 hh
        have := (List.mem_filter.1 hx).2
        simp at this
        exact this hxi))
      clear fx5 hq5 hst5 hkp5 hw6 hq6 hb6 hG10 HDR
      go_upto_region 15 with (fail)
      rw [← H6.out, ← HG10.out]
      go_wp2_with fail
      refine HGN.out.mono ?_
      rintro r w7 ⟨rfl, hb7⟩
      obtain ⟨w8, hw8⟩ : ∃ W, W = w7.alloc (.cells #[.int .u32 0, .int .i64 0, .slice none 0 0, .int .i64 0, .int .i64 0] 39) := ⟨_, rfl⟩
      have hb8 : Below w7.heap.size w7 w8 := by rw [hw8]; exact (Below.refl _ _).alloc (Nat.le_refl _) _
      have HB68 : Hid (Below w6.heap.size w6 w8) := hb7.trans (hb8.mono hb7.size)
      have HB58 : Hid (Below w5.heap.size w5 w8) := HB56.out.trans (HB68.out.mono HB56.out.size)
      have H8 := Lib.hid hw8
      have HX8 := Lib.hid (HX5.out.after HB58.out)
      have hg10 := (HB68.out.block G10 (lt_of_block HQ6.out)).trans HQ6.out
      have y0 := cell_of_row w8 G10 0 _ _ _ hg10
      have y1 := cell_of_row w8 G10 1 _ _ _ hg10
      have y2 := cell_of_row w8 G10 2 _ _ _ hg10
      have y3 := cell_of_row w8 G10 3 _ _ _ hg10
      have y4 := cell_of_row w8 G10 4 _ _ _ hg10
      simp at y0 y1 y2 y3 y4
      have HG108 := Lib.hid hg10
      have HPT := Lib.hid (qput_any B R _ v5 ms ml3 (delT L e.id) e ⟨sxa, sxn, sxc⟩ w8 (HQ5.out.after HB58.out) HMS.out (by have := HMS.out; simp at this; omega) (((HRM.out.after HL4.out).stp HST5.out).after HB58.out) (by
        have : (delT L e.id).length ≤ L.length := List.length_filter_le _ _
        have := HLL.out
        omega) (fun x hx => by have := HM8.out x (List.mem_filter.1 hx).1; omega) HQ.out HX8.out.rn (by have := HQ.out; have := HQ4.out; omega) (fun b0 b1 b2 => (HQI.out.del e.id).room (by decide) _ b0 b1 b2))
      have HZ : Hid (errQ ml3 (delT L e.id) e = 0) := HQI.out.again HEL.out HRO.out (HBQ.out.okid e HEL.out)
      have HIN : Hid (insT (delT L e.id) e = L) := by
        obtain ⟨j, hj⟩ := List.mem_iff_getElem?.1 HEL.out
        exact ins_delT HBQ.out.ris hj
      clear hb7 hw8 hb8 hg10 HGN
      go_upto_region 16 with (fail)
      rw [← H8.out]
      go_wp2_with fail
      refine HPT.out.mono ?_
      rintro r w9 ⟨he9, v9, hq9, hst9, hkp9⟩
      rw [HZ.out] at he9
      subst he9
      rw [if_pos HZ.out, HIN.out] at hq9 hkp9
      have HQ9 := Lib.hid hq9
      have HAT8 : Hid (AvT w8 R (16 * ((2 : Nat) : Int)) v5 (delT L e.id) G7 ∧ AvT w8 R (16 * ((2 : Nat) : Int)) v5 (delT L e.id) G10) := ⟨HATG.out.after HB58.out, AvT.of HQ5.out HB58.out HG10S.out⟩
      have HG9 : Hid (w9.heap[G7]? = some (.cells (mC e.id e.md ⟨some ⟨bt, 0, none⟩, sxn, c1⟩ e.rt e.sn) 39 (0, 0))) := by
        have h8 := (HB58.out.block G7 (lt_of_block HG5.out)).trans HG5.out
        exact ((hkp9 G7 (lt_of_block h8)).2 HAT8.out.1).trans h8
      have HG109 : Hid (w9.heap[G10]? = some (.cells (mC e.id e.md ⟨sxa, sxn, sxc⟩ e.rt e.sn) 39 (0, 0))) := ((hkp9 G10 (lt_of_block HG108.out)).2 HAT8.out.2).trans HG108.out
      have HT8 : Hid (w8.heap[bt]? = some (.cells curt 33 (0, 0))) := (HB58.out.block bt (lt_of_block HT5.out)).trans HT5.out
      have HAQ8 := Lib.hid (HAQ5.out.1.after HB58.out)
      have HT9 : Hid (w9.heap[bt]? = some (.cells curt 33 (0, 0))) := (hst9.keep bt curt 33 HT8.out (by decide) (by decide) (fun _ => HAQ8.out.1)).trans HT8.out
      have HAQ9 : Hid (AvQ w9 R (16 * ((2 : Nat) : Int)) v9 L bt) := (hkp9 bt (lt_of_block HT8.out)).1 HAQ8.out
      have HX9 : Hid (P.Fl w9 R v9 ⟨sxa, sxn, sxc⟩ e.mem) := fl_stp HX8.out hst9
      have HF99 : Hid (∀ x ∈ lf9, P.Fl w9 R v9 x.1 x.2.mem) := fun x hx => fl_stp ((HF95.out x hx).after HB58.out) hst9
      have HR99 : Hid (0 < n9 → ∃ g, A9 = some ⟨g, 0, none⟩ ∧ Rt w9 g lf9) := fun h0 => by
        obtain ⟨g, e1, e2, e3, e4, e5⟩ := HR95.out h0
        have h8 := e4.after HB58.out
        exact ⟨g, e1, h8.kept ((hkp9 g h8.lt).2 (e5.after HB58.out))⟩
      have HB9 : Hid (Below w.heap.size w w9) := (HB5.out.trans (HB58.out.mono HB5.out.size)).trans (hst9.below.mono HRW.out)
      have hg9 := HG9.out
      have z0 := cell_of_row w9 G7 0 _ _ _ hg9
      have z1 := cell_of_row w9 G7 1 _ _ _ hg9
      have z2 := cell_of_row w9 G7 2 _ _ _ hg9
      have z3 := cell_of_row w9 G7 3 _ _ _ hg9
      have z4 := cell_of_row w9 G7 4 _ _ _ hg9
      simp at z0 z1 z2 z3 z4
      have HMD9 := Lib.hid (qmode_any B R _ v9 ms L e.md w9 HQ9.out (by have := HLL.out; omega) (fun e he => by have := HM8.out e he; omega))
      clear hq9 hst9 hkp9 hg9 y0 y1 y2 y3 y4 HPT
      go_wp2_with fail
      refine HMD9.out.mono ?_
      rintro r wm ⟨A15, n15, c15, lf15, rfl, hn15, hp15, hs15, hf15, hr15, hbm⟩
      have HBM := Lib.hid hbm
      have HLE : Hid (lf9.map (·.2) = lf15.map (·.2)) := sort_one HQI.out HLF9.out.2.1 hp15 HLF9.out.2.2 hs15
      have hnn : n15 = n9 := by
        have := congrArg List.length HLE.out
        rw [List.length_map, List.length_map] at this
        rw [hn15, HLF9.out.1, this]
      subst hnn
      have hn16 : n15 ≤ 32 := by
        have h1 := hp15.length_eq
        rw [List.length_map] at h1
        have h2 : (L.filter fun x => decide (x.md = e.md)).length ≤ L.length := List.length_filter_le _ _
        have := HLL.out
        omega
      have HF15 := Lib.hid hf15
      have HR15 : Hid (0 < n15 → ∃ g, A15 = some ⟨g, 0, none⟩ ∧ Rt wm g lf15) := fun h0 => by obtain ⟨g, e1, _, e3⟩ := hr15 h0; exact ⟨g, e1, e3⟩
      have HRM9 : Hid (0 < n15 → ∃ g, A9 = some ⟨g, 0, none⟩ ∧ Rt wm g lf9) := fun h0 => by obtain ⟨g, e1, e3⟩ := HR99.out h0; exact ⟨g, e1, e3.after HBM.out⟩
      have HFM9 : Hid (∀ x ∈ lf9, P.Fl wm R v9 x.1 x.2.mem) := fun x hx => (HF99.out x hx).after HBM.out
      have HN9 : Hid (n15 = lf9.length) := HLF9.out.1
      have HME : Hid (∀ x ∈ lf9, x.2.mem.length ≤ 8) := fun x hx => HM8.out x.2 (List.mem_filter.1 (HLF9.out.2.1.mem_iff.1 (List.mem_map.2 ⟨x, hx, rfl⟩))).1
      have HBRM : Hid (Below wm.heap.size wm wm) := Below.refl _ _
      clear hn15 hp15 hs15 hf15 hr15 hbm z0 z1 z2 z3 z4 HMD9
      go_wp2_with fail
      go_loopw [16] (fun u wr => ∃ i : Nat, i ≤ n15 ∧ u = .int .i64 (i : Int) ∧ Hid (Below wm.heap.size wm wr)) (fun u _ => n15 - (intOf u).toNat)
      case atStart => exact ⟨0, by omega, rfl, HBRM.out⟩
      case round =>
        rename World => wr0
        obtain ⟨i, hi, rfl, HVM⟩ := hrel
        by_cases hlt : i < n15
        · obtain ⟨g9, rfl, hr9⟩ := HRM9.out (by omega)
          obtain ⟨g15, rfl, hr15⟩ := HR15.out (by omega)
          obtain ⟨⟨⟨a1, fn, c1'⟩, ft⟩, hf1⟩ : ∃ e, lf9[i]? = some e := ⟨lf9[i]'(by rw [← HN9.out]; exact hlt), List.getElem?_eq_getElem _⟩
          obtain ⟨⟨⟨a2, fn2, c2'⟩, ft2⟩, hf2⟩ : ∃ e, lf15[i]? = some e := ⟨lf15[i]'(by have := congrArg List.length HLE.out; rw [List.length_map, List.length_map, ← HN9.out] at this; omega), List.getElem?_eq_getElem _⟩
          have hft : ft2 = ft := by
            have h1 : (lf9.map (·.2))[i]? = some ft := by rw [List.getElem?_map, hf1]; rfl
            have h2 : (lf15.map (·.2))[i]? = some ft2 := by rw [List.getElem?_map, hf2]; rfl
            rw [HLE.out, h2] at h1
            exact Option.some.inj h1
          subst hft
          have f1 := HFM9.out _ (List.mem_of_getElem? hf1)
          have f2 := HF15.out _ (List.mem_of_getElem? hf2)
          have hfn : fn = ft2.mem.length := f1.1
          have hfn2 : fn2 = fn := by rw [hfn]; exact f2.1
          subst hfn2
          have hm8 := HME.out _ (List.mem_of_getElem? hf1)
          have HSS : Hid (∀ W, Below wr0.heap.size wr0 W → (fun W : World => W.cell? ⟨g9, i * 5, none⟩ = some (.int .u32 (ft2.id : Int)) ∧ W.cell? ⟨g9, i * 5 + 2, none⟩ = some (.slice a1 fn2 c1') ∧ W.cell? ⟨g15, i * 5, none⟩ = some (.int .u32 (ft2.id : Int)) ∧ W.cell? ⟨g15, i * 5 + 2, none⟩ = some (.slice a2 fn2 c2')) W) := fun W hW => by
            have hb := HVM.out.trans (hW.mono HVM.out.size)
            obtain ⟨u0, _, u2, _, _⟩ := (hr9.after hb).cells hf1
            obtain ⟨v0, _, v2, _, _⟩ := (hr15.after hb).cells hf2
            exact ⟨u0, u2, v0, v2⟩
          have HSA : Hid (∀ W, Below wr0.heap.size wr0 W → Calls Tryz.prog 21 #[.slice a1 fn2 c1', .slice a2 fn2 c2'] W fun r w' => r = .returned (.bool true) ∧ Below W.heap.size W w') := fun W hW => by
            have hb := HVM.out.trans (hW.mono HVM.out.size)
            exact same_rn a1 a2 fn2 c1' c2' ft2.mem W hfn (by have : ft2.mem.length ≤ 8 := hm8; omega) (f1.after hb).rn (f2.after hb).rn
          have HBR : Hid (Below wr0.heap.size wr0 wr0) := Below.refl _ _
          clear hr9 hr15 hf1 hf2 f1 f2 hfn hm8
          go_upto_region 23 with (fail)
          have HDk : Hid (Below wr0.heap.size wr0 wr0.drew) := HBR.out.drew
          refine wp_region_held_drew (S := fun W : World => W.cell? ⟨g9, i * 5, none⟩ = some (.int .u32 (ft2.id : Int)) ∧ W.cell? ⟨g9, i * 5 + 2, none⟩ = some (.slice a1 fn2 c1') ∧ W.cell? ⟨g15, i * 5, none⟩ = some (.int .u32 (ft2.id : Int)) ∧ W.cell? ⟨g15, i * 5 + 2, none⟩ = some (.slice a2 fn2 c2')) (by kernel_rfl) (HSS.out _ (HDk.out)) (fun hHeld => ?_)
          obtain ⟨Wk0, hW0⟩ : ∃ W0, W0 = wr0.drew := ⟨_, rfl⟩
          rw [← hW0] at hHeld HDk ⊢
          clear hW0
          refine wpAnyH_take (i := 0) (oi := ?oi0k) (v := ?v0k) ?hi0k ?hs0k ?hf0k ?hr0k ?hQ0k ?hy0k ?hS0k ?h0k
          case hi0k => exact (by simp only [List.getElem?_toArray, List.getElem?_cons_zero]; rfl)
          case hs0k => kernel_rfl
          case hf0k => kernel_rfl
          case hr0k => kernel_rfl
          case hQ0k => exact fun _ _ _ h => h
          case hy0k =>
            refine Or.inl ⟨rfl, ?_⟩
            intro W hSw
            obtain ⟨q0, q1, q2, q3⟩ := hSw
            go_simp
            try with_reducible rfl
          case hS0k => assumption
          try simp only [Act.put, List.setIfInBounds_toArray, List.set_cons_zero, List.set_cons_succ]
          refine wpAnyH_take (i := 1) (oi := ?oi1k) (v := ?v1k) ?hi1k ?hs1k ?hf1k ?hr1k ?hQ1k ?hy1k ?hS1k ?h1k
          case hi1k => exact (by simp only [List.getElem?_toArray, List.getElem?_cons_succ, List.getElem?_cons_zero]; rfl)
          case hs1k => kernel_rfl
          case hf1k => kernel_rfl
          case hr1k => kernel_rfl
          case hQ1k => exact fun _ _ _ h => h
          case hy1k =>
            refine Or.inl ⟨rfl, ?_⟩
            intro W hSw
            obtain ⟨q0, q1, q2, q3⟩ := hSw
            go_simp
            try with_reducible rfl
          case hS1k => assumption
          try simp only [Act.put, List.setIfInBounds_toArray, List.set_cons_zero, List.set_cons_succ]
          refine wpAnyH_take (i := 2) (oi := ?oi2k) (v := ?v2k) ?hi2k ?hs2k ?hf2k ?hr2k ?hQ2k ?hy2k ?hS2k ?h2k
          case hi2k => exact (by simp only [List.getElem?_toArray, List.getElem?_cons_succ, List.getElem?_cons_zero]; rfl)
          case hs2k => kernel_rfl
          case hf2k => kernel_rfl
          case hr2k => kernel_rfl
          case hQ2k => exact fun _ _ _ h => h
          case hy2k =>
            refine Or.inl ⟨rfl, ?_⟩
            intro W hSw
            obtain ⟨q0, q1, q2, q3⟩ := hSw
            go_simp
            try with_reducible rfl
          case hS2k => assumption
          try simp only [Act.put, List.setIfInBounds_toArray, List.set_cons_zero, List.set_cons_succ]
          refine wpAnyH_take (i := 3) (oi := ?oi3k) (v := ?v3k) ?hi3k ?hs3k ?hf3k ?hr3k ?hQ3k ?hy3k ?hS3k ?h3k
          case hi3k => exact (by simp only [List.getElem?_toArray, List.getElem?_cons_succ, List.getElem?_cons_zero]; rfl)
          case hs3k => kernel_rfl
          case hf3k => kernel_rfl
          case hr3k => kernel_rfl
          case hQ3k => exact fun _ _ _ h => h
          case hy3k =>
            refine Or.inl ⟨rfl, ?_⟩
            intro W hSw
            obtain ⟨q0, q1, q2, q3⟩ := hSw
            go_simp
            try with_reducible rfl
          case hS3k => assumption
          try simp only [Act.put, List.setIfInBounds_toArray, List.set_cons_zero, List.set_cons_succ]
          refine wpAnyH_take (i := 4) (oi := ?oi4k) (v := ?v4k) ?hi4k ?hs4k ?hf4k ?hr4k ?hQ4k ?hy4k ?hS4k ?h4k
          case hi4k => exact (by simp only [List.getElem?_toArray, List.getElem?_cons_succ, List.getElem?_cons_zero]; rfl)
          case hs4k => kernel_rfl
          case hf4k => kernel_rfl
          case hr4k => kernel_rfl
          case hQ4k => exact fun _ _ _ h => h
          case hy4k =>
            refine Or.inl ⟨rfl, ?_⟩
            intro W hSw
            obtain ⟨q0, q1, q2, q3⟩ := hSw
            go_simp
            try with_reducible rfl
          case hS4k => assumption
          try simp only [Act.put, List.setIfInBounds_toArray, List.set_cons_zero, List.set_cons_succ]
          refine wpAnyH_take (i := 5) (oi := ?oi5k) (v := ?v5k) ?hi5k ?hs5k ?hf5k ?hr5k ?hQ5k ?hy5k ?hS5k ?h5k
          case hi5k => exact (by simp only [List.getElem?_toArray, List.getElem?_cons_succ, List.getElem?_cons_zero]; rfl)
          case hs5k => kernel_rfl
          case hf5k => kernel_rfl
          case hr5k => kernel_rfl
          case hQ5k => exact fun _ _ _ h => h
          case hy5k =>
            refine Or.inl ⟨rfl, ?_⟩
            intro W hSw
            obtain ⟨q0, q1, q2, q3⟩ := hSw
            go_simp
            try with_reducible rfl
          case hS5k => assumption
          try simp only [Act.put, List.setIfInBounds_toArray, List.set_cons_zero, List.set_cons_succ]
          refine wpAnyH_take (i := 6) (oi := ?oi6k) (v := ?v6k) ?hi6k ?hs6k ?hf6k ?hr6k ?hQ6k ?hy6k ?hS6k ?h6k
          case hi6k => exact (by simp only [List.getElem?_toArray, List.getElem?_cons_succ, List.getElem?_cons_zero]; rfl)
          case hs6k => kernel_rfl
          case hf6k => kernel_rfl
          case hr6k => kernel_rfl
          case hQ6k => exact fun _ _ _ h => h
          case hy6k =>
            refine Or.inl ⟨rfl, ?_⟩
            intro W hSw
            obtain ⟨q0, q1, q2, q3⟩ := hSw
            go_simp
            try with_reducible rfl
          case hS6k => assumption
          try simp only [Act.put, List.setIfInBounds_toArray, List.set_cons_zero, List.set_cons_succ]
          refine wpAnyH_take (i := 7) (oi := ?oi7k) (v := ?v7k) ?hi7k ?hs7k ?hf7k ?hr7k ?hQ7k ?hy7k ?hS7k ?h7k
          case hi7k => exact (by simp only [List.getElem?_toArray, List.getElem?_cons_succ, List.getElem?_cons_zero]; rfl)
          case hs7k => kernel_rfl
          case hf7k => kernel_rfl
          case hr7k => kernel_rfl
          case hQ7k => exact fun _ _ _ h => h
          case hy7k =>
            refine Or.inl ⟨rfl, ?_⟩
            intro W hSw
            obtain ⟨q0, q1, q2, q3⟩ := hSw
            go_simp
            try with_reducible rfl
          case hS7k => assumption
          try simp only [Act.put, List.setIfInBounds_toArray, List.set_cons_zero, List.set_cons_succ]
          refine wpAnyH_take (i := 8) (oi := ?oi8k) (v := ?v8k) ?hi8k ?hs8k ?hf8k ?hr8k ?hQ8k ?hy8k ?hS8k ?h8k
          case hi8k => exact (by simp only [List.getElem?_toArray, List.getElem?_cons_succ, List.getElem?_cons_zero]; rfl)
          case hs8k => kernel_rfl
          case hf8k => kernel_rfl
          case hr8k => kernel_rfl
          case hQ8k => exact fun _ _ _ h => h
          case hy8k =>
            refine Or.inl ⟨rfl, ?_⟩
            intro W hSw
            obtain ⟨q0, q1, q2, q3⟩ := hSw
            go_simp
            try with_reducible rfl
          case hS8k => assumption
          try simp only [Act.put, List.setIfInBounds_toArray, List.set_cons_zero, List.set_cons_succ]
          refine wpAnyH_take (i := 9) (oi := ?oi9k) (v := ?v9k) ?hi9k ?hs9k ?hf9k ?hr9k ?hQ9k ?hy9k ?hS9k ?h9k
          case hi9k => exact (by simp only [List.getElem?_toArray, List.getElem?_cons_succ, List.getElem?_cons_zero]; rfl)
          case hs9k => kernel_rfl
          case hf9k => kernel_rfl
          case hr9k => kernel_rfl
          case hQ9k => exact fun _ _ _ h => h
          case hy9k =>
            refine Or.inl ⟨rfl, ?_⟩
            intro W hSw
            obtain ⟨q0, q1, q2, q3⟩ := hSw
            go_simp
            try with_reducible rfl
          case hS9k => assumption
          try simp only [Act.put, List.setIfInBounds_toArray, List.set_cons_zero, List.set_cons_succ]
          refine wpAnyH_take (i := 10) (oi := ?oi10k) (v := ?v10k) ?hi10k ?hs10k ?hf10k ?hr10k ?hQ10k ?hy10k ?hS10k ?h10k
          case hi10k => exact (by simp only [List.getElem?_toArray, List.getElem?_cons_succ, List.getElem?_cons_zero]; rfl)
          case hs10k => kernel_rfl
          case hf10k => kernel_rfl
          case hr10k => kernel_rfl
          case hQ10k => exact fun _ _ _ h => h
          case hy10k =>
            refine Or.inl ⟨rfl, ?_⟩
            intro W hSw
            obtain ⟨q0, q1, q2, q3⟩ := hSw
            go_simp
            try with_reducible rfl
          case hS10k => assumption
          try simp only [Act.put, List.setIfInBounds_toArray, List.set_cons_zero, List.set_cons_succ]
          refine wpAnyH_take (i := 11) (oi := ?oi11k) (v := ?v11k) ?hi11k ?hs11k ?hf11k ?hr11k ?hQ11k ?hy11k ?hS11k ?h11k
          case hi11k => exact (by simp only [List.getElem?_toArray, List.getElem?_cons_succ, List.getElem?_cons_zero]; rfl)
          case hs11k => kernel_rfl
          case hf11k => kernel_rfl
          case hr11k => kernel_rfl
          case hQ11k => exact fun _ _ _ h => h
          case hy11k =>
            refine Or.inl ⟨rfl, ?_⟩
            intro W hSw
            obtain ⟨q0, q1, q2, q3⟩ := hSw
            go_simp
            try with_reducible rfl
          case hS11k => assumption
          try simp only [Act.put, List.setIfInBounds_toArray, List.set_cons_zero, List.set_cons_succ]
          refine wpAnyH_take (i := 12) (oi := ?oi12k) (v := ?v12k) ?hi12k ?hs12k ?hf12k ?hr12k ?hQ12k ?hy12k ?hS12k ?h12k
          case hi12k => exact (by simp only [List.getElem?_toArray, List.getElem?_cons_succ, List.getElem?_cons_zero]; rfl)
          case hs12k => kernel_rfl
          case hf12k => kernel_rfl
          case hr12k => kernel_rfl
          case hQ12k => exact fun _ _ _ h => h
          case hy12k =>
            refine Or.inl ⟨rfl, ?_⟩
            intro W hSw
            obtain ⟨q0, q1, q2, q3⟩ := hSw
            go_simp
            try with_reducible rfl
          case hS12k => assumption
          try simp only [Act.put, List.setIfInBounds_toArray, List.set_cons_zero, List.set_cons_succ]
          refine wpAnyH_take (i := 13) (oi := ?oi13k) (v := ?v13k) ?hi13k ?hs13k ?hf13k ?hr13k ?hQ13k ?hy13k ?hS13k ?h13k
          case hi13k => exact (by simp only [List.getElem?_toArray, List.getElem?_cons_succ, List.getElem?_cons_zero]; rfl)
          case hs13k => kernel_rfl
          case hf13k => kernel_rfl
          case hr13k => kernel_rfl
          case hQ13k => exact fun _ _ _ h => h
          case hy13k =>
            refine Or.inl ⟨rfl, ?_⟩
            intro W hSw
            obtain ⟨q0, q1, q2, q3⟩ := hSw
            go_simp
            try with_reducible rfl
          case hS13k => assumption
          try simp only [Act.put, List.setIfInBounds_toArray, List.set_cons_zero, List.set_cons_succ]
          refine wpAnyH_take (i := 14) (oi := ?oi14k) (v := ?v14k) ?hi14k ?hs14k ?hf14k ?hr14k ?hQ14k ?hy14k ?hS14k ?h14k
          case hi14k => exact (by simp only [List.getElem?_toArray, List.getElem?_cons_succ, List.getElem?_cons_zero]; rfl)
          case hs14k => kernel_rfl
          case hf14k => kernel_rfl
          case hr14k => kernel_rfl
          case hQ14k => exact fun _ _ _ h => h
          case hy14k =>
            refine Or.inl ⟨rfl, ?_⟩
            intro W hSw
            obtain ⟨q0, q1, q2, q3⟩ := hSw
            go_simp
            try with_reducible rfl
          case hS14k => assumption
          try simp only [Act.put, List.setIfInBounds_toArray, List.set_cons_zero, List.set_cons_succ]
          refine wpAnyH_take (i := 15) (oi := ?oi15k) (v := ?v15k) ?hi15k ?hs15k ?hf15k ?hr15k ?hQ15k ?hy15k ?hS15k ?h15k
          case hi15k => exact (by simp only [List.getElem?_toArray, List.getElem?_cons_succ, List.getElem?_cons_zero]; rfl)
          case hs15k => kernel_rfl
          case hf15k => kernel_rfl
          case hr15k => kernel_rfl
          case hQ15k => exact fun _ _ _ h => h
          case hy15k =>
            refine Or.inl ⟨rfl, ?_⟩
            intro W hSw
            obtain ⟨q0, q1, q2, q3⟩ := hSw
            go_simp
            try with_reducible rfl
          case hS15k => assumption
          try simp only [Act.put, List.setIfInBounds_toArray, List.set_cons_zero, List.set_cons_succ]
          refine wpAnyH_take (i := 16) (oi := ?oi16k) (v := ?v16k) ?hi16k ?hs16k ?hf16k ?hr16k ?hQ16k ?hy16k ?hS16k ?h16k
          case hi16k => exact (by simp only [List.getElem?_toArray, List.getElem?_cons_succ, List.getElem?_cons_zero]; rfl)
          case hs16k => kernel_rfl
          case hf16k => kernel_rfl
          case hr16k => kernel_rfl
          case hQ16k => exact fun _ _ _ h => h
          case hy16k =>
            refine Or.inl ⟨rfl, ?_⟩
            intro W hSw
            obtain ⟨q0, q1, q2, q3⟩ := hSw
            go_simp
            try with_reducible rfl
          case hS16k => assumption
          try simp only [Act.put, List.setIfInBounds_toArray, List.set_cons_zero, List.set_cons_succ]
          refine wpAnyH_take (i := 17) (oi := ?oi17k) (v := ?v17k) ?hi17k ?hs17k ?hf17k ?hr17k ?hQ17k ?hy17k ?hS17k ?h17k
          case hi17k => exact (by simp only [List.getElem?_toArray, List.getElem?_cons_succ, List.getElem?_cons_zero]; rfl)
          case hs17k => kernel_rfl
          case hf17k => kernel_rfl
          case hr17k => kernel_rfl
          case hQ17k => exact fun _ _ _ h => h
          case hy17k =>
            refine Or.inl ⟨rfl, ?_⟩
            intro W hSw
            obtain ⟨q0, q1, q2, q3⟩ := hSw
            go_simp
            try with_reducible rfl
          case hS17k => assumption
          try simp only [Act.put, List.setIfInBounds_toArray, List.set_cons_zero, List.set_cons_succ]
          refine wpAnyH_take (i := 18) (oi := ?oi18k) (v := ?v18k) ?hi18k ?hs18k ?hf18k ?hr18k ?hQ18k ?hy18k ?hS18k ?h18k
          case hi18k => exact (by simp only [List.getElem?_toArray, List.getElem?_cons_succ, List.getElem?_cons_zero]; rfl)
          case hs18k => kernel_rfl
          case hf18k => kernel_rfl
          case hr18k => kernel_rfl
          case hQ18k => exact fun _ _ _ h => h
          case hy18k =>
            refine Or.inl ⟨rfl, ?_⟩
            intro W hSw
            obtain ⟨q0, q1, q2, q3⟩ := hSw
            go_simp
            try with_reducible rfl
          case hS18k => assumption
          try simp only [Act.put, List.setIfInBounds_toArray, List.set_cons_zero, List.set_cons_succ]
          refine wpAnyH_take (i := 19) (oi := ?oi19k) (v := ?v19k) ?hi19k ?hs19k ?hf19k ?hr19k ?hQ19k ?hy19k ?hS19k ?h19k
          case hi19k => exact (by simp only [List.getElem?_toArray, List.getElem?_cons_succ, List.getElem?_cons_zero]; rfl)
          case hs19k => kernel_rfl
          case hf19k => kernel_rfl
          case hr19k => kernel_rfl
          case hQ19k => exact fun _ _ _ h => h
          case hy19k =>
            refine Or.inl ⟨rfl, ?_⟩
            intro W hSw
            obtain ⟨q0, q1, q2, q3⟩ := hSw
            go_simp
            try with_reducible rfl
          case hS19k => assumption
          try simp only [Act.put, List.setIfInBounds_toArray, List.set_cons_zero, List.set_cons_succ]
          refine wpAnyH_take (i := 20) (oi := ?oi20k) (v := ?v20k) ?hi20k ?hs20k ?hf20k ?hr20k ?hQ20k ?hy20k ?hS20k ?h20k
          case hi20k => exact (by simp only [List.getElem?_toArray, List.getElem?_cons_succ, List.getElem?_cons_zero]; rfl)
          case hs20k => kernel_rfl
          case hf20k => kernel_rfl
          case hr20k => kernel_rfl
          case hQ20k => exact fun _ _ _ h => h
          case hy20k =>
            refine Or.inl ⟨rfl, ?_⟩
            intro W hSw
            obtain ⟨q0, q1, q2, q3⟩ := hSw
            go_simp
            try with_reducible rfl
          case hS20k => assumption
          try simp only [Act.put, List.setIfInBounds_toArray, List.set_cons_zero, List.set_cons_succ]
          refine wpAnyH_take (i := 21) (oi := ?oi21k) (v := ?v21k) ?hi21k ?hs21k ?hf21k ?hr21k ?hQ21k ?hy21k ?hS21k ?h21k
          case hi21k => exact (by simp only [List.getElem?_toArray, List.getElem?_cons_succ, List.getElem?_cons_zero]; rfl)
          case hs21k => kernel_rfl
          case hf21k => kernel_rfl
          case hr21k => kernel_rfl
          case hQ21k => exact fun _ _ _ h => h
          case hy21k =>
            refine Or.inl ⟨rfl, ?_⟩
            intro W hSw
            obtain ⟨q0, q1, q2, q3⟩ := hSw
            go_simp
            try with_reducible rfl
          case hS21k => assumption
          try simp only [Act.put, List.setIfInBounds_toArray, List.set_cons_zero, List.set_cons_succ]
          refine wpAnyH_ready (rs := [22]) (by kernel_rfl) (by simp) ?_
          refine AllReadyH.cons (o := _) rfl (fun K hK => ?_) AllReadyH.nil
          go_simp
          refine (HSA.out Wk0 HDk.out).mono ?_
          rintro r Wk1 ⟨rfl, hbq⟩
          have HBk1 := Lib.hid (HDk.out.trans (hbq.mono HDk.out.size))
          clear hbq
          refine hK.out _ _ (HSS.out _ (HBk1.out)) (fun hHeld => ?_)
          clear hK K
          try simp only [Act.put, List.setIfInBounds_toArray, List.set_cons_zero, List.set_cons_succ]
          refine wpAnyH_take (i := 23) (oi := ?oi23k) (v := ?v23k) ?hi23k ?hs23k ?hf23k ?hr23k ?hQ23k ?hy23k ?hS23k ?h23k
          case hi23k => exact (by simp only [List.getElem?_toArray, List.getElem?_cons_succ, List.getElem?_cons_zero]; rfl)
          case hs23k => kernel_rfl
          case hf23k => kernel_rfl
          case hr23k => kernel_rfl
          case hQ23k => exact fun _ _ _ h => h
          case hy23k =>
            refine Or.inl ⟨rfl, ?_⟩
            intro W hSw
            obtain ⟨q0, q1, q2, q3⟩ := hSw
            go_simp
            try with_reducible rfl
          case hS23k => assumption
          try simp only [Act.put, List.setIfInBounds_toArray, List.set_cons_zero, List.set_cons_succ]
          refine wpAnyH_take (i := 24) (oi := ?oi24k) (v := ?v24k) ?hi24k ?hs24k ?hf24k ?hr24k ?hQ24k ?hy24k ?hS24k ?h24k
          case hi24k => exact (by simp only [List.getElem?_toArray, List.getElem?_cons_succ, List.getElem?_cons_zero]; rfl)
          case hs24k => kernel_rfl
          case hf24k => kernel_rfl
          case hr24k => kernel_rfl
          case hQ24k => exact fun _ _ _ h => h
          case hy24k =>
            refine Or.inl ⟨rfl, ?_⟩
            intro W hSw
            obtain ⟨q0, q1, q2, q3⟩ := hSw
            go_simp
            try with_reducible rfl
          case hS24k => assumption
          try simp only [Act.put, List.setIfInBounds_toArray, List.set_cons_zero, List.set_cons_succ]
          refine wpAnyH_done (by kernel_rfl) ?_ _
          have HVN := Lib.hid (HVM.out.trans (HBk1.out.mono HVM.out.size))
          go_wp2_with fail
          go_roundw
          case rel => exact ⟨i + 1, by omega, by go_num, HVN.out⟩
          case measure => simp [intOf] <;> omega
        · have hin : i = n15 := by omega
          subst hin
          have hb9 := HBM.out.trans (HVM.out.mono HBM.out.size)
          have HQM := Lib.hid (HQ9.out.after hb9)
          have HAQM := Lib.hid (HAQ9.out.after hb9)
          have HXM := Lib.hid (HX9.out.after hb9)
          have HTM : Hid (wr0.heap[bt]? = some (.cells curt 33 (0, 0))) := (hb9.block bt (lt_of_block HT9.out)).trans HT9.out
          have HGM : Hid (wr0.heap[G7]? = some (.cells (mC e.id e.md ⟨some ⟨bt, 0, none⟩, sxn, c1⟩ e.rt e.sn) 39 (0, 0))) := (hb9.block G7 (lt_of_block HG9.out)).trans HG9.out
          have HG10M : Hid (wr0.heap[G10]? = some (.cells (mC e.id e.md ⟨sxa, sxn, sxc⟩ e.rt e.sn) 39 (0, 0))) := (hb9.block G10 (lt_of_block HG109.out)).trans HG109.out
          have HBWM : Hid (Below w.heap.size w wr0) := HB9.out.trans (hb9.mono HB9.out.size)
          have HTW : Hid (w.heap.size ≤ bt) := Nat.le_trans HBW.out.size HG7S.out.2
          have HNE : Hid (G7 ≠ bt ∧ G10 ≠ bt) := ⟨fun e' => by have h := HGM.out; rw [e', HTM.out] at h; injection h with h; injection h with _ h; exact absurd h (by decide), fun e' => by have h := HG10M.out; rw [e', HTM.out] at h; injection h with h; injection h with _ h; exact absurd h (by decide)⟩
          have hq4 : sxn ≤ 4 := HQ4.out.2
          have HST : Hid ((∀ k, k ≠ bt → wr0.heap[k]? = wr0.heap[k]?) ∧ (∃ cur, wr0.heap[bt]? = some (.cells cur 33 (0, 0)) ∧ sxn ≤ cur.size) ∧ Below w.heap.size w wr0) := ⟨fun _ _ => rfl, ⟨_, HTM.out, HCT.out⟩, HBWM.out⟩
          clear hb9 hlt
          go_wp2_with fail
          go_loopw [17] (fun u wr => ∃ j : Nat, j ≤ sxn ∧ u = .int .i64 (j : Int) ∧ Hid ((∀ k, k ≠ bt → wr.heap[k]? = wr0.heap[k]?) ∧ (∃ cur, wr.heap[bt]? = some (.cells cur 33 (0, 0)) ∧ sxn ≤ cur.size) ∧ Below w.heap.size w wr)) (fun u _ => sxn - (intOf u).toNat)
          case atStart => exact ⟨0, by omega, rfl, ⟨fun _ _ => rfl, HST.out.2⟩⟩
          case round =>
            rename World => wn
            obtain ⟨j, hj, rfl, HVT⟩ := hrel
            have hg7 := (HVT.out.1 G7 HNE.out.1).trans HGM.out
            have z2 := cell_of_row wn G7 2 _ _ _ hg7
            simp at z2
            by_cases hjl : j < sxn
            · obtain ⟨cur, hcb, hcs⟩ := HVT.out.2.1
              have hjc : j < cur.size := by omega
              have t0 : wn.cell? ⟨bt, j, none⟩ = some cur[j] := by rw [cell_of_row wn bt j _ _ _ hcb]; exact Array.getElem?_eq_getElem hjc
              have tf : ∀ i, wn.frozen? ⟨bt, i, none⟩ = false := fun i => frozen_of_row _ _ i _ _ hcb
              obtain ⟨wo, hwo⟩ : ∃ W, W = wn.setCell ⟨bt, j, none⟩ (.int .u32 77) := ⟨_, rfl⟩
              have HVO : Hid ((∀ k, k ≠ bt → wo.heap[k]? = wr0.heap[k]?) ∧ (∃ cur, wo.heap[bt]? = some (.cells cur 33 (0, 0)) ∧ sxn ≤ cur.size) ∧ Below w.heap.size w wo) := by
                rw [hwo]
                exact ⟨fun k hk => (Below.heap_setCell _ _ _ _ hk).trans (HVT.out.1 k hk), ⟨_, heap_setCell_same wn bt j _ 33 _ hcb, by rw [Array.size_setIfInBounds]; exact hcs⟩, HVT.out.2.2.setCell HTW.out _⟩
              have HWO := Lib.hid hwo
              clear hcb hg7 hwo hcs
              go_wp2_with fail
              go_roundw
              case rel => exact ⟨j + 1, by omega, by go_num, by first | exact HVO.out | (rw [← HWO.out]; exact HVO.out)⟩
              case measure => simp [intOf] <;> omega
            · have hjn : j = sxn := by omega
              subst hjn
              have HQN : Hid (Bq wn B R (16 * ((2 : Nat) : Int)) v9 ms L) := HQM.out.aside HAQM.out HTM.out HVT.out.1
              have HXN : Hid (P.Fl wn R v9 ⟨sxa, j, sxc⟩ e.mem) := fl_av HXM.out HAQ5.out.2 HVT.out.1
              have HG10N : Hid (wn.heap[G10]? = some (.cells (mC e.id e.md ⟨sxa, j, sxc⟩ e.rt e.sn) 39 (0, 0))) := (HVT.out.1 G10 HNE.out.2).trans HG10M.out
              have HGY := Lib.hid (qget_there B R _ v9 ms L e wn HQN.out (by have := HLL.out; omega) HEL.out (by have := HQ.out; omega))
              clear hg7 hjl
              go_wp2_with fail
              refine HGY.out.mono ?_
              rintro r wp ⟨A18, c18, rfl, ho18, hbp⟩
              rw [← HQ.out] at ho18 ⊢
              clear z2
              obtain ⟨G18, hG18⟩ : ∃ k, k = wp.heap.size := ⟨_, rfl⟩
              obtain ⟨wq, hwq⟩ : ∃ W, W = wp.alloc (.cells (mC e.id e.md ⟨A18, j, c18⟩ e.rt e.sn) 39) := ⟨_, rfl⟩
              have hqq : wq.heap[G18]? = some (.cells (mC e.id e.md ⟨A18, j, c18⟩ e.rt e.sn) 39 (0, 0)) := by rw [hwq, hG18]; exact heap_alloc_new wp _
              have hbq : Below wp.heap.size wp wq := by rw [hwq]; exact (Below.refl _ _).alloc (Nat.le_refl _) _
              have HNQ : Hid (Below wn.heap.size wn wq) := hbp.trans (hbq.mono hbp.size)
              have HRQ : Hid (P.Rn wq A18 e.mem) := by
                rw [HQ.out] at ho18
                exact (P.Rn.of_own ho18).2.after hbq
              have HQQ := Lib.hid hqq
              have HWQ := Lib.hid hwq
              have HG18 := Lib.hid hG18
              have HDN := Lib.hid (qdrop_nil e.id wq)
              clear ho18 hbp hqq hbq hwq hG18 HGY
              go_upto_region 31 with (fail)
              rw [← HWQ.out, ← HG18.out]
              go_wp2_with fail
              refine HDN.out.mono ?_
              rintro r wu ⟨rfl, hbu⟩
              obtain ⟨G21, hG21⟩ : ∃ k, k = wu.heap.size := ⟨_, rfl⟩
              obtain ⟨wv, hwv⟩ : ∃ W, W = wu.alloc (.cells #[.int .u32 0, .int .i64 0, .slice none 0 0, .int .i64 0, .int .i64 0] 39) := ⟨_, rfl⟩
              have hqv : wv.heap[G21]? = some (.cells #[.int .u32 0, .int .i64 0, .slice none 0 0, .int .i64 0, .int .i64 0] 39 (0, 0)) := by rw [hwv, hG21]; exact heap_alloc_new wu _
              have hbv : Below wu.heap.size wu wv := by rw [hwv]; exact (Below.refl _ _).alloc (Nat.le_refl _) _
              have HQV : Hid (Below wq.heap.size wq wv) := hbu.trans (hbv.mono hbu.size)
              have HNV : Hid (Below wn.heap.size wn wv) := HNQ.out.trans (HQV.out.mono HNQ.out.size)
              have HBV : Hid (Below w.heap.size w wv) := HVT.out.2.2.trans (HNV.out.mono HVT.out.2.2.size)
              have HC10 : Hid (∀ W, Below wv.heap.size wv W → W.cell? ⟨G10, 0, none⟩ = some (.int .u32 (e.id : Int)) ∧ W.cell? ⟨G10, 1, none⟩ = some (.int .i64 e.md) ∧ W.cell? ⟨G10, 2, none⟩ = some (.slice sxa j sxc) ∧ W.cell? ⟨G10, 3, none⟩ = some (.int .i64 e.rt) ∧ W.cell? ⟨G10, 4, none⟩ = some (.int .i64 e.sn)) := fun W hW => by
                have hb := HNV.out.trans (hW.mono HNV.out.size)
                have hq := (hb.block G10 (lt_of_block HG10N.out)).trans HG10N.out
                have u0 := cell_of_row _ G10 0 _ _ _ hq
                have u1 := cell_of_row _ G10 1 _ _ _ hq
                have u2 := cell_of_row _ G10 2 _ _ _ hq
                have u3 := cell_of_row _ G10 3 _ _ _ hq
                have u4 := cell_of_row _ G10 4 _ _ _ hq
                exact ⟨by simpa using u0, by simpa using u1, by simpa using u2, by simpa using u3, by simpa using u4⟩
              have HC21 : Hid (∀ W, Below wv.heap.size wv W → W.cell? ⟨G21, 0, none⟩ = some (.int .u32 0)) := fun W hW => by
                have u0 := cell_of_row _ G21 0 _ _ _ ((hW.block G21 (lt_of_block hqv)).trans hqv)
                simpa using u0
              have hq18 := (HQV.out.block G18 (lt_of_block HQQ.out)).trans HQQ.out
              have x2 := cell_of_row wv G18 2 _ _ _ hq18
              simp at x2
              obtain ⟨_, _, u2, _, _⟩ := HC10.out wv (Below.refl _ _)
              have HSM := Lib.hid (same_rn A18 sxa j c18 sxc e.mem wv HQ.out (by have := HQ.out; omega) (HRQ.out.after HQV.out) (HXN.out.after HNV.out).rn)
              have HWV := Lib.hid hwv
              have HG21 := Lib.hid hG21
              clear hbu hwv hqv hbv hq18 hG21 HDN
              go_upto_region 32 with (fail)
              rw [← HWV.out, ← HG21.out]
              go_wp2_with fail
              refine HSM.out.mono ?_
              rintro r x1 ⟨rfl, hx1⟩
              have HX1 := Lib.hid hx1
              clear x2 u2 hx1
              obtain ⟨u0, u1, u2, u3, u4⟩ := HC10.out x1 HX1.out
              go_wp2_with fail
              refine (qput_nil e.id e.md e.rt e.sn ⟨sxa, j, sxc⟩ x1).mono ?_
              rintro r x2 ⟨rfl, hx2⟩
              have HX2 : Hid (Below wv.heap.size wv x2) := HX1.out.trans (hx2.mono HX1.out.size)
              have v0 := HC21.out x2 HX2.out
              clear u0 u1 u2 u3 u4 hx2
              go_wp2_with fail
              refine (qof_nil 1 x2).mono ?_
              rintro r x3 ⟨rfl, hx3⟩
              have HX3 : Hid (Below wv.heap.size wv x3) := HX2.out.trans (hx3.mono HX2.out.size)
              clear v0 hx3
              go_wp2_with fail
              refine (qmode_nil 0 x3).mono ?_
              rintro r x4 ⟨rfl, hx4⟩
              have HX4 : Hid (Below wv.heap.size wv x4) := HX3.out.trans (hx4.mono HX3.out.size)
              clear hx4
              go_wp2_with fail
              refine (qlen_nil x4).mono ?_
              rintro r x5 ⟨rfl, hw5⟩
              have hw5 := hw5.symm
              subst hw5
              go_wp2_with fail
              refine (qawake x4).mono ?_
              rintro r x6 ⟨rfl, hx6⟩
              have HX6 : Hid (Below wv.heap.size wv x6) := HX4.out.trans (hx6.mono HX4.out.size)
              clear hx6
              go_wp2
              go_ret
              exact ⟨by first | rfl | simp, HBV.out.trans (HX6.out.mono HBV.out.size)⟩
end Go.Proofs.YtemjmnpclknfaaaGreat.T
