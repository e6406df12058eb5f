/- Queue: Put. -/
import Derived.Test.YtemjmnpclknfaaaGreatUD
namespace Go.Proofs.YtemjmnpclknfaaaGreat.T
open Go.RowKit
open Go.Proofs.YtemjmnpclknfaaaGreat.P (Sl un)
set_option maxRecDepth 20000
set_option linter.unusedVariables false
set_option linter.unusedSimpArgs false

theorem m5_get : ∀ (l : List M5) (i : Nat) (m : M5), l[i]? = some m → (m5 l)[i * 5]? = some (.int .i64 m.1) ∧ (m5 l)[i * 5 + 1]? = some (.int .i64 m.2.1) ∧ (m5 l)[i * 5 + 2]? = some (.int .i64 m.2.2.1) ∧ (m5 l)[i * 5 + 3]? = some (.int .i64 m.2.2.2.1) ∧ (m5 l)[i * 5 + 4]? = some (.int .i64 m.2.2.2.2)
  | [], i, m, h => by simp at h
  | x :: l, 0, m, h => by
    obtain rfl : x = m := by simpa using h
    simp [m5]
  | x :: l, i + 1, m, h => by
    obtain ⟨h0, h1, h2, h3, h4⟩ := m5_get l i m (by simpa using h)
    have e : ∀ j, (m5 (x :: l))[(i + 1) * 5 + j]? = (m5 l)[i * 5 + j]? := fun j => by
      rw [show m5 (x :: l) = [.int .i64 x.1, .int .i64 x.2.1, .int .i64 x.2.2.1, .int .i64 x.2.2.2.1, .int .i64 x.2.2.2.2] ++ m5 l from rfl, List.getElem?_append_right (by simp; omega)]
      congr 1
      simp
      omega
    exact ⟨(e 0).trans h0, (e 1).trans h1, (e 2).trans h2, (e 3).trans h3, (e 4).trans h4⟩
/-- The mode of a number, else noughts. -/
def eM (l : List M5) (m : Int) : M5 := if 0 ≤ m ∧ m < (l.length : Int) then (l[m.toNat]?).getD (0, 0, 0, 0, 0) else (0, 0, 0, 0, 0)
theorem cmode_all (cs : Array Value) (ms : Sl) (l : List M5) (m : Int) (w : World) (hc : cs[13]? = some (.slice ms.a ms.n ms.c)) (hn : ms.n = l.length) (hl : ms.n ≤ 100) (hR : Rm w ms.a l) :
    Calls Tryz.prog 28 #[.agg cs, .int .i64 m] w fun r w' => r = .returned (.tuple #[.agg #[.int .i64 (eM l m).1, .int .i64 (eM l m).2.1, .int .i64 (eM l m).2.2.1, .int .i64 (eM l m).2.2.2.1, .int .i64 (eM l m).2.2.2.2], .bool (decide (0 ≤ m ∧ m < (l.length : Int)))]) ∧ Below w.heap.size w w' := by
  by_cases hm : 0 ≤ m ∧ m < (l.length : Int)
  · obtain ⟨b, o, hA, ⟨cur, hb⟩, hR⟩ := hR (by omega)
    obtain ⟨x, hx⟩ : ∃ x, l[m.toNat]? = some x := ⟨l[m.toNat]'(by omega), List.getElem?_eq_getElem _⟩
    obtain ⟨q0, q1, q2, q3, q4⟩ := m5_get l _ x hx
    have e : eM l m = x := by unfold eM; rw [if_pos hm, hx]; rfl
    rw [e, decide_eq_true hm]
    refine cmode_yes cs ms.a ms.n ms.c m w hc (by omega) (by omega) _ _ _ _ _ b o hA (lt_of_block hb) (hR _ _ q0) ?_ ?_ ?_ ?_
    · have := hR _ _ q1; rwa [← Nat.add_assoc] at this
    · have := hR _ _ q2; rwa [← Nat.add_assoc] at this
    · have := hR _ _ q3; rwa [← Nat.add_assoc] at this
    · have := hR _ _ q4; rwa [← Nat.add_assoc] at this
  · have e : eM l m = (0, 0, 0, 0, 0) := by unfold eM; rw [if_neg hm]
    rw [e, decide_eq_false hm]
    exact cmode_no cs ms.a ms.n ms.c m w hc (by omega) (by omega)
theorem Bq.cfg {w : World} {B R : Nat} {mo : Int} {vi : Value} {ms : Sl} {L : List Tk} (h : Bq w B R mo vi ms L) : ∃ c0 c1 c2 c3 c4 c5 c6 c7 c8 c9 c10 c11 c12 : Value, ∀ W, Below w.heap.size w W → W.cell? ⟨B, 0, none⟩ = some c0 ∧ W.cell? ⟨B, 1, none⟩ = some c1 ∧ W.cell? ⟨B, 2, none⟩ = some c2 ∧ W.cell? ⟨B, 3, none⟩ = some c3 ∧ W.cell? ⟨B, 4, none⟩ = some c4 ∧ W.cell? ⟨B, 5, none⟩ = some c5 ∧ W.cell? ⟨B, 6, none⟩ = some c6 ∧ W.cell? ⟨B, 7, none⟩ = some c7 ∧ W.cell? ⟨B, 8, none⟩ = some c8 ∧ W.cell? ⟨B, 9, none⟩ = some c9 ∧ W.cell? ⟨B, 10, none⟩ = some c10 ∧ W.cell? ⟨B, 11, none⟩ = some c11 ∧ W.cell? ⟨B, 12, none⟩ = some c12 ∧ W.cell? ⟨B, 13, none⟩ = some (.slice ms.a ms.n ms.c) := by
  obtain ⟨⟨cur, h1, h2, h3⟩, _⟩ := h
  have hs := (Array.getElem?_eq_some_iff.1 h3).1
  have hk : ∀ W, Below w.heap.size w W → ∀ i (hi : i < cur.size), W.cell? ⟨B, i, none⟩ = some cur[i] := fun W hW i hi => by
    rw [cell_of_row W B i _ _ _ ((hW.block B (lt_of_block h1)).trans h1)]
    exact Array.getElem?_eq_getElem hi
  refine ⟨cur[0]'(by omega), cur[1]'(by omega), cur[2]'(by omega), cur[3]'(by omega), cur[4]'(by omega), cur[5]'(by omega), cur[6]'(by omega), cur[7]'(by omega), cur[8]'(by omega), cur[9]'(by omega), cur[10]'(by omega), cur[11]'(by omega), cur[12]'(by omega), fun W hW => ⟨hk W hW 0 (by omega), hk W hW 1 (by omega), hk W hW 2 (by omega), hk W hW 3 (by omega), hk W hW 4 (by omega), hk W hW 5 (by omega), hk W hW 6 (by omega), hk W hW 7 (by omega), hk W hW 8 (by omega), hk W hW 9 (by omega), hk W hW 10 (by omega), hk W hW 11 (by omega), hk W hW 12 (by omega), ?_⟩⟩
  rw [cell_of_row W B 13 _ _ _ ((hW.block B (lt_of_block h1)).trans h1)]
  exact h2
theorem of_any (m : Int) (w : World) : Calls Tryz.prog 34 #[.int .i64 m] w fun r w' => r = .returned (.func (.func 61) #[] #[.pointer (some ⟨w.heap.size, 0, none⟩)]) ∧ w' = w.alloc (.cells #[.int .i64 m] 3) := by
  go_enter Tryz.func34, Tryz.ntmps34
  go_wp2
  go_ret
  exact ⟨rfl, rfl⟩
def cntM (L : List Tk) (m : Int) : Nat := (L.filter fun e => decide (e.md = m)).length
open Classical in
/-- What Put answers. -/
noncomputable def errQ (ml : List M5) (L : List Tk) (t : Tk) : Int :=
  if ¬ P.okN t.id ∨ ¬ (∀ x ∈ t.mem, P.okN x) then 14
  else if ¬ (0 ≤ t.md ∧ t.md < (ml.length : Int)) then 20
  else if t.mem.length = 0 ∨ (eM ml t.md).1 < (t.mem.length : Int) then 21
  else if t.rt < 0 ∨ 10000 < t.rt then 2
  else if clashP L t.id t.mem then 11
  else if 16 ≤ cntM L t.md then 10
  else 0
def QPutP (B R : Nat) (mo : Int) (vi : Value) (ms : Sl) (ml : List M5) (L : List Tk) (t : Tk) (w : World) (r : Ending) (w' : World) : Prop := r = .returned (.int .i64 (errQ ml L t)) ∧ PutT w.heap.size B R mo vi ms L (if errQ ml L t = 0 then insT L t else L) w w'
set_option maxHeartbeats 16000000 in
theorem qput_any (B R : Nat) (mo : Int) (vi : Value) (ms : Sl) (ml : List M5) (L : List Tk) (t : Tk) (s : Sl) (w : World) (h : Bq w B R mo vi ms L) (hms : ms.n = ml.length) (hml : ms.n ≤ 100) (hRm : Rm w ms.a ml) (hl : L.length ≤ 100) (hm : ∀ e ∈ L, e.mem.length ≤ 1000) (h1 : s.n = t.mem.length) (hR : P.Rn w s.a t.mem) (hll : t.mem.length ≤ 1000)
    (hroom : 0 ≤ t.md → t.md < (ml.length : Int) → cntM L t.md < 16 → (L.length : Int) < min mo 2147483647) :
    Calls Tryz.prog 11 #[qp B, .agg (mC t.id t.md s t.rt t.sn)] w fun r w' => QPutP B R mo vi ms ml L t w r w' := by
  obtain ⟨G, hG⟩ : ∃ G, G = w.heap.size := ⟨_, rfl⟩
  obtain ⟨w0, hw0⟩ : ∃ W, W = w.alloc (.cells (mC t.id t.md s t.rt t.sn) 39) := ⟨_, rfl⟩
  have hq0 : w0.heap[G]? = some (.cells (mC t.id t.md s t.rt t.sn) 39 (0, 0)) := by rw [hw0, hG]; exact heap_alloc_new w _
  have hb0 : Below w.heap.size w w0 := by rw [hw0]; exact (Below.refl _ _).alloc (Nat.le_refl _) _
  obtain ⟨c0, c1, c2, c3, c4, c5, c6, c7, c8, c9, c10, c11, c12, hcfg⟩ := h.cfg
  have HQB := Lib.hid h
  have HB0 := Lib.hid hb0
  have HQ0 := Lib.hid hq0
  have HGG := Lib.hid hG
  have H0 := Lib.hid hw0
  have HRO := Lib.hid hroom
  have HRT := Lib.hid hR
  have HH1 := Lib.hid h1
  have HLL := Lib.hid hll
  have HM := Lib.hid hm
  have HL := Lib.hid hl
  have HG : Hid (∀ W, Below w0.heap.size w0 W → W.cell? ⟨G, 0, none⟩ = some (.int .u32 (t.id : Int)) ∧ W.cell? ⟨G, 1, none⟩ = some (.int .i64 t.md) ∧ W.cell? ⟨G, 2, none⟩ = some (.slice s.a s.n s.c) ∧ W.cell? ⟨G, 3, none⟩ = some (.int .i64 t.rt) ∧ W.cell? ⟨G, 4, none⟩ = some (.int .i64 t.sn)) := fun W hW => by
    have hq := (hW.block G (lt_of_block hq0)).trans hq0
    have x0 := cell_of_row _ G 0 _ _ _ hq
    have x1 := cell_of_row _ G 1 _ _ _ hq
    have x2 := cell_of_row _ G 2 _ _ _ hq
    have x3 := cell_of_row _ G 3 _ _ _ hq
    have x4 := cell_of_row _ G 4 _ _ _ hq
    exact ⟨by simpa using x0, by simpa using x1, by simpa using x2, by simpa using x3, by simpa using x4⟩
  have HS3 : Hid (∀ W, Below w0.heap.size w0 W → (fun W : World => (W.cell? ⟨B, 0, none⟩ = some c0 ∧ W.cell? ⟨B, 1, none⟩ = some c1 ∧ W.cell? ⟨B, 2, none⟩ = some c2 ∧ W.cell? ⟨B, 3, none⟩ = some c3 ∧ W.cell? ⟨B, 4, none⟩ = some c4 ∧ W.cell? ⟨B, 5, none⟩ = some c5 ∧ W.cell? ⟨B, 6, none⟩ = some c6 ∧ W.cell? ⟨B, 7, none⟩ = some c7 ∧ W.cell? ⟨B, 8, none⟩ = some c8 ∧ W.cell? ⟨B, 9, none⟩ = some c9 ∧ W.cell? ⟨B, 10, none⟩ = some c10 ∧ W.cell? ⟨B, 11, none⟩ = some c11 ∧ W.cell? ⟨B, 12, none⟩ = some c12 ∧ W.cell? ⟨B, 13, none⟩ = some (.slice ms.a ms.n ms.c)) ∧ W.cell? ⟨G, 1, none⟩ = some (.int .i64 t.md)) W) := fun W hW => ⟨hcfg W (hb0.trans (hW.mono hb0.size)), (HG.out W hW).2.1⟩
  obtain ⟨bm, hbm⟩ : ∃ b, b = decide (0 ≤ t.md ∧ t.md < (ml.length : Int)) := ⟨_, rfl⟩
  obtain ⟨⟨e0, e1, e2, e3, e4⟩, he⟩ : ∃ e, e = eM ml t.md := ⟨_, rfl⟩
  have HMO : Hid (∀ W, Below w0.heap.size w0 W → Calls Tryz.prog 28 #[.agg #[c0, c1, c2, c3, c4, c5, c6, c7, c8, c9, c10, c11, c12, .slice ms.a ms.n ms.c], .int .i64 t.md] W fun r w' => r = .returned (.tuple #[.agg #[.int .i64 e0, .int .i64 e1, .int .i64 e2, .int .i64 e3, .int .i64 e4], .bool bm]) ∧ Below W.heap.size W w') := fun W hW => by
    have := cmode_all #[c0, c1, c2, c3, c4, c5, c6, c7, c8, c9, c10, c11, c12, .slice ms.a ms.n ms.c] ms ml t.md W rfl hms hml ((hRm.after hb0).after hW)
    rw [← he, ← hbm] at this
    exact this
  have HBM := Lib.hid hbm
  have HE0 : Hid ((eM ml t.md).1 = e0) := by simp only [Hid]; rw [← he]
  clear h hRm hms hml hl hm h1 hR hll hroom hw0 hq0 hb0 hG hcfg hbm he
  go_enter Tryz.func11, Tryz.ntmps11
  go_upto_region 3 with (fail)
  rw [← H0.out, ← HGG.out]
  go_cut [5, 6] (fun pv iv wx => iv = .bool bm ∧ ∃ KB, pv = .pointer (some ⟨KB, 0, none⟩) ∧ Hid (wx.cell? ⟨KB, 0, none⟩ = some (.int .i64 e0)) ∧ Hid (KB < wx.heap.size) ∧ Hid (Below w0.heap.size w0 wx))
  case first =>
    have HDk : Hid (Below w0.heap.size w0 w0.drew) := (Below.refl _ _).drew
    refine wp_region_held_drew (S := fun W : World => (W.cell? ⟨B, 0, none⟩ = some c0 ∧ W.cell? ⟨B, 1, none⟩ = some c1 ∧ W.cell? ⟨B, 2, none⟩ = some c2 ∧ W.cell? ⟨B, 3, none⟩ = some c3 ∧ W.cell? ⟨B, 4, none⟩ = some c4 ∧ W.cell? ⟨B, 5, none⟩ = some c5 ∧ W.cell? ⟨B, 6, none⟩ = some c6 ∧ W.cell? ⟨B, 7, none⟩ = some c7 ∧ W.cell? ⟨B, 8, none⟩ = some c8 ∧ W.cell? ⟨B, 9, none⟩ = some c9 ∧ W.cell? ⟨B, 10, none⟩ = some c10 ∧ W.cell? ⟨B, 11, none⟩ = some c11 ∧ W.cell? ⟨B, 12, none⟩ = some c12 ∧ W.cell? ⟨B, 13, none⟩ = some (.slice ms.a ms.n ms.c)) ∧ W.cell? ⟨G, 1, none⟩ = some (.int .i64 t.md)) (by kernel_rfl) (HS3.out _ (HDk.out)) (fun hHeld => ?_)
    obtain ⟨Wk0, hW0⟩ : ∃ W0, W0 = w0.drew := ⟨_, rfl⟩
    rw [← hW0] at hHeld HDk ⊢
    clear hW0
    refine wpAnyH_take (i := 0) (oi := ?oi0k) (v := ?v0k) ?hi0k ?hs0k ?hf0k ?hr0k ?hQ0k ?hy0k ?hS0k ?h0k
    case hi0k => exact (by simp only [List.getElem?_toArray, List.getElem?_cons_zero]; rfl)
    case hs0k => kernel_rfl
    case hf0k => kernel_rfl
    case hr0k => kernel_rfl
    case hQ0k => exact fun _ _ _ h => h
    case hy0k =>
      refine Or.inl ⟨rfl, ?_⟩
      intro W hSw
      obtain ⟨⟨q0, q1, q2, q3, q4, q5, q6, q7, q8, q9, q10, q11, q12, q13⟩, q14⟩ := hSw
      go_simp
      try with_reducible rfl
    case hS0k => assumption
    try simp only [Act.put, List.setIfInBounds_toArray, List.set_cons_zero, List.set_cons_succ]
    refine wpAnyH_take (i := 1) (oi := ?oi1k) (v := ?v1k) ?hi1k ?hs1k ?hf1k ?hr1k ?hQ1k ?hy1k ?hS1k ?h1k
    case hi1k => exact (by simp only [List.getElem?_toArray, List.getElem?_cons_succ, List.getElem?_cons_zero]; rfl)
    case hs1k => kernel_rfl
    case hf1k => kernel_rfl
    case hr1k => kernel_rfl
    case hQ1k => exact fun _ _ _ h => h
    case hy1k =>
      refine Or.inl ⟨rfl, ?_⟩
      intro W hSw
      obtain ⟨⟨q0, q1, q2, q3, q4, q5, q6, q7, q8, q9, q10, q11, q12, q13⟩, q14⟩ := hSw
      go_simp
      try with_reducible rfl
    case hS1k => assumption
    try simp only [Act.put, List.setIfInBounds_toArray, List.set_cons_zero, List.set_cons_succ]
    refine wpAnyH_take (i := 2) (oi := ?oi2k) (v := ?v2k) ?hi2k ?hs2k ?hf2k ?hr2k ?hQ2k ?hy2k ?hS2k ?h2k
    case hi2k => exact (by simp only [List.getElem?_toArray, List.getElem?_cons_succ, List.getElem?_cons_zero]; rfl)
    case hs2k => kernel_rfl
    case hf2k => kernel_rfl
    case hr2k => kernel_rfl
    case hQ2k => exact fun _ _ _ h => h
    case hy2k =>
      refine Or.inl ⟨rfl, ?_⟩
      intro W hSw
      obtain ⟨⟨q0, q1, q2, q3, q4, q5, q6, q7, q8, q9, q10, q11, q12, q13⟩, q14⟩ := hSw
      go_simp
      try with_reducible rfl
    case hS2k => assumption
    try simp only [Act.put, List.setIfInBounds_toArray, List.set_cons_zero, List.set_cons_succ]
    refine wpAnyH_take (i := 3) (oi := ?oi3k) (v := ?v3k) ?hi3k ?hs3k ?hf3k ?hr3k ?hQ3k ?hy3k ?hS3k ?h3k
    case hi3k => exact (by simp only [List.getElem?_toArray, List.getElem?_cons_succ, List.getElem?_cons_zero]; rfl)
    case hs3k => kernel_rfl
    case hf3k => kernel_rfl
    case hr3k => kernel_rfl
    case hQ3k => exact fun _ _ _ h => h
    case hy3k =>
      refine Or.inl ⟨rfl, ?_⟩
      intro W hSw
      obtain ⟨⟨q0, q1, q2, q3, q4, q5, q6, q7, q8, q9, q10, q11, q12, q13⟩, q14⟩ := hSw
      go_simp
      try with_reducible rfl
    case hS3k => assumption
    try simp only [Act.put, List.setIfInBounds_toArray, List.set_cons_zero, List.set_cons_succ]
    refine wpAnyH_take (i := 4) (oi := ?oi4k) (v := ?v4k) ?hi4k ?hs4k ?hf4k ?hr4k ?hQ4k ?hy4k ?hS4k ?h4k
    case hi4k => exact (by simp only [List.getElem?_toArray, List.getElem?_cons_succ, List.getElem?_cons_zero]; rfl)
    case hs4k => kernel_rfl
    case hf4k => kernel_rfl
    case hr4k => kernel_rfl
    case hQ4k => exact fun _ _ _ h => h
    case hy4k =>
      refine Or.inl ⟨rfl, ?_⟩
      intro W hSw
      obtain ⟨⟨q0, q1, q2, q3, q4, q5, q6, q7, q8, q9, q10, q11, q12, q13⟩, q14⟩ := hSw
      go_simp
      try with_reducible rfl
    case hS4k => assumption
    try simp only [Act.put, List.setIfInBounds_toArray, List.set_cons_zero, List.set_cons_succ]
    refine wpAnyH_take (i := 5) (oi := ?oi5k) (v := ?v5k) ?hi5k ?hs5k ?hf5k ?hr5k ?hQ5k ?hy5k ?hS5k ?h5k
    case hi5k => exact (by simp only [List.getElem?_toArray, List.getElem?_cons_succ, List.getElem?_cons_zero]; rfl)
    case hs5k => kernel_rfl
    case hf5k => kernel_rfl
    case hr5k => kernel_rfl
    case hQ5k => exact fun _ _ _ h => h
    case hy5k =>
      refine Or.inl ⟨rfl, ?_⟩
      intro W hSw
      obtain ⟨⟨q0, q1, q2, q3, q4, q5, q6, q7, q8, q9, q10, q11, q12, q13⟩, q14⟩ := hSw
      go_simp
      try with_reducible rfl
    case hS5k => assumption
    try simp only [Act.put, List.setIfInBounds_toArray, List.set_cons_zero, List.set_cons_succ]
    refine wpAnyH_ready (rs := [6, 10]) (by kernel_rfl) (by simp) ?_
    refine AllReadyH.cons (o := _) rfl (fun K hK => ?_) (AllReadyH.cons (o := _) rfl (fun K hK => ?_) AllReadyH.nil)
    · go_simp
      refine (HMO.out Wk0 HDk.out).mono ?_
      rintro r Wa1 ⟨rfl, hbq⟩
      have HBWa1 := Lib.hid (HDk.out.trans (hbq.mono HDk.out.size))
      clear hbq
      refine hK.out _ _ (HS3.out _ (HBWa1.out)) (fun hHeld => ?_)
      clear hK K
      try simp only [Act.put, List.setIfInBounds_toArray, List.set_cons_zero, List.set_cons_succ]
      refine wpAnyH_take (i := 7) (oi := ?oi7ka) (v := ?v7ka) ?hi7ka ?hs7ka ?hf7ka ?hr7ka ?hQ7ka ?hy7ka ?hS7ka ?h7ka
      case hi7ka => exact (by simp only [List.getElem?_toArray, List.getElem?_cons_succ, List.getElem?_cons_zero]; rfl)
      case hs7ka => kernel_rfl
      case hf7ka => kernel_rfl
      case hr7ka => kernel_rfl
      case hQ7ka => exact fun _ _ _ h => h
      case hy7ka =>
        refine Or.inl ⟨rfl, ?_⟩
        intro W hSw
        obtain ⟨⟨q0, q1, q2, q3, q4, q5, q6, q7, q8, q9, q10, q11, q12, q13⟩, q14⟩ := hSw
        go_simp
        try with_reducible rfl
      case hS7ka => assumption
      try simp only [Act.put, List.setIfInBounds_toArray, List.set_cons_zero, List.set_cons_succ]
      refine wpAnyH_take (i := 8) (oi := ?oi8ka) (v := ?v8ka) ?hi8ka ?hs8ka ?hf8ka ?hr8ka ?hQ8ka ?hy8ka ?hS8ka ?h8ka
      case hi8ka => exact (by simp only [List.getElem?_toArray, List.getElem?_cons_succ, List.getElem?_cons_zero]; rfl)
      case hs8ka => kernel_rfl
      case hf8ka => kernel_rfl
      case hr8ka => kernel_rfl
      case hQ8ka => exact fun _ _ _ h => h
      case hy8ka =>
        refine Or.inl ⟨rfl, ?_⟩
        intro W hSw
        obtain ⟨⟨q0, q1, q2, q3, q4, q5, q6, q7, q8, q9, q10, q11, q12, q13⟩, q14⟩ := hSw
        go_simp
        try with_reducible rfl
      case hS8ka => assumption
      try simp only [Act.put, List.setIfInBounds_toArray, List.set_cons_zero, List.set_cons_succ]
      refine wpAnyH_take (i := 9) (oi := ?oi9ka) (v := ?v9ka) ?hi9ka ?hs9ka ?hf9ka ?hr9ka ?hQ9ka ?hy9ka ?hS9ka ?h9ka
      case hi9ka => exact (by simp only [List.getElem?_toArray, List.getElem?_cons_succ, List.getElem?_cons_zero]; rfl)
      case hs9ka => kernel_rfl
      case hf9ka => kernel_rfl
      case hr9ka => kernel_rfl
      case hQ9ka => exact fun _ _ _ h => h
      case hy9ka =>
        refine Or.inl ⟨rfl, ?_⟩
        intro W hSw
        obtain ⟨⟨q0, q1, q2, q3, q4, q5, q6, q7, q8, q9, q10, q11, q12, q13⟩, q14⟩ := hSw
        go_simp
        try with_reducible rfl
      case hS9ka => assumption
      try simp only [Act.put, List.setIfInBounds_toArray, List.set_cons_zero, List.set_cons_succ]
      refine wpAnyH_ready (rs := [10]) (by kernel_rfl) (by simp) ?_
      refine AllReadyH.cons (o := _) rfl (fun K hK => ?_) AllReadyH.nil
      go_simp
      obtain ⟨KB, hKB⟩ : ∃ k, k = Wa1.heap.size := ⟨_, rfl⟩
      obtain ⟨Wa2, hWa2⟩ : ∃ W, W = Wa1.alloc (.cells #[.int .i64 0, .int .i64 0, .int .i64 0, .int .i64 0, .int .i64 0] 58) := ⟨_, rfl⟩
      have hba : Below Wa1.heap.size Wa1 Wa2 := by rw [hWa2]; exact (Below.refl _ _).alloc (Nat.le_refl _) _
      have HBWa2 := Lib.hid (HBWa1.out.trans (hba.mono HBWa1.out.size))
      have HQWa2 : Hid (Wa2.heap[KB]? = some (.cells #[.int .i64 0, .int .i64 0, .int .i64 0, .int .i64 0, .int .i64 0] 58 (0, 0))) := by rw [hWa2, hKB]; exact heap_alloc_new _ _
      have HKB : Hid (w0.heap.size ≤ KB) := by rw [hKB]; exact HBWa1.out.size
      rw [← hWa2, ← hKB]
      clear hWa2 hKB
      refine hK.out _ _ (HS3.out _ (HBWa2.out)) (fun hHeld => ?_)
      clear hK K
      try simp only [Act.put, List.setIfInBounds_toArray, List.set_cons_zero, List.set_cons_succ]
      refine wpAnyH_ready (rs := [11]) (by kernel_rfl) (by simp) ?_
      refine AllReadyH.cons (o := _) rfl (fun K hK => ?_) AllReadyH.nil
      have hqr := HQWa2.out
      have x0 := cell_of_row _ KB 0 _ _ _ hqr
      have x1 := cell_of_row _ KB 1 _ _ _ hqr
      have x2 := cell_of_row _ KB 2 _ _ _ hqr
      have x3 := cell_of_row _ KB 3 _ _ _ hqr
      have x4 := cell_of_row _ KB 4 _ _ _ hqr
      simp at x0 x1 x2 x3 x4
      have xf : ∀ i, Wa2.frozen? ⟨KB, i, none⟩ = false := fun i => frozen_of_row _ _ i _ _ hqr
      go_simp
      obtain ⟨W9, hW9⟩ : ∃ W, W = (((((Wa2.setCell ⟨KB, 0, none⟩ (.int .i64 e0)).setCell ⟨KB, 1, none⟩ (.int .i64 e1)).setCell ⟨KB, 2, none⟩ (.int .i64 e2)).setCell ⟨KB, 3, none⟩ (.int .i64 e3)).setCell ⟨KB, 4, none⟩ (.int .i64 e4)) := ⟨_, rfl⟩
      have HC9 : Hid (W9.cell? ⟨KB, 0, none⟩ = some (.int .i64 e0)) := by rw [hW9]; exact (three (.int .i64 e0) (.int .i64 e1) (.int .i64 e2) (.int .i64 e3) (.int .i64 e4) hqr).1
      have HB9 : Hid (Below w0.heap.size w0 W9) := by rw [hW9]; exact three_below (.int .i64 e0) (.int .i64 e1) (.int .i64 e2) (.int .i64 e3) (.int .i64 e4) HBWa2.out HKB.out
      have HL9 : Hid (KB < W9.heap.size) := by rw [hW9]; have := lt_of_block hqr; simp only [Hid]; simpa using this
      rw [← hW9]
      clear hW9 hqr xf x0 x1 x2 x3 x4
      refine hK.out _ _ (HS3.out _ (HB9.out)) (fun hHeld => ?_)
      clear hK K
      try simp only [Act.put, List.setIfInBounds_toArray, List.set_cons_zero, List.set_cons_succ]
      refine wpAnyH_take (i := 12) (oi := ?oi12ka) (v := ?v12ka) ?hi12ka ?hs12ka ?hf12ka ?hr12ka ?hQ12ka ?hy12ka ?hS12ka ?h12ka
      case hi12ka => exact (by simp only [List.getElem?_toArray, List.getElem?_cons_succ, List.getElem?_cons_zero]; rfl)
      case hs12ka => kernel_rfl
      case hf12ka => kernel_rfl
      case hr12ka => kernel_rfl
      case hQ12ka => exact fun _ _ _ h => h
      case hy12ka =>
        refine Or.inl ⟨rfl, ?_⟩
        intro W hSw
        obtain ⟨⟨q0, q1, q2, q3, q4, q5, q6, q7, q8, q9, q10, q11, q12, q13⟩, q14⟩ := hSw
        go_simp
        try with_reducible rfl
      case hS12ka => assumption
      try simp only [Act.put, List.setIfInBounds_toArray, List.set_cons_zero, List.set_cons_succ]
      refine wpAnyH_done (by kernel_rfl) ?_ _
      go_wp2_with fail
      go_meet
      case rel => exact ⟨rfl, _, rfl, HC9.out, HL9.out, HB9.out⟩
    · go_simp
      obtain ⟨KB, hKB⟩ : ∃ k, k = Wk0.heap.size := ⟨_, rfl⟩
      obtain ⟨Wb1, hWb1⟩ : ∃ W, W = Wk0.alloc (.cells #[.int .i64 0, .int .i64 0, .int .i64 0, .int .i64 0, .int .i64 0] 58) := ⟨_, rfl⟩
      have hba : Below Wk0.heap.size Wk0 Wb1 := by rw [hWb1]; exact (Below.refl _ _).alloc (Nat.le_refl _) _
      have HBWb1 := Lib.hid (HDk.out.trans (hba.mono HDk.out.size))
      have HQWb1 : Hid (Wb1.heap[KB]? = some (.cells #[.int .i64 0, .int .i64 0, .int .i64 0, .int .i64 0, .int .i64 0] 58 (0, 0))) := by rw [hWb1, hKB]; exact heap_alloc_new _ _
      have HKB : Hid (w0.heap.size ≤ KB) := by rw [hKB]; exact HDk.out.size
      rw [← hWb1, ← hKB]
      clear hWb1 hKB
      refine hK.out _ _ (HS3.out _ (HBWb1.out)) (fun hHeld => ?_)
      clear hK K
      try simp only [Act.put, List.setIfInBounds_toArray, List.set_cons_zero, List.set_cons_succ]
      refine wpAnyH_ready (rs := [6]) (by kernel_rfl) (by simp) ?_
      refine AllReadyH.cons (o := _) rfl (fun K hK => ?_) AllReadyH.nil
      go_simp
      refine (HMO.out Wb1 HBWb1.out).mono ?_
      rintro r Wb2 ⟨rfl, hbq⟩
      have HBWb2 := Lib.hid (HBWb1.out.trans (hbq.mono HBWb1.out.size))
      have HQ9 := Lib.hid ((hbq.block _ (lt_of_block HQWb1.out)).trans HQWb1.out)
      clear hbq
      refine hK.out _ _ (HS3.out _ (HBWb2.out)) (fun hHeld => ?_)
      clear hK K
      try simp only [Act.put, List.setIfInBounds_toArray, List.set_cons_zero, List.set_cons_succ]
      refine wpAnyH_take (i := 7) (oi := ?oi7kb) (v := ?v7kb) ?hi7kb ?hs7kb ?hf7kb ?hr7kb ?hQ7kb ?hy7kb ?hS7kb ?h7kb
      case hi7kb => exact (by simp only [List.getElem?_toArray, List.getElem?_cons_succ, List.getElem?_cons_zero]; rfl)
      case hs7kb => kernel_rfl
      case hf7kb => kernel_rfl
      case hr7kb => kernel_rfl
      case hQ7kb => exact fun _ _ _ h => h
      case hy7kb =>
        refine Or.inl ⟨rfl, ?_⟩
        intro W hSw
        obtain ⟨⟨q0, q1, q2, q3, q4, q5, q6, q7, q8, q9, q10, q11, q12, q13⟩, q14⟩ := hSw
        go_simp
        try with_reducible rfl
      case hS7kb => assumption
      try simp only [Act.put, List.setIfInBounds_toArray, List.set_cons_zero, List.set_cons_succ]
      refine wpAnyH_take (i := 8) (oi := ?oi8kb) (v := ?v8kb) ?hi8kb ?hs8kb ?hf8kb ?hr8kb ?hQ8kb ?hy8kb ?hS8kb ?h8kb
      case hi8kb => exact (by simp only [List.getElem?_toArray, List.getElem?_cons_succ, List.getElem?_cons_zero]; rfl)
      case hs8kb => kernel_rfl
      case hf8kb => kernel_rfl
      case hr8kb => kernel_rfl
      case hQ8kb => exact fun _ _ _ h => h
      case hy8kb =>
        refine Or.inl ⟨rfl, ?_⟩
        intro W hSw
        obtain ⟨⟨q0, q1, q2, q3, q4, q5, q6, q7, q8, q9, q10, q11, q12, q13⟩, q14⟩ := hSw
        go_simp
        try with_reducible rfl
      case hS8kb => assumption
      try simp only [Act.put, List.setIfInBounds_toArray, List.set_cons_zero, List.set_cons_succ]
      refine wpAnyH_take (i := 9) (oi := ?oi9kb) (v := ?v9kb) ?hi9kb ?hs9kb ?hf9kb ?hr9kb ?hQ9kb ?hy9kb ?hS9kb ?h9kb
      case hi9kb => exact (by simp only [List.getElem?_toArray, List.getElem?_cons_succ, List.getElem?_cons_zero]; rfl)
      case hs9kb => kernel_rfl
      case hf9kb => kernel_rfl
      case hr9kb => kernel_rfl
      case hQ9kb => exact fun _ _ _ h => h
      case hy9kb =>
        refine Or.inl ⟨rfl, ?_⟩
        intro W hSw
        obtain ⟨⟨q0, q1, q2, q3, q4, q5, q6, q7, q8, q9, q10, q11, q12, q13⟩, q14⟩ := hSw
        go_simp
        try with_reducible rfl
      case hS9kb => assumption
      try simp only [Act.put, List.setIfInBounds_toArray, List.set_cons_zero, List.set_cons_succ]
      refine wpAnyH_ready (rs := [11]) (by kernel_rfl) (by simp) ?_
      refine AllReadyH.cons (o := _) rfl (fun K hK => ?_) AllReadyH.nil
      have hqr := HQ9.out
      have x0 := cell_of_row _ KB 0 _ _ _ hqr
      have x1 := cell_of_row _ KB 1 _ _ _ hqr
      have x2 := cell_of_row _ KB 2 _ _ _ hqr
      have x3 := cell_of_row _ KB 3 _ _ _ hqr
      have x4 := cell_of_row _ KB 4 _ _ _ hqr
      simp at x0 x1 x2 x3 x4
      have xf : ∀ i, Wb2.frozen? ⟨KB, i, none⟩ = false := fun i => frozen_of_row _ _ i _ _ hqr
      go_simp
      obtain ⟨W9, hW9⟩ : ∃ W, W = (((((Wb2.setCell ⟨KB, 0, none⟩ (.int .i64 e0)).setCell ⟨KB, 1, none⟩ (.int .i64 e1)).setCell ⟨KB, 2, none⟩ (.int .i64 e2)).setCell ⟨KB, 3, none⟩ (.int .i64 e3)).setCell ⟨KB, 4, none⟩ (.int .i64 e4)) := ⟨_, rfl⟩
      have HC9 : Hid (W9.cell? ⟨KB, 0, none⟩ = some (.int .i64 e0)) := by rw [hW9]; exact (three (.int .i64 e0) (.int .i64 e1) (.int .i64 e2) (.int .i64 e3) (.int .i64 e4) hqr).1
      have HB9 : Hid (Below w0.heap.size w0 W9) := by rw [hW9]; exact three_below (.int .i64 e0) (.int .i64 e1) (.int .i64 e2) (.int .i64 e3) (.int .i64 e4) HBWb2.out HKB.out
      have HL9 : Hid (KB < W9.heap.size) := by rw [hW9]; have := lt_of_block hqr; simp only [Hid]; simpa using this
      rw [← hW9]
      clear hW9 hqr xf x0 x1 x2 x3 x4
      refine hK.out _ _ (HS3.out _ (HB9.out)) (fun hHeld => ?_)
      clear hK K
      try simp only [Act.put, List.setIfInBounds_toArray, List.set_cons_zero, List.set_cons_succ]
      refine wpAnyH_take (i := 12) (oi := ?oi12kb) (v := ?v12kb) ?hi12kb ?hs12kb ?hf12kb ?hr12kb ?hQ12kb ?hy12kb ?hS12kb ?h12kb
      case hi12kb => exact (by simp only [List.getElem?_toArray, List.getElem?_cons_succ, List.getElem?_cons_zero]; rfl)
      case hs12kb => kernel_rfl
      case hf12kb => kernel_rfl
      case hr12kb => kernel_rfl
      case hQ12kb => exact fun _ _ _ h => h
      case hy12kb =>
        refine Or.inl ⟨rfl, ?_⟩
        intro W hSw
        obtain ⟨⟨q0, q1, q2, q3, q4, q5, q6, q7, q8, q9, q10, q11, q12, q13⟩, q14⟩ := hSw
        go_simp
        try with_reducible rfl
      case hS12kb => assumption
      try simp only [Act.put, List.setIfInBounds_toArray, List.set_cons_zero, List.set_cons_succ]
      refine wpAnyH_done (by kernel_rfl) ?_ _
      go_wp2_with fail
      go_meet
      case rel => exact ⟨rfl, _, rfl, HC9.out, HL9.out, HB9.out⟩
  case rest =>
  obtain ⟨rfl, KB, rfl, HKB, HKL, HR1⟩ := hcut
  rename World => w1
  clear HMO HS3
  obtain ⟨bi, hbi⟩ : ∃ b, b = decide (1 ≤ t.id ∧ t.id ≤ 2147483647) := ⟨_, rfl⟩
  have HRI := Lib.hid (right_any t.id w1)
  rw [← hbi] at HRI
  have HBI := Lib.hid hbi
  have HBW1 : Hid (Below w.heap.size w w1) := HB0.out.trans (HR1.out.mono HB0.out.size)
  obtain ⟨z0, z1, z2, z3, z4⟩ := HG.out w1 HR1.out
  clear hbi
  go_wp2_with fail
  refine HRI.out.mono ?_
  rintro r w1' ⟨rfl, hw⟩
  have hw := hw.symm
  subst hw
  cases bi
  · have E : Hid (errQ ml L t = 14) := if_pos (.inl (of_decide_eq_false HBI.out.symm))
    go_wp2
    go_ret
    exact ⟨by rw [E.out]; first | rfl | simp, by rw [E.out, if_neg (by decide)]; exact PutT.of_below HQB.out (HBW1.out) (Nat.le_refl _)⟩

  have HNI : Hid (P.okN t.id) := by simp only [Hid]; exact of_decide_eq_true HBI.out.symm
  obtain ⟨bb, hbb⟩ : ∃ b, b = decide (¬ ∀ x ∈ t.mem, P.okN x) := ⟨_, rfl⟩
  have HBD := Lib.hid (bad_any s.a s.n s.c t.mem w1 HH1.out ((HRT.out.after HB0.out).after HR1.out) (by have := HH1.out; have := HLL.out; omega))
  rw [← hbb] at HBD
  have HBB := Lib.hid hbb
  clear hbb
  go_wp2_with fail
  refine HBD.out.mono ?_
  rintro r w2 ⟨rfl, hb2⟩
  have HR2 := Lib.hid (HR1.out.trans (hb2.mono HR1.out.size))
  have HBW2 : Hid (Below w.heap.size w w2) := HB0.out.trans (HR2.out.mono HB0.out.size)
  have k2 := (hb2.cell (p := ⟨KB, _, none⟩) HKL.out).trans HKB.out
  clear z0 z1 z2 z3 z4 hb2
  obtain ⟨z0, z1, z2, z3, z4⟩ := HG.out w2 HR2.out
  cases bb
  case true =>
    have E : Hid (errQ ml L t = 14) := if_pos (.inr (of_decide_eq_true HBB.out.symm))
    go_wp2
    go_ret
    exact ⟨by rw [E.out]; first | rfl | simp, by rw [E.out, if_neg (by decide)]; exact PutT.of_below HQB.out (HBW2.out) (Nat.le_refl _)⟩

  have HNA : Hid (¬ (¬ P.okN t.id ∨ ¬ (∀ x ∈ t.mem, P.okN x))) := by
    rintro (hh | hh)
    · exact hh HNI.out
    · exact of_decide_eq_false HBB.out.symm hh
  cases bm
  · have E : Hid (errQ ml L t = 20) := by
      rw [Hid]
      unfold errQ
      rw [if_neg HNA.out, if_pos (of_decide_eq_false HBM.out.symm)]
    go_wp2
    go_ret
    exact ⟨by rw [E.out]; first | rfl | simp, by rw [E.out, if_neg (by decide)]; exact PutT.of_below HQB.out (HBW2.out) (Nat.le_refl _)⟩

  have HMD : Hid (0 ≤ t.md ∧ t.md < (ml.length : Int)) := by simp only [Hid]; exact of_decide_eq_true HBM.out.symm
  by_cases hsz : t.mem.length = 0 ∨ e0 < (t.mem.length : Int)
  · have E : Hid (errQ ml L t = 21) := by
      rw [Hid]
      unfold errQ
      rw [if_neg HNA.out, if_neg (fun hh => hh HMD.out), if_pos (by rw [HE0.out]; exact hsz)]
    obtain ⟨n, hn⟩ : ∃ n, n = t.mem.length := ⟨_, rfl⟩
    have hsn : s.n = n := by rw [hn]; exact HH1.out
    rw [← hn] at hsz
    rw [hsn] at z2
    clear hsn hn
    by_cases hn0 : n = 0
    · subst hn0
      clear hsz
      go_wp2
      go_ret
      exact ⟨by rw [E.out]; first | rfl | simp, by rw [E.out, if_neg (by decide)]; exact PutT.of_below HQB.out (HBW2.out) (Nat.le_refl _)⟩

    · have hlt : e0 < (n : Int) := hsz.resolve_left hn0
      clear hsz
      go_wp2
      go_ret
      exact ⟨by rw [E.out]; first | rfl | simp, by rw [E.out, if_neg (by decide)]; exact PutT.of_below HQB.out (HBW2.out) (Nat.le_refl _)⟩

  have HSZ : Hid (¬ (t.mem.length = 0 ∨ (eM ml t.md).1 < (t.mem.length : Int))) := by rw [HE0.out]; exact hsz
  have hn0 : ((s.n : Int) == 0) = false := by rw [HH1.out]; exact beq_eq_false_iff_ne.2 (fun e => hsz (.inl (by omega)))
  have hlt : decide (e0 < (s.n : Int)) = false := by rw [HH1.out]; exact decide_eq_false (fun e => hsz (.inr e))
  clear hsz
  by_cases hrt : t.rt < 0 ∨ 10000 < t.rt
  · have E : Hid (errQ ml L t = 2) := by
      rw [Hid]
      unfold errQ
      rw [if_neg HNA.out, if_neg (fun hh => hh HMD.out), if_neg HSZ.out, if_pos hrt]
    obtain ⟨rt, hrt'⟩ : ∃ x, x = t.rt := ⟨_, rfl⟩
    rw [← hrt'] at hrt z3
    clear hrt'
    by_cases hr0 : rt < 0
    · clear hrt
      go_wp2
      go_ret
      exact ⟨by rw [E.out]; first | rfl | simp, by rw [E.out, if_neg (by decide)]; exact PutT.of_below HQB.out (HBW2.out) (Nat.le_refl _)⟩

    · have hlt' : decide (10000 < rt) = true := decide_eq_true (hrt.resolve_left hr0)
      have hr0' : decide (rt < 0) = false := decide_eq_false hr0
      clear hrt hr0
      go_wp2
      go_ret
      exact ⟨by rw [E.out]; first | rfl | simp, by rw [E.out, if_neg (by decide)]; exact PutT.of_below HQB.out (HBW2.out) (Nat.le_refl _)⟩

  have HRTG := Lib.hid hrt
  have HCL : Hid (∀ b : Bool, (b = true ↔ clashP L t.id t.mem) → Calls Tryz.prog 32 #[qp B, .agg (mC t.id t.md s t.rt t.sn)] w2 fun r w' => r = .returned (.bool b) ∧ Below w2.heap.size w2 w') := fun b hb =>
    clash_any B R mo vi ms L t.id t.md t.rt t.sn s t.mem b w2 (HQB.out.after HBW2.out) (by have := HL.out; omega) HM.out HH1.out ((HRT.out.after HB0.out).after HR2.out) HLL.out hb
  have hr1 : decide (t.rt < 0) = false := decide_eq_false fun e => hrt (.inl e)
  have hr2 : decide (10000 < t.rt) = false := decide_eq_false fun e => hrt (.inr e)
  clear hrt
  obtain ⟨bc, HBC⟩ : ∃ b : Bool, Hid (b = true ↔ clashP L t.id t.mem) := by
    classical
    exact ⟨decide (clashP L t.id t.mem), decide_eq_true_iff⟩
  have HCB := Lib.hid (HCL.out bc HBC.out)
  clear HCL
  go_wp2_with fail
  refine HCB.out.mono ?_
  rintro r w3 ⟨rfl, hb3⟩
  have HR3 := Lib.hid (HR2.out.trans (hb3.mono HR2.out.size))
  have HBW3 : Hid (Below w.heap.size w w3) := HB0.out.trans (HR3.out.mono HB0.out.size)
  clear z0 z1 z2 z3 z4 k2 hb3 hr1 hr2 hn0 hlt
  obtain ⟨z0, z1, z2, z3, z4⟩ := HG.out w3 HR3.out
  cases bc
  case true =>
    have E : Hid (errQ ml L t = 11) := by
      rw [Hid]
      unfold errQ
      rw [if_neg HNA.out, if_neg (fun hh => hh HMD.out), if_neg HSZ.out, if_neg HRTG.out, if_pos (HBC.out.1 rfl)]
    go_wp2
    go_ret
    exact ⟨by rw [E.out]; first | rfl | simp, by rw [E.out, if_neg (by decide)]; exact PutT.of_below HQB.out (HBW3.out) (Nat.le_refl _)⟩

  have HNC : Hid (¬ clashP L t.id t.mem) := fun hh => by have := HBC.out.2 hh; cases this
  have HOF := Lib.hid (of_any t.md w3)
  go_wp2_with fail
  refine HOF.out.mono ?_
  rintro r w4 ⟨rfl, hw4⟩
  obtain ⟨KF, hKF⟩ : ∃ K, K = w3.heap.size := ⟨_, rfl⟩
  have hb4 : Below w3.heap.size w3 w4 := by rw [hw4]; exact (Below.refl _ _).alloc (Nat.le_refl _) _
  have hq4 : w4.heap[KF]? = some (.cells #[.int .i64 t.md] 3 (0, 0)) := by rw [hw4, hKF]; exact heap_alloc_new w3 _
  have HR4 := Lib.hid (HR3.out.trans (hb4.mono HR3.out.size))
  have HBW4 : Hid (Below w.heap.size w w4) := HB0.out.trans (HR4.out.mono HB0.out.size)
  have HTS := Lib.hid (those_96 B R mo vi ms L KF (fun e => decide (e.md = t.md)) w4 (HQB.out.after HBW4.out) (by have := HL.out; omega) (fun W e s' hW he hf =>
    mode_cl e.id e.md e.rt e.sn t.md s' KF W (Nat.lt_of_lt_of_le (lt_of_block hq4) hW.size) (by
      rw [cell_of_row W KF 0 _ _ _ ((hW.block KF (lt_of_block hq4)).trans hq4)]
      rfl)))
  rw [← hKF]
  clear hw4 hb4 hq4 hKF
  go_wp2_with fail
  refine HTS.out.mono ?_
  rintro r w6 ⟨A6, n6, c6, rfl, hpw, hb6⟩
  have hn6 : n6 = cntM L t.md := hpw.len
  have HR6 := Lib.hid (HR4.out.trans (hb6.mono HR4.out.size))
  have HB6 : Hid (Below w.heap.size w w6) := HB0.out.trans (HR6.out.mono HB0.out.size)
  have HN6 := Lib.hid hn6
  clear z0 z1 z2 z3 z4 hb6 hpw hn6
  obtain ⟨z0, z1, z2, z3, z4⟩ := HG.out w6 HR6.out
  by_cases h16 : 16 ≤ n6
  · have E : Hid (errQ ml L t = 10) := by
      rw [Hid]
      unfold errQ
      rw [if_neg HNA.out, if_neg (fun hh => hh HMD.out), if_neg HSZ.out, if_neg HRTG.out, if_neg HNC.out, if_pos (by rw [← HN6.out]; exact h16)]
    have h16i : decide ((16 : Int) ≤ (n6 : Int)) = true := decide_eq_true (by omega)
    have h16n : decide (16 ≤ n6) = true := decide_eq_true h16
    clear h16
    go_wp2
    go_ret
    exact ⟨by rw [E.out]; first | rfl | simp, by rw [E.out, if_neg (by decide)]; exact PutT.of_below HQB.out (HB6.out) (Nat.le_refl _)⟩

  have E : Hid (errQ ml L t = 0) := by
    rw [Hid]
    unfold errQ
    rw [if_neg HNA.out, if_neg (fun hh => hh HMD.out), if_neg HSZ.out, if_neg HRTG.out, if_neg HNC.out, if_neg (by rw [← HN6.out]; exact h16)]
  have HROOM : Hid ((L.length : Int) < min mo 2147483647) := HRO.out HMD.out.1 HMD.out.2 (by rw [← HN6.out]; omega)
  have h16i : decide ((16 : Int) ≤ (n6 : Int)) = false := decide_eq_false (by omega)
  have h16n : decide (16 ≤ n6) = false := decide_eq_false h16
  have HQG : Hid (∀ W, Below w6.heap.size w6 W → W.heap[G]? = some (.cells (mC t.id t.md s t.rt t.sn) 39 (0, 0))) := fun W hW => by
    have hb := HR6.out.trans (hW.mono HR6.out.size)
    exact (hb.block G (lt_of_block HQ0.out)).trans HQ0.out
  have HGW : Hid (G < w6.heap.size) := lt_of_block (HQG.out w6 (Below.refl _ _))
  have HBR6 : Hid (Below w6.heap.size w6 w6) := Below.refl _ _
  have HS16 : Hid (∀ W, Below w6.heap.size w6 W → (fun W : World => W.cell? ⟨B, 14, none⟩ = some (qp R) ∧ W.cell? ⟨G, 0, none⟩ = some (.int .u32 (t.id : Int)) ∧ W.cell? ⟨G, 1, none⟩ = some (.int .i64 t.md) ∧ W.cell? ⟨G, 2, none⟩ = some (.slice s.a s.n s.c) ∧ W.cell? ⟨G, 3, none⟩ = some (.int .i64 t.rt) ∧ W.cell? ⟨G, 4, none⟩ = some (.int .i64 t.sn)) W) := fun W hW => ⟨((HQB.out.after HB6.out).after hW).ptr, HG.out W (HR6.out.trans (hW.mono HR6.out.size))⟩
  have HOWN : Hid (∀ W, Below w6.heap.size w6 W → Calls Tryz.prog 36 #[.agg (mC t.id t.md s t.rt t.sn)] W fun r w' => ∃ A c, r = .returned (.agg (mC t.id t.md ⟨A, t.mem.length, c⟩ t.rt t.sn)) ∧ w'.ownsRow w6.heap.size 33 1 (.slice A t.mem.length c) t.mem.length (un t.mem) ∧ Below W.heap.size W w') := fun W hW =>
    (own_any t.id t.md t.rt t.sn s t.mem W HH1.out (((HRT.out.after HB0.out).after HR6.out).after hW) HLL.out).mono fun r w' ⟨A, c, e1, e2, e3⟩ => ⟨A, c, e1, P.own_base' e2 hW.size, e3⟩
  have HADD : Hid (∀ W, Below w6.heap.size w6 W → ∀ A c, W.ownsRow w6.heap.size 33 1 (.slice A t.mem.length c) t.mem.length (un t.mem) → Calls Tryz.prog 35 #[qp R, .int .u32 (t.id : Int), .agg (mC t.id t.md ⟨A, t.mem.length, c⟩ t.rt t.sn)] W fun r w' => r = .returned (.int .i64 0) ∧ PutT w.heap.size B R mo vi ms L (insT L t) W w' ∧ ∀ k, w.heap.size ≤ k → k < W.heap.size → w'.heap[k]? = W.heap[k]?) := fun W hW A c ho =>
    qadd_new B R mo vi ms L ⟨A, t.mem.length, c⟩ t w W HQB.out (HB6.out.trans (hW.mono HB6.out.size)) HL.out (fun e he hi => HNC.out (.inl (List.mem_map.2 ⟨e, he, hi⟩))) HNI.out HROOM.out (P.Fl.fresh ((HQB.out.after HB6.out).ctx) (Nat.le_refl _) ho) (fun b o e => by
      have hA : A = some ⟨b, o, none⟩ := e
      subst hA
      exact Nat.le_trans HB6.out.size (ownlt ho b rfl).1)
  clear h16 z0 z1 z2 z3 z4
  go_upto_region 16 with (fail)
  have HDz : Hid (Below w6.heap.size w6 w6.drew) := HBR6.out.drew
  refine wp_region_held_drew (S := fun W : World => W.cell? ⟨B, 14, none⟩ = some (qp R) ∧ W.cell? ⟨G, 0, none⟩ = some (.int .u32 (t.id : Int)) ∧ W.cell? ⟨G, 1, none⟩ = some (.int .i64 t.md) ∧ W.cell? ⟨G, 2, none⟩ = some (.slice s.a s.n s.c) ∧ W.cell? ⟨G, 3, none⟩ = some (.int .i64 t.rt) ∧ W.cell? ⟨G, 4, none⟩ = some (.int .i64 t.sn)) (by kernel_rfl) (HS16.out _ (HDz.out)) (fun hHeld => ?_)
  obtain ⟨Wz0, hW0⟩ : ∃ W0, W0 = w6.drew := ⟨_, rfl⟩
  rw [← hW0] at hHeld HDz ⊢
  clear hW0
  refine wpAnyH_take (i := 0) (oi := ?oi0z) (v := ?v0z) ?hi0z ?hs0z ?hf0z ?hr0z ?hQ0z ?hy0z ?hS0z ?h0z
  case hi0z => exact (by simp only [List.getElem?_toArray, List.getElem?_cons_zero]; rfl)
  case hs0z => kernel_rfl
  case hf0z => kernel_rfl
  case hr0z => kernel_rfl
  case hQ0z => exact fun _ _ _ h => h
  case hy0z =>
    refine Or.inl ⟨rfl, ?_⟩
    intro W hSw
    obtain ⟨q0, q1, q2, q3, q4, q5⟩ := hSw
    go_simp
    try with_reducible rfl
  case hS0z => assumption
  try simp only [Act.put, List.setIfInBounds_toArray, List.set_cons_zero, List.set_cons_succ]
  refine wpAnyH_take (i := 1) (oi := ?oi1z) (v := ?v1z) ?hi1z ?hs1z ?hf1z ?hr1z ?hQ1z ?hy1z ?hS1z ?h1z
  case hi1z => exact (by simp only [List.getElem?_toArray, List.getElem?_cons_succ, List.getElem?_cons_zero]; rfl)
  case hs1z => kernel_rfl
  case hf1z => kernel_rfl
  case hr1z => kernel_rfl
  case hQ1z => exact fun _ _ _ h => h
  case hy1z =>
    refine Or.inl ⟨rfl, ?_⟩
    intro W hSw
    obtain ⟨q0, q1, q2, q3, q4, q5⟩ := hSw
    go_simp
    try with_reducible rfl
  case hS1z => assumption
  try simp only [Act.put, List.setIfInBounds_toArray, List.set_cons_zero, List.set_cons_succ]
  refine wpAnyH_take (i := 2) (oi := ?oi2z) (v := ?v2z) ?hi2z ?hs2z ?hf2z ?hr2z ?hQ2z ?hy2z ?hS2z ?h2z
  case hi2z => exact (by simp only [List.getElem?_toArray, List.getElem?_cons_succ, List.getElem?_cons_zero]; rfl)
  case hs2z => kernel_rfl
  case hf2z => kernel_rfl
  case hr2z => kernel_rfl
  case hQ2z => exact fun _ _ _ h => h
  case hy2z =>
    refine Or.inl ⟨rfl, ?_⟩
    intro W hSw
    obtain ⟨q0, q1, q2, q3, q4, q5⟩ := hSw
    go_simp
    try with_reducible rfl
  case hS2z => assumption
  try simp only [Act.put, List.setIfInBounds_toArray, List.set_cons_zero, List.set_cons_succ]
  refine wpAnyH_take (i := 3) (oi := ?oi3z) (v := ?v3z) ?hi3z ?hs3z ?hf3z ?hr3z ?hQ3z ?hy3z ?hS3z ?h3z
  case hi3z => exact (by simp only [List.getElem?_toArray, List.getElem?_cons_succ, List.getElem?_cons_zero]; rfl)
  case hs3z => kernel_rfl
  case hf3z => kernel_rfl
  case hr3z => kernel_rfl
  case hQ3z => exact fun _ _ _ h => h
  case hy3z =>
    refine Or.inl ⟨rfl, ?_⟩
    intro W hSw
    obtain ⟨q0, q1, q2, q3, q4, q5⟩ := hSw
    go_simp
    try with_reducible rfl
  case hS3z => assumption
  try simp only [Act.put, List.setIfInBounds_toArray, List.set_cons_zero, List.set_cons_succ]
  refine wpAnyH_take (i := 4) (oi := ?oi4z) (v := ?v4z) ?hi4z ?hs4z ?hf4z ?hr4z ?hQ4z ?hy4z ?hS4z ?h4z
  case hi4z => exact (by simp only [List.getElem?_toArray, List.getElem?_cons_succ, List.getElem?_cons_zero]; rfl)
  case hs4z => kernel_rfl
  case hf4z => kernel_rfl
  case hr4z => kernel_rfl
  case hQ4z => exact fun _ _ _ h => h
  case hy4z =>
    refine Or.inl ⟨rfl, ?_⟩
    intro W hSw
    obtain ⟨q0, q1, q2, q3, q4, q5⟩ := hSw
    go_simp
    try with_reducible rfl
  case hS4z => assumption
  try simp only [Act.put, List.setIfInBounds_toArray, List.set_cons_zero, List.set_cons_succ]
  refine wpAnyH_take (i := 5) (oi := ?oi5z) (v := ?v5z) ?hi5z ?hs5z ?hf5z ?hr5z ?hQ5z ?hy5z ?hS5z ?h5z
  case hi5z => exact (by simp only [List.getElem?_toArray, List.getElem?_cons_succ, List.getElem?_cons_zero]; rfl)
  case hs5z => kernel_rfl
  case hf5z => kernel_rfl
  case hr5z => kernel_rfl
  case hQ5z => exact fun _ _ _ h => h
  case hy5z =>
    refine Or.inl ⟨rfl, ?_⟩
    intro W hSw
    obtain ⟨q0, q1, q2, q3, q4, q5⟩ := hSw
    go_simp
    try with_reducible rfl
  case hS5z => assumption
  try simp only [Act.put, List.setIfInBounds_toArray, List.set_cons_zero, List.set_cons_succ]
  refine wpAnyH_take (i := 6) (oi := ?oi6z) (v := ?v6z) ?hi6z ?hs6z ?hf6z ?hr6z ?hQ6z ?hy6z ?hS6z ?h6z
  case hi6z => exact (by simp only [List.getElem?_toArray, List.getElem?_cons_succ, List.getElem?_cons_zero]; rfl)
  case hs6z => kernel_rfl
  case hf6z => kernel_rfl
  case hr6z => kernel_rfl
  case hQ6z => exact fun _ _ _ h => h
  case hy6z =>
    refine Or.inl ⟨rfl, ?_⟩
    intro W hSw
    obtain ⟨q0, q1, q2, q3, q4, q5⟩ := hSw
    go_simp
    try with_reducible rfl
  case hS6z => assumption
  try simp only [Act.put, List.setIfInBounds_toArray, List.set_cons_zero, List.set_cons_succ]
  refine wpAnyH_ready (rs := [7]) (by kernel_rfl) (by simp) ?_
  refine AllReadyH.cons (o := _) rfl (fun K hK => ?_) AllReadyH.nil
  go_simp
  refine (HOWN.out Wz0 HDz.out).mono ?_
  rintro r Wz1 ⟨A1, c1, rfl, ho1, hbq⟩
  have HBz1 := Lib.hid (HDz.out.trans (hbq.mono HDz.out.size))
  have HO1 := Lib.hid ho1
  clear ho1
  clear hbq
  refine hK.out _ _ (HS16.out _ (HBz1.out)) (fun hHeld => ?_)
  clear hK K
  try simp only [Act.put, List.setIfInBounds_toArray, List.set_cons_zero, List.set_cons_succ]
  refine wpAnyH_ready (rs := [8]) (by kernel_rfl) (by simp) ?_
  refine AllReadyH.cons (o := _) rfl (fun K hK => ?_) AllReadyH.nil
  have hq8 := HADD.out Wz1 HBz1.out A1 c1 HO1.out
  go_simp
  refine hq8.mono ?_
  rintro r W9 ⟨rfl, hp, hkp⟩
  have HPF := Lib.hid (hp.from (Nat.le_of_lt HQB.out.ctx.1) (HB6.out.trans (HBz1.out.mono HB6.out.size)) (Nat.le_refl _))
  have HS9 : Hid ((fun W : World => W.cell? ⟨B, 14, none⟩ = some (qp R) ∧ W.cell? ⟨G, 0, none⟩ = some (.int .u32 (t.id : Int)) ∧ W.cell? ⟨G, 1, none⟩ = some (.int .i64 t.md) ∧ W.cell? ⟨G, 2, none⟩ = some (.slice s.a s.n s.c) ∧ W.cell? ⟨G, 3, none⟩ = some (.int .i64 t.rt) ∧ W.cell? ⟨G, 4, none⟩ = some (.int .i64 t.sn)) W9) := by
    obtain ⟨vi', hbq9, _⟩ := hp
    have hq := (hkp G (by have := HGG.out; omega) (Nat.lt_of_lt_of_le HGW.out HBz1.out.size)).trans (HQG.out _ HBz1.out)
    have x0 := cell_of_row _ G 0 _ _ _ hq
    have x1 := cell_of_row _ G 1 _ _ _ hq
    have x2 := cell_of_row _ G 2 _ _ _ hq
    have x3 := cell_of_row _ G 3 _ _ _ hq
    have x4 := cell_of_row _ G 4 _ _ _ hq
    exact ⟨hbq9.ptr, by simpa using x0, by simpa using x1, by simpa using x2, by simpa using x3, by simpa using x4⟩
  clear hq8 hp hkp
  refine hK.out _ _ (HS9.out) (fun hHeld => ?_)
  clear hK K
  try simp only [Act.put, List.setIfInBounds_toArray, List.set_cons_zero, List.set_cons_succ]
  refine wpAnyH_take (i := 9) (oi := ?oi9z) (v := ?v9z) ?hi9z ?hs9z ?hf9z ?hr9z ?hQ9z ?hy9z ?hS9z ?h9z
  case hi9z => exact (by simp only [List.getElem?_toArray, List.getElem?_cons_succ, List.getElem?_cons_zero]; rfl)
  case hs9z => kernel_rfl
  case hf9z => kernel_rfl
  case hr9z => kernel_rfl
  case hQ9z => exact fun _ _ _ h => h
  case hy9z =>
    refine Or.inl ⟨rfl, ?_⟩
    intro W hSw
    obtain ⟨q0, q1, q2, q3, q4, q5⟩ := hSw
    go_simp
    try with_reducible rfl
  case hS9z => assumption
  try simp only [Act.put, List.setIfInBounds_toArray, List.set_cons_zero, List.set_cons_succ]
  refine wpAnyH_done (by kernel_rfl) ?_ _
  go_wp2_with fail
  go_ret
  exact ⟨by rw [E.out]; rfl, by rw [E.out, if_pos rfl]; exact HPF.out⟩
end Go.Proofs.YtemjmnpclknfaaaGreat.T
