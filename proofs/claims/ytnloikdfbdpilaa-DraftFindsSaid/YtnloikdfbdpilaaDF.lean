/- Draft: Fits, Teams, Find. -/
import Derived.Test.YtnloikdfbdpilaaDE
namespace Go.Proofs.Ytnloikdfbdpilaa
open Go.RowKit
set_option maxRecDepth 20000
set_option linter.unusedVariables false

def Mo.wr (m : Mo) : List UInt8 := wrongM m.k m.b m.s m.c m.e
theorem win_bd (m : Mo) (x : Int) : 0 ≤ m.win x ∧ m.win x ≤ 10000 := by
  unfold Mo.win win
  split
  · next h =>
    have hb := wrongM_bounds h
    have hq : 0 ≤ m.s * min (max x 0 / m.e) 10000 := Int.mul_nonneg hb.2.2.1.1 (by have := Int.ediv_nonneg (show 0 ≤ max x 0 by omega) (show 0 ≤ m.e by omega); omega)
    omega
  · omega
/-- Tickets of at most ten players. -/
def Sm (l : List Tk) : Prop := ∀ t ∈ l, t.n ≤ 10 ∧ In64 t.s
theorem ents_mem {m : Mo} {now : Int} {l : List Tk} {e : En} (h : e ∈ entsP m now l) : ∃ (i : Nat) (t : Tk), l[i]? = some t ∧ e = entP m now i t := by
  unfold entsP at h
  obtain ⟨i, hi, rfl⟩ := List.mem_mapIdx.1 h
  exact ⟨i, l[i], List.getElem?_eq_getElem hi, rfl⟩
theorem ents_ok {m : Mo} {now : Int} {l : List Tk} (hs : Sm l) : ∀ e ∈ entsP m now l, Ok e := fun e he => by
  obtain ⟨i, t, ht, rfl⟩ := ents_mem he
  have h1 := (hs t (List.mem_of_getElem? ht)).1
  have h2 := win_bd m (waitP now t.s)
  unfold entP Ok rt
  simp only
  omega

set_option linter.unusedSimpArgs false in
set_option maxHeartbeats 4000000 in
theorem fits_any (m : Mo) (now : Int) (A : Option Addr) (n c : Nat) (l : List Tk) (w : World) (hn : n = l.length) (hE : Ts w w.heap.size A l) (hl : n ≤ 20) (hnow : In64 now) (hs : Sm l) :
    Calls Try.prog 12 #[m.v, .int .i64 now, .slice A n c] w fun r w' => (∃ t : Bool, r = .returned (.bool t) ∧ (t = true ↔ m.wr = [] ∧ Fit (entsP m now l))) ∧ Below w.heap.size w w' := by
  obtain ⟨w0, hw0⟩ : ∃ w0, w0 = w.alloc (.cells m.cells 32) := ⟨_, rfl⟩
  have hb0 : Below w.heap.size w w0 := by rw [hw0]; exact (Below.refl _ _).alloc (Nat.le_refl _) _
  have hq0 : w0.heap[w.heap.size]? = some (.cells m.cells 32 (0, 0)) := by rw [hw0]; exact heap_alloc_new w _
  have HWR : Hid (∀ W, Calls Try.prog 27 #[m.v] W fun r w' => r = .returned (sV m.wr) ∧ Below W.heap.size W w') := fun W => wrongM_any m.k m.b m.s m.c m.e W
  have HEN : Hid (∀ W, Below w.heap.size w W → Calls Try.prog 29 #[m.v, .int .i64 now, .slice A n c] W fun r w' => (∃ A', r = .returned (.slice A' n n) ∧ Es w' w'.heap.size A' (entsP m now l)) ∧ Below W.heap.size W w') := fun W hW =>
    entries_any m now A n c l W hn (hE.later hW (Nat.le_refl _)) (by omega) hnow (fun t ht => (hs t ht).2)
  have HFT : Hid (∀ W A', Es W W.heap.size A' (entsP m now l) → Calls Try.prog 28 #[.slice A' n n] W fun r w' => (∃ t : Bool, r = .returned (.bool t) ∧ (t = true ↔ Fit (entsP m now l))) ∧ Below W.heap.size W w') := fun W A' h =>
    fit_any A' n n _ W (by rw [entsP_len, hn]) h (ents_ok hs) (by omega) (Nat.le_refl _)
  have HCE : Hid (∀ W, Below w0.heap.size w0 W → W.cell? ⟨w.heap.size, 0, none⟩ = some (.int .i64 m.k) ∧ W.cell? ⟨w.heap.size, 1, none⟩ = some (.int .i64 m.b) ∧ W.cell? ⟨w.heap.size, 2, none⟩ = some (.int .i64 m.s) ∧ W.cell? ⟨w.heap.size, 3, none⟩ = some (.int .i64 m.c) ∧ W.cell? ⟨w.heap.size, 4, none⟩ = some (.int .i64 m.e)) := fun W hW => by
    have e2 := (hW.block _ (lt_of_block hq0)).trans hq0
    exact ⟨cell_of_row W _ 0 _ _ _ e2, cell_of_row W _ 1 _ _ _ e2, cell_of_row W _ 2 _ _ _ e2, cell_of_row W _ 3 _ _ _ e2, cell_of_row W _ 4 _ _ _ e2⟩
  obtain ⟨mw, hmw⟩ : ∃ mw, mw = m.wr := ⟨_, rfl⟩
  rw [← hmw] at HWR ⊢
  obtain ⟨F, hF⟩ : ∃ F, F = Fit (entsP m now l) := ⟨_, rfl⟩
  have H0 := Lib.hid hw0
  have HB0 := Lib.hid hb0
  obtain ⟨c0, c1, c2, c3, c4⟩ := HCE.out w0 (Below.refl _ _)
  clear hw0 hb0 hq0 hn hE hs hmw
  rw [← hF] at HFT ⊢
  clear hF
  by_cases he : mw.isEmpty = true
  · have HMW : Hid (mw = []) := List.isEmpty_iff.1 he
    go_enter Try.func12, Try.ntmps12
    go_upto_region 1 with (fail)
    rw [← H0.out]
    go_wp2_with fail
    refine (HWR.out w0).mono ?_
    rintro r w1 ⟨rfl, hb⟩
    have HB1 := Lib.hid hb
    clear hb c0 c1 c2 c3 c4
    obtain ⟨c0, c1, c2, c3, c4⟩ := HCE.out w1 HB1.out
    go_wp2_with fail
    refine (HEN.out w1 (HB0.out.trans (HB1.out.mono HB0.out.size))).mono ?_
    rintro r w2 ⟨⟨A2, rfl, hE2⟩, hb⟩
    have HB2 := Lib.hid (HB1.out.trans (hb.mono HB1.out.size))
    have HE2 := Lib.hid hE2
    clear hb hE2
    go_wp2_with fail
    refine (HFT.out w2 A2 HE2.out).mono ?_
    rintro r w3 ⟨⟨t, rfl, ht⟩, hb⟩
    have HB3 := Lib.hid (HB0.out.trans ((HB2.out.trans (hb.mono HB2.out.size)).mono HB0.out.size))
    have HT := Lib.hid ht
    clear hb ht
    cases t
    all_goals
      go_wp2
      go_ret
      exact ⟨⟨_, rfl, by rw [HMW.out]; simpa using HT.out⟩, HB3.out⟩
  · have hef : mw.isEmpty = false := by simpa using he
    have HMW : Hid (¬ mw = []) := fun h => he (List.isEmpty_iff.2 h)
    go_enter Try.func12, Try.ntmps12
    go_upto_region 1 with (fail)
    rw [← H0.out]
    go_wp2_with fail
    refine (HWR.out w0).mono ?_
    rintro r w1 ⟨rfl, hb⟩
    have HB1 := Lib.hid (HB0.out.trans (hb.mono HB0.out.size))
    clear hb
    go_wp2
    go_ret
    exact ⟨⟨false, rfl, by simpa using fun h => absurd h HMW.out⟩, HB1.out⟩

/-- What teams answers. -/
def teamsP (m : Mo) (l : List Tk) : Option (List Int × List Int) := if m.wr.isEmpty = false ∨ 8 < l.length then none else partP m.k (entsP m 0 l)
set_option linter.unusedSimpArgs false in
set_option maxHeartbeats 8000000 in
theorem teams_any (m : Mo) (A : Option Addr) (n c : Nat) (l : List Tk) (w : World) (hn : n = l.length) (hE : Ts w w.heap.size A l) (hl : n ≤ 20) (hs : Sm l) :
    Calls Try.prog 17 #[m.v, .slice A n c] w fun r w' => (∃ v, r = .returned v ∧ Spl w' w.heap.size v (teamsP m l)) ∧ Below w.heap.size w w' := by
  obtain ⟨w0, hw0⟩ : ∃ w0, w0 = (w.alloc (.cells m.cells 32)).alloc (.cells #[.slice none 0 0, .slice none 0 0] 40) := ⟨_, rfl⟩
  have hb0 : Below w.heap.size w w0 := by rw [hw0]; exact ((Below.refl _ _).alloc (Nat.le_refl _) _).alloc (by simp) _
  have hq0 : w0.heap[w.heap.size]? = some (.cells m.cells 32 (0, 0)) := by rw [hw0]; exact (Below.heap_alloc _ _ _ (by simp)).trans (heap_alloc_new w _)
  have hr0 : w0.heap[w.heap.size + 1]? = some (.cells #[.slice none 0 0, .slice none 0 0] 40 (0, 0)) := by
    have := heap_alloc_new (w.alloc (.cells m.cells 32)) (.cells #[.slice none 0 0, .slice none 0 0] 40)
    rw [World.size_alloc] at this
    rw [hw0]; exact this
  have HWR : Hid (∀ W, Calls Try.prog 27 #[m.v] W fun r w' => r = .returned (sV m.wr) ∧ Below W.heap.size W w') := fun W => wrongM_any m.k m.b m.s m.c m.e W
  have HEN : Hid (∀ W, Below w.heap.size w W → Calls Try.prog 29 #[m.v, .int .i64 0, .slice A n c] W fun r w' => (∃ A', r = .returned (.slice A' n n) ∧ Es w' w'.heap.size A' (entsP m 0 l)) ∧ Below W.heap.size W w') := fun W hW =>
    entries_any m 0 A n c l W hn (hE.later hW (Nat.le_refl _)) (by omega) ⟨by omega, by omega⟩ (fun t ht => (hs t ht).2)
  have HCE : Hid (∀ W, Below w0.heap.size w0 W → W.cell? ⟨w.heap.size, 0, none⟩ = some (.int .i64 m.k) ∧ W.cell? ⟨w.heap.size, 1, none⟩ = some (.int .i64 m.b) ∧ W.cell? ⟨w.heap.size, 2, none⟩ = some (.int .i64 m.s) ∧ W.cell? ⟨w.heap.size, 3, none⟩ = some (.int .i64 m.c) ∧ W.cell? ⟨w.heap.size, 4, none⟩ = some (.int .i64 m.e)) := fun W hW => by
    have e2 := (hW.block _ (lt_of_block hq0)).trans hq0
    exact ⟨cell_of_row W _ 0 _ _ _ e2, cell_of_row W _ 1 _ _ _ e2, cell_of_row W _ 2 _ _ _ e2, cell_of_row W _ 3 _ _ _ e2, cell_of_row W _ 4 _ _ _ e2⟩
  obtain ⟨mw, hmw⟩ : ∃ mw, mw = m.wr := ⟨_, rfl⟩
  rw [← hmw] at HWR
  have H0 := Lib.hid hw0
  have HB0 := Lib.hid hb0
  have HQ0 := Lib.hid hq0
  have HR0 := Lib.hid hr0
  obtain ⟨res, hres⟩ : ∃ res, res = teamsP m l := ⟨_, rfl⟩
  rw [← hres]
  unfold teamsP at hres
  rw [← hmw, ← hn] at hres
  obtain ⟨c0, c1, c2, c3, c4⟩ := HCE.out w0 (Below.refl _ _)
  by_cases he : mw.isEmpty = true
  · by_cases hlm : 8 < n
    · rw [if_pos (.inr hlm)] at hres
      have HRES := Lib.hid hres
      clear hw0 hb0 hq0 hr0 hn hE hs hmw hres
      go_enter Try.func17, Try.ntmps17
      go_upto_region 1 with (fail)
      rw [← H0.out]
      go_wp2_with fail
      refine (HWR.out w0).mono ?_
      rintro r w1 ⟨rfl, hb⟩
      have HB1 := Lib.hid (HB0.out.trans (hb.mono HB0.out.size))
      have HQ1 : Hid (w1.heap[w.heap.size + 1]? = some (.cells #[.slice none 0 0, .slice none 0 0] 40 (0, 0))) := (hb.block _ (lt_of_block HR0.out)).trans HR0.out
      clear hb c0 c1 c2 c3 c4
      have zf : ∀ i, w1.frozen? ⟨w.heap.size + 1, i, none⟩ = false := fun i => frozen_of_row w1 _ i _ _ HQ1.out
      have z0 := cell_of_row w1 (w.heap.size + 1) 0 _ _ _ HQ1.out
      have z1 := cell_of_row w1 (w.heap.size + 1) 1 _ _ _ HQ1.out
      simp at z0 z1
      have hT := two (.slice none 0 0) (.slice none 0 0) HQ1.out
      have HBB := Lib.hid ((HB1.out.setCell (p := ⟨w.heap.size + 1, 0, none⟩) (Nat.le_succ _) (.slice none 0 0)).setCell (p := ⟨w.heap.size + 1, 1, none⟩) (Nat.le_succ _) (.slice none 0 0))
      have e0 := cell_of_row _ (w.heap.size + 1) 0 _ _ _ hT
      have e1 := cell_of_row _ (w.heap.size + 1) 1 _ _ _ hT
      simp at e0 e1
      have HZ := Lib.hid (And.intro e0 e1)
      clear hT e0 e1
      go_wp2
      obtain ⟨e0, e1⟩ := HZ.out
      exact bodyPost_ret (v := .tuple #[.agg #[.slice none 0 0, .slice none 0 0], .bool false]) (by simp [results, Try.results17, go_sem, e0, e1]) rfl ⟨⟨_, rfl, by rw [HRES.out]; exact spl_none _ _⟩, HBB.out⟩
    · rw [if_neg (fun h => h.elim (fun h => by rw [he] at h; cases h) hlm)] at hres
      have hbd := wrongM_bounds (k := m.k) (b := m.b) (s := m.s) (c := m.c) (e := m.e) (by rw [← he, hmw]; rfl)
      obtain ⟨co, hco⟩ : ∃ co, co = partP m.k (entsP m 0 l) := ⟨_, rfl⟩
      rw [← hco] at hres
      have HCO : Hid (∀ W A', Es W W.heap.size A' (entsP m 0 l) → Calls Try.prog 32 #[.int .i64 m.k, .slice A' n n] W fun r w' => (∃ v, r = .returned v ∧ Spl w' W.heap.size v co) ∧ Below W.heap.size W w') := fun W A' h => by
        rw [hco]
        exact parted_any m.k A' n n _ W (by rw [entsP_len, hn]) h (ents_ok hs) (by omega)
      have HRES := Lib.hid hres
      clear hw0 hb0 hq0 hr0 hn hE hs hmw hres hco hbd
      go_enter Try.func17, Try.ntmps17
      go_upto_region 1 with (fail)
      rw [← H0.out]
      go_wp2_with fail
      refine (HWR.out w0).mono ?_
      rintro r w1 ⟨rfl, hb⟩
      have HB1 := Lib.hid (HB0.out.trans (hb.mono HB0.out.size))
      have HB01 := Lib.hid hb
      have HQ1 : Hid (w1.heap[w.heap.size + 1]? = some (.cells #[.slice none 0 0, .slice none 0 0] 40 (0, 0))) := (hb.block _ (lt_of_block HR0.out)).trans HR0.out
      have HM1 : Hid (w1.heap[w.heap.size]? = some (.cells m.cells 32 (0, 0))) := (hb.block _ (lt_of_block HQ0.out)).trans HQ0.out
      have HBS : Hid (Below w1.heap.size w1 w1) := Below.refl _ _
      clear hb c0 c1 c2 c3 c4
      go_upto_region 3 with (fail)
      have HDp : Hid (Below w1.heap.size w1 w1.drew) := HBS.out.drew
      refine wp_region_held_drew (S := fun W : World => W.cell? ⟨w.heap.size, 0, none⟩ = some (.int .i64 m.k) ∧ W.cell? ⟨w.heap.size, 1, none⟩ = some (.int .i64 m.b) ∧ W.cell? ⟨w.heap.size, 2, none⟩ = some (.int .i64 m.s) ∧ W.cell? ⟨w.heap.size, 3, none⟩ = some (.int .i64 m.c) ∧ W.cell? ⟨w.heap.size, 4, none⟩ = some (.int .i64 m.e)) (by kernel_rfl) (HCE.out _ (HB01.out.trans (HDp.out.mono HB01.out.size))) (fun hHeld => ?_)
      obtain ⟨W0, hW0⟩ : ∃ W0, W0 = w1.drew := ⟨_, rfl⟩
      rw [← hW0] at hHeld HDp ⊢
      clear hW0
      refine wpAnyH_take (i := 0) (oi := ?oi0p) (v := ?v0p) ?hi0p ?hs0p ?hf0p ?hr0p ?hQ0p ?hy0p ?hS0p ?h0p
      case hi0p => exact (by simp only [List.getElem?_toArray, List.getElem?_cons_zero]; rfl)
      case hs0p => kernel_rfl
      case hf0p => kernel_rfl
      case hr0p => kernel_rfl
      case hQ0p => exact fun _ _ _ h => h
      case hy0p =>
        refine Or.inl ⟨rfl, ?_⟩
        intro W hSw
        obtain ⟨y0, y1, y2, y3, y4⟩ := hSw
        go_simp
        try with_reducible rfl
      case hS0p => assumption
      try simp only [Act.put, List.setIfInBounds_toArray, List.set_cons_zero, List.set_cons_succ]
      refine wpAnyH_take (i := 1) (oi := ?oi1p) (v := ?v1p) ?hi1p ?hs1p ?hf1p ?hr1p ?hQ1p ?hy1p ?hS1p ?h1p
      case hi1p => exact (by simp only [List.getElem?_toArray, List.getElem?_cons_succ, List.getElem?_cons_zero]; rfl)
      case hs1p => kernel_rfl
      case hf1p => kernel_rfl
      case hr1p => kernel_rfl
      case hQ1p => exact fun _ _ _ h => h
      case hy1p =>
        refine Or.inl ⟨rfl, ?_⟩
        intro W hSw
        obtain ⟨y0, y1, y2, y3, y4⟩ := hSw
        go_simp
        try with_reducible rfl
      case hS1p => assumption
      try simp only [Act.put, List.setIfInBounds_toArray, List.set_cons_zero, List.set_cons_succ]
      refine wpAnyH_take (i := 2) (oi := ?oi2p) (v := ?v2p) ?hi2p ?hs2p ?hf2p ?hr2p ?hQ2p ?hy2p ?hS2p ?h2p
      case hi2p => exact (by simp only [List.getElem?_toArray, List.getElem?_cons_succ, List.getElem?_cons_zero]; rfl)
      case hs2p => kernel_rfl
      case hf2p => kernel_rfl
      case hr2p => kernel_rfl
      case hQ2p => exact fun _ _ _ h => h
      case hy2p =>
        refine Or.inl ⟨rfl, ?_⟩
        intro W hSw
        obtain ⟨y0, y1, y2, y3, y4⟩ := hSw
        go_simp
        try with_reducible rfl
      case hS2p => assumption
      try simp only [Act.put, List.setIfInBounds_toArray, List.set_cons_zero, List.set_cons_succ]
      refine wpAnyH_take (i := 3) (oi := ?oi3p) (v := ?v3p) ?hi3p ?hs3p ?hf3p ?hr3p ?hQ3p ?hy3p ?hS3p ?h3p
      case hi3p => exact (by simp only [List.getElem?_toArray, List.getElem?_cons_succ, List.getElem?_cons_zero]; rfl)
      case hs3p => kernel_rfl
      case hf3p => kernel_rfl
      case hr3p => kernel_rfl
      case hQ3p => exact fun _ _ _ h => h
      case hy3p =>
        refine Or.inl ⟨rfl, ?_⟩
        intro W hSw
        obtain ⟨y0, y1, y2, y3, y4⟩ := hSw
        go_simp
        try with_reducible rfl
      case hS3p => assumption
      try simp only [Act.put, List.setIfInBounds_toArray, List.set_cons_zero, List.set_cons_succ]
      refine wpAnyH_ready (rs := [4]) (by kernel_rfl) (by simp) ?_
      refine AllReadyH.cons (o := _) rfl (fun K hK => ?_) AllReadyH.nil
      go_simp
      refine (HEN.out W0 (HB1.out.trans (HDp.out.mono HB1.out.size))).mono ?_
      rintro r W1 ⟨⟨A2, rfl, hE2⟩, hbq⟩
      have HDq : Hid (Below w1.heap.size w1 W1) := HDp.out.trans (hbq.mono HDp.out.size)
      have HE2 := Lib.hid hE2
      clear hbq hE2
      refine hK.out _ _ (HCE.out _ (HB01.out.trans (HDq.out.mono HB01.out.size))) (fun hHeld => ?_)
      clear hK K
      try simp only [Act.put, List.setIfInBounds_toArray, List.set_cons_zero, List.set_cons_succ]
      refine wpAnyH_ready (rs := [5]) (by kernel_rfl) (by simp) ?_
      refine AllReadyH.cons (o := _) rfl (fun K hK => ?_) AllReadyH.nil
      go_simp
      refine (HCO.out W1 A2 HE2.out).mono ?_
      rintro r W2 ⟨⟨v, rfl, hS⟩, hbq⟩
      have HDr : Hid (Below w1.heap.size w1 W2) := HDq.out.trans (hbq.mono HDq.out.size)
      have hQ2 : W2.heap[w.heap.size + 1]? = some (.cells #[.slice none 0 0, .slice none 0 0] 40 (0, 0)) := (HDr.out.block _ (lt_of_block HQ1.out)).trans HQ1.out
      have HLO : Hid (w.heap.size + 1 < W1.heap.size) := Nat.lt_of_lt_of_le (lt_of_block HQ1.out) HDq.out.size
      have HB2 : Hid (Below w.heap.size w W2) := HB1.out.trans (HDr.out.mono HB1.out.size)
      have HSL : Hid (W2.heap.size > w.heap.size + 1) := lt_of_block hQ2
      have HQ2 := Lib.hid hQ2
      have HS := Lib.hid (And.intro hS HLO.out)
      clear hbq hS hQ2
      obtain ⟨A1, c1, A3, c3, rfl, hz1, hz2, hz3, hz4⟩ := HS.out.1
      obtain ⟨l1, hl1⟩ : ∃ l1, l1 = (co.getD ([], [])).1 := ⟨_, rfl⟩
      obtain ⟨l2, hl2⟩ : ∃ l2, l2 = (co.getD ([], [])).2 := ⟨_, rfl⟩
      obtain ⟨bl, hbl⟩ : ∃ bl, bl = co.isSome := ⟨_, rfl⟩
      rw [← hl1, ← hl2, ← hbl] at HS
      rw [← hl1, ← hl2, ← hbl]
      clear hz1 hz2 hz3 hz4 hl1 hl2 hbl
      refine hK.out _ _ (HCE.out _ (HB01.out.trans (HDr.out.mono HB01.out.size))) (fun hHeld => ?_)
      clear hK K
      try simp only [Act.put, List.setIfInBounds_toArray, List.set_cons_zero, List.set_cons_succ]
      refine wpAnyH_take (i := 6) (oi := ?oi6p) (v := ?v6p) ?hi6p ?hs6p ?hf6p ?hr6p ?hQ6p ?hy6p ?hS6p ?h6p
      case hi6p => exact (by simp only [List.getElem?_toArray, List.getElem?_cons_succ, List.getElem?_cons_zero]; rfl)
      case hs6p => kernel_rfl
      case hf6p => kernel_rfl
      case hr6p => kernel_rfl
      case hQ6p => exact fun _ _ _ h => h
      case hy6p =>
        refine Or.inl ⟨rfl, ?_⟩
        intro W hSw
        obtain ⟨y0, y1, y2, y3, y4⟩ := hSw
        go_simp
        try with_reducible rfl
      case hS6p => assumption
      try simp only [Act.put, List.setIfInBounds_toArray, List.set_cons_zero, List.set_cons_succ]
      refine wpAnyH_take (i := 7) (oi := ?oi7p) (v := ?v7p) ?hi7p ?hs7p ?hf7p ?hr7p ?hQ7p ?hy7p ?hS7p ?h7p
      case hi7p => exact (by simp only [List.getElem?_toArray, List.getElem?_cons_succ, List.getElem?_cons_zero]; rfl)
      case hs7p => kernel_rfl
      case hf7p => kernel_rfl
      case hr7p => kernel_rfl
      case hQ7p => exact fun _ _ _ h => h
      case hy7p =>
        refine Or.inl ⟨rfl, ?_⟩
        intro W hSw
        obtain ⟨y0, y1, y2, y3, y4⟩ := hSw
        go_simp
        try with_reducible rfl
      case hS7p => assumption
      try simp only [Act.put, List.setIfInBounds_toArray, List.set_cons_zero, List.set_cons_succ]
      refine wpAnyH_ready (rs := [8]) (by kernel_rfl) (by simp) ?_
      refine AllReadyH.cons (o := _) rfl (fun K hK => ?_) AllReadyH.nil
      have zf : ∀ i, W2.frozen? ⟨w.heap.size + 1, i, none⟩ = false := fun i => frozen_of_row W2 _ i _ _ HQ2.out
      have z0 := cell_of_row W2 (w.heap.size + 1) 0 _ _ _ HQ2.out
      have z1 := cell_of_row W2 (w.heap.size + 1) 1 _ _ _ HQ2.out
      simp at z0 z1
      obtain ⟨W3, hW3⟩ : ∃ W3, W3 = (W2.setCell ⟨w.heap.size + 1, 0, none⟩ (.slice A1 l1.length c1)).setCell ⟨w.heap.size + 1, 1, none⟩ (.slice A3 l2.length c3) := ⟨_, rfl⟩
      go_simp
      rw [← hW3]
      clear zf z0 z1
      have hT : W3.heap[w.heap.size + 1]? = some (.cells #[.slice A1 l1.length c1, .slice A3 l2.length c3] 40 (0, 0)) := by rw [hW3]; exact two _ _ HQ2.out
      have HBB : Hid (Below w.heap.size w W3) := by rw [hW3]; exact (HB2.out.setCell (p := ⟨w.heap.size + 1, 0, none⟩) (Nat.le_succ _) _).setCell (p := ⟨w.heap.size + 1, 1, none⟩) (Nat.le_succ _) _
      have HSS : Hid (Spl W3 w.heap.size (.tuple #[.agg #[.slice A1 l1.length c1, .slice A3 l2.length c3], .bool bl]) co) := by
        simp only [Hid]
        rw [hW3]
        exact ((HS.out.1.set HS.out.2).set HS.out.2).lo (by have := HS.out.2; omega)
      have hM3 : W3.heap[w.heap.size]? = some (.cells m.cells 32 (0, 0)) := by
        rw [hW3, Below.heap_setCell _ _ _ _ (by show w.heap.size ≠ w.heap.size + 1; omega), Below.heap_setCell _ _ _ _ (by show w.heap.size ≠ w.heap.size + 1; omega)]
        exact (HDr.out.block _ (lt_of_block HM1.out)).trans HM1.out
      have e0 := cell_of_row _ (w.heap.size + 1) 0 _ _ _ hT
      have e1 := cell_of_row _ (w.heap.size + 1) 1 _ _ _ hT
      simp at e0 e1
      have HZ := Lib.hid (And.intro e0 e1)
      clear hT e0 e1 hW3
      refine hK.out _ _ ⟨cell_of_row W3 _ 0 _ _ _ hM3, cell_of_row W3 _ 1 _ _ _ hM3, cell_of_row W3 _ 2 _ _ _ hM3, cell_of_row W3 _ 3 _ _ _ hM3, cell_of_row W3 _ 4 _ _ _ hM3⟩ (fun hHeld => ?_)
      clear hK K hM3
      try simp only [Act.put, List.setIfInBounds_toArray, List.set_cons_zero, List.set_cons_succ]
      refine wpAnyH_take (i := 9) (oi := ?oi9p) (v := ?v9p) ?hi9p ?hs9p ?hf9p ?hr9p ?hQ9p ?hy9p ?hS9p ?h9p
      case hi9p => exact (by simp only [List.getElem?_toArray, List.getElem?_cons_succ, List.getElem?_cons_zero]; rfl)
      case hs9p => kernel_rfl
      case hf9p => kernel_rfl
      case hr9p => kernel_rfl
      case hQ9p => exact fun _ _ _ h => h
      case hy9p =>
        refine Or.inl ⟨rfl, ?_⟩
        intro W hSw
        obtain ⟨y0, y1, y2, y3, y4⟩ := hSw
        go_simp
        try with_reducible rfl
      case hS9p => assumption
      try simp only [Act.put, List.setIfInBounds_toArray, List.set_cons_zero, List.set_cons_succ]
      refine wpAnyH_done (by kernel_rfl) ?_ _
      try go_wp2
      obtain ⟨e0, e1⟩ := HZ.out
      exact bodyPost_ret (v := .tuple #[.agg #[.slice A1 l1.length c1, .slice A3 l2.length c3], .bool bl]) (by simp [results, Try.results17, go_sem, e0, e1]) rfl ⟨⟨_, rfl, by rw [HRES.out]; exact HSS.out⟩, HBB.out⟩
  · have hef : mw.isEmpty = false := by simpa using he
    rw [if_pos (.inl hef)] at hres
    have HRES := Lib.hid hres
    clear hw0 hb0 hq0 hr0 hn hE hs hmw hres
    go_enter Try.func17, Try.ntmps17
    go_upto_region 1 with (fail)
    rw [← H0.out]
    go_wp2_with fail
    refine (HWR.out w0).mono ?_
    rintro r w1 ⟨rfl, hb⟩
    have HB1 := Lib.hid (HB0.out.trans (hb.mono HB0.out.size))
    have HQ1 : Hid (w1.heap[w.heap.size + 1]? = some (.cells #[.slice none 0 0, .slice none 0 0] 40 (0, 0))) := (hb.block _ (lt_of_block HR0.out)).trans HR0.out
    clear hb c0 c1 c2 c3 c4
    have zf : ∀ i, w1.frozen? ⟨w.heap.size + 1, i, none⟩ = false := fun i => frozen_of_row w1 _ i _ _ HQ1.out
    have z0 := cell_of_row w1 (w.heap.size + 1) 0 _ _ _ HQ1.out
    have z1 := cell_of_row w1 (w.heap.size + 1) 1 _ _ _ HQ1.out
    simp at z0 z1
    have hT := two (.slice none 0 0) (.slice none 0 0) HQ1.out
    have HBB := Lib.hid ((HB1.out.setCell (p := ⟨w.heap.size + 1, 0, none⟩) (Nat.le_succ _) (.slice none 0 0)).setCell (p := ⟨w.heap.size + 1, 1, none⟩) (Nat.le_succ _) (.slice none 0 0))
    have e0 := cell_of_row _ (w.heap.size + 1) 0 _ _ _ hT
    have e1 := cell_of_row _ (w.heap.size + 1) 1 _ _ _ hT
    simp at e0 e1
    have HZ := Lib.hid (And.intro e0 e1)
    clear hT e0 e1
    go_wp2
    obtain ⟨e0, e1⟩ := HZ.out
    exact bodyPost_ret (v := .tuple #[.agg #[.slice none 0 0, .slice none 0 0], .bool false]) (by simp [results, Try.results17, go_sem, e0, e1]) rfl ⟨⟨_, rfl, by rw [HRES.out]; exact spl_none _ _⟩, HBB.out⟩

/-- What find answers. -/
def findP (m : Mo) (now : Int) (l : List Tk) : Option (List Int × List Int) := if m.wr.isEmpty = false ∨ 16 < l.length then none else mP m.k (entsP m now l) []
set_option linter.unusedSimpArgs false in
set_option maxHeartbeats 8000000 in
theorem find_any (m : Mo) (now : Int) (A : Option Addr) (n c : Nat) (l : List Tk) (w : World) (hn : n = l.length) (hE : Ts w w.heap.size A l) (hl : n ≤ 20) (hnow : In64 now) (hs : Sm l) :
    Calls Try.prog 20 #[m.v, .int .i64 now, .slice A n c] w fun r w' => (∃ v, r = .returned v ∧ Spl w' w.heap.size v (findP m now l)) ∧ Below w.heap.size w w' := by
  obtain ⟨w0, hw0⟩ : ∃ w0, w0 = (w.alloc (.cells m.cells 32)).alloc (.cells #[.slice none 0 0, .slice none 0 0] 40) := ⟨_, rfl⟩
  have hb0 : Below w.heap.size w w0 := by rw [hw0]; exact ((Below.refl _ _).alloc (Nat.le_refl _) _).alloc (by simp) _
  have hq0 : w0.heap[w.heap.size]? = some (.cells m.cells 32 (0, 0)) := by rw [hw0]; exact (Below.heap_alloc _ _ _ (by simp)).trans (heap_alloc_new w _)
  have hr0 : w0.heap[w.heap.size + 1]? = some (.cells #[.slice none 0 0, .slice none 0 0] 40 (0, 0)) := by
    have := heap_alloc_new (w.alloc (.cells m.cells 32)) (.cells #[.slice none 0 0, .slice none 0 0] 40)
    rw [World.size_alloc] at this
    rw [hw0]; exact this
  have HWR : Hid (∀ W, Calls Try.prog 27 #[m.v] W fun r w' => r = .returned (sV m.wr) ∧ Below W.heap.size W w') := fun W => wrongM_any m.k m.b m.s m.c m.e W
  have HEN : Hid (∀ W, Below w.heap.size w W → Calls Try.prog 29 #[m.v, .int .i64 now, .slice A n c] W fun r w' => (∃ A', r = .returned (.slice A' n n) ∧ Es w' w'.heap.size A' (entsP m now l)) ∧ Below W.heap.size W w') := fun W hW =>
    entries_any m now A n c l W hn (hE.later hW (Nat.le_refl _)) (by omega) hnow (fun t ht => (hs t ht).2)
  have HCE : Hid (∀ W, Below w0.heap.size w0 W → W.cell? ⟨w.heap.size, 0, none⟩ = some (.int .i64 m.k) ∧ W.cell? ⟨w.heap.size, 1, none⟩ = some (.int .i64 m.b) ∧ W.cell? ⟨w.heap.size, 2, none⟩ = some (.int .i64 m.s) ∧ W.cell? ⟨w.heap.size, 3, none⟩ = some (.int .i64 m.c) ∧ W.cell? ⟨w.heap.size, 4, none⟩ = some (.int .i64 m.e)) := fun W hW => by
    have e2 := (hW.block _ (lt_of_block hq0)).trans hq0
    exact ⟨cell_of_row W _ 0 _ _ _ e2, cell_of_row W _ 1 _ _ _ e2, cell_of_row W _ 2 _ _ _ e2, cell_of_row W _ 3 _ _ _ e2, cell_of_row W _ 4 _ _ _ e2⟩
  obtain ⟨mw, hmw⟩ : ∃ mw, mw = m.wr := ⟨_, rfl⟩
  rw [← hmw] at HWR
  have H0 := Lib.hid hw0
  have HB0 := Lib.hid hb0
  have HQ0 := Lib.hid hq0
  have HR0 := Lib.hid hr0
  obtain ⟨res, hres⟩ : ∃ res, res = findP m now l := ⟨_, rfl⟩
  rw [← hres]
  unfold findP at hres
  rw [← hmw, ← hn] at hres
  obtain ⟨c0, c1, c2, c3, c4⟩ := HCE.out w0 (Below.refl _ _)
  by_cases he : mw.isEmpty = true
  · by_cases hlm : 16 < n
    · rw [if_pos (.inr hlm)] at hres
      have HRES := Lib.hid hres
      clear hw0 hb0 hq0 hr0 hn hE hs hmw hres
      go_enter Try.func20, Try.ntmps20
      go_upto_region 1 with (fail)
      rw [← H0.out]
      go_wp2_with fail
      refine (HWR.out w0).mono ?_
      rintro r w1 ⟨rfl, hb⟩
      have HB1 := Lib.hid (HB0.out.trans (hb.mono HB0.out.size))
      have HQ1 : Hid (w1.heap[w.heap.size + 1]? = some (.cells #[.slice none 0 0, .slice none 0 0] 40 (0, 0))) := (hb.block _ (lt_of_block HR0.out)).trans HR0.out
      clear hb c0 c1 c2 c3 c4
      have zf : ∀ i, w1.frozen? ⟨w.heap.size + 1, i, none⟩ = false := fun i => frozen_of_row w1 _ i _ _ HQ1.out
      have z0 := cell_of_row w1 (w.heap.size + 1) 0 _ _ _ HQ1.out
      have z1 := cell_of_row w1 (w.heap.size + 1) 1 _ _ _ HQ1.out
      simp at z0 z1
      have hT := two (.slice none 0 0) (.slice none 0 0) HQ1.out
      have HBB := Lib.hid ((HB1.out.setCell (p := ⟨w.heap.size + 1, 0, none⟩) (Nat.le_succ _) (.slice none 0 0)).setCell (p := ⟨w.heap.size + 1, 1, none⟩) (Nat.le_succ _) (.slice none 0 0))
      have e0 := cell_of_row _ (w.heap.size + 1) 0 _ _ _ hT
      have e1 := cell_of_row _ (w.heap.size + 1) 1 _ _ _ hT
      simp at e0 e1
      have HZ := Lib.hid (And.intro e0 e1)
      clear hT e0 e1
      go_wp2
      obtain ⟨e0, e1⟩ := HZ.out
      exact bodyPost_ret (v := .tuple #[.agg #[.slice none 0 0, .slice none 0 0], .bool false]) (by simp [results, Try.results20, go_sem, e0, e1]) rfl ⟨⟨_, rfl, by rw [HRES.out]; exact spl_none _ _⟩, HBB.out⟩
    · rw [if_neg (fun h => h.elim (fun h => by rw [he] at h; cases h) hlm)] at hres
      have hbd := wrongM_bounds (k := m.k) (b := m.b) (s := m.s) (c := m.c) (e := m.e) (by rw [← he, hmw]; rfl)
      obtain ⟨co, hco⟩ : ∃ co, co = mP m.k (entsP m now l) [] := ⟨_, rfl⟩
      rw [← hco] at hres
      have HCO : Hid (∀ W A', Es W W.heap.size A' (entsP m now l) → Calls Try.prog 35 #[.int .i64 m.k, .slice A' n n, .slice none 0 0] W fun r w' => (∃ v, r = .returned v ∧ Spl w' W.heap.size v co) ∧ Below W.heap.size W w') := fun W A' h => by
        rw [hco]
        exact match_any m.k hbd.1 ((entsP m now l).length + 1) (entsP m now l) [] A' n n none 0 0 W (Nat.lt_succ_self _) (by rw [entsP_len, hn]) rfl h Es.nil (Nat.le_refl _) (Nat.le_refl _) (ents_ok hs) (fun e he => absurd he (by simp)) (by simp [sumN]; omega) (by omega)
      have HRES := Lib.hid hres
      clear hw0 hb0 hq0 hr0 hn hE hs hmw hres hco hbd
      go_enter Try.func20, Try.ntmps20
      go_upto_region 1 with (fail)
      rw [← H0.out]
      go_wp2_with fail
      refine (HWR.out w0).mono ?_
      rintro r w1 ⟨rfl, hb⟩
      have HB1 := Lib.hid (HB0.out.trans (hb.mono HB0.out.size))
      have HB01 := Lib.hid hb
      have HQ1 : Hid (w1.heap[w.heap.size + 1]? = some (.cells #[.slice none 0 0, .slice none 0 0] 40 (0, 0))) := (hb.block _ (lt_of_block HR0.out)).trans HR0.out
      have HM1 : Hid (w1.heap[w.heap.size]? = some (.cells m.cells 32 (0, 0))) := (hb.block _ (lt_of_block HQ0.out)).trans HQ0.out
      have HBS : Hid (Below w1.heap.size w1 w1) := Below.refl _ _
      clear hb c0 c1 c2 c3 c4
      go_upto_region 3 with (fail)
      have HDp : Hid (Below w1.heap.size w1 w1.drew) := HBS.out.drew
      refine wp_region_held_drew (S := fun W : World => W.cell? ⟨w.heap.size, 0, none⟩ = some (.int .i64 m.k) ∧ W.cell? ⟨w.heap.size, 1, none⟩ = some (.int .i64 m.b) ∧ W.cell? ⟨w.heap.size, 2, none⟩ = some (.int .i64 m.s) ∧ W.cell? ⟨w.heap.size, 3, none⟩ = some (.int .i64 m.c) ∧ W.cell? ⟨w.heap.size, 4, none⟩ = some (.int .i64 m.e)) (by kernel_rfl) (HCE.out _ (HB01.out.trans (HDp.out.mono HB01.out.size))) (fun hHeld => ?_)
      obtain ⟨W0, hW0⟩ : ∃ W0, W0 = w1.drew := ⟨_, rfl⟩
      rw [← hW0] at hHeld HDp ⊢
      clear hW0
      refine wpAnyH_take (i := 0) (oi := ?oi0p) (v := ?v0p) ?hi0p ?hs0p ?hf0p ?hr0p ?hQ0p ?hy0p ?hS0p ?h0p
      case hi0p => exact (by simp only [List.getElem?_toArray, List.getElem?_cons_zero]; rfl)
      case hs0p => kernel_rfl
      case hf0p => kernel_rfl
      case hr0p => kernel_rfl
      case hQ0p => exact fun _ _ _ h => h
      case hy0p =>
        refine Or.inl ⟨rfl, ?_⟩
        intro W hSw
        obtain ⟨y0, y1, y2, y3, y4⟩ := hSw
        go_simp
        try with_reducible rfl
      case hS0p => assumption
      try simp only [Act.put, List.setIfInBounds_toArray, List.set_cons_zero, List.set_cons_succ]
      refine wpAnyH_take (i := 1) (oi := ?oi1p) (v := ?v1p) ?hi1p ?hs1p ?hf1p ?hr1p ?hQ1p ?hy1p ?hS1p ?h1p
      case hi1p => exact (by simp only [List.getElem?_toArray, List.getElem?_cons_succ, List.getElem?_cons_zero]; rfl)
      case hs1p => kernel_rfl
      case hf1p => kernel_rfl
      case hr1p => kernel_rfl
      case hQ1p => exact fun _ _ _ h => h
      case hy1p =>
        refine Or.inl ⟨rfl, ?_⟩
        intro W hSw
        obtain ⟨y0, y1, y2, y3, y4⟩ := hSw
        go_simp
        try with_reducible rfl
      case hS1p => assumption
      try simp only [Act.put, List.setIfInBounds_toArray, List.set_cons_zero, List.set_cons_succ]
      refine wpAnyH_take (i := 2) (oi := ?oi2p) (v := ?v2p) ?hi2p ?hs2p ?hf2p ?hr2p ?hQ2p ?hy2p ?hS2p ?h2p
      case hi2p => exact (by simp only [List.getElem?_toArray, List.getElem?_cons_succ, List.getElem?_cons_zero]; rfl)
      case hs2p => kernel_rfl
      case hf2p => kernel_rfl
      case hr2p => kernel_rfl
      case hQ2p => exact fun _ _ _ h => h
      case hy2p =>
        refine Or.inl ⟨rfl, ?_⟩
        intro W hSw
        obtain ⟨y0, y1, y2, y3, y4⟩ := hSw
        go_simp
        try with_reducible rfl
      case hS2p => assumption
      try simp only [Act.put, List.setIfInBounds_toArray, List.set_cons_zero, List.set_cons_succ]
      refine wpAnyH_take (i := 3) (oi := ?oi3p) (v := ?v3p) ?hi3p ?hs3p ?hf3p ?hr3p ?hQ3p ?hy3p ?hS3p ?h3p
      case hi3p => exact (by simp only [List.getElem?_toArray, List.getElem?_cons_succ, List.getElem?_cons_zero]; rfl)
      case hs3p => kernel_rfl
      case hf3p => kernel_rfl
      case hr3p => kernel_rfl
      case hQ3p => exact fun _ _ _ h => h
      case hy3p =>
        refine Or.inl ⟨rfl, ?_⟩
        intro W hSw
        obtain ⟨y0, y1, y2, y3, y4⟩ := hSw
        go_simp
        try with_reducible rfl
      case hS3p => assumption
      try simp only [Act.put, List.setIfInBounds_toArray, List.set_cons_zero, List.set_cons_succ]
      refine wpAnyH_take (i := 4) (oi := ?oi4p) (v := ?v4p) ?hi4p ?hs4p ?hf4p ?hr4p ?hQ4p ?hy4p ?hS4p ?h4p
      case hi4p => exact (by simp only [List.getElem?_toArray, List.getElem?_cons_succ, List.getElem?_cons_zero]; rfl)
      case hs4p => kernel_rfl
      case hf4p => kernel_rfl
      case hr4p => kernel_rfl
      case hQ4p => exact fun _ _ _ h => h
      case hy4p =>
        refine Or.inl ⟨rfl, ?_⟩
        intro W hSw
        obtain ⟨y0, y1, y2, y3, y4⟩ := hSw
        go_simp
        try with_reducible rfl
      case hS4p => assumption
      try simp only [Act.put, List.setIfInBounds_toArray, List.set_cons_zero, List.set_cons_succ]
      refine wpAnyH_ready (rs := [5]) (by kernel_rfl) (by simp) ?_
      refine AllReadyH.cons (o := _) rfl (fun K hK => ?_) AllReadyH.nil
      go_simp
      refine (HEN.out W0 (HB1.out.trans (HDp.out.mono HB1.out.size))).mono ?_
      rintro r W1 ⟨⟨A2, rfl, hE2⟩, hbq⟩
      have HDq : Hid (Below w1.heap.size w1 W1) := HDp.out.trans (hbq.mono HDp.out.size)
      have HE2 := Lib.hid hE2
      clear hbq hE2
      refine hK.out _ _ (HCE.out _ (HB01.out.trans (HDq.out.mono HB01.out.size))) (fun hHeld => ?_)
      clear hK K
      try simp only [Act.put, List.setIfInBounds_toArray, List.set_cons_zero, List.set_cons_succ]
      refine wpAnyH_ready (rs := [6]) (by kernel_rfl) (by simp) ?_
      refine AllReadyH.cons (o := _) rfl (fun K hK => ?_) AllReadyH.nil
      go_simp
      refine (HCO.out W1 A2 HE2.out).mono ?_
      rintro r W2 ⟨⟨v, rfl, hS⟩, hbq⟩
      have HDr : Hid (Below w1.heap.size w1 W2) := HDq.out.trans (hbq.mono HDq.out.size)
      have hQ2 : W2.heap[w.heap.size + 1]? = some (.cells #[.slice none 0 0, .slice none 0 0] 40 (0, 0)) := (HDr.out.block _ (lt_of_block HQ1.out)).trans HQ1.out
      have HLO : Hid (w.heap.size + 1 < W1.heap.size) := Nat.lt_of_lt_of_le (lt_of_block HQ1.out) HDq.out.size
      have HB2 : Hid (Below w.heap.size w W2) := HB1.out.trans (HDr.out.mono HB1.out.size)
      have HSL : Hid (W2.heap.size > w.heap.size + 1) := lt_of_block hQ2
      have HQ2 := Lib.hid hQ2
      have HS := Lib.hid (And.intro hS HLO.out)
      clear hbq hS hQ2
      obtain ⟨A1, c1, A3, c3, rfl, hz1, hz2, hz3, hz4⟩ := HS.out.1
      obtain ⟨l1, hl1⟩ : ∃ l1, l1 = (co.getD ([], [])).1 := ⟨_, rfl⟩
      obtain ⟨l2, hl2⟩ : ∃ l2, l2 = (co.getD ([], [])).2 := ⟨_, rfl⟩
      obtain ⟨bl, hbl⟩ : ∃ bl, bl = co.isSome := ⟨_, rfl⟩
      rw [← hl1, ← hl2, ← hbl] at HS
      rw [← hl1, ← hl2, ← hbl]
      clear hz1 hz2 hz3 hz4 hl1 hl2 hbl
      refine hK.out _ _ (HCE.out _ (HB01.out.trans (HDr.out.mono HB01.out.size))) (fun hHeld => ?_)
      clear hK K
      try simp only [Act.put, List.setIfInBounds_toArray, List.set_cons_zero, List.set_cons_succ]
      refine wpAnyH_take (i := 7) (oi := ?oi7p) (v := ?v7p) ?hi7p ?hs7p ?hf7p ?hr7p ?hQ7p ?hy7p ?hS7p ?h7p
      case hi7p => exact (by simp only [List.getElem?_toArray, List.getElem?_cons_succ, List.getElem?_cons_zero]; rfl)
      case hs7p => kernel_rfl
      case hf7p => kernel_rfl
      case hr7p => kernel_rfl
      case hQ7p => exact fun _ _ _ h => h
      case hy7p =>
        refine Or.inl ⟨rfl, ?_⟩
        intro W hSw
        obtain ⟨y0, y1, y2, y3, y4⟩ := hSw
        go_simp
        try with_reducible rfl
      case hS7p => assumption
      try simp only [Act.put, List.setIfInBounds_toArray, List.set_cons_zero, List.set_cons_succ]
      refine wpAnyH_take (i := 8) (oi := ?oi8p) (v := ?v8p) ?hi8p ?hs8p ?hf8p ?hr8p ?hQ8p ?hy8p ?hS8p ?h8p
      case hi8p => exact (by simp only [List.getElem?_toArray, List.getElem?_cons_succ, List.getElem?_cons_zero]; rfl)
      case hs8p => kernel_rfl
      case hf8p => kernel_rfl
      case hr8p => kernel_rfl
      case hQ8p => exact fun _ _ _ h => h
      case hy8p =>
        refine Or.inl ⟨rfl, ?_⟩
        intro W hSw
        obtain ⟨y0, y1, y2, y3, y4⟩ := hSw
        go_simp
        try with_reducible rfl
      case hS8p => assumption
      try simp only [Act.put, List.setIfInBounds_toArray, List.set_cons_zero, List.set_cons_succ]
      refine wpAnyH_ready (rs := [9]) (by kernel_rfl) (by simp) ?_
      refine AllReadyH.cons (o := _) rfl (fun K hK => ?_) AllReadyH.nil
      have zf : ∀ i, W2.frozen? ⟨w.heap.size + 1, i, none⟩ = false := fun i => frozen_of_row W2 _ i _ _ HQ2.out
      have z0 := cell_of_row W2 (w.heap.size + 1) 0 _ _ _ HQ2.out
      have z1 := cell_of_row W2 (w.heap.size + 1) 1 _ _ _ HQ2.out
      simp at z0 z1
      obtain ⟨W3, hW3⟩ : ∃ W3, W3 = (W2.setCell ⟨w.heap.size + 1, 0, none⟩ (.slice A1 l1.length c1)).setCell ⟨w.heap.size + 1, 1, none⟩ (.slice A3 l2.length c3) := ⟨_, rfl⟩
      go_simp
      rw [← hW3]
      clear zf z0 z1
      have hT : W3.heap[w.heap.size + 1]? = some (.cells #[.slice A1 l1.length c1, .slice A3 l2.length c3] 40 (0, 0)) := by rw [hW3]; exact two _ _ HQ2.out
      have HBB : Hid (Below w.heap.size w W3) := by rw [hW3]; exact (HB2.out.setCell (p := ⟨w.heap.size + 1, 0, none⟩) (Nat.le_succ _) _).setCell (p := ⟨w.heap.size + 1, 1, none⟩) (Nat.le_succ _) _
      have HSS : Hid (Spl W3 w.heap.size (.tuple #[.agg #[.slice A1 l1.length c1, .slice A3 l2.length c3], .bool bl]) co) := by
        simp only [Hid]
        rw [hW3]
        exact ((HS.out.1.set HS.out.2).set HS.out.2).lo (by have := HS.out.2; omega)
      have hM3 : W3.heap[w.heap.size]? = some (.cells m.cells 32 (0, 0)) := by
        rw [hW3, Below.heap_setCell _ _ _ _ (by show w.heap.size ≠ w.heap.size + 1; omega), Below.heap_setCell _ _ _ _ (by show w.heap.size ≠ w.heap.size + 1; omega)]
        exact (HDr.out.block _ (lt_of_block HM1.out)).trans HM1.out
      have e0 := cell_of_row _ (w.heap.size + 1) 0 _ _ _ hT
      have e1 := cell_of_row _ (w.heap.size + 1) 1 _ _ _ hT
      simp at e0 e1
      have HZ := Lib.hid (And.intro e0 e1)
      clear hT e0 e1 hW3
      refine hK.out _ _ ⟨cell_of_row W3 _ 0 _ _ _ hM3, cell_of_row W3 _ 1 _ _ _ hM3, cell_of_row W3 _ 2 _ _ _ hM3, cell_of_row W3 _ 3 _ _ _ hM3, cell_of_row W3 _ 4 _ _ _ hM3⟩ (fun hHeld => ?_)
      clear hK K hM3
      try simp only [Act.put, List.setIfInBounds_toArray, List.set_cons_zero, List.set_cons_succ]
      refine wpAnyH_take (i := 10) (oi := ?oi10p) (v := ?v10p) ?hi10p ?hs10p ?hf10p ?hr10p ?hQ10p ?hy10p ?hS10p ?h10p
      case hi10p => exact (by simp only [List.getElem?_toArray, List.getElem?_cons_succ, List.getElem?_cons_zero]; rfl)
      case hs10p => kernel_rfl
      case hf10p => kernel_rfl
      case hr10p => kernel_rfl
      case hQ10p => exact fun _ _ _ h => h
      case hy10p =>
        refine Or.inl ⟨rfl, ?_⟩
        intro W hSw
        obtain ⟨y0, y1, y2, y3, y4⟩ := hSw
        go_simp
        try with_reducible rfl
      case hS10p => assumption
      try simp only [Act.put, List.setIfInBounds_toArray, List.set_cons_zero, List.set_cons_succ]
      refine wpAnyH_done (by kernel_rfl) ?_ _
      try go_wp2
      obtain ⟨e0, e1⟩ := HZ.out
      exact bodyPost_ret (v := .tuple #[.agg #[.slice A1 l1.length c1, .slice A3 l2.length c3], .bool bl]) (by simp [results, Try.results20, go_sem, e0, e1]) rfl ⟨⟨_, rfl, by rw [HRES.out]; exact HSS.out⟩, HBB.out⟩
  · have hef : mw.isEmpty = false := by simpa using he
    rw [if_pos (.inl hef)] at hres
    have HRES := Lib.hid hres
    clear hw0 hb0 hq0 hr0 hn hE hs hmw hres
    go_enter Try.func20, Try.ntmps20
    go_upto_region 1 with (fail)
    rw [← H0.out]
    go_wp2_with fail
    refine (HWR.out w0).mono ?_
    rintro r w1 ⟨rfl, hb⟩
    have HB1 := Lib.hid (HB0.out.trans (hb.mono HB0.out.size))
    have HQ1 : Hid (w1.heap[w.heap.size + 1]? = some (.cells #[.slice none 0 0, .slice none 0 0] 40 (0, 0))) := (hb.block _ (lt_of_block HR0.out)).trans HR0.out
    clear hb c0 c1 c2 c3 c4
    have zf : ∀ i, w1.frozen? ⟨w.heap.size + 1, i, none⟩ = false := fun i => frozen_of_row w1 _ i _ _ HQ1.out
    have z0 := cell_of_row w1 (w.heap.size + 1) 0 _ _ _ HQ1.out
    have z1 := cell_of_row w1 (w.heap.size + 1) 1 _ _ _ HQ1.out
    simp at z0 z1
    have hT := two (.slice none 0 0) (.slice none 0 0) HQ1.out
    have HBB := Lib.hid ((HB1.out.setCell (p := ⟨w.heap.size + 1, 0, none⟩) (Nat.le_succ _) (.slice none 0 0)).setCell (p := ⟨w.heap.size + 1, 1, none⟩) (Nat.le_succ _) (.slice none 0 0))
    have e0 := cell_of_row _ (w.heap.size + 1) 0 _ _ _ hT
    have e1 := cell_of_row _ (w.heap.size + 1) 1 _ _ _ hT
    simp at e0 e1
    have HZ := Lib.hid (And.intro e0 e1)
    clear hT e0 e1
    go_wp2
    obtain ⟨e0, e1⟩ := HZ.out
    exact bodyPost_ret (v := .tuple #[.agg #[.slice none 0 0, .slice none 0 0], .bool false]) (by simp [results, Try.results20, go_sem, e0, e1]) rfl ⟨⟨_, rfl, by rw [HRES.out]; exact spl_none _ _⟩, HBB.out⟩
end Go.Proofs.Ytnloikdfbdpilaa
