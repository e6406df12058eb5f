/- Fill: FillLegal's walk. -/
import Derived.Test.YtccabdhfnjlbdaaFJ
namespace Go.Proofs.Ytccabdhfnjlbdaa
open Go.RowKit
set_option maxRecDepth 20000
set_option linter.unusedVariables false

/-- What lies in memory behind the first region: the mode in Gm, rows and tickets of one's own. -/
def Mem (B : Nat) (m : Mo) (rows : List Rw) (l : List Tk) (n nl : Nat) (Gm : Nat) (A6 : Option Addr) (c6 : Nat) (A7 : Option Addr) (c7 : Nat) (lf : List FW) (lt : List FT) (w : World) : Prop :=
  w.heap[Gm]? = some (.cells m.cells 35 (0, 0)) ∧ B ≤ Gm ∧ w.ownsRow B 55 4 (.slice A6 n c6) n (gr lf) ∧ lf.map (·.e) = rows ∧ w.ownsRow B 44 5 (.slice A7 nl c7) nl (fr lt) ∧ lt.map (·.t) = l
theorem Mem.later {B : Nat} {m : Mo} {rows : List Rw} {l : List Tk} {n nl Gm : Nat} {A6 : Option Addr} {c6 : Nat} {A7 : Option Addr} {c7 : Nat} {lf : List FW} {lt : List FT} {w W : World} (h : Mem B m rows l n nl Gm A6 c6 A7 c7 lf lt w) (hb : Below w.heap.size w W) : Mem B m rows l n nl Gm A6 c6 A7 c7 lf lt W := by
  obtain ⟨h1, h2, h3, h4, h5, h6⟩ := h
  exact ⟨(hb.block _ (lt_of_block h1)).trans h1, h2, own_after h3 fun g hg => hb.block g (own_lt h3 g hg).2, h4, own_after h5 fun g hg => hb.block g (own_lt h5 g hg).2, h6⟩
theorem Mem.rs {B : Nat} {m : Mo} {rows : List Rw} {l : List Tk} {n nl Gm : Nat} {A6 : Option Addr} {c6 : Nat} {A7 : Option Addr} {c7 : Nat} {lf : List FW} {lt : List FT} {w : World} (h : Mem B m rows l n nl Gm A6 c6 A7 c7 lf lt w) : Rs w w.heap.size A6 rows := by
  have := Rs.of_own h.2.2.1
  rwa [h.2.2.2.1] at this
theorem Mem.ts {B : Nat} {m : Mo} {rows : List Rw} {l : List Tk} {n nl Gm : Nat} {A6 : Option Addr} {c6 : Nat} {A7 : Option Addr} {c7 : Nat} {lf : List FW} {lt : List FT} {w : World} (h : Mem B m rows l n nl Gm A6 c6 A7 c7 lf lt w) : Ts w w.heap.size A7 l := by
  have := Ts.of_own h.2.2.2.2.1
  rwa [h.2.2.2.2.2] at this
theorem Mem.md {B : Nat} {m : Mo} {rows : List Rw} {l : List Tk} {n nl Gm : Nat} {A6 : Option Addr} {c6 : Nat} {A7 : Option Addr} {c7 : Nat} {lf : List FW} {lt : List FT} {w : World} (h : Mem B m rows l n nl Gm A6 c6 A7 c7 lf lt w) :
    w.cell? ⟨Gm, 0, none⟩ = some (.int .i64 m.k) ∧ w.cell? ⟨Gm, 1, none⟩ = some (.int .i64 m.b) ∧ w.cell? ⟨Gm, 2, none⟩ = some (.int .i64 m.s) ∧ w.cell? ⟨Gm, 3, none⟩ = some (.int .i64 m.c) ∧ w.cell? ⟨Gm, 4, none⟩ = some (.int .i64 m.e) :=
  ⟨cell_of_row w _ 0 _ _ _ h.1, cell_of_row w _ 1 _ _ _ h.1, cell_of_row w _ 2 _ _ _ h.1, cell_of_row w _ 3 _ _ _ h.1, cell_of_row w _ 4 _ _ _ h.1⟩

/-- Below w's end all is as it was, but where rows of one's own lie. -/
def Keep (w : World) (A6 : Option Addr) (n c6 : Nat) (W : World) : Prop := ∀ b, b < w.heap.size → some b ≠ (Value.slice A6 n c6).ownBlock → W.heap[b]? = w.heap[b]?
theorem Keep.of_below {w W : World} {A6 : Option Addr} {n c6 : Nat} (h : Below w.heap.size w W) : Keep w A6 n c6 W := fun b hb _ => h.block b hb
theorem cell_same {w W : World} {b o : Nat} (h : W.heap[b]? = w.heap[b]?) : W.cell? ⟨b, o, none⟩ = w.cell? ⟨b, o, none⟩ := by simp [World.cell?, h]

set_option maxHeartbeats 16000000 in
theorem legal_walk (m : Mo) (now : Int) (L A : Option Addr) (cl c : Nat) (l : List Tk) (rows : List Rw) (w : World) (hnow : In64 now) (hL : Tr w w.heap.size L l) (hA : Rr w w.heap.size A rows) (hll : l.length ≤ 9223372036854775807) (hlr : rows.length ≤ 9223372036854775807) (hs : ∀ t ∈ l, In64 t.r ∧ In64 t.s) :
    Calls Try.prog 5 #[.agg (aC m now (.slice L l.length cl) (.slice A rows.length c))] w fun r w' => r = .returned (.bool true) ∧ Below w.heap.size w w' := by
  obtain ⟨nl, hnl⟩ : ∃ n, n = l.length := ⟨_, rfl⟩
  obtain ⟨n, hn⟩ : ∃ n, n = rows.length := ⟨_, rfl⟩
  rw [← hnl] at hll ⊢
  rw [← hn] at hlr ⊢
  obtain ⟨w0, hw0⟩ : ∃ w0, w0 = w.alloc (.cells (aC m now (.slice L nl cl) (.slice A n c)) 27) := ⟨_, rfl⟩
  have hb0 : Below w.heap.size w w0 := by rw [hw0]; exact (Below.refl _ _).alloc (Nat.le_refl _) _
  have hp0 : w0.heap[w.heap.size]? = some (.cells (aC m now (.slice L nl cl) (.slice A n c)) 27 (0, 0)) := by rw [hw0]; exact heap_alloc_new w _
  have HCE : Hid (∀ W, Below w0.heap.size w0 W → W.cell? ⟨w.heap.size, 0, none⟩ = some (.int .i64 m.k) ∧ W.cell? ⟨w.heap.size, 1, none⟩ = some (.int .i64 m.b) ∧ W.cell? ⟨w.heap.size, 2, none⟩ = some (.int .i64 m.s) ∧ W.cell? ⟨w.heap.size, 3, none⟩ = some (.int .i64 m.c) ∧ W.cell? ⟨w.heap.size, 4, none⟩ = some (.int .i64 m.e) ∧ W.cell? ⟨w.heap.size, 5, none⟩ = some (.int .i64 now) ∧ W.cell? ⟨w.heap.size, 6, none⟩ = some (.slice L nl cl) ∧ W.cell? ⟨w.heap.size, 7, none⟩ = some (.slice A n c)) := fun W hW => by
    have e0 := (hW.block _ (lt_of_block hp0)).trans hp0
    exact ⟨cell_of_row W _ 0 _ _ _ e0, cell_of_row W _ 1 _ _ _ e0, cell_of_row W _ 2 _ _ _ e0, cell_of_row W _ 3 _ _ _ e0, cell_of_row W _ 4 _ _ _ e0, cell_of_row W _ 5 _ _ _ e0, cell_of_row W _ 6 _ _ _ e0, cell_of_row W _ 7 _ _ _ e0⟩
  have hL0 := hL.later hb0 (Nat.le_refl _)
  have hA0 := hA.later hb0 (Nat.le_refl _)
  have HG := Lib.hid (great_any m now L nl cl l A n c rows w0 hnl hL0.ts hn hA0.rs hll hlr)
  have H0 := Lib.hid hw0
  have HWL : Hid (w.heap.size < w0.heap.size) := lt_of_block hp0
  have HB0 := Lib.hid hb0
  have HBS : Hid (Below w0.heap.size w0 w0) := Below.refl _ _
  obtain ⟨y0, y1, y2, y3, y4, y5, y6, y7⟩ := HCE.out w0 HBS.out
  have HNL := Lib.hid hnl
  have HNN := Lib.hid hn
  have HL0 := Lib.hid hL0
  have HA0 := Lib.hid hA0
  have HSS := Lib.hid hs
  have HNW := Lib.hid hnow
  clear hnl hn hL hA hs hnow hw0 hb0 hp0 hL0 hA0
  go_enter Try.func5, Try.ntmps5
  go_upto_region 1 with (fail)
  rw [← H0.out]
  go_wp2_with fail
  refine HG.out.mono ?_
  rintro r w1 ⟨⟨g, rfl, hg⟩, hb1⟩
  have HB1 := Lib.hid hb1
  clear hb1 y0 y1 y2 y3 y4 y5 y6 y7
  cases g
  · obtain ⟨hg1, hg2, hg3, hg4⟩ := hg rfl
    have HG3 := Lib.hid hg3
    have HG4 := Lib.hid hg4
    have HLN : Hid (∀ t ∈ l, t.n ≤ 10 ∧ In64 t.s) := fun t ht => ⟨hg3 t ht, (HSS.out t ht).2⟩
    have HMO : Hid (∀ W, Calls Try.prog 12 #[.agg (aC m now (.slice L nl cl) (.slice A n c))] W fun r w' => r = .returned m.v ∧ Below W.heap.size W w') := fun W => mode_any m now L A nl cl n c W
    have HTX : Hid (∀ W, Below w0.heap.size w0 W → Calls Try.prog 14 #[.agg (aC m now (.slice L nl cl) (.slice A n c))] W fun r w' => TP l nl r w' ∧ Below W.heap.size W w') := fun W hW =>
      (tickets_any m now A L n c nl cl l W HNL.out (HL0.out.later hW (Nat.le_refl _)) (by omega) HG3.out).mono fun r w' h => h.tp
    have HRX : Hid (∀ W, Below w0.heap.size w0 W → Calls Try.prog 9 #[.agg (aC m now (.slice L nl cl) (.slice A n c))] W fun r w' => RP rows n r w' ∧ Below W.heap.size W w') := fun W hW =>
      (rows_any m now L A nl cl n c rows W HNN.out (HA0.out.later hW (Nat.le_refl _)) (by omega) HG4.out).mono fun r w' h => h.rp
    have HAW : Hid (∀ W, Calls Try.prog 17 #[] W fun r w' => r = .returned (.bool true) ∧ Below W.heap.size W w') := fun W => fawake W
    clear hg hg3 hg4
    have HRO : Hid (∀ W, Below w0.heap.size w0 W → Calls Try.prog 9 #[.agg (aC m now (.slice L nl cl) (.slice A n c))] W fun r w' => RowsPost W rows n r w') := fun W hW => rows_any m now L A nl cl n c rows W HNN.out (HA0.out.later hW (Nat.le_refl _)) (by omega) HG4.out
    have HTO : Hid (∀ W, Below w0.heap.size w0 W → Calls Try.prog 14 #[.agg (aC m now (.slice L nl cl) (.slice A n c))] W fun r w' => TixPost W l nl r w') := fun W hW => tickets_any m now A L n c nl cl l W HNL.out (HL0.out.later hW (Nat.le_refl _)) (by omega) HG3.out
    have HRT : Hid (∀ W A2 c2, Rs W W.heap.size A2 rows → Calls Try.prog 8 #[.slice A2 n c2] W fun r w' => r = .returned (.tuple #[.int .i64 (takP 1 rows), .int .i64 (takP 2 rows)]) ∧ Below W.heap.size W w') := fun W A2 c2 h => taken_any A2 n c2 rows W HNN.out h HG4.out (by omega)
    have HFD : Hid (∀ W A' j c' A2 c2 (l' : List Tk), j = l'.length → j ≤ 100 → (∀ t ∈ l', t ∈ l) → Ts W W.heap.size A' l' → Rs W W.heap.size A2 rows → Calls Try.prog 18 #[m.v, .int .i64 now, .slice A' j c', .slice A2 n c2] W fun r w' => r = .returned (fR (findR m now rows l')) ∧ Below W.heap.size W w') := fun W A' j c' A2 c2 l' hj hj1 hsub h1 h2 =>
      find_any m now A' j c' l' A2 n c2 rows W hj h1 (by omega) (fun t ht => HLN.out t (hsub t ht)) HNN.out h2 HG4.out (by omega) HNW.out
    go_upto_region 3 with (fail)
    go_cut [3, 4, 5] (fun a b d wx => ∃ (Gm : Nat) (A6 : Option Addr) (c6 : Nat) (A7 : Option Addr) (c7 : Nat) (lf : List FW) (lt : List FT), a = .pointer (some ⟨Gm, 0, none⟩) ∧ b = .slice A6 n c6 ∧ d = .slice A7 nl c7 ∧ Hid (Mem w0.heap.size m rows l n nl Gm A6 c6 A7 c7 lf lt wx ∧ Below w0.heap.size w0 wx))
    case first =>
      have HB5 : Hid (Below w0.heap.size w0 w1.drew) := HB1.out.drew
      refine wp_region_held_drew (S := fun W : World => W.cell? ⟨w.heap.size, 0, none⟩ = some (.int .i64 m.k) ∧ W.cell? ⟨w.heap.size, 1, none⟩ = some (.int .i64 m.b) ∧ W.cell? ⟨w.heap.size, 2, none⟩ = some (.int .i64 m.s) ∧ W.cell? ⟨w.heap.size, 3, none⟩ = some (.int .i64 m.c) ∧ W.cell? ⟨w.heap.size, 4, none⟩ = some (.int .i64 m.e) ∧ W.cell? ⟨w.heap.size, 5, none⟩ = some (.int .i64 now) ∧ W.cell? ⟨w.heap.size, 6, none⟩ = some (.slice L nl cl) ∧ W.cell? ⟨w.heap.size, 7, none⟩ = some (.slice A n c)) (by kernel_rfl) (HCE.out _ (HB5.out)) (fun hHeld => ?_)
      obtain ⟨w5, hW0⟩ : ∃ W0, W0 = w1.drew := ⟨_, rfl⟩
      rw [← hW0] at hHeld HB5 ⊢
      clear hW0
      refine wpAnyH_take (i := 0) (oi := ?oi0p) (v := ?v0p) ?hi0p ?hs0p ?hf0p ?hr0p ?hQ0p ?hy0p ?hS0p ?h0p
      case hi0p => exact (by simp only [List.getElem?_toArray, List.getElem?_cons_zero]; rfl)
      case hs0p => kernel_rfl
      case hf0p => kernel_rfl
      case hr0p => kernel_rfl
      case hQ0p => exact fun _ _ _ h => h
      case hy0p =>
        refine Or.inl ⟨rfl, ?_⟩
        intro W hSw
        obtain ⟨y0, y1, y2, y3, y4, y5, y6, y7⟩ := hSw
        go_simp
        try with_reducible rfl
      case hS0p => assumption
      try simp only [Act.put, List.setIfInBounds_toArray, List.set_cons_zero, List.set_cons_succ]
      refine wpAnyH_take (i := 2) (oi := ?oi2p) (v := ?v2p) ?hi2p ?hs2p ?hf2p ?hr2p ?hQ2p ?hy2p ?hS2p ?h2p
      case hi2p => exact (by simp only [List.getElem?_toArray, List.getElem?_cons_succ, List.getElem?_cons_zero]; rfl)
      case hs2p => kernel_rfl
      case hf2p => kernel_rfl
      case hr2p => kernel_rfl
      case hQ2p => exact fun _ _ _ h => h
      case hy2p =>
        refine Or.inl ⟨rfl, ?_⟩
        intro W hSw
        obtain ⟨y0, y1, y2, y3, y4, y5, y6, y7⟩ := hSw
        go_simp
        try with_reducible rfl
      case hS2p => assumption
      try simp only [Act.put, List.setIfInBounds_toArray, List.set_cons_zero, List.set_cons_succ]
      refine wpAnyH_take (i := 4) (oi := ?oi4p) (v := ?v4p) ?hi4p ?hs4p ?hf4p ?hr4p ?hQ4p ?hy4p ?hS4p ?h4p
      case hi4p => exact (by simp only [List.getElem?_toArray, List.getElem?_cons_succ, List.getElem?_cons_zero]; rfl)
      case hs4p => kernel_rfl
      case hf4p => kernel_rfl
      case hr4p => kernel_rfl
      case hQ4p => exact fun _ _ _ h => h
      case hy4p =>
        refine Or.inl ⟨rfl, ?_⟩
        intro W hSw
        obtain ⟨y0, y1, y2, y3, y4, y5, y6, y7⟩ := hSw
        go_simp
        try with_reducible rfl
      case hS4p => assumption
      try simp only [Act.put, List.setIfInBounds_toArray, List.set_cons_zero, List.set_cons_succ]
      refine wpAnyH_ready (rs := [1, 6]) (by kernel_rfl) (by simp) ?_
      refine AllReadyH.cons (o := _) rfl (fun K hK => ?_) (AllReadyH.cons (o := _) rfl (fun K hK => ?_) AllReadyH.nil)
      · go_simp
        refine (HMO.out w5).mono ?_
        rintro r w21 ⟨rfl, hb21⟩
        have HB21 := Lib.hid (HB5.out.trans (hb21.mono HB5.out.size))
        clear hb21
        refine hK.out _ _ (HCE.out _ (HB21.out)) (fun hHeld => ?_)
        clear hK K
        try simp only [Act.put, List.setIfInBounds_toArray, List.set_cons_zero, List.set_cons_succ]
        refine wpAnyH_ready (rs := [3, 6]) (by kernel_rfl) (by simp) ?_
        refine AllReadyH.cons (o := _) rfl (fun K hK => ?_) (AllReadyH.cons (o := _) rfl (fun K hK => ?_) AllReadyH.nil)
        · go_simp
          refine (HRO.out w21 HB21.out).mono ?_
          rintro r w22 ⟨A6, c6, lf, rfl, hrm, hro, hb22⟩
          have HB22 := Lib.hid (HB21.out.trans (hb22.mono HB21.out.size))
          have HR22 : Hid (w22.ownsRow w0.heap.size 55 4 (.slice A6 n c6) n (gr lf)) := own_low hro HB21.out.size
          have HRM := Lib.hid hrm
          clear hrm hro
          clear hb22
          refine hK.out _ _ (HCE.out _ (HB22.out)) (fun hHeld => ?_)
          clear hK K
          try simp only [Act.put, List.setIfInBounds_toArray, List.set_cons_zero, List.set_cons_succ]
          refine wpAnyH_ready (rs := [5, 6]) (by kernel_rfl) (by simp) ?_
          refine AllReadyH.cons (o := _) rfl (fun K hK => ?_) (AllReadyH.cons (o := _) rfl (fun K hK => ?_) AllReadyH.nil)
          · go_simp
            refine (HTO.out w22 HB22.out).mono ?_
            rintro r w23 ⟨A7, c7, lt, rfl, htm, hto, hb23⟩
            have HB23 := Lib.hid (HB22.out.trans (hb23.mono HB22.out.size))
            have HT23 : Hid (w23.ownsRow w0.heap.size 44 5 (.slice A7 nl c7) nl (fr lt)) := own_low hto HB22.out.size
            have HTM := Lib.hid htm
            clear htm hto
            have HR23 : Hid (w23.ownsRow w0.heap.size 55 4 (.slice A6 n c6) n (gr lf)) := own_after HR22.out fun g hg => hb23.block g (own_lt HR22.out g hg).2
            clear hb23
            refine hK.out _ _ (HCE.out _ (HB23.out)) (fun hHeld => ?_)
            clear hK K
            try simp only [Act.put, List.setIfInBounds_toArray, List.set_cons_zero, List.set_cons_succ]
            refine wpAnyH_ready (rs := [6]) (by kernel_rfl) (by simp) ?_
            refine AllReadyH.cons (o := _) rfl (fun K hK => ?_) AllReadyH.nil
            go_simp
            refine hK.out _ _ (HCE.out _ ((HB23.out.alloc HB23.out.size _))) (fun hHeld => ?_)
            clear hK K
            try simp only [Act.put, List.setIfInBounds_toArray, List.set_cons_zero, List.set_cons_succ]
            obtain ⟨Gm, hg24⟩ : ∃ Gm, Gm = w23.heap.size := ⟨_, rfl⟩
            obtain ⟨w24, hw24⟩ : ∃ w24, w24 = w23.alloc (.cells (mCells 0 0 0 0 0) 35) := ⟨_, rfl⟩
            have HM24 : Hid (w24.heap[Gm]? = some (.cells (mCells 0 0 0 0 0) 35 (0, 0))) := by rw [hw24, hg24]; exact heap_alloc_new w23 _
            have HB24 : Hid (Below w0.heap.size w0 w24) := by rw [hw24]; exact HB23.out.alloc HB23.out.size _
            have LGm : Hid (w0.heap.size ≤ Gm) := by rw [hg24]; exact HB23.out.size
            have hb24 : Below w23.heap.size w23 w24 := by rw [hw24]; exact (Below.refl _ _).alloc (Nat.le_refl _) _
            have HR24 : Hid (w24.ownsRow w0.heap.size 55 4 (.slice A6 n c6) n (gr lf)) := own_after HR23.out fun g hg => hb24.block g (own_lt HR23.out g hg).2
            have HT24 : Hid (w24.ownsRow w0.heap.size 44 5 (.slice A7 nl c7) nl (fr lt)) := own_after HT23.out fun g hg => hb24.block g (own_lt HT23.out g hg).2
            rw [← hw24, ← hg24]
            clear hw24 hg24 hb24
            refine wpAnyH_ready (rs := [7]) (by kernel_rfl) (by simp) ?_
            refine AllReadyH.cons (o := _) rfl (fun K hK => ?_) AllReadyH.nil
            have q0 := cell_of_row w24 Gm 0 _ _ _ HM24.out
            have q1 := cell_of_row w24 Gm 1 _ _ _ HM24.out
            have q2 := cell_of_row w24 Gm 2 _ _ _ HM24.out
            have q3 := cell_of_row w24 Gm 3 _ _ _ HM24.out
            have q4 := cell_of_row w24 Gm 4 _ _ _ HM24.out
            have fG : ∀ i, w24.frozen? ⟨Gm, i, none⟩ = false := fun i => frozen_of_row w24 _ i _ _ HM24.out
            simp at q0 q1 q2 q3 q4
            go_simp
            obtain ⟨w25, hw25⟩ : ∃ w9, w9 = (((((w24.setCell ⟨Gm, 0, none⟩ (.int .i64 m.k)).setCell ⟨Gm, 1, none⟩ (.int .i64 m.b)).setCell ⟨Gm, 2, none⟩ (.int .i64 m.s)).setCell ⟨Gm, 3, none⟩ (.int .i64 m.c)).setCell ⟨Gm, 4, none⟩ (.int .i64 m.e)) := ⟨_, rfl⟩
            rw [← hw25]
            have HM25 : Hid (w25.heap[Gm]? = some (.cells m.cells 35 (0, 0))) := by rw [hw25]; exact five _ _ _ _ _ HM24.out
            have HB25 : Hid (Below w0.heap.size w0 w25) := by rw [hw25]; exact five_below _ _ _ _ _ HB24.out LGm.out
            have HR25 : Hid (w25.ownsRow w0.heap.size 55 4 (.slice A6 n c6) n (gr lf)) := own_after HR24.out fun g hg => by rw [hw25]; exact five_far _ _ _ _ _ (fun e => own_ne HR24.out HM24.out (by decide) (by rw [hg, e]))
            have HT25 : Hid (w25.ownsRow w0.heap.size 44 5 (.slice A7 nl c7) nl (fr lt)) := own_after HT24.out fun g hg => by rw [hw25]; exact five_far _ _ _ _ _ (fun e => own_ne HT24.out HM24.out (by decide) (by rw [hg, e]))
            clear hw25 q0 q1 q2 q3 q4 fG
            refine hK.out _ _ (HCE.out _ (HB25.out)) (fun hHeld => ?_)
            clear hK K
            try simp only [Act.put, List.setIfInBounds_toArray, List.set_cons_zero, List.set_cons_succ]
            refine wpAnyH_take (i := 8) (oi := ?oi8e25) (v := ?v8e25) ?hi8e25 ?hs8e25 ?hf8e25 ?hr8e25 ?hQ8e25 ?hy8e25 ?hS8e25 ?h8e25
            case hi8e25 => exact (by simp only [List.getElem?_toArray, List.getElem?_cons_succ, List.getElem?_cons_zero]; rfl)
            case hs8e25 => kernel_rfl
            case hf8e25 => kernel_rfl
            case hr8e25 => kernel_rfl
            case hQ8e25 => exact fun _ _ _ h => h
            case hy8e25 =>
              refine Or.inl ⟨rfl, ?_⟩
              intro W hSw
              obtain ⟨y0, y1, y2, y3, y4, y5, y6, y7⟩ := hSw
              go_simp
              try with_reducible rfl
            case hS8e25 => assumption
            try simp only [Act.put, List.setIfInBounds_toArray, List.set_cons_zero, List.set_cons_succ]
            refine wpAnyH_take (i := 9) (oi := ?oi9f25) (v := ?v9f25) ?hi9f25 ?hs9f25 ?hf9f25 ?hr9f25 ?hQ9f25 ?hy9f25 ?hS9f25 ?h9f25
            case hi9f25 => exact (by simp only [List.getElem?_toArray, List.getElem?_cons_succ, List.getElem?_cons_zero]; rfl)
            case hs9f25 => kernel_rfl
            case hf9f25 => kernel_rfl
            case hr9f25 => kernel_rfl
            case hQ9f25 => exact fun _ _ _ h => h
            case hy9f25 =>
              refine Or.inl ⟨rfl, ?_⟩
              intro W hSw
              obtain ⟨y0, y1, y2, y3, y4, y5, y6, y7⟩ := hSw
              go_simp
              try with_reducible rfl
            case hS9f25 => assumption
            try simp only [Act.put, List.setIfInBounds_toArray, List.set_cons_zero, List.set_cons_succ]
            refine wpAnyH_done (by kernel_rfl) ?_ _
            try go_wp2_with fail
            go_meet
            exact ⟨Gm, A6, c6, A7, c7, lf, lt, rfl, rfl, rfl, Lib.hid ⟨⟨HM25.out, LGm.out, HR25.out, HRM.out, HT25.out, HTM.out⟩, HB25.out⟩⟩
          · go_simp
            refine hK.out _ _ (HCE.out _ ((HB22.out.alloc HB22.out.size _))) (fun hHeld => ?_)
            clear hK K
            try simp only [Act.put, List.setIfInBounds_toArray, List.set_cons_zero, List.set_cons_succ]
            obtain ⟨Gm, hg26⟩ : ∃ Gm, Gm = w22.heap.size := ⟨_, rfl⟩
            obtain ⟨w26, hw26⟩ : ∃ w26, w26 = w22.alloc (.cells (mCells 0 0 0 0 0) 35) := ⟨_, rfl⟩
            have HM26 : Hid (w26.heap[Gm]? = some (.cells (mCells 0 0 0 0 0) 35 (0, 0))) := by rw [hw26, hg26]; exact heap_alloc_new w22 _
            have HB26 : Hid (Below w0.heap.size w0 w26) := by rw [hw26]; exact HB22.out.alloc HB22.out.size _
            have LGm : Hid (w0.heap.size ≤ Gm) := by rw [hg26]; exact HB22.out.size
            have hb26 : Below w22.heap.size w22 w26 := by rw [hw26]; exact (Below.refl _ _).alloc (Nat.le_refl _) _
            have HR26 : Hid (w26.ownsRow w0.heap.size 55 4 (.slice A6 n c6) n (gr lf)) := own_after HR22.out fun g hg => hb26.block g (own_lt HR22.out g hg).2
            rw [← hw26, ← hg26]
            clear hw26 hg26 hb26
            refine wpAnyH_ready (rs := [5]) (by kernel_rfl) (by simp) ?_
            refine AllReadyH.cons (o := _) rfl (fun K hK => ?_) AllReadyH.nil
            go_simp
            refine (HTO.out w26 HB26.out).mono ?_
            rintro r w27 ⟨A7, c7, lt, rfl, htm, hto, hb27⟩
            have HB27 := Lib.hid (HB26.out.trans (hb27.mono HB26.out.size))
            have HT27 : Hid (w27.ownsRow w0.heap.size 44 5 (.slice A7 nl c7) nl (fr lt)) := own_low hto HB26.out.size
            have HTM := Lib.hid htm
            clear htm hto
            have HR27 : Hid (w27.ownsRow w0.heap.size 55 4 (.slice A6 n c6) n (gr lf)) := own_after HR26.out fun g hg => hb27.block g (own_lt HR26.out g hg).2
            have HM27 : Hid (w27.heap[Gm]? = some (.cells (mCells 0 0 0 0 0) 35 (0, 0))) := (hb27.block Gm (lt_of_block HM26.out)).trans HM26.out
            clear hb27
            refine hK.out _ _ (HCE.out _ (HB27.out)) (fun hHeld => ?_)
            clear hK K
            try simp only [Act.put, List.setIfInBounds_toArray, List.set_cons_zero, List.set_cons_succ]
            refine wpAnyH_ready (rs := [7]) (by kernel_rfl) (by simp) ?_
            refine AllReadyH.cons (o := _) rfl (fun K hK => ?_) AllReadyH.nil
            have q0 := cell_of_row w27 Gm 0 _ _ _ HM27.out
            have q1 := cell_of_row w27 Gm 1 _ _ _ HM27.out
            have q2 := cell_of_row w27 Gm 2 _ _ _ HM27.out
            have q3 := cell_of_row w27 Gm 3 _ _ _ HM27.out
            have q4 := cell_of_row w27 Gm 4 _ _ _ HM27.out
            have fG : ∀ i, w27.frozen? ⟨Gm, i, none⟩ = false := fun i => frozen_of_row w27 _ i _ _ HM27.out
            simp at q0 q1 q2 q3 q4
            go_simp
            obtain ⟨w28, hw28⟩ : ∃ w9, w9 = (((((w27.setCell ⟨Gm, 0, none⟩ (.int .i64 m.k)).setCell ⟨Gm, 1, none⟩ (.int .i64 m.b)).setCell ⟨Gm, 2, none⟩ (.int .i64 m.s)).setCell ⟨Gm, 3, none⟩ (.int .i64 m.c)).setCell ⟨Gm, 4, none⟩ (.int .i64 m.e)) := ⟨_, rfl⟩
            rw [← hw28]
            have HM28 : Hid (w28.heap[Gm]? = some (.cells m.cells 35 (0, 0))) := by rw [hw28]; exact five _ _ _ _ _ HM27.out
            have HB28 : Hid (Below w0.heap.size w0 w28) := by rw [hw28]; exact five_below _ _ _ _ _ HB27.out LGm.out
            have HR28 : Hid (w28.ownsRow w0.heap.size 55 4 (.slice A6 n c6) n (gr lf)) := own_after HR27.out fun g hg => by rw [hw28]; exact five_far _ _ _ _ _ (fun e => own_ne HR27.out HM27.out (by decide) (by rw [hg, e]))
            have HT28 : Hid (w28.ownsRow w0.heap.size 44 5 (.slice A7 nl c7) nl (fr lt)) := own_after HT27.out fun g hg => by rw [hw28]; exact five_far _ _ _ _ _ (fun e => own_ne HT27.out HM27.out (by decide) (by rw [hg, e]))
            clear hw28 q0 q1 q2 q3 q4 fG
            refine hK.out _ _ (HCE.out _ (HB28.out)) (fun hHeld => ?_)
            clear hK K
            try simp only [Act.put, List.setIfInBounds_toArray, List.set_cons_zero, List.set_cons_succ]
            refine wpAnyH_take (i := 8) (oi := ?oi8e28) (v := ?v8e28) ?hi8e28 ?hs8e28 ?hf8e28 ?hr8e28 ?hQ8e28 ?hy8e28 ?hS8e28 ?h8e28
            case hi8e28 => exact (by simp only [List.getElem?_toArray, List.getElem?_cons_succ, List.getElem?_cons_zero]; rfl)
            case hs8e28 => kernel_rfl
            case hf8e28 => kernel_rfl
            case hr8e28 => kernel_rfl
            case hQ8e28 => exact fun _ _ _ h => h
            case hy8e28 =>
              refine Or.inl ⟨rfl, ?_⟩
              intro W hSw
              obtain ⟨y0, y1, y2, y3, y4, y5, y6, y7⟩ := hSw
              go_simp
              try with_reducible rfl
            case hS8e28 => assumption
            try simp only [Act.put, List.setIfInBounds_toArray, List.set_cons_zero, List.set_cons_succ]
            refine wpAnyH_take (i := 9) (oi := ?oi9f28) (v := ?v9f28) ?hi9f28 ?hs9f28 ?hf9f28 ?hr9f28 ?hQ9f28 ?hy9f28 ?hS9f28 ?h9f28
            case hi9f28 => exact (by simp only [List.getElem?_toArray, List.getElem?_cons_succ, List.getElem?_cons_zero]; rfl)
            case hs9f28 => kernel_rfl
            case hf9f28 => kernel_rfl
            case hr9f28 => kernel_rfl
            case hQ9f28 => exact fun _ _ _ h => h
            case hy9f28 =>
              refine Or.inl ⟨rfl, ?_⟩
              intro W hSw
              obtain ⟨y0, y1, y2, y3, y4, y5, y6, y7⟩ := hSw
              go_simp
              try with_reducible rfl
            case hS9f28 => assumption
            try simp only [Act.put, List.setIfInBounds_toArray, List.set_cons_zero, List.set_cons_succ]
            refine wpAnyH_done (by kernel_rfl) ?_ _
            try go_wp2_with fail
            go_meet
            exact ⟨Gm, A6, c6, A7, c7, lf, lt, rfl, rfl, rfl, Lib.hid ⟨⟨HM28.out, LGm.out, HR28.out, HRM.out, HT28.out, HTM.out⟩, HB28.out⟩⟩
        · go_simp
          refine hK.out _ _ (HCE.out _ ((HB21.out.alloc HB21.out.size _))) (fun hHeld => ?_)
          clear hK K
          try simp only [Act.put, List.setIfInBounds_toArray, List.set_cons_zero, List.set_cons_succ]
          obtain ⟨Gm, hg29⟩ : ∃ Gm, Gm = w21.heap.size := ⟨_, rfl⟩
          obtain ⟨w29, hw29⟩ : ∃ w29, w29 = w21.alloc (.cells (mCells 0 0 0 0 0) 35) := ⟨_, rfl⟩
          have HM29 : Hid (w29.heap[Gm]? = some (.cells (mCells 0 0 0 0 0) 35 (0, 0))) := by rw [hw29, hg29]; exact heap_alloc_new w21 _
          have HB29 : Hid (Below w0.heap.size w0 w29) := by rw [hw29]; exact HB21.out.alloc HB21.out.size _
          have LGm : Hid (w0.heap.size ≤ Gm) := by rw [hg29]; exact HB21.out.size
          have hb29 : Below w21.heap.size w21 w29 := by rw [hw29]; exact (Below.refl _ _).alloc (Nat.le_refl _) _
          rw [← hw29, ← hg29]
          clear hw29 hg29 hb29
          refine wpAnyH_ready (rs := [3]) (by kernel_rfl) (by simp) ?_
          refine AllReadyH.cons (o := _) rfl (fun K hK => ?_) AllReadyH.nil
          go_simp
          refine (HRO.out w29 HB29.out).mono ?_
          rintro r w30 ⟨A6, c6, lf, rfl, hrm, hro, hb30⟩
          have HB30 := Lib.hid (HB29.out.trans (hb30.mono HB29.out.size))
          have HR30 : Hid (w30.ownsRow w0.heap.size 55 4 (.slice A6 n c6) n (gr lf)) := own_low hro HB29.out.size
          have HRM := Lib.hid hrm
          clear hrm hro
          have HM30 : Hid (w30.heap[Gm]? = some (.cells (mCells 0 0 0 0 0) 35 (0, 0))) := (hb30.block Gm (lt_of_block HM29.out)).trans HM29.out
          clear hb30
          refine hK.out _ _ (HCE.out _ (HB30.out)) (fun hHeld => ?_)
          clear hK K
          try simp only [Act.put, List.setIfInBounds_toArray, List.set_cons_zero, List.set_cons_succ]
          refine wpAnyH_ready (rs := [5]) (by kernel_rfl) (by simp) ?_
          refine AllReadyH.cons (o := _) rfl (fun K hK => ?_) AllReadyH.nil
          go_simp
          refine (HTO.out w30 HB30.out).mono ?_
          rintro r w31 ⟨A7, c7, lt, rfl, htm, hto, hb31⟩
          have HB31 := Lib.hid (HB30.out.trans (hb31.mono HB30.out.size))
          have HT31 : Hid (w31.ownsRow w0.heap.size 44 5 (.slice A7 nl c7) nl (fr lt)) := own_low hto HB30.out.size
          have HTM := Lib.hid htm
          clear htm hto
          have HR31 : Hid (w31.ownsRow w0.heap.size 55 4 (.slice A6 n c6) n (gr lf)) := own_after HR30.out fun g hg => hb31.block g (own_lt HR30.out g hg).2
          have HM31 : Hid (w31.heap[Gm]? = some (.cells (mCells 0 0 0 0 0) 35 (0, 0))) := (hb31.block Gm (lt_of_block HM30.out)).trans HM30.out
          clear hb31
          refine hK.out _ _ (HCE.out _ (HB31.out)) (fun hHeld => ?_)
          clear hK K
          try simp only [Act.put, List.setIfInBounds_toArray, List.set_cons_zero, List.set_cons_succ]
          refine wpAnyH_ready (rs := [7]) (by kernel_rfl) (by simp) ?_
          refine AllReadyH.cons (o := _) rfl (fun K hK => ?_) AllReadyH.nil
          have q0 := cell_of_row w31 Gm 0 _ _ _ HM31.out
          have q1 := cell_of_row w31 Gm 1 _ _ _ HM31.out
          have q2 := cell_of_row w31 Gm 2 _ _ _ HM31.out
          have q3 := cell_of_row w31 Gm 3 _ _ _ HM31.out
          have q4 := cell_of_row w31 Gm 4 _ _ _ HM31.out
          have fG : ∀ i, w31.frozen? ⟨Gm, i, none⟩ = false := fun i => frozen_of_row w31 _ i _ _ HM31.out
          simp at q0 q1 q2 q3 q4
          go_simp
          obtain ⟨w32, hw32⟩ : ∃ w9, w9 = (((((w31.setCell ⟨Gm, 0, none⟩ (.int .i64 m.k)).setCell ⟨Gm, 1, none⟩ (.int .i64 m.b)).setCell ⟨Gm, 2, none⟩ (.int .i64 m.s)).setCell ⟨Gm, 3, none⟩ (.int .i64 m.c)).setCell ⟨Gm, 4, none⟩ (.int .i64 m.e)) := ⟨_, rfl⟩
          rw [← hw32]
          have HM32 : Hid (w32.heap[Gm]? = some (.cells m.cells 35 (0, 0))) := by rw [hw32]; exact five _ _ _ _ _ HM31.out
          have HB32 : Hid (Below w0.heap.size w0 w32) := by rw [hw32]; exact five_below _ _ _ _ _ HB31.out LGm.out
          have HR32 : Hid (w32.ownsRow w0.heap.size 55 4 (.slice A6 n c6) n (gr lf)) := own_after HR31.out fun g hg => by rw [hw32]; exact five_far _ _ _ _ _ (fun e => own_ne HR31.out HM31.out (by decide) (by rw [hg, e]))
          have HT32 : Hid (w32.ownsRow w0.heap.size 44 5 (.slice A7 nl c7) nl (fr lt)) := own_after HT31.out fun g hg => by rw [hw32]; exact five_far _ _ _ _ _ (fun e => own_ne HT31.out HM31.out (by decide) (by rw [hg, e]))
          clear hw32 q0 q1 q2 q3 q4 fG
          refine hK.out _ _ (HCE.out _ (HB32.out)) (fun hHeld => ?_)
          clear hK K
          try simp only [Act.put, List.setIfInBounds_toArray, List.set_cons_zero, List.set_cons_succ]
          refine wpAnyH_take (i := 8) (oi := ?oi8e32) (v := ?v8e32) ?hi8e32 ?hs8e32 ?hf8e32 ?hr8e32 ?hQ8e32 ?hy8e32 ?hS8e32 ?h8e32
          case hi8e32 => exact (by simp only [List.getElem?_toArray, List.getElem?_cons_succ, List.getElem?_cons_zero]; rfl)
          case hs8e32 => kernel_rfl
          case hf8e32 => kernel_rfl
          case hr8e32 => kernel_rfl
          case hQ8e32 => exact fun _ _ _ h => h
          case hy8e32 =>
            refine Or.inl ⟨rfl, ?_⟩
            intro W hSw
            obtain ⟨y0, y1, y2, y3, y4, y5, y6, y7⟩ := hSw
            go_simp
            try with_reducible rfl
          case hS8e32 => assumption
          try simp only [Act.put, List.setIfInBounds_toArray, List.set_cons_zero, List.set_cons_succ]
          refine wpAnyH_take (i := 9) (oi := ?oi9f32) (v := ?v9f32) ?hi9f32 ?hs9f32 ?hf9f32 ?hr9f32 ?hQ9f32 ?hy9f32 ?hS9f32 ?h9f32
          case hi9f32 => exact (by simp only [List.getElem?_toArray, List.getElem?_cons_succ, List.getElem?_cons_zero]; rfl)
          case hs9f32 => kernel_rfl
          case hf9f32 => kernel_rfl
          case hr9f32 => kernel_rfl
          case hQ9f32 => exact fun _ _ _ h => h
          case hy9f32 =>
            refine Or.inl ⟨rfl, ?_⟩
            intro W hSw
            obtain ⟨y0, y1, y2, y3, y4, y5, y6, y7⟩ := hSw
            go_simp
            try with_reducible rfl
          case hS9f32 => assumption
          try simp only [Act.put, List.setIfInBounds_toArray, List.set_cons_zero, List.set_cons_succ]
          refine wpAnyH_done (by kernel_rfl) ?_ _
          try go_wp2_with fail
          go_meet
          exact ⟨Gm, A6, c6, A7, c7, lf, lt, rfl, rfl, rfl, Lib.hid ⟨⟨HM32.out, LGm.out, HR32.out, HRM.out, HT32.out, HTM.out⟩, HB32.out⟩⟩
      · go_simp
        refine hK.out _ _ (HCE.out _ ((HB5.out.alloc HB5.out.size _))) (fun hHeld => ?_)
        clear hK K
        try simp only [Act.put, List.setIfInBounds_toArray, List.set_cons_zero, List.set_cons_succ]
        obtain ⟨Gm, hg33⟩ : ∃ Gm, Gm = w5.heap.size := ⟨_, rfl⟩
        obtain ⟨w33, hw33⟩ : ∃ w33, w33 = w5.alloc (.cells (mCells 0 0 0 0 0) 35) := ⟨_, rfl⟩
        have HM33 : Hid (w33.heap[Gm]? = some (.cells (mCells 0 0 0 0 0) 35 (0, 0))) := by rw [hw33, hg33]; exact heap_alloc_new w5 _
        have HB33 : Hid (Below w0.heap.size w0 w33) := by rw [hw33]; exact HB5.out.alloc HB5.out.size _
        have LGm : Hid (w0.heap.size ≤ Gm) := by rw [hg33]; exact HB5.out.size
        have hb33 : Below w5.heap.size w5 w33 := by rw [hw33]; exact (Below.refl _ _).alloc (Nat.le_refl _) _
        rw [← hw33, ← hg33]
        clear hw33 hg33 hb33
        refine wpAnyH_ready (rs := [1]) (by kernel_rfl) (by simp) ?_
        refine AllReadyH.cons (o := _) rfl (fun K hK => ?_) AllReadyH.nil
        go_simp
        refine (HMO.out w33).mono ?_
        rintro r w34 ⟨rfl, hb34⟩
        have HB34 := Lib.hid (HB33.out.trans (hb34.mono HB33.out.size))
        have HM34 : Hid (w34.heap[Gm]? = some (.cells (mCells 0 0 0 0 0) 35 (0, 0))) := (hb34.block Gm (lt_of_block HM33.out)).trans HM33.out
        clear hb34
        refine hK.out _ _ (HCE.out _ (HB34.out)) (fun hHeld => ?_)
        clear hK K
        try simp only [Act.put, List.setIfInBounds_toArray, List.set_cons_zero, List.set_cons_succ]
        refine wpAnyH_ready (rs := [3]) (by kernel_rfl) (by simp) ?_
        refine AllReadyH.cons (o := _) rfl (fun K hK => ?_) AllReadyH.nil
        go_simp
        refine (HRO.out w34 HB34.out).mono ?_
        rintro r w35 ⟨A6, c6, lf, rfl, hrm, hro, hb35⟩
        have HB35 := Lib.hid (HB34.out.trans (hb35.mono HB34.out.size))
        have HR35 : Hid (w35.ownsRow w0.heap.size 55 4 (.slice A6 n c6) n (gr lf)) := own_low hro HB34.out.size
        have HRM := Lib.hid hrm
        clear hrm hro
        have HM35 : Hid (w35.heap[Gm]? = some (.cells (mCells 0 0 0 0 0) 35 (0, 0))) := (hb35.block Gm (lt_of_block HM34.out)).trans HM34.out
        clear hb35
        refine hK.out _ _ (HCE.out _ (HB35.out)) (fun hHeld => ?_)
        clear hK K
        try simp only [Act.put, List.setIfInBounds_toArray, List.set_cons_zero, List.set_cons_succ]
        refine wpAnyH_ready (rs := [5]) (by kernel_rfl) (by simp) ?_
        refine AllReadyH.cons (o := _) rfl (fun K hK => ?_) AllReadyH.nil
        go_simp
        refine (HTO.out w35 HB35.out).mono ?_
        rintro r w36 ⟨A7, c7, lt, rfl, htm, hto, hb36⟩
        have HB36 := Lib.hid (HB35.out.trans (hb36.mono HB35.out.size))
        have HT36 : Hid (w36.ownsRow w0.heap.size 44 5 (.slice A7 nl c7) nl (fr lt)) := own_low hto HB35.out.size
        have HTM := Lib.hid htm
        clear htm hto
        have HR36 : Hid (w36.ownsRow w0.heap.size 55 4 (.slice A6 n c6) n (gr lf)) := own_after HR35.out fun g hg => hb36.block g (own_lt HR35.out g hg).2
        have HM36 : Hid (w36.heap[Gm]? = some (.cells (mCells 0 0 0 0 0) 35 (0, 0))) := (hb36.block Gm (lt_of_block HM35.out)).trans HM35.out
        clear hb36
        refine hK.out _ _ (HCE.out _ (HB36.out)) (fun hHeld => ?_)
        clear hK K
        try simp only [Act.put, List.setIfInBounds_toArray, List.set_cons_zero, List.set_cons_succ]
        refine wpAnyH_ready (rs := [7]) (by kernel_rfl) (by simp) ?_
        refine AllReadyH.cons (o := _) rfl (fun K hK => ?_) AllReadyH.nil
        have q0 := cell_of_row w36 Gm 0 _ _ _ HM36.out
        have q1 := cell_of_row w36 Gm 1 _ _ _ HM36.out
        have q2 := cell_of_row w36 Gm 2 _ _ _ HM36.out
        have q3 := cell_of_row w36 Gm 3 _ _ _ HM36.out
        have q4 := cell_of_row w36 Gm 4 _ _ _ HM36.out
        have fG : ∀ i, w36.frozen? ⟨Gm, i, none⟩ = false := fun i => frozen_of_row w36 _ i _ _ HM36.out
        simp at q0 q1 q2 q3 q4
        go_simp
        obtain ⟨w37, hw37⟩ : ∃ w9, w9 = (((((w36.setCell ⟨Gm, 0, none⟩ (.int .i64 m.k)).setCell ⟨Gm, 1, none⟩ (.int .i64 m.b)).setCell ⟨Gm, 2, none⟩ (.int .i64 m.s)).setCell ⟨Gm, 3, none⟩ (.int .i64 m.c)).setCell ⟨Gm, 4, none⟩ (.int .i64 m.e)) := ⟨_, rfl⟩
        rw [← hw37]
        have HM37 : Hid (w37.heap[Gm]? = some (.cells m.cells 35 (0, 0))) := by rw [hw37]; exact five _ _ _ _ _ HM36.out
        have HB37 : Hid (Below w0.heap.size w0 w37) := by rw [hw37]; exact five_below _ _ _ _ _ HB36.out LGm.out
        have HR37 : Hid (w37.ownsRow w0.heap.size 55 4 (.slice A6 n c6) n (gr lf)) := own_after HR36.out fun g hg => by rw [hw37]; exact five_far _ _ _ _ _ (fun e => own_ne HR36.out HM36.out (by decide) (by rw [hg, e]))
        have HT37 : Hid (w37.ownsRow w0.heap.size 44 5 (.slice A7 nl c7) nl (fr lt)) := own_after HT36.out fun g hg => by rw [hw37]; exact five_far _ _ _ _ _ (fun e => own_ne HT36.out HM36.out (by decide) (by rw [hg, e]))
        clear hw37 q0 q1 q2 q3 q4 fG
        refine hK.out _ _ (HCE.out _ (HB37.out)) (fun hHeld => ?_)
        clear hK K
        try simp only [Act.put, List.setIfInBounds_toArray, List.set_cons_zero, List.set_cons_succ]
        refine wpAnyH_take (i := 8) (oi := ?oi8e37) (v := ?v8e37) ?hi8e37 ?hs8e37 ?hf8e37 ?hr8e37 ?hQ8e37 ?hy8e37 ?hS8e37 ?h8e37
        case hi8e37 => exact (by simp only [List.getElem?_toArray, List.getElem?_cons_succ, List.getElem?_cons_zero]; rfl)
        case hs8e37 => kernel_rfl
        case hf8e37 => kernel_rfl
        case hr8e37 => kernel_rfl
        case hQ8e37 => exact fun _ _ _ h => h
        case hy8e37 =>
          refine Or.inl ⟨rfl, ?_⟩
          intro W hSw
          obtain ⟨y0, y1, y2, y3, y4, y5, y6, y7⟩ := hSw
          go_simp
          try with_reducible rfl
        case hS8e37 => assumption
        try simp only [Act.put, List.setIfInBounds_toArray, List.set_cons_zero, List.set_cons_succ]
        refine wpAnyH_take (i := 9) (oi := ?oi9f37) (v := ?v9f37) ?hi9f37 ?hs9f37 ?hf9f37 ?hr9f37 ?hQ9f37 ?hy9f37 ?hS9f37 ?h9f37
        case hi9f37 => exact (by simp only [List.getElem?_toArray, List.getElem?_cons_succ, List.getElem?_cons_zero]; rfl)
        case hs9f37 => kernel_rfl
        case hf9f37 => kernel_rfl
        case hr9f37 => kernel_rfl
        case hQ9f37 => exact fun _ _ _ h => h
        case hy9f37 =>
          refine Or.inl ⟨rfl, ?_⟩
          intro W hSw
          obtain ⟨y0, y1, y2, y3, y4, y5, y6, y7⟩ := hSw
          go_simp
          try with_reducible rfl
        case hS9f37 => assumption
        try simp only [Act.put, List.setIfInBounds_toArray, List.set_cons_zero, List.set_cons_succ]
        refine wpAnyH_done (by kernel_rfl) ?_ _
        try go_wp2_with fail
        go_meet
        exact ⟨Gm, A6, c6, A7, c7, lf, lt, rfl, rfl, rfl, Lib.hid ⟨⟨HM37.out, LGm.out, HR37.out, HRM.out, HT37.out, HTM.out⟩, HB37.out⟩⟩
    case rest =>
      rename World => wx
      obtain ⟨Gm, A6, c6, A7, c7, lf, lt, rfl, rfl, rfl, HXX⟩ := hcut
      have HMx := Lib.hid HXX.out.1
      have HBx := Lib.hid HXX.out.2
      clear HXX
      have hXb := takP_bd 1 rows HG4.out
      have hYb := takP_bd 2 rows HG4.out
      obtain ⟨X, hX⟩ : ∃ X, X = takP 1 rows := ⟨_, rfl⟩
      obtain ⟨Y, hY⟩ : ∃ Y, Y = takP 2 rows := ⟨_, rfl⟩
      have HX : Hid (takP 1 rows = X) := hX.symm
      have HY : Hid (takP 2 rows = Y) := hY.symm
      rw [← hX] at hXb
      rw [← hY] at hYb
      have HXc : Hid (0 ≤ X ∧ X ≤ 200) := by have := HNN.out; simp only [Hid]; omega
      have HYc : Hid (0 ≤ Y ∧ Y ≤ 200) := by have := HNN.out; simp only [Hid]; omega
      rw [← hX, ← hY] at HRT
      clear hXb hYb hX hY
      go_wp2_with fail
      refine (HRT.out wx A6 c6 HMx.out.rs).mono ?_
      rintro r w3 ⟨rfl, hb3⟩
      have HB3 := Lib.hid (HBx.out.trans (hb3.mono HBx.out.size))
      have HM3 := Lib.hid (HMx.out.later hb3)
      clear hb3
      obtain ⟨y0, y1, y2, y3, y4, y5, y6, y7⟩ := HCE.out w3 HB3.out
      obtain ⟨z0, z1, z2, z3, z4⟩ := HM3.out.md
      have HF3 := Lib.hid (HFD.out w3 A7 nl c7 A6 c6 l HNL.out (by omega) (fun t h => h) HM3.out.ts HM3.out.rs)
      rcases find_says m now rows l with ⟨hno, hf⟩ | ⟨k, t, hk, hok, hall, hf⟩
      · rw [hf] at HF3
        simp only [fR] at HF3
        clear hno hf
        go_wp2_with fail
        refine HF3.out.mono ?_
        rintro r w4 ⟨rfl, hb4⟩
        have HB4 := Lib.hid (HB3.out.trans (hb4.mono HB3.out.size))
        clear hb4 y0 y1 y2 y3 y4 y5 y6 y7 z0 z1 z2 z3 z4
        go_wp2_with fail
        refine (HAW.out w4).mono ?_
        rintro r w5 ⟨rfl, hb5⟩
        have HB5 := Lib.hid (HB4.out.trans (hb5.mono HB4.out.size))
        clear hb5
        go_wp2
        go_ret
        exact ⟨rfl, HB0.out.trans (HB5.out.mono HB0.out.size)⟩
      · have hkn : k < nl := by rw [HNL.out]; exact (List.getElem?_eq_some_iff.1 hk).1
        have HKN := Lib.hid hkn
        obtain ⟨hne, hnear⟩ := ok_fits hok
        obtain ⟨hp1, hteam⟩ := team_says hne
        have hmem := List.mem_of_getElem? hk
        have HNT : Hid (t.n ≤ 10) := (HLN.out t hmem).1
        have HTS : Hid (In64 t.s) := (HLN.out t hmem).2
        have HKT := Lib.hid hk
        have hmw : m.wr = [] := by
          rcases hteam with ⟨h, _⟩ | ⟨h, _⟩
          all_goals
            by_cases hw : m.wr = [] ∧ (1 : Int) ≤ t.n
            · exact hw.1
            · unfold teamP at h
              rw [if_neg hw] at h
              cases h
        have HKc : Hid (1 ≤ m.k ∧ m.k ≤ 4) := Mo.bounds hmw
        obtain ⟨N, tr, ts⟩ := t
        simp only at hnear hp1 hteam HNT HTS HKT hf
        have HNc : Hid (1 ≤ (N : Int) ∧ N ≤ 10) := ⟨hp1, HNT.out⟩
        obtain ⟨wt, hwt⟩ : ∃ wt, wt = waitP now ts := ⟨_, rfl⟩
        obtain ⟨wi, hwi⟩ : ∃ wi, wi = m.win wt := ⟨_, rfl⟩
        have hwb := wait_bd now ts
        rw [← hwt] at hwb hnear
        rw [← hwi] at hnear
        have HC20 : Hid (∀ W, Calls Try.prog 21 #[.int .i64 now, .int .i64 ts] W fun r w' => r = .returned (.int .i64 wt) ∧ Below W.heap.size W w') := fun W => (wait_any now ts W HNW.out HTS.out).mono fun r w' h => ⟨by rw [h.1, hwt], by rw [h.2]; exact Below.refl _ _⟩
        have HC21 : Hid (∀ W, Calls Try.prog 20 #[m.v, .int .i64 wt] W fun r w' => r = .returned (.int .i64 wi) ∧ Below W.heap.size W w') := fun W => (window_any m.k m.b m.s m.c m.e wt W (by omega)).mono fun r w' h => ⟨by rw [h.1, hwi]; rfl, h.2⟩
        have HNR : Hid (∀ b ∈ rows, nearP tr wi b.r b.v = true) := hnear
        clear hwt hwi hwb hnear hmw hok hall hk hne hmem hp1
        rcases hteam with ⟨htm, hle⟩ | ⟨htm, hle⟩
        · rw [HX.out] at hle
          have HLE := Lib.hid hle
          clear hle
          rw [htm] at hf
          rw [hf] at HF3
          simp only [fR] at HF3
          clear hf
          go_wp2_with fail
          refine HF3.out.mono ?_
          rintro r w4 ⟨rfl, hb4⟩
          have HB4 := Lib.hid (HB3.out.trans (hb4.mono HB3.out.size))
          have HM4 := Lib.hid (HM3.out.later hb4)
          clear hb4 y0 y1 y2 y3 y4 y5 y6 y7 z0 z1 z2 z3 z4
          obtain ⟨g7, o7, rfl, hg7⟩ : ∃ g7 o7, A7 = some ⟨g7, o7, none⟩ ∧ ∃ cs, w4.heap[g7]? = some (.cells cs 44 (0, 0)) := by
            rcases HM4.out.2.2.2.2.1.2 with ⟨_, h0⟩ | ⟨g, cap, cur, e1, _, hh, _⟩
            · have := HKN.out; omega
            · injection e1 with e1 _ _
              exact ⟨g, 0, e1, cur, hh⟩
          obtain ⟨x, y, P, cp, ht2, ht3, ht4⟩ : ∃ (x y : Int) (P : Option Addr) (cp : Nat), w4.cell? ⟨g7, o7 + k * 5 + 2, none⟩ = some (.slice P N cp) ∧ w4.cell? ⟨g7, o7 + k * 5 + 3, none⟩ = some (.int .i64 tr) ∧ w4.cell? ⟨g7, o7 + k * 5 + 4, none⟩ = some (.int .i64 ts) := by
            obtain ⟨b1, o1, e1, _, h1⟩ := HM4.out.ts (by have := HNL.out; have := HKN.out; omega)
            injection e1 with e1
            injection e1 with e1 e2 _
            subst e1 e2
            obtain ⟨x, y, P, cp, _, _, q2, q3, q4⟩ := h1 k _ HKT.out
            exact ⟨x, y, P, cp, q2, q3, q4⟩
          have HCF : Hid (∀ W, Keep w4 A6 n c6 W → (fun W : World => (W.cell? ⟨Gm, 0, none⟩ = some (.int .i64 m.k) ∧ W.cell? ⟨Gm, 1, none⟩ = some (.int .i64 m.b) ∧ W.cell? ⟨Gm, 2, none⟩ = some (.int .i64 m.s) ∧ W.cell? ⟨Gm, 3, none⟩ = some (.int .i64 m.c) ∧ W.cell? ⟨Gm, 4, none⟩ = some (.int .i64 m.e)) ∧ W.cell? ⟨w.heap.size, 5, none⟩ = some (.int .i64 now) ∧ W.cell? ⟨g7, o7 + k * 5 + 2, none⟩ = some (.slice P N cp) ∧ W.cell? ⟨g7, o7 + k * 5 + 3, none⟩ = some (.int .i64 tr) ∧ W.cell? ⟨g7, o7 + k * 5 + 4, none⟩ = some (.int .i64 ts)) W) := fun W hW => by
            obtain ⟨cs, hg7⟩ := hg7
            have n1 : (Value.slice A6 n c6).ownBlock ≠ some Gm := own_ne HM4.out.2.2.1 HM4.out.1 (by decide)
            have n2 : (Value.slice A6 n c6).ownBlock ≠ some g7 := own_ne HM4.out.2.2.1 hg7 (by decide)
            have n3 : (Value.slice A6 n c6).ownBlock ≠ some w.heap.size := fun e => by
              have h1 := (own_lt HM4.out.2.2.1 _ e).1
              have h2 := HWL.out
              omega
            have e1 := (hW Gm (lt_of_block HM4.out.1) (fun e => n1 e.symm)).trans HM4.out.1
            have e7 := hW g7 (lt_of_block hg7) (fun e => n2 e.symm)
            have e0 := hW w.heap.size (Nat.lt_of_lt_of_le HWL.out HB4.out.size) (fun e => n3 e.symm)
            refine ⟨⟨cell_of_row W _ 0 _ _ _ e1, cell_of_row W _ 1 _ _ _ e1, cell_of_row W _ 2 _ _ _ e1, cell_of_row W _ 3 _ _ _ e1, cell_of_row W _ 4 _ _ _ e1⟩, ?_, ?_, ?_, ?_⟩
            · rw [cell_same e0]; exact (HCE.out w4 HB4.out).2.2.2.2.2.1
            · rw [cell_same e7]; exact ht2
            · rw [cell_same e7]; exact ht3
            · rw [cell_same e7]; exact ht4
          have HG7 := Lib.hid hg7
          clear ht2 ht3 ht4 hg7
          go_upto_region 10 with (fail)
          have HD0s : Hid (Keep w4 A6 n c6 w4.drew) := fun b hb _ => rfl
          refine wp_region_held_drew (S := fun W : World => (W.cell? ⟨Gm, 0, none⟩ = some (.int .i64 m.k) ∧ W.cell? ⟨Gm, 1, none⟩ = some (.int .i64 m.b) ∧ W.cell? ⟨Gm, 2, none⟩ = some (.int .i64 m.s) ∧ W.cell? ⟨Gm, 3, none⟩ = some (.int .i64 m.c) ∧ W.cell? ⟨Gm, 4, none⟩ = some (.int .i64 m.e)) ∧ W.cell? ⟨w.heap.size, 5, none⟩ = some (.int .i64 now) ∧ W.cell? ⟨g7, o7 + k * 5 + 2, none⟩ = some (.slice P N cp) ∧ W.cell? ⟨g7, o7 + k * 5 + 3, none⟩ = some (.int .i64 tr) ∧ W.cell? ⟨g7, o7 + k * 5 + 4, none⟩ = some (.int .i64 ts)) (by kernel_rfl) (HCF.out _ HD0s.out) (fun hHeld => ?_)
          obtain ⟨wa, hW0⟩ : ∃ W0, W0 = w4.drew := ⟨_, rfl⟩
          have HBa : Hid (Below w4.heap.size w4 wa) := by rw [hW0]; exact (Below.refl _ _).drew
          rw [← hW0] at hHeld ⊢
          clear hW0 HD0s
          refine wpAnyH_take (i := 0) (oi := ?oi0s) (v := ?v0s) ?hi0s ?hs0s ?hf0s ?hr0s ?hQ0s ?hy0s ?hS0s ?h0s
          case hi0s => exact (by simp only [List.getElem?_toArray, List.getElem?_cons_zero]; rfl)
          case hs0s => kernel_rfl
          case hf0s => kernel_rfl
          case hr0s => kernel_rfl
          case hQ0s => exact fun _ _ _ h => h
          case hy0s =>
            refine Or.inl ⟨rfl, ?_⟩
            intro W hSw
            obtain ⟨⟨z0, z1, z2, z3, z4⟩, z5, z6, z7, z8⟩ := hSw
            have z9 := HKN.out
            go_simp
            try with_reducible rfl
          case hS0s => assumption
          try simp only [Act.put, List.setIfInBounds_toArray, List.set_cons_zero, List.set_cons_succ]
          refine wpAnyH_take (i := 1) (oi := ?oi1s) (v := ?v1s) ?hi1s ?hs1s ?hf1s ?hr1s ?hQ1s ?hy1s ?hS1s ?h1s
          case hi1s => exact (by simp only [List.getElem?_toArray, List.getElem?_cons_succ, List.getElem?_cons_zero]; rfl)
          case hs1s => kernel_rfl
          case hf1s => kernel_rfl
          case hr1s => kernel_rfl
          case hQ1s => exact fun _ _ _ h => h
          case hy1s =>
            refine Or.inl ⟨rfl, ?_⟩
            intro W hSw
            obtain ⟨⟨z0, z1, z2, z3, z4⟩, z5, z6, z7, z8⟩ := hSw
            have z9 := HKN.out
            go_simp
            try with_reducible rfl
          case hS1s => assumption
          try simp only [Act.put, List.setIfInBounds_toArray, List.set_cons_zero, List.set_cons_succ]
          refine wpAnyH_take (i := 2) (oi := ?oi2s) (v := ?v2s) ?hi2s ?hs2s ?hf2s ?hr2s ?hQ2s ?hy2s ?hS2s ?h2s
          case hi2s => exact (by simp only [List.getElem?_toArray, List.getElem?_cons_succ, List.getElem?_cons_zero]; rfl)
          case hs2s => kernel_rfl
          case hf2s => kernel_rfl
          case hr2s => kernel_rfl
          case hQ2s => exact fun _ _ _ h => h
          case hy2s =>
            refine Or.inl ⟨rfl, ?_⟩
            intro W hSw
            obtain ⟨⟨z0, z1, z2, z3, z4⟩, z5, z6, z7, z8⟩ := hSw
            have z9 := HKN.out
            go_simp
            try with_reducible rfl
          case hS2s => assumption
          try simp only [Act.put, List.setIfInBounds_toArray, List.set_cons_zero, List.set_cons_succ]
          refine wpAnyH_take (i := 3) (oi := ?oi3s) (v := ?v3s) ?hi3s ?hs3s ?hf3s ?hr3s ?hQ3s ?hy3s ?hS3s ?h3s
          case hi3s => exact (by simp only [List.getElem?_toArray, List.getElem?_cons_succ, List.getElem?_cons_zero]; rfl)
          case hs3s => kernel_rfl
          case hf3s => kernel_rfl
          case hr3s => kernel_rfl
          case hQ3s => exact fun _ _ _ h => h
          case hy3s =>
            refine Or.inl ⟨rfl, ?_⟩
            intro W hSw
            obtain ⟨⟨z0, z1, z2, z3, z4⟩, z5, z6, z7, z8⟩ := hSw
            have z9 := HKN.out
            go_simp
            try with_reducible rfl
          case hS3s => assumption
          try simp only [Act.put, List.setIfInBounds_toArray, List.set_cons_zero, List.set_cons_succ]
          refine wpAnyH_take (i := 4) (oi := ?oi4s) (v := ?v4s) ?hi4s ?hs4s ?hf4s ?hr4s ?hQ4s ?hy4s ?hS4s ?h4s
          case hi4s => exact (by simp only [List.getElem?_toArray, List.getElem?_cons_succ, List.getElem?_cons_zero]; rfl)
          case hs4s => kernel_rfl
          case hf4s => kernel_rfl
          case hr4s => kernel_rfl
          case hQ4s => exact fun _ _ _ h => h
          case hy4s =>
            refine Or.inl ⟨rfl, ?_⟩
            intro W hSw
            obtain ⟨⟨z0, z1, z2, z3, z4⟩, z5, z6, z7, z8⟩ := hSw
            have z9 := HKN.out
            go_simp
            try with_reducible rfl
          case hS4s => assumption
          try simp only [Act.put, List.setIfInBounds_toArray, List.set_cons_zero, List.set_cons_succ]
          refine wpAnyH_take (i := 5) (oi := ?oi5s) (v := ?v5s) ?hi5s ?hs5s ?hf5s ?hr5s ?hQ5s ?hy5s ?hS5s ?h5s
          case hi5s => exact (by simp only [List.getElem?_toArray, List.getElem?_cons_succ, List.getElem?_cons_zero]; rfl)
          case hs5s => kernel_rfl
          case hf5s => kernel_rfl
          case hr5s => kernel_rfl
          case hQ5s => exact fun _ _ _ h => h
          case hy5s =>
            refine Or.inl ⟨rfl, ?_⟩
            intro W hSw
            obtain ⟨⟨z0, z1, z2, z3, z4⟩, z5, z6, z7, z8⟩ := hSw
            have z9 := HKN.out
            go_simp
            try with_reducible rfl
          case hS5s => assumption
          try simp only [Act.put, List.setIfInBounds_toArray, List.set_cons_zero, List.set_cons_succ]
          refine wpAnyH_take (i := 6) (oi := ?oi6s) (v := ?v6s) ?hi6s ?hs6s ?hf6s ?hr6s ?hQ6s ?hy6s ?hS6s ?h6s
          case hi6s => exact (by simp only [List.getElem?_toArray, List.getElem?_cons_succ, List.getElem?_cons_zero]; rfl)
          case hs6s => kernel_rfl
          case hf6s => kernel_rfl
          case hr6s => kernel_rfl
          case hQ6s => exact fun _ _ _ h => h
          case hy6s =>
            refine Or.inl ⟨rfl, ?_⟩
            intro W hSw
            obtain ⟨⟨z0, z1, z2, z3, z4⟩, z5, z6, z7, z8⟩ := hSw
            have z9 := HKN.out
            go_simp
            try with_reducible rfl
          case hS6s => assumption
          try simp only [Act.put, List.setIfInBounds_toArray, List.set_cons_zero, List.set_cons_succ]
          refine wpAnyH_take (i := 7) (oi := ?oi7s) (v := ?v7s) ?hi7s ?hs7s ?hf7s ?hr7s ?hQ7s ?hy7s ?hS7s ?h7s
          case hi7s => exact (by simp only [List.getElem?_toArray, List.getElem?_cons_succ, List.getElem?_cons_zero]; rfl)
          case hs7s => kernel_rfl
          case hf7s => kernel_rfl
          case hr7s => kernel_rfl
          case hQ7s => exact fun _ _ _ h => h
          case hy7s =>
            refine Or.inl ⟨rfl, ?_⟩
            intro W hSw
            obtain ⟨⟨z0, z1, z2, z3, z4⟩, z5, z6, z7, z8⟩ := hSw
            have z9 := HKN.out
            go_simp
            try with_reducible rfl
          case hS7s => assumption
          try simp only [Act.put, List.setIfInBounds_toArray, List.set_cons_zero, List.set_cons_succ]
          refine wpAnyH_take (i := 8) (oi := ?oi8s) (v := ?v8s) ?hi8s ?hs8s ?hf8s ?hr8s ?hQ8s ?hy8s ?hS8s ?h8s
          case hi8s => exact (by simp only [List.getElem?_toArray, List.getElem?_cons_succ, List.getElem?_cons_zero]; rfl)
          case hs8s => kernel_rfl
          case hf8s => kernel_rfl
          case hr8s => kernel_rfl
          case hQ8s => exact fun _ _ _ h => h
          case hy8s =>
            refine Or.inl ⟨rfl, ?_⟩
            intro W hSw
            obtain ⟨⟨z0, z1, z2, z3, z4⟩, z5, z6, z7, z8⟩ := hSw
            have z9 := HKN.out
            go_simp
            try with_reducible rfl
          case hS8s => assumption
          try simp only [Act.put, List.setIfInBounds_toArray, List.set_cons_zero, List.set_cons_succ]
          refine wpAnyH_take (i := 9) (oi := ?oi9s) (v := ?v9s) ?hi9s ?hs9s ?hf9s ?hr9s ?hQ9s ?hy9s ?hS9s ?h9s
          case hi9s => exact (by simp only [List.getElem?_toArray, List.getElem?_cons_succ, List.getElem?_cons_zero]; rfl)
          case hs9s => kernel_rfl
          case hf9s => kernel_rfl
          case hr9s => kernel_rfl
          case hQ9s => exact fun _ _ _ h => h
          case hy9s =>
            refine Or.inl ⟨rfl, ?_⟩
            intro W hSw
            obtain ⟨⟨z0, z1, z2, z3, z4⟩, z5, z6, z7, z8⟩ := hSw
            have z9 := HKN.out
            go_simp
            try with_reducible rfl
          case hS9s => assumption
          try simp only [Act.put, List.setIfInBounds_toArray, List.set_cons_zero, List.set_cons_succ]
          refine wpAnyH_take (i := 10) (oi := ?oi10s) (v := ?v10s) ?hi10s ?hs10s ?hf10s ?hr10s ?hQ10s ?hy10s ?hS10s ?h10s
          case hi10s => exact (by simp only [List.getElem?_toArray, List.getElem?_cons_succ, List.getElem?_cons_zero]; rfl)
          case hs10s => kernel_rfl
          case hf10s => kernel_rfl
          case hr10s => kernel_rfl
          case hQ10s => exact fun _ _ _ h => h
          case hy10s =>
            refine Or.inl ⟨rfl, ?_⟩
            intro W hSw
            obtain ⟨⟨z0, z1, z2, z3, z4⟩, z5, z6, z7, z8⟩ := hSw
            have z9 := HKN.out
            go_simp
            try with_reducible rfl
          case hS10s => assumption
          try simp only [Act.put, List.setIfInBounds_toArray, List.set_cons_zero, List.set_cons_succ]
          refine wpAnyH_take (i := 11) (oi := ?oi11s) (v := ?v11s) ?hi11s ?hs11s ?hf11s ?hr11s ?hQ11s ?hy11s ?hS11s ?h11s
          case hi11s => exact (by simp only [List.getElem?_toArray, List.getElem?_cons_succ, List.getElem?_cons_zero]; rfl)
          case hs11s => kernel_rfl
          case hf11s => kernel_rfl
          case hr11s => kernel_rfl
          case hQ11s => exact fun _ _ _ h => h
          case hy11s =>
            refine Or.inl ⟨rfl, ?_⟩
            intro W hSw
            obtain ⟨⟨z0, z1, z2, z3, z4⟩, z5, z6, z7, z8⟩ := hSw
            have z9 := HKN.out
            go_simp
            try with_reducible rfl
          case hS11s => assumption
          try simp only [Act.put, List.setIfInBounds_toArray, List.set_cons_zero, List.set_cons_succ]
          refine wpAnyH_take (i := 12) (oi := ?oi12s) (v := ?v12s) ?hi12s ?hs12s ?hf12s ?hr12s ?hQ12s ?hy12s ?hS12s ?h12s
          case hi12s => exact (by simp only [List.getElem?_toArray, List.getElem?_cons_succ, List.getElem?_cons_zero]; rfl)
          case hs12s => kernel_rfl
          case hf12s => kernel_rfl
          case hr12s => kernel_rfl
          case hQ12s => exact fun _ _ _ h => h
          case hy12s =>
            refine Or.inl ⟨rfl, ?_⟩
            intro W hSw
            obtain ⟨⟨z0, z1, z2, z3, z4⟩, z5, z6, z7, z8⟩ := hSw
            have z9 := HKN.out
            go_simp
            try with_reducible rfl
          case hS12s => assumption
          try simp only [Act.put, List.setIfInBounds_toArray, List.set_cons_zero, List.set_cons_succ]
          refine wpAnyH_take (i := 13) (oi := ?oi13s) (v := ?v13s) ?hi13s ?hs13s ?hf13s ?hr13s ?hQ13s ?hy13s ?hS13s ?h13s
          case hi13s => exact (by simp only [List.getElem?_toArray, List.getElem?_cons_succ, List.getElem?_cons_zero]; rfl)
          case hs13s => kernel_rfl
          case hf13s => kernel_rfl
          case hr13s => kernel_rfl
          case hQ13s => exact fun _ _ _ h => h
          case hy13s =>
            refine Or.inl ⟨rfl, ?_⟩
            intro W hSw
            obtain ⟨⟨z0, z1, z2, z3, z4⟩, z5, z6, z7, z8⟩ := hSw
            have z9 := HKN.out
            go_simp
            try with_reducible rfl
          case hS13s => assumption
          try simp only [Act.put, List.setIfInBounds_toArray, List.set_cons_zero, List.set_cons_succ]
          refine wpAnyH_take (i := 14) (oi := ?oi14s) (v := ?v14s) ?hi14s ?hs14s ?hf14s ?hr14s ?hQ14s ?hy14s ?hS14s ?h14s
          case hi14s => exact (by simp only [List.getElem?_toArray, List.getElem?_cons_succ, List.getElem?_cons_zero]; rfl)
          case hs14s => kernel_rfl
          case hf14s => kernel_rfl
          case hr14s => kernel_rfl
          case hQ14s => exact fun _ _ _ h => h
          case hy14s =>
            refine Or.inl ⟨rfl, ?_⟩
            intro W hSw
            obtain ⟨⟨z0, z1, z2, z3, z4⟩, z5, z6, z7, z8⟩ := hSw
            have z9 := HKN.out
            go_simp
            try with_reducible rfl
          case hS14s => assumption
          try simp only [Act.put, List.setIfInBounds_toArray, List.set_cons_zero, List.set_cons_succ]
          refine wpAnyH_take (i := 15) (oi := ?oi15s) (v := ?v15s) ?hi15s ?hs15s ?hf15s ?hr15s ?hQ15s ?hy15s ?hS15s ?h15s
          case hi15s => exact (by simp only [List.getElem?_toArray, List.getElem?_cons_succ, List.getElem?_cons_zero]; rfl)
          case hs15s => kernel_rfl
          case hf15s => kernel_rfl
          case hr15s => kernel_rfl
          case hQ15s => exact fun _ _ _ h => h
          case hy15s =>
            refine Or.inl ⟨rfl, ?_⟩
            intro W hSw
            obtain ⟨⟨z0, z1, z2, z3, z4⟩, z5, z6, z7, z8⟩ := hSw
            have z9 := HKN.out
            go_simp
            try with_reducible rfl
          case hS15s => assumption
          try simp only [Act.put, List.setIfInBounds_toArray, List.set_cons_zero, List.set_cons_succ]
          refine wpAnyH_take (i := 16) (oi := ?oi16s) (v := ?v16s) ?hi16s ?hs16s ?hf16s ?hr16s ?hQ16s ?hy16s ?hS16s ?h16s
          case hi16s => exact (by simp only [List.getElem?_toArray, List.getElem?_cons_succ, List.getElem?_cons_zero]; rfl)
          case hs16s => kernel_rfl
          case hf16s => kernel_rfl
          case hr16s => kernel_rfl
          case hQ16s => exact fun _ _ _ h => h
          case hy16s =>
            refine Or.inl ⟨rfl, ?_⟩
            intro W hSw
            obtain ⟨⟨z0, z1, z2, z3, z4⟩, z5, z6, z7, z8⟩ := hSw
            have z9 := HKN.out
            go_simp
            try with_reducible rfl
          case hS16s => assumption
          try simp only [Act.put, List.setIfInBounds_toArray, List.set_cons_zero, List.set_cons_succ]
          refine wpAnyH_take (i := 17) (oi := ?oi17s) (v := ?v17s) ?hi17s ?hs17s ?hf17s ?hr17s ?hQ17s ?hy17s ?hS17s ?h17s
          case hi17s => exact (by simp only [List.getElem?_toArray, List.getElem?_cons_succ, List.getElem?_cons_zero]; rfl)
          case hs17s => kernel_rfl
          case hf17s => kernel_rfl
          case hr17s => kernel_rfl
          case hQ17s => exact fun _ _ _ h => h
          case hy17s =>
            refine Or.inl ⟨rfl, ?_⟩
            intro W hSw
            obtain ⟨⟨z0, z1, z2, z3, z4⟩, z5, z6, z7, z8⟩ := hSw
            have z9 := HKN.out
            go_simp
            try with_reducible rfl
          case hS17s => assumption
          try simp only [Act.put, List.setIfInBounds_toArray, List.set_cons_zero, List.set_cons_succ]
          refine wpAnyH_take (i := 18) (oi := ?oi18s) (v := ?v18s) ?hi18s ?hs18s ?hf18s ?hr18s ?hQ18s ?hy18s ?hS18s ?h18s
          case hi18s => exact (by simp only [List.getElem?_toArray, List.getElem?_cons_succ, List.getElem?_cons_zero]; rfl)
          case hs18s => kernel_rfl
          case hf18s => kernel_rfl
          case hr18s => kernel_rfl
          case hQ18s => exact fun _ _ _ h => h
          case hy18s =>
            refine Or.inl ⟨rfl, ?_⟩
            intro W hSw
            obtain ⟨⟨z0, z1, z2, z3, z4⟩, z5, z6, z7, z8⟩ := hSw
            have z9 := HKN.out
            go_simp
            try with_reducible rfl
          case hS18s => assumption
          try simp only [Act.put, List.setIfInBounds_toArray, List.set_cons_zero, List.set_cons_succ]
          refine wpAnyH_take (i := 19) (oi := ?oi19s) (v := ?v19s) ?hi19s ?hs19s ?hf19s ?hr19s ?hQ19s ?hy19s ?hS19s ?h19s
          case hi19s => exact (by simp only [List.getElem?_toArray, List.getElem?_cons_succ, List.getElem?_cons_zero]; rfl)
          case hs19s => kernel_rfl
          case hf19s => kernel_rfl
          case hr19s => kernel_rfl
          case hQ19s => exact fun _ _ _ h => h
          case hy19s =>
            refine Or.inl ⟨rfl, ?_⟩
            intro W hSw
            obtain ⟨⟨z0, z1, z2, z3, z4⟩, z5, z6, z7, z8⟩ := hSw
            have z9 := HKN.out
            go_simp
            try with_reducible rfl
          case hS19s => assumption
          try simp only [Act.put, List.setIfInBounds_toArray, List.set_cons_zero, List.set_cons_succ]
          refine wpAnyH_ready (rs := [20]) (by kernel_rfl) (by simp) ?_
          refine AllReadyH.cons (o := _) rfl (fun K hK => ?_) AllReadyH.nil
          go_simp
          refine (HC20.out wa).mono ?_
          rintro r wb ⟨rfl, hbq⟩
          have HBb := Lib.hid (HBa.out.trans (hbq.mono HBa.out.size))
          clear hbq
          refine hK.out _ _ (HCF.out _ (Keep.of_below HBb.out)) (fun hHeld => ?_)
          clear hK K
          try simp only [Act.put, List.setIfInBounds_toArray, List.set_cons_zero, List.set_cons_succ]
          refine wpAnyH_ready (rs := [21]) (by kernel_rfl) (by simp) ?_
          refine AllReadyH.cons (o := _) rfl (fun K hK => ?_) AllReadyH.nil
          go_simp
          refine (HC21.out wb).mono ?_
          rintro r wc ⟨rfl, hbq⟩
          have HBc := Lib.hid (HBb.out.trans (hbq.mono HBb.out.size))
          clear hbq
          refine hK.out _ _ (HCF.out _ (Keep.of_below HBc.out)) (fun hHeld => ?_)
          clear hK K
          try simp only [Act.put, List.setIfInBounds_toArray, List.set_cons_zero, List.set_cons_succ]
          refine wpAnyH_take (i := 22) (oi := ?oi22s) (v := ?v22s) ?hi22s ?hs22s ?hf22s ?hr22s ?hQ22s ?hy22s ?hS22s ?h22s
          case hi22s => exact (by simp only [List.getElem?_toArray, List.getElem?_cons_succ, List.getElem?_cons_zero]; rfl)
          case hs22s => kernel_rfl
          case hf22s => kernel_rfl
          case hr22s => kernel_rfl
          case hQ22s => exact fun _ _ _ h => h
          case hy22s =>
            refine Or.inl ⟨rfl, ?_⟩
            intro W hSw
            obtain ⟨⟨z0, z1, z2, z3, z4⟩, z5, z6, z7, z8⟩ := hSw
            have z9 := HKN.out
            go_simp
            try with_reducible rfl
          case hS22s => assumption
          try simp only [Act.put, List.setIfInBounds_toArray, List.set_cons_zero, List.set_cons_succ]
          refine wpAnyH_ready (rs := [23]) (by kernel_rfl) (by simp) ?_
          refine AllReadyH.cons (o := _) rfl (fun K hK => ?_) AllReadyH.nil
          go_simp
          obtain ⟨wd, hwd⟩ : ∃ wd, wd = wc.alloc (.cells #[.int .i64 1, .slice P N cp, .int .i64 tr, .int .i64 wi] 55) := ⟨_, rfl⟩
          rw [← hwd]
          have HGd : Hid (wd.heap[wc.heap.size]? = some (.cells (gc ⟨P, cp, ⟨1, N, tr, wi⟩⟩).toArray 55 (0, 0))) := by rw [hwd]; exact heap_alloc_new wc _
          have HBd : Hid (Below w4.heap.size w4 wd) := by rw [hwd]; exact HBc.out.alloc HBc.out.size _
          clear hwd
          refine hK.out _ _ (HCF.out _ (Keep.of_below HBd.out)) (fun hHeld => ?_)
          clear hK K
          try simp only [Act.put, List.setIfInBounds_toArray, List.set_cons_zero, List.set_cons_succ]
          refine wpAnyH_ready (rs := [24]) (by kernel_rfl) (by simp) ?_
          refine AllReadyH.cons (o := _) rfl (fun K hK => ?_) AllReadyH.nil
          have hown : wd.ownsRow w0.heap.size 55 4 (.slice A6 n c6) n (gr lf) := own_after HM4.out.2.2.1 fun g hg => HBd.out.block g (own_lt HM4.out.2.2.1 g hg).2
          refine step_append_gr rfl _ _ rfl w0.heap.size wc.heap.size (.slice A6 n c6) n (gr lf) ⟨P, cp, ⟨1, N, tr, wi⟩⟩ rfl rfl hown HGd.out (by omega) (Nat.le_trans HB4.out.size HBd.out.size) ?_
          intro v9 w9 ho9 hg9 hk9
          obtain ⟨A9, c9, rfl⟩ := own_form ho9
          change K (Act.put _ (some 88) (.slice A9 (n + 1) c9)) w9
          have HKP : Hid (Keep w4 A6 n c6 w9) := fun b hb hne => (hg9.block b (Nat.lt_of_lt_of_le hb HBd.out.size) hne).trans (HBd.out.block b hb)
          have HB9 : Hid (Below w0.heap.size w0 w9) := (HB4.out.trans (HBd.out.mono HB4.out.size)).grown hg9 (Nat.le_trans HB4.out.size HBd.out.size) (fun g hg => (own_lt hown g hg).1)
          have HO9 : Hid (w9.ownsRow w0.heap.size 55 4 (.slice A9 (n + 1) c9) (n + 1) (gr (lf ++ [⟨P, cp, ⟨1, N, tr, wi⟩⟩]))) := by simp only [Hid]; rw [gr_snoc]; exact ho9
          have HOK : Hid (w9.ownsRow w0.heap.size 55 4 (.slice A6 n c6) n (gr lf)) := hk9
          clear ho9 hg9 hk9 hown
          refine hK.out _ _ (HCF.out _ (HKP.out)) (fun hHeld => ?_)
          clear hK K
          try simp only [Act.put, List.setIfInBounds_toArray, List.set_cons_zero, List.set_cons_succ]
          refine wpAnyH_take (i := 25) (oi := ?oi25s) (v := ?v25s) ?hi25s ?hs25s ?hf25s ?hr25s ?hQ25s ?hy25s ?hS25s ?h25s
          case hi25s => exact (by simp only [List.getElem?_toArray, List.getElem?_cons_succ, List.getElem?_cons_zero]; rfl)
          case hs25s => kernel_rfl
          case hf25s => kernel_rfl
          case hr25s => kernel_rfl
          case hQ25s => exact fun _ _ _ h => h
          case hy25s =>
            refine Or.inl ⟨rfl, ?_⟩
            intro W hSw
            obtain ⟨⟨z0, z1, z2, z3, z4⟩, z5, z6, z7, z8⟩ := hSw
            have z9 := HKN.out
            go_simp
            try with_reducible rfl
          case hS25s => assumption
          try simp only [Act.put, List.setIfInBounds_toArray, List.set_cons_zero, List.set_cons_succ]
          refine wpAnyH_done (by kernel_rfl) ?_ _
          obtain ⟨⟨z0, z1, z2, z3, z4⟩, z5, z6, z7, z8⟩ := HCF.out w9 HKP.out
          have HRs : Hid (Rs w9 w9.heap.size A9 (rows ++ [⟨1, N, tr, wi⟩])) := by
            have h := Rs.of_own HO9.out
            rw [List.map_append, HM4.out.2.2.2.1] at h
            exact h
          have HRo : Hid (Rs w9 w9.heap.size A6 rows) := by
            have h := Rs.of_own HOK.out
            rw [HM4.out.2.2.2.1] at h
            exact h
          have HN1 : Hid (n + 1 = (rows ++ [(⟨1, N, tr, wi⟩ : Rw)]).length) := by simp only [Hid]; rw [List.length_append, ← HNN.out]; rfl
          have HT9 : Hid (Calls Try.prog 8 #[.slice A9 (n + 1) c9] w9 fun r w' => r = .returned (.tuple #[.int .i64 (X + N), .int .i64 (Y)]) ∧ Below w9.heap.size w9 w') :=
            (taken_any A9 (n + 1) c9 (rows ++ [⟨1, N, tr, wi⟩]) w9 HN1.out HRs.out (fun e he => by
              rcases List.mem_append.1 he with h | h
              · exact HG4.out e h
              · simp at h
                subst h
                exact HNT.out) (by omega)).mono fun r w' h => ⟨by rw [h.1, takP_append, takP_append, HX.out, HY.out]; simp, h.2⟩
          go_wp2_with fail
          refine HT9.out.mono ?_
          rintro r wg ⟨rfl, hbg⟩
          have HBg := Lib.hid (HB9.out.trans (hbg.mono HB9.out.size))
          have q0 := (hbg.cell (p := ⟨Gm, 0, none⟩) (World.block_lt_of_cell? w9 _ z0)).trans z0
          have q6 := (hbg.cell (p := ⟨g7, o7 + k * 5 + 2, none⟩) (World.block_lt_of_cell? w9 _ z6)).trans z6
          have HRg := Lib.hid (HRs.out.later hbg (Nat.le_refl _))
          have HRog := Lib.hid (HRo.out.later hbg (Nat.le_refl _))
          have hXc := HXc.out
          have hYc := HYc.out
          have hNc := HNc.out
          have hKc := HKc.out
          obtain ⟨mx, hmx⟩ : ∃ mx, mx = max X m.k := ⟨_, rfl⟩
          obtain ⟨my, hmy⟩ : ∃ my, my = max Y m.k := ⟨_, rfl⟩
          have emx : (if X < m.k then m.k else X) = mx := by rw [hmx]; split <;> omega
          have emy : (if Y < m.k then m.k else Y) = my := by rw [hmy]; split <;> omega
          have lx : (X + N) ≤ mx := by have := HLE.out; omega
          have ly : (Y) ≤ my := by have := HLE.out; omega
          clear hbg z0 z1 z2 z3 z4 z5 z6 z7 z8 hmx hmy
          go_upto_region 14 with (fail)
          clear q0 q6 emx emy lx ly hXc hYc hNc hKc
          go_wp2_with fail
          refine (fitted_any A6 n c6 rows wg HNN.out HRog.out (by omega)).mono ?_
          rintro r wh ⟨⟨f1, rfl, hf1⟩, hbh⟩
          have HBh := Lib.hid (HBg.out.trans (hbh.mono HBg.out.size))
          have HRh := Lib.hid (HRg.out.later hbh (Nat.le_refl _))
          have HF1 := Lib.hid hf1
          clear hbh hf1
          cases f1
          · have HBe := HBh
            obtain ⟨we, hwe⟩ : ∃ we, we = wh := ⟨wh, rfl⟩
            subst hwe
            go_wp2_with fail
            refine (HAW.out we).mono ?_
            rintro r wf ⟨rfl, hbf⟩
            have HBf := Lib.hid (HBe.out.trans (hbf.mono HBe.out.size))
            clear hbf
            go_wp2
            go_ret
            exact ⟨rfl, HB0.out.trans (HBf.out.mono HB0.out.size)⟩
          · go_wp2_with fail
            refine (fitted_any A9 (n + 1) c9 (rows ++ [⟨1, N, tr, wi⟩]) wh HN1.out HRh.out (by omega)).mono ?_
            rintro r we ⟨⟨f2, rfl, hf2⟩, hbe⟩
            have HBe := Lib.hid (HBh.out.trans (hbe.mono HBh.out.size))
            obtain rfl : f2 = true := hf2.2 (fit_more (HF1.out.1 (by first | rfl | trivial)) HNR.out)
            clear hbe hf2
            go_wp2_with fail
            refine (HAW.out we).mono ?_
            rintro r wf ⟨rfl, hbf⟩
            have HBf := Lib.hid (HBe.out.trans (hbf.mono HBe.out.size))
            clear hbf
            go_wp2
            go_ret
            exact ⟨rfl, HB0.out.trans (HBf.out.mono HB0.out.size)⟩
        · rw [HY.out] at hle
          have HLE := Lib.hid hle
          clear hle
          rw [htm] at hf
          rw [hf] at HF3
          simp only [fR] at HF3
          clear hf
          go_wp2_with fail
          refine HF3.out.mono ?_
          rintro r w4 ⟨rfl, hb4⟩
          have HB4 := Lib.hid (HB3.out.trans (hb4.mono HB3.out.size))
          have HM4 := Lib.hid (HM3.out.later hb4)
          clear hb4 y0 y1 y2 y3 y4 y5 y6 y7 z0 z1 z2 z3 z4
          obtain ⟨g7, o7, rfl, hg7⟩ : ∃ g7 o7, A7 = some ⟨g7, o7, none⟩ ∧ ∃ cs, w4.heap[g7]? = some (.cells cs 44 (0, 0)) := by
            rcases HM4.out.2.2.2.2.1.2 with ⟨_, h0⟩ | ⟨g, cap, cur, e1, _, hh, _⟩
            · have := HKN.out; omega
            · injection e1 with e1 _ _
              exact ⟨g, 0, e1, cur, hh⟩
          obtain ⟨x, y, P, cp, ht2, ht3, ht4⟩ : ∃ (x y : Int) (P : Option Addr) (cp : Nat), w4.cell? ⟨g7, o7 + k * 5 + 2, none⟩ = some (.slice P N cp) ∧ w4.cell? ⟨g7, o7 + k * 5 + 3, none⟩ = some (.int .i64 tr) ∧ w4.cell? ⟨g7, o7 + k * 5 + 4, none⟩ = some (.int .i64 ts) := by
            obtain ⟨b1, o1, e1, _, h1⟩ := HM4.out.ts (by have := HNL.out; have := HKN.out; omega)
            injection e1 with e1
            injection e1 with e1 e2 _
            subst e1 e2
            obtain ⟨x, y, P, cp, _, _, q2, q3, q4⟩ := h1 k _ HKT.out
            exact ⟨x, y, P, cp, q2, q3, q4⟩
          have HCF : Hid (∀ W, Keep w4 A6 n c6 W → (fun W : World => (W.cell? ⟨Gm, 0, none⟩ = some (.int .i64 m.k) ∧ W.cell? ⟨Gm, 1, none⟩ = some (.int .i64 m.b) ∧ W.cell? ⟨Gm, 2, none⟩ = some (.int .i64 m.s) ∧ W.cell? ⟨Gm, 3, none⟩ = some (.int .i64 m.c) ∧ W.cell? ⟨Gm, 4, none⟩ = some (.int .i64 m.e)) ∧ W.cell? ⟨w.heap.size, 5, none⟩ = some (.int .i64 now) ∧ W.cell? ⟨g7, o7 + k * 5 + 2, none⟩ = some (.slice P N cp) ∧ W.cell? ⟨g7, o7 + k * 5 + 3, none⟩ = some (.int .i64 tr) ∧ W.cell? ⟨g7, o7 + k * 5 + 4, none⟩ = some (.int .i64 ts)) W) := fun W hW => by
            obtain ⟨cs, hg7⟩ := hg7
            have n1 : (Value.slice A6 n c6).ownBlock ≠ some Gm := own_ne HM4.out.2.2.1 HM4.out.1 (by decide)
            have n2 : (Value.slice A6 n c6).ownBlock ≠ some g7 := own_ne HM4.out.2.2.1 hg7 (by decide)
            have n3 : (Value.slice A6 n c6).ownBlock ≠ some w.heap.size := fun e => by
              have h1 := (own_lt HM4.out.2.2.1 _ e).1
              have h2 := HWL.out
              omega
            have e1 := (hW Gm (lt_of_block HM4.out.1) (fun e => n1 e.symm)).trans HM4.out.1
            have e7 := hW g7 (lt_of_block hg7) (fun e => n2 e.symm)
            have e0 := hW w.heap.size (Nat.lt_of_lt_of_le HWL.out HB4.out.size) (fun e => n3 e.symm)
            refine ⟨⟨cell_of_row W _ 0 _ _ _ e1, cell_of_row W _ 1 _ _ _ e1, cell_of_row W _ 2 _ _ _ e1, cell_of_row W _ 3 _ _ _ e1, cell_of_row W _ 4 _ _ _ e1⟩, ?_, ?_, ?_, ?_⟩
            · rw [cell_same e0]; exact (HCE.out w4 HB4.out).2.2.2.2.2.1
            · rw [cell_same e7]; exact ht2
            · rw [cell_same e7]; exact ht3
            · rw [cell_same e7]; exact ht4
          have HG7 := Lib.hid hg7
          clear ht2 ht3 ht4 hg7
          go_upto_region 10 with (fail)
          have HD0u : Hid (Keep w4 A6 n c6 w4.drew) := fun b hb _ => rfl
          refine wp_region_held_drew (S := fun W : World => (W.cell? ⟨Gm, 0, none⟩ = some (.int .i64 m.k) ∧ W.cell? ⟨Gm, 1, none⟩ = some (.int .i64 m.b) ∧ W.cell? ⟨Gm, 2, none⟩ = some (.int .i64 m.s) ∧ W.cell? ⟨Gm, 3, none⟩ = some (.int .i64 m.c) ∧ W.cell? ⟨Gm, 4, none⟩ = some (.int .i64 m.e)) ∧ W.cell? ⟨w.heap.size, 5, none⟩ = some (.int .i64 now) ∧ W.cell? ⟨g7, o7 + k * 5 + 2, none⟩ = some (.slice P N cp) ∧ W.cell? ⟨g7, o7 + k * 5 + 3, none⟩ = some (.int .i64 tr) ∧ W.cell? ⟨g7, o7 + k * 5 + 4, none⟩ = some (.int .i64 ts)) (by kernel_rfl) (HCF.out _ HD0u.out) (fun hHeld => ?_)
          obtain ⟨wa, hW0⟩ : ∃ W0, W0 = w4.drew := ⟨_, rfl⟩
          have HBa : Hid (Below w4.heap.size w4 wa) := by rw [hW0]; exact (Below.refl _ _).drew
          rw [← hW0] at hHeld ⊢
          clear hW0 HD0u
          refine wpAnyH_take (i := 0) (oi := ?oi0u) (v := ?v0u) ?hi0u ?hs0u ?hf0u ?hr0u ?hQ0u ?hy0u ?hS0u ?h0u
          case hi0u => exact (by simp only [List.getElem?_toArray, List.getElem?_cons_zero]; rfl)
          case hs0u => kernel_rfl
          case hf0u => kernel_rfl
          case hr0u => kernel_rfl
          case hQ0u => exact fun _ _ _ h => h
          case hy0u =>
            refine Or.inl ⟨rfl, ?_⟩
            intro W hSw
            obtain ⟨⟨z0, z1, z2, z3, z4⟩, z5, z6, z7, z8⟩ := hSw
            have z9 := HKN.out
            go_simp
            try with_reducible rfl
          case hS0u => assumption
          try simp only [Act.put, List.setIfInBounds_toArray, List.set_cons_zero, List.set_cons_succ]
          refine wpAnyH_take (i := 1) (oi := ?oi1u) (v := ?v1u) ?hi1u ?hs1u ?hf1u ?hr1u ?hQ1u ?hy1u ?hS1u ?h1u
          case hi1u => exact (by simp only [List.getElem?_toArray, List.getElem?_cons_succ, List.getElem?_cons_zero]; rfl)
          case hs1u => kernel_rfl
          case hf1u => kernel_rfl
          case hr1u => kernel_rfl
          case hQ1u => exact fun _ _ _ h => h
          case hy1u =>
            refine Or.inl ⟨rfl, ?_⟩
            intro W hSw
            obtain ⟨⟨z0, z1, z2, z3, z4⟩, z5, z6, z7, z8⟩ := hSw
            have z9 := HKN.out
            go_simp
            try with_reducible rfl
          case hS1u => assumption
          try simp only [Act.put, List.setIfInBounds_toArray, List.set_cons_zero, List.set_cons_succ]
          refine wpAnyH_take (i := 2) (oi := ?oi2u) (v := ?v2u) ?hi2u ?hs2u ?hf2u ?hr2u ?hQ2u ?hy2u ?hS2u ?h2u
          case hi2u => exact (by simp only [List.getElem?_toArray, List.getElem?_cons_succ, List.getElem?_cons_zero]; rfl)
          case hs2u => kernel_rfl
          case hf2u => kernel_rfl
          case hr2u => kernel_rfl
          case hQ2u => exact fun _ _ _ h => h
          case hy2u =>
            refine Or.inl ⟨rfl, ?_⟩
            intro W hSw
            obtain ⟨⟨z0, z1, z2, z3, z4⟩, z5, z6, z7, z8⟩ := hSw
            have z9 := HKN.out
            go_simp
            try with_reducible rfl
          case hS2u => assumption
          try simp only [Act.put, List.setIfInBounds_toArray, List.set_cons_zero, List.set_cons_succ]
          refine wpAnyH_take (i := 3) (oi := ?oi3u) (v := ?v3u) ?hi3u ?hs3u ?hf3u ?hr3u ?hQ3u ?hy3u ?hS3u ?h3u
          case hi3u => exact (by simp only [List.getElem?_toArray, List.getElem?_cons_succ, List.getElem?_cons_zero]; rfl)
          case hs3u => kernel_rfl
          case hf3u => kernel_rfl
          case hr3u => kernel_rfl
          case hQ3u => exact fun _ _ _ h => h
          case hy3u =>
            refine Or.inl ⟨rfl, ?_⟩
            intro W hSw
            obtain ⟨⟨z0, z1, z2, z3, z4⟩, z5, z6, z7, z8⟩ := hSw
            have z9 := HKN.out
            go_simp
            try with_reducible rfl
          case hS3u => assumption
          try simp only [Act.put, List.setIfInBounds_toArray, List.set_cons_zero, List.set_cons_succ]
          refine wpAnyH_take (i := 4) (oi := ?oi4u) (v := ?v4u) ?hi4u ?hs4u ?hf4u ?hr4u ?hQ4u ?hy4u ?hS4u ?h4u
          case hi4u => exact (by simp only [List.getElem?_toArray, List.getElem?_cons_succ, List.getElem?_cons_zero]; rfl)
          case hs4u => kernel_rfl
          case hf4u => kernel_rfl
          case hr4u => kernel_rfl
          case hQ4u => exact fun _ _ _ h => h
          case hy4u =>
            refine Or.inl ⟨rfl, ?_⟩
            intro W hSw
            obtain ⟨⟨z0, z1, z2, z3, z4⟩, z5, z6, z7, z8⟩ := hSw
            have z9 := HKN.out
            go_simp
            try with_reducible rfl
          case hS4u => assumption
          try simp only [Act.put, List.setIfInBounds_toArray, List.set_cons_zero, List.set_cons_succ]
          refine wpAnyH_take (i := 5) (oi := ?oi5u) (v := ?v5u) ?hi5u ?hs5u ?hf5u ?hr5u ?hQ5u ?hy5u ?hS5u ?h5u
          case hi5u => exact (by simp only [List.getElem?_toArray, List.getElem?_cons_succ, List.getElem?_cons_zero]; rfl)
          case hs5u => kernel_rfl
          case hf5u => kernel_rfl
          case hr5u => kernel_rfl
          case hQ5u => exact fun _ _ _ h => h
          case hy5u =>
            refine Or.inl ⟨rfl, ?_⟩
            intro W hSw
            obtain ⟨⟨z0, z1, z2, z3, z4⟩, z5, z6, z7, z8⟩ := hSw
            have z9 := HKN.out
            go_simp
            try with_reducible rfl
          case hS5u => assumption
          try simp only [Act.put, List.setIfInBounds_toArray, List.set_cons_zero, List.set_cons_succ]
          refine wpAnyH_take (i := 6) (oi := ?oi6u) (v := ?v6u) ?hi6u ?hs6u ?hf6u ?hr6u ?hQ6u ?hy6u ?hS6u ?h6u
          case hi6u => exact (by simp only [List.getElem?_toArray, List.getElem?_cons_succ, List.getElem?_cons_zero]; rfl)
          case hs6u => kernel_rfl
          case hf6u => kernel_rfl
          case hr6u => kernel_rfl
          case hQ6u => exact fun _ _ _ h => h
          case hy6u =>
            refine Or.inl ⟨rfl, ?_⟩
            intro W hSw
            obtain ⟨⟨z0, z1, z2, z3, z4⟩, z5, z6, z7, z8⟩ := hSw
            have z9 := HKN.out
            go_simp
            try with_reducible rfl
          case hS6u => assumption
          try simp only [Act.put, List.setIfInBounds_toArray, List.set_cons_zero, List.set_cons_succ]
          refine wpAnyH_take (i := 7) (oi := ?oi7u) (v := ?v7u) ?hi7u ?hs7u ?hf7u ?hr7u ?hQ7u ?hy7u ?hS7u ?h7u
          case hi7u => exact (by simp only [List.getElem?_toArray, List.getElem?_cons_succ, List.getElem?_cons_zero]; rfl)
          case hs7u => kernel_rfl
          case hf7u => kernel_rfl
          case hr7u => kernel_rfl
          case hQ7u => exact fun _ _ _ h => h
          case hy7u =>
            refine Or.inl ⟨rfl, ?_⟩
            intro W hSw
            obtain ⟨⟨z0, z1, z2, z3, z4⟩, z5, z6, z7, z8⟩ := hSw
            have z9 := HKN.out
            go_simp
            try with_reducible rfl
          case hS7u => assumption
          try simp only [Act.put, List.setIfInBounds_toArray, List.set_cons_zero, List.set_cons_succ]
          refine wpAnyH_take (i := 8) (oi := ?oi8u) (v := ?v8u) ?hi8u ?hs8u ?hf8u ?hr8u ?hQ8u ?hy8u ?hS8u ?h8u
          case hi8u => exact (by simp only [List.getElem?_toArray, List.getElem?_cons_succ, List.getElem?_cons_zero]; rfl)
          case hs8u => kernel_rfl
          case hf8u => kernel_rfl
          case hr8u => kernel_rfl
          case hQ8u => exact fun _ _ _ h => h
          case hy8u =>
            refine Or.inl ⟨rfl, ?_⟩
            intro W hSw
            obtain ⟨⟨z0, z1, z2, z3, z4⟩, z5, z6, z7, z8⟩ := hSw
            have z9 := HKN.out
            go_simp
            try with_reducible rfl
          case hS8u => assumption
          try simp only [Act.put, List.setIfInBounds_toArray, List.set_cons_zero, List.set_cons_succ]
          refine wpAnyH_take (i := 9) (oi := ?oi9u) (v := ?v9u) ?hi9u ?hs9u ?hf9u ?hr9u ?hQ9u ?hy9u ?hS9u ?h9u
          case hi9u => exact (by simp only [List.getElem?_toArray, List.getElem?_cons_succ, List.getElem?_cons_zero]; rfl)
          case hs9u => kernel_rfl
          case hf9u => kernel_rfl
          case hr9u => kernel_rfl
          case hQ9u => exact fun _ _ _ h => h
          case hy9u =>
            refine Or.inl ⟨rfl, ?_⟩
            intro W hSw
            obtain ⟨⟨z0, z1, z2, z3, z4⟩, z5, z6, z7, z8⟩ := hSw
            have z9 := HKN.out
            go_simp
            try with_reducible rfl
          case hS9u => assumption
          try simp only [Act.put, List.setIfInBounds_toArray, List.set_cons_zero, List.set_cons_succ]
          refine wpAnyH_take (i := 10) (oi := ?oi10u) (v := ?v10u) ?hi10u ?hs10u ?hf10u ?hr10u ?hQ10u ?hy10u ?hS10u ?h10u
          case hi10u => exact (by simp only [List.getElem?_toArray, List.getElem?_cons_succ, List.getElem?_cons_zero]; rfl)
          case hs10u => kernel_rfl
          case hf10u => kernel_rfl
          case hr10u => kernel_rfl
          case hQ10u => exact fun _ _ _ h => h
          case hy10u =>
            refine Or.inl ⟨rfl, ?_⟩
            intro W hSw
            obtain ⟨⟨z0, z1, z2, z3, z4⟩, z5, z6, z7, z8⟩ := hSw
            have z9 := HKN.out
            go_simp
            try with_reducible rfl
          case hS10u => assumption
          try simp only [Act.put, List.setIfInBounds_toArray, List.set_cons_zero, List.set_cons_succ]
          refine wpAnyH_take (i := 11) (oi := ?oi11u) (v := ?v11u) ?hi11u ?hs11u ?hf11u ?hr11u ?hQ11u ?hy11u ?hS11u ?h11u
          case hi11u => exact (by simp only [List.getElem?_toArray, List.getElem?_cons_succ, List.getElem?_cons_zero]; rfl)
          case hs11u => kernel_rfl
          case hf11u => kernel_rfl
          case hr11u => kernel_rfl
          case hQ11u => exact fun _ _ _ h => h
          case hy11u =>
            refine Or.inl ⟨rfl, ?_⟩
            intro W hSw
            obtain ⟨⟨z0, z1, z2, z3, z4⟩, z5, z6, z7, z8⟩ := hSw
            have z9 := HKN.out
            go_simp
            try with_reducible rfl
          case hS11u => assumption
          try simp only [Act.put, List.setIfInBounds_toArray, List.set_cons_zero, List.set_cons_succ]
          refine wpAnyH_take (i := 12) (oi := ?oi12u) (v := ?v12u) ?hi12u ?hs12u ?hf12u ?hr12u ?hQ12u ?hy12u ?hS12u ?h12u
          case hi12u => exact (by simp only [List.getElem?_toArray, List.getElem?_cons_succ, List.getElem?_cons_zero]; rfl)
          case hs12u => kernel_rfl
          case hf12u => kernel_rfl
          case hr12u => kernel_rfl
          case hQ12u => exact fun _ _ _ h => h
          case hy12u =>
            refine Or.inl ⟨rfl, ?_⟩
            intro W hSw
            obtain ⟨⟨z0, z1, z2, z3, z4⟩, z5, z6, z7, z8⟩ := hSw
            have z9 := HKN.out
            go_simp
            try with_reducible rfl
          case hS12u => assumption
          try simp only [Act.put, List.setIfInBounds_toArray, List.set_cons_zero, List.set_cons_succ]
          refine wpAnyH_take (i := 13) (oi := ?oi13u) (v := ?v13u) ?hi13u ?hs13u ?hf13u ?hr13u ?hQ13u ?hy13u ?hS13u ?h13u
          case hi13u => exact (by simp only [List.getElem?_toArray, List.getElem?_cons_succ, List.getElem?_cons_zero]; rfl)
          case hs13u => kernel_rfl
          case hf13u => kernel_rfl
          case hr13u => kernel_rfl
          case hQ13u => exact fun _ _ _ h => h
          case hy13u =>
            refine Or.inl ⟨rfl, ?_⟩
            intro W hSw
            obtain ⟨⟨z0, z1, z2, z3, z4⟩, z5, z6, z7, z8⟩ := hSw
            have z9 := HKN.out
            go_simp
            try with_reducible rfl
          case hS13u => assumption
          try simp only [Act.put, List.setIfInBounds_toArray, List.set_cons_zero, List.set_cons_succ]
          refine wpAnyH_take (i := 14) (oi := ?oi14u) (v := ?v14u) ?hi14u ?hs14u ?hf14u ?hr14u ?hQ14u ?hy14u ?hS14u ?h14u
          case hi14u => exact (by simp only [List.getElem?_toArray, List.getElem?_cons_succ, List.getElem?_cons_zero]; rfl)
          case hs14u => kernel_rfl
          case hf14u => kernel_rfl
          case hr14u => kernel_rfl
          case hQ14u => exact fun _ _ _ h => h
          case hy14u =>
            refine Or.inl ⟨rfl, ?_⟩
            intro W hSw
            obtain ⟨⟨z0, z1, z2, z3, z4⟩, z5, z6, z7, z8⟩ := hSw
            have z9 := HKN.out
            go_simp
            try with_reducible rfl
          case hS14u => assumption
          try simp only [Act.put, List.setIfInBounds_toArray, List.set_cons_zero, List.set_cons_succ]
          refine wpAnyH_take (i := 15) (oi := ?oi15u) (v := ?v15u) ?hi15u ?hs15u ?hf15u ?hr15u ?hQ15u ?hy15u ?hS15u ?h15u
          case hi15u => exact (by simp only [List.getElem?_toArray, List.getElem?_cons_succ, List.getElem?_cons_zero]; rfl)
          case hs15u => kernel_rfl
          case hf15u => kernel_rfl
          case hr15u => kernel_rfl
          case hQ15u => exact fun _ _ _ h => h
          case hy15u =>
            refine Or.inl ⟨rfl, ?_⟩
            intro W hSw
            obtain ⟨⟨z0, z1, z2, z3, z4⟩, z5, z6, z7, z8⟩ := hSw
            have z9 := HKN.out
            go_simp
            try with_reducible rfl
          case hS15u => assumption
          try simp only [Act.put, List.setIfInBounds_toArray, List.set_cons_zero, List.set_cons_succ]
          refine wpAnyH_take (i := 16) (oi := ?oi16u) (v := ?v16u) ?hi16u ?hs16u ?hf16u ?hr16u ?hQ16u ?hy16u ?hS16u ?h16u
          case hi16u => exact (by simp only [List.getElem?_toArray, List.getElem?_cons_succ, List.getElem?_cons_zero]; rfl)
          case hs16u => kernel_rfl
          case hf16u => kernel_rfl
          case hr16u => kernel_rfl
          case hQ16u => exact fun _ _ _ h => h
          case hy16u =>
            refine Or.inl ⟨rfl, ?_⟩
            intro W hSw
            obtain ⟨⟨z0, z1, z2, z3, z4⟩, z5, z6, z7, z8⟩ := hSw
            have z9 := HKN.out
            go_simp
            try with_reducible rfl
          case hS16u => assumption
          try simp only [Act.put, List.setIfInBounds_toArray, List.set_cons_zero, List.set_cons_succ]
          refine wpAnyH_take (i := 17) (oi := ?oi17u) (v := ?v17u) ?hi17u ?hs17u ?hf17u ?hr17u ?hQ17u ?hy17u ?hS17u ?h17u
          case hi17u => exact (by simp only [List.getElem?_toArray, List.getElem?_cons_succ, List.getElem?_cons_zero]; rfl)
          case hs17u => kernel_rfl
          case hf17u => kernel_rfl
          case hr17u => kernel_rfl
          case hQ17u => exact fun _ _ _ h => h
          case hy17u =>
            refine Or.inl ⟨rfl, ?_⟩
            intro W hSw
            obtain ⟨⟨z0, z1, z2, z3, z4⟩, z5, z6, z7, z8⟩ := hSw
            have z9 := HKN.out
            go_simp
            try with_reducible rfl
          case hS17u => assumption
          try simp only [Act.put, List.setIfInBounds_toArray, List.set_cons_zero, List.set_cons_succ]
          refine wpAnyH_take (i := 18) (oi := ?oi18u) (v := ?v18u) ?hi18u ?hs18u ?hf18u ?hr18u ?hQ18u ?hy18u ?hS18u ?h18u
          case hi18u => exact (by simp only [List.getElem?_toArray, List.getElem?_cons_succ, List.getElem?_cons_zero]; rfl)
          case hs18u => kernel_rfl
          case hf18u => kernel_rfl
          case hr18u => kernel_rfl
          case hQ18u => exact fun _ _ _ h => h
          case hy18u =>
            refine Or.inl ⟨rfl, ?_⟩
            intro W hSw
            obtain ⟨⟨z0, z1, z2, z3, z4⟩, z5, z6, z7, z8⟩ := hSw
            have z9 := HKN.out
            go_simp
            try with_reducible rfl
          case hS18u => assumption
          try simp only [Act.put, List.setIfInBounds_toArray, List.set_cons_zero, List.set_cons_succ]
          refine wpAnyH_take (i := 19) (oi := ?oi19u) (v := ?v19u) ?hi19u ?hs19u ?hf19u ?hr19u ?hQ19u ?hy19u ?hS19u ?h19u
          case hi19u => exact (by simp only [List.getElem?_toArray, List.getElem?_cons_succ, List.getElem?_cons_zero]; rfl)
          case hs19u => kernel_rfl
          case hf19u => kernel_rfl
          case hr19u => kernel_rfl
          case hQ19u => exact fun _ _ _ h => h
          case hy19u =>
            refine Or.inl ⟨rfl, ?_⟩
            intro W hSw
            obtain ⟨⟨z0, z1, z2, z3, z4⟩, z5, z6, z7, z8⟩ := hSw
            have z9 := HKN.out
            go_simp
            try with_reducible rfl
          case hS19u => assumption
          try simp only [Act.put, List.setIfInBounds_toArray, List.set_cons_zero, List.set_cons_succ]
          refine wpAnyH_ready (rs := [20]) (by kernel_rfl) (by simp) ?_
          refine AllReadyH.cons (o := _) rfl (fun K hK => ?_) AllReadyH.nil
          go_simp
          refine (HC20.out wa).mono ?_
          rintro r wb ⟨rfl, hbq⟩
          have HBb := Lib.hid (HBa.out.trans (hbq.mono HBa.out.size))
          clear hbq
          refine hK.out _ _ (HCF.out _ (Keep.of_below HBb.out)) (fun hHeld => ?_)
          clear hK K
          try simp only [Act.put, List.setIfInBounds_toArray, List.set_cons_zero, List.set_cons_succ]
          refine wpAnyH_ready (rs := [21]) (by kernel_rfl) (by simp) ?_
          refine AllReadyH.cons (o := _) rfl (fun K hK => ?_) AllReadyH.nil
          go_simp
          refine (HC21.out wb).mono ?_
          rintro r wc ⟨rfl, hbq⟩
          have HBc := Lib.hid (HBb.out.trans (hbq.mono HBb.out.size))
          clear hbq
          refine hK.out _ _ (HCF.out _ (Keep.of_below HBc.out)) (fun hHeld => ?_)
          clear hK K
          try simp only [Act.put, List.setIfInBounds_toArray, List.set_cons_zero, List.set_cons_succ]
          refine wpAnyH_take (i := 22) (oi := ?oi22u) (v := ?v22u) ?hi22u ?hs22u ?hf22u ?hr22u ?hQ22u ?hy22u ?hS22u ?h22u
          case hi22u => exact (by simp only [List.getElem?_toArray, List.getElem?_cons_succ, List.getElem?_cons_zero]; rfl)
          case hs22u => kernel_rfl
          case hf22u => kernel_rfl
          case hr22u => kernel_rfl
          case hQ22u => exact fun _ _ _ h => h
          case hy22u =>
            refine Or.inl ⟨rfl, ?_⟩
            intro W hSw
            obtain ⟨⟨z0, z1, z2, z3, z4⟩, z5, z6, z7, z8⟩ := hSw
            have z9 := HKN.out
            go_simp
            try with_reducible rfl
          case hS22u => assumption
          try simp only [Act.put, List.setIfInBounds_toArray, List.set_cons_zero, List.set_cons_succ]
          refine wpAnyH_ready (rs := [23]) (by kernel_rfl) (by simp) ?_
          refine AllReadyH.cons (o := _) rfl (fun K hK => ?_) AllReadyH.nil
          go_simp
          obtain ⟨wd, hwd⟩ : ∃ wd, wd = wc.alloc (.cells #[.int .i64 2, .slice P N cp, .int .i64 tr, .int .i64 wi] 55) := ⟨_, rfl⟩
          rw [← hwd]
          have HGd : Hid (wd.heap[wc.heap.size]? = some (.cells (gc ⟨P, cp, ⟨2, N, tr, wi⟩⟩).toArray 55 (0, 0))) := by rw [hwd]; exact heap_alloc_new wc _
          have HBd : Hid (Below w4.heap.size w4 wd) := by rw [hwd]; exact HBc.out.alloc HBc.out.size _
          clear hwd
          refine hK.out _ _ (HCF.out _ (Keep.of_below HBd.out)) (fun hHeld => ?_)
          clear hK K
          try simp only [Act.put, List.setIfInBounds_toArray, List.set_cons_zero, List.set_cons_succ]
          refine wpAnyH_ready (rs := [24]) (by kernel_rfl) (by simp) ?_
          refine AllReadyH.cons (o := _) rfl (fun K hK => ?_) AllReadyH.nil
          have hown : wd.ownsRow w0.heap.size 55 4 (.slice A6 n c6) n (gr lf) := own_after HM4.out.2.2.1 fun g hg => HBd.out.block g (own_lt HM4.out.2.2.1 g hg).2
          refine step_append_gr rfl _ _ rfl w0.heap.size wc.heap.size (.slice A6 n c6) n (gr lf) ⟨P, cp, ⟨2, N, tr, wi⟩⟩ rfl rfl hown HGd.out (by omega) (Nat.le_trans HB4.out.size HBd.out.size) ?_
          intro v9 w9 ho9 hg9 hk9
          obtain ⟨A9, c9, rfl⟩ := own_form ho9
          change K (Act.put _ (some 88) (.slice A9 (n + 1) c9)) w9
          have HKP : Hid (Keep w4 A6 n c6 w9) := fun b hb hne => (hg9.block b (Nat.lt_of_lt_of_le hb HBd.out.size) hne).trans (HBd.out.block b hb)
          have HB9 : Hid (Below w0.heap.size w0 w9) := (HB4.out.trans (HBd.out.mono HB4.out.size)).grown hg9 (Nat.le_trans HB4.out.size HBd.out.size) (fun g hg => (own_lt hown g hg).1)
          have HO9 : Hid (w9.ownsRow w0.heap.size 55 4 (.slice A9 (n + 1) c9) (n + 1) (gr (lf ++ [⟨P, cp, ⟨2, N, tr, wi⟩⟩]))) := by simp only [Hid]; rw [gr_snoc]; exact ho9
          have HOK : Hid (w9.ownsRow w0.heap.size 55 4 (.slice A6 n c6) n (gr lf)) := hk9
          clear ho9 hg9 hk9 hown
          refine hK.out _ _ (HCF.out _ (HKP.out)) (fun hHeld => ?_)
          clear hK K
          try simp only [Act.put, List.setIfInBounds_toArray, List.set_cons_zero, List.set_cons_succ]
          refine wpAnyH_take (i := 25) (oi := ?oi25u) (v := ?v25u) ?hi25u ?hs25u ?hf25u ?hr25u ?hQ25u ?hy25u ?hS25u ?h25u
          case hi25u => exact (by simp only [List.getElem?_toArray, List.getElem?_cons_succ, List.getElem?_cons_zero]; rfl)
          case hs25u => kernel_rfl
          case hf25u => kernel_rfl
          case hr25u => kernel_rfl
          case hQ25u => exact fun _ _ _ h => h
          case hy25u =>
            refine Or.inl ⟨rfl, ?_⟩
            intro W hSw
            obtain ⟨⟨z0, z1, z2, z3, z4⟩, z5, z6, z7, z8⟩ := hSw
            have z9 := HKN.out
            go_simp
            try with_reducible rfl
          case hS25u => assumption
          try simp only [Act.put, List.setIfInBounds_toArray, List.set_cons_zero, List.set_cons_succ]
          refine wpAnyH_done (by kernel_rfl) ?_ _
          obtain ⟨⟨z0, z1, z2, z3, z4⟩, z5, z6, z7, z8⟩ := HCF.out w9 HKP.out
          have HRs : Hid (Rs w9 w9.heap.size A9 (rows ++ [⟨2, N, tr, wi⟩])) := by
            have h := Rs.of_own HO9.out
            rw [List.map_append, HM4.out.2.2.2.1] at h
            exact h
          have HRo : Hid (Rs w9 w9.heap.size A6 rows) := by
            have h := Rs.of_own HOK.out
            rw [HM4.out.2.2.2.1] at h
            exact h
          have HN1 : Hid (n + 1 = (rows ++ [(⟨2, N, tr, wi⟩ : Rw)]).length) := by simp only [Hid]; rw [List.length_append, ← HNN.out]; rfl
          have HT9 : Hid (Calls Try.prog 8 #[.slice A9 (n + 1) c9] w9 fun r w' => r = .returned (.tuple #[.int .i64 (X), .int .i64 (Y + N)]) ∧ Below w9.heap.size w9 w') :=
            (taken_any A9 (n + 1) c9 (rows ++ [⟨2, N, tr, wi⟩]) w9 HN1.out HRs.out (fun e he => by
              rcases List.mem_append.1 he with h | h
              · exact HG4.out e h
              · simp at h
                subst h
                exact HNT.out) (by omega)).mono fun r w' h => ⟨by rw [h.1, takP_append, takP_append, HX.out, HY.out]; simp, h.2⟩
          go_wp2_with fail
          refine HT9.out.mono ?_
          rintro r wg ⟨rfl, hbg⟩
          have HBg := Lib.hid (HB9.out.trans (hbg.mono HB9.out.size))
          have q0 := (hbg.cell (p := ⟨Gm, 0, none⟩) (World.block_lt_of_cell? w9 _ z0)).trans z0
          have q6 := (hbg.cell (p := ⟨g7, o7 + k * 5 + 2, none⟩) (World.block_lt_of_cell? w9 _ z6)).trans z6
          have HRg := Lib.hid (HRs.out.later hbg (Nat.le_refl _))
          have HRog := Lib.hid (HRo.out.later hbg (Nat.le_refl _))
          have hXc := HXc.out
          have hYc := HYc.out
          have hNc := HNc.out
          have hKc := HKc.out
          obtain ⟨mx, hmx⟩ : ∃ mx, mx = max X m.k := ⟨_, rfl⟩
          obtain ⟨my, hmy⟩ : ∃ my, my = max Y m.k := ⟨_, rfl⟩
          have emx : (if X < m.k then m.k else X) = mx := by rw [hmx]; split <;> omega
          have emy : (if Y < m.k then m.k else Y) = my := by rw [hmy]; split <;> omega
          have lx : (X) ≤ mx := by have := HLE.out; omega
          have ly : (Y + N) ≤ my := by have := HLE.out; omega
          clear hbg z0 z1 z2 z3 z4 z5 z6 z7 z8 hmx hmy
          go_upto_region 14 with (fail)
          clear q0 q6 emx emy lx ly hXc hYc hNc hKc
          go_wp2_with fail
          refine (fitted_any A6 n c6 rows wg HNN.out HRog.out (by omega)).mono ?_
          rintro r wh ⟨⟨f1, rfl, hf1⟩, hbh⟩
          have HBh := Lib.hid (HBg.out.trans (hbh.mono HBg.out.size))
          have HRh := Lib.hid (HRg.out.later hbh (Nat.le_refl _))
          have HF1 := Lib.hid hf1
          clear hbh hf1
          cases f1
          · have HBe := HBh
            obtain ⟨we, hwe⟩ : ∃ we, we = wh := ⟨wh, rfl⟩
            subst hwe
            go_wp2_with fail
            refine (HAW.out we).mono ?_
            rintro r wf ⟨rfl, hbf⟩
            have HBf := Lib.hid (HBe.out.trans (hbf.mono HBe.out.size))
            clear hbf
            go_wp2
            go_ret
            exact ⟨rfl, HB0.out.trans (HBf.out.mono HB0.out.size)⟩
          · go_wp2_with fail
            refine (fitted_any A9 (n + 1) c9 (rows ++ [⟨2, N, tr, wi⟩]) wh HN1.out HRh.out (by omega)).mono ?_
            rintro r we ⟨⟨f2, rfl, hf2⟩, hbe⟩
            have HBe := Lib.hid (HBh.out.trans (hbe.mono HBh.out.size))
            obtain rfl : f2 = true := hf2.2 (fit_more (HF1.out.1 (by first | rfl | trivial)) HNR.out)
            clear hbe hf2
            go_wp2_with fail
            refine (HAW.out we).mono ?_
            rintro r wf ⟨rfl, hbf⟩
            have HBf := Lib.hid (HBe.out.trans (hbf.mono HBe.out.size))
            clear hbf
            go_wp2
            go_ret
            exact ⟨rfl, HB0.out.trans (HBf.out.mono HB0.out.size)⟩
  · clear hg
    go_wp2
    go_ret
    exact ⟨rfl, HB0.out.trans (HB1.out.mono HB0.out.size)⟩
end Go.Proofs.Ytccabdhfnjlbdaa
