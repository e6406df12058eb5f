/- Session: the document's Close, Open. -/
import Derived.Test.YtfgabmjnpjmmgaaTB
namespace Go.Proofs.Ytfgabmjnpjmmgaa.T
open Go.RowKit
set_option maxRecDepth 20000
set_option linter.unusedVariables false
set_option linter.unusedSimpArgs false

theorem Rs.setCell {w : World} {A : Option Addr} {l : List Lk} {B i : Nat} {v : Value} (h : Rs w w.heap.size A l) (hne : ∀ b o, A = some ⟨b, o, none⟩ → b ≠ B) : Rs (w.setCell ⟨B, i, none⟩ v) (w.setCell ⟨B, i, none⟩ v).heap.size A l := fun hl => by
  obtain ⟨b, o, h1, h2, h3⟩ := h hl
  have hb : (w.setCell ⟨B, i, none⟩ v).heap[b]? = w.heap[b]? := Below.heap_setCell _ _ _ _ (hne b o h1)
  exact ⟨b, o, h1, by rw [World.size_setCell]; exact h2, fun i e he => ⟨(World.cell?_of_block (a := ⟨b, _, none⟩) hb).trans (h3 i e he).1, (World.cell?_of_block (a := ⟨b, _, none⟩) hb).trans (h3 i e he).2.1, (World.cell?_of_block (a := ⟨b, _, none⟩) hb).trans (h3 i e he).2.2⟩⟩
def Q3 (A0 : Option Addr) (most idle had code : Int) (l : List Lk) (w : World) (r : Ending) (w' : World) : Prop := ∃ A n c, n = l.length ∧ r = .returned (.tuple #[rV A n c most idle, .int .u32 had, .int .i64 code]) ∧ Rs w' w'.heap.size A l ∧ Below w.heap.size w w' ∧ (A = A0 ∨ ∀ b o, A = some ⟨b, o, none⟩ → w.heap.size ≤ b ∧ Ty w' b)
def Q2 (A0 : Option Addr) (most idle code : Int) (l : List Lk) (w : World) (r : Ending) (w' : World) : Prop := ∃ A n c, n = l.length ∧ r = .returned (.tuple #[rV A n c most idle, .int .i64 code]) ∧ Rs w' w'.heap.size A l ∧ Below w.heap.size w w' ∧ (A = A0 ∨ ∀ b o, A = some ⟨b, o, none⟩ → w.heap.size ≤ b ∧ Ty w' b)
theorem own_m {w : World} {base m : Nat} {v : Value} {l : List Lk} (h : w.ownsRow base 62 3 v m (ir l)) : m = l.length := by
  have := h.1
  rw [ir_len] at this
  omega
theorem del_snoc_ne {x : Nat} {l : List Lk} {e : Lk} (h : e.1 ≠ x) : delS x (l ++ [e]) = delS x l ++ [e] := by unfold delS; simp [h]
theorem del_snoc_eq {x : Nat} {l : List Lk} {e : Lk} (h : e.1 = x) : delS x (l ++ [e]) = delS x l := by unfold delS; simp [h]
theorem uni {L : List Lk} (hp : L.Pairwise Rd) {j x : Nat} {y : Mk} (hj : L[j]? = some (x, y)) (i : Nat) (e : Lk) (hij : i ≠ j) (hi : L[i]? = some e) : e.1 ≠ x := fun h => by
  rcases Nat.lt_or_gt_of_ne hij with h1 | h1
  · have := (pw_lt hp h1 hi hj).1
    simp only at this
    omega
  · have := (pw_lt hp h1 hj hi).1
    simp only at this
    omega

set_option maxHeartbeats 4000000 in
theorem rclose_none (A : Option Addr) (n c : Nat) (most idle : Int) (l : List Lk) (x : Nat) (w : World) (hn : n = l.length) (hR : Rs w w.heap.size A l) (hl : n ≤ 100) (hno : ∀ e ∈ l, e.1 ≠ x) :
    Calls Try.prog 15 #[rV A n c most idle, .int .u32 (x : Int)] w (Q3 A most idle 0 12 l w) := by
  obtain ⟨wa, hwa⟩ : ∃ wa, wa = w.alloc (.cells (rC A n c most idle) 27) := ⟨_, rfl⟩
  have hsa : wa.heap.size = w.heap.size + 1 := by rw [hwa]; simp
  have hba : Below w.heap.size w wa := by rw [hwa]; exact (Below.refl _ _).alloc (Nat.le_refl _) _
  have hqa : wa.heap[w.heap.size]? = some (.cells (rC A n c most idle) 27 (0, 0)) := by rw [hwa]; exact heap_alloc_new w _
  obtain ⟨wb, hwb⟩ : ∃ wb, wb = wa.alloc (.cells #[.slice none 0 0, .int .i64 0, .int .i64 0] 27) := ⟨_, rfl⟩
  have hsb : wb.heap.size = w.heap.size + 2 := by rw [hwb]; simp [hsa]
  have hbb : Below wa.heap.size wa wb := by rw [hwb]; exact (Below.refl _ _).alloc (Nat.le_refl _) _
  have hqb : wb.heap[w.heap.size + 1]? = some (.cells #[.slice none 0 0, .int .i64 0, .int .i64 0] 27 (0, 0)) := by rw [hwb, ← hsa]; exact heap_alloc_new wa _
  have hqab : wb.heap[w.heap.size]? = some (.cells (rC A n c most idle) 27 (0, 0)) := (hbb.block _ (lt_of_block hqa)).trans hqa
  have HBB : Hid (Below w.heap.size w wb) := hba.trans (hbb.mono hba.size)
  have HSB := Lib.hid hsb
  have HWB : Hid (wb = (w.alloc (.cells (rC A n c most idle) 27)).alloc (.cells #[.slice none 0 0, .int .i64 0, .int .i64 0] 27)) := by simp only [Hid]; rw [hwb, hwa]
  have HCC : Hid (∀ W, Below wb.heap.size wb W → (W.cell? ⟨w.heap.size, 0, none⟩ = some (.slice A n c) ∧ W.cell? ⟨w.heap.size, 1, none⟩ = some (.int .i64 most) ∧ W.cell? ⟨w.heap.size, 2, none⟩ = some (.int .i64 idle)) ∧ W.heap[w.heap.size + 1]? = some (.cells #[.slice none 0 0, .int .i64 0, .int .i64 0] 27 (0, 0))) := fun W hW => by
    have e1 := (hW.block w.heap.size (lt_of_block hqab)).trans hqab
    exact ⟨⟨cell_of_row W _ 0 _ _ _ e1, cell_of_row W _ 1 _ _ _ e1, cell_of_row W _ 2 _ _ _ e1⟩, (hW.block _ (lt_of_block hqb)).trans hqb⟩
  have HR : Hid (Rs wb w.heap.size A l) := hR.below HBB.out
  have HR0 := Lib.hid hR
  have HN := Lib.hid hn
  have HBR : Hid (Below wb.heap.size wb wb) := Below.refl _ _
  clear hwa hsa hba hqa hwb hsb hbb hqb hqab hR hn
  have HF := Lib.hid (rfind_none A n c most idle l x wb HN.out (HR.out.mono HBB.out.size) hl hno)
  clear hno
  go_enter Try.func15, Try.ntmps15
  go_upto_region 1 with (fail)
  rw [← HWB.out]
  obtain ⟨⟨p0, p1, p2⟩, -⟩ := HCC.out wb HBR.out
  go_wp2_with fail
  refine HF.out.mono ?_
  rintro r w2 ⟨rfl, hb2⟩
  have HB2 := Lib.hid hb2
  clear hb2 p0 p1 p2
  obtain ⟨⟨p0, p1, p2⟩, hq4⟩ := HCC.out w2 HB2.out
  have z0 := cell_of_row w2 (w.heap.size + 1) 0 _ _ _ hq4
  have z1 := cell_of_row w2 (w.heap.size + 1) 1 _ _ _ hq4
  have z2 := cell_of_row w2 (w.heap.size + 1) 2 _ _ _ hq4
  simp at z0 z1 z2
  have zf : ∀ i, w2.frozen? ⟨w.heap.size + 1, i, none⟩ = false := fun i => frozen_of_row w2 _ i _ _ hq4
  have HT := Lib.hid (three (.slice A n c) (.int .i64 most) (.int .i64 idle) hq4)
  have HRES : Hid (Below w.heap.size w (((w2.setCell ⟨w.heap.size + 1, 0, none⟩ (.slice A n c)).setCell ⟨w.heap.size + 1, 1, none⟩ (.int .i64 most)).setCell ⟨w.heap.size + 1, 2, none⟩ (.int .i64 idle))) := (((HBB.out.trans (HB2.out.mono HBB.out.size)).setCell (by show w.heap.size ≤ w.heap.size + 1; omega) _).setCell (by show w.heap.size ≤ w.heap.size + 1; omega) _).setCell (by show w.heap.size ≤ w.heap.size + 1; omega) _
  clear hq4
  go_wp2
  obtain ⟨e0, e1, e2, _⟩ := HT.out
  exact bodyPost_ret (v := .tuple #[rV A n c most idle, .int .u32 0, .int .i64 12]) (by simp [results, Try.results15, go_sem, e0, e1, e2]) rfl ⟨A, n, c, HN.out, rfl, (HR0.out.below HRES.out).mono HRES.out.size, HRES.out, .inl rfl⟩

set_option maxHeartbeats 16000000 in
theorem rclose_there (A : Option Addr) (n c : Nat) (most idle : Int) (l : List Lk) (x j : Nat) (ya yp : Int) (w : World) (hn : n = l.length) (hR : Rs w w.heap.size A l) (hl : n ≤ 100) (hj : l[j]? = some (x, (ya, yp))) (hpw : l.Pairwise Rd) :
    Calls Try.prog 15 #[rV A n c most idle, .int .u32 (x : Int)] w (Q3 A most idle yp 0 (delS x l) w) := by
  obtain ⟨wa, hwa⟩ : ∃ wa, wa = w.alloc (.cells (rC A n c most idle) 27) := ⟨_, rfl⟩
  have hsa : wa.heap.size = w.heap.size + 1 := by rw [hwa]; simp
  have hba : Below w.heap.size w wa := by rw [hwa]; exact (Below.refl _ _).alloc (Nat.le_refl _) _
  have hqa : wa.heap[w.heap.size]? = some (.cells (rC A n c most idle) 27 (0, 0)) := by rw [hwa]; exact heap_alloc_new w _
  obtain ⟨wb, hwb⟩ : ∃ wb, wb = wa.alloc (.cells #[.slice none 0 0, .int .i64 0, .int .i64 0] 27) := ⟨_, rfl⟩
  have hsb : wb.heap.size = w.heap.size + 2 := by rw [hwb]; simp [hsa]
  have hbb : Below wa.heap.size wa wb := by rw [hwb]; exact (Below.refl _ _).alloc (Nat.le_refl _) _
  have hqb : wb.heap[w.heap.size + 1]? = some (.cells #[.slice none 0 0, .int .i64 0, .int .i64 0] 27 (0, 0)) := by rw [hwb, ← hsa]; exact heap_alloc_new wa _
  have hqab : wb.heap[w.heap.size]? = some (.cells (rC A n c most idle) 27 (0, 0)) := (hbb.block _ (lt_of_block hqa)).trans hqa
  have HBB : Hid (Below w.heap.size w wb) := hba.trans (hbb.mono hba.size)
  have HSB := Lib.hid hsb
  have HWB : Hid (wb = (w.alloc (.cells (rC A n c most idle) 27)).alloc (.cells #[.slice none 0 0, .int .i64 0, .int .i64 0] 27)) := by simp only [Hid]; rw [hwb, hwa]
  have HCC : Hid (∀ W, Below wb.heap.size wb W → (W.cell? ⟨w.heap.size, 0, none⟩ = some (.slice A n c) ∧ W.cell? ⟨w.heap.size, 1, none⟩ = some (.int .i64 most) ∧ W.cell? ⟨w.heap.size, 2, none⟩ = some (.int .i64 idle)) ∧ W.heap[w.heap.size + 1]? = some (.cells #[.slice none 0 0, .int .i64 0, .int .i64 0] 27 (0, 0))) := fun W hW => by
    have e1 := (hW.block w.heap.size (lt_of_block hqab)).trans hqab
    exact ⟨⟨cell_of_row W _ 0 _ _ _ e1, cell_of_row W _ 1 _ _ _ e1, cell_of_row W _ 2 _ _ _ e1⟩, (hW.block _ (lt_of_block hqb)).trans hqb⟩
  have HR : Hid (Rs wb w.heap.size A l) := hR.below HBB.out
  have HR0 := Lib.hid hR
  have HN := Lib.hid hn
  have HBR : Hid (Below wb.heap.size wb wb) := Below.refl _ _
  clear hwa hsa hba hqa hwb hsb hbb hqb hqab hR hn
  have HUN : Hid (∀ (i : Nat) e, i ≠ j → l[i]? = some e → e.1 ≠ x) := fun i e => uni hpw hj i e
  have HF := Lib.hid (rfind_there A n c most idle l j x (ya, yp) wb HN.out (HR.out.mono HBB.out.size) hl hj (fun i e h => HUN.out i e (by omega)))
  have HJ := Lib.hid hj
  have hjn : j < n := by rw [HN.out]; exact (List.getElem?_eq_some_iff.1 hj).1
  clear hj hpw
  go_enter Try.func15, Try.ntmps15
  go_upto_region 1 with (fail)
  rw [← HWB.out]
  obtain ⟨⟨p0, p1, p2⟩, -⟩ := HCC.out wb HBR.out
  go_wp2_with fail
  refine HF.out.mono ?_
  rintro r w2 ⟨rfl, hb2⟩
  have HB2 := Lib.hid hb2
  clear hb2 p0 p1 p2
  obtain ⟨⟨p0, p1, p2⟩, -⟩ := HCC.out w2 HB2.out
  obtain ⟨T, hT⟩ : ∃ T, T = w2.heap.size := ⟨_, rfl⟩
  obtain ⟨w1, hw1⟩ : ∃ w1, w1 = w2.alloc (.cells #[.slice none 0 0, .int .i64 most, .int .i64 idle] 27) := ⟨_, rfl⟩
  have hb1 : Below w2.heap.size w2 w1 := by rw [hw1]; exact (Below.refl _ _).alloc (Nat.le_refl _) _
  have hq1 : w1.heap[T]? = some (.cells #[.slice none 0 0, .int .i64 most, .int .i64 idle] 27 (0, 0)) := by rw [hw1, hT]; exact heap_alloc_new w2 _
  have HB1 : Hid (Below wb.heap.size wb w1) := HB2.out.trans (hb1.mono HB2.out.size)
  have HTT : Hid (w.heap.size + 2 ≤ T) := by have h1 := HSB.out; have h2 := HB2.out.size; simp only [Hid]; omega
  have HCT : Hid (∀ W, Below T w1 W → (W.cell? ⟨w.heap.size, 0, none⟩ = some (.slice A n c) ∧ W.cell? ⟨w.heap.size, 1, none⟩ = some (.int .i64 most) ∧ W.cell? ⟨w.heap.size, 2, none⟩ = some (.int .i64 idle)) ∧ W.heap[w.heap.size + 1]? = some (.cells #[.slice none 0 0, .int .i64 0, .int .i64 0] 27 (0, 0))) := fun W hW => HCC.out W (HB1.out.trans (hW.mono (by have h1 := HSB.out; have h2 := HTT.out; omega)))
  have HRT : Hid (Rs w1 w.heap.size A l) := HR.out.below (HB1.out.mono (by have := HSB.out; omega))
  have HT2 := Lib.hid hT
  have H1 := Lib.hid hw1
  have HS : Hid (∃ m A c, WSt w1 T most idle (.slice A m c) m (delS x (l.take 0)) w1) := ⟨0, none, 0, World.ownsRow_nil w1 _ 62 3, hq1, Below.refl _ _⟩
  clear hT hw1 hb1 hq1
  go_upto_region 5 with (fail)
  rw [← H1.out, ← HT2.out]
  clear p0 p1 p2
  go_wp2_with fail
  go_loopw [9] (fun u wr => ∃ (k : Nat), k ≤ n ∧ u = .int .i64 (k : Int) ∧ Hid (∃ m A c, WSt w1 T most idle (.slice A m c) m (delS x (l.take k)) wr)) (fun u _ => n - (intOf u).toNat)
  case atStart => exact ⟨0, by omega, rfl, HS.out⟩
  case round =>
    obtain ⟨k, hk, rfl, HV⟩ := hrel
    obtain ⟨m, A2, c2, hV⟩ := HV.out
    have HV : Hid (WSt w1 T most idle (.slice A2 m c2) m (delS x (l.take k)) wr) := hV
    have hmk : m ≤ k := by
      rw [own_m hV.1]
      exact Nat.le_trans (List.length_filter_le _ _) (by rw [List.length_take]; omega)
    clear hV
    obtain ⟨⟨t0, -, -⟩, -⟩ := HCT.out wr HV.out.2.2
    by_cases hlt : k < n
    · by_cases hkj : k = j
      · have HTK : Hid (delS x (l.take (k + 1)) = delS x (l.take k)) := by
          simp only [Hid]
          rw [List.take_add_one, hkj, HJ.out]
          exact del_snoc_eq rfl
        subst hkj
        go_wp2
        go_roundw
        case rel => exact ⟨k + 1, by omega, by go_num, m, A2, c2, by rw [HTK.out]; exact HV.out⟩
        case measure => simp [intOf] <;> omega
      · obtain ⟨⟨s, a, p⟩, hy⟩ : ∃ e, l[k]? = some e := ⟨l[k]'(by rw [← HN.out]; exact hlt), List.getElem?_eq_getElem _⟩
        have HTK : Hid (delS x (l.take (k + 1)) = delS x (l.take k) ++ [(s, (a, p))]) := by
          simp only [Hid]
          rw [List.take_add_one, hy]
          exact del_snoc_ne (HUN.out k _ hkj hy)
        obtain ⟨b1, o1, rfl, hb1, ha1⟩ := HRT.out (by have := HN.out; omega)
        have hrow : ∀ W, Below T w1 W → W.cell? ⟨b1, o1 + k * 3, none⟩ = some (.int .u32 (s : Int)) ∧ W.cell? ⟨b1, o1 + k * 3 + 1, none⟩ = some (.int .u32 p) ∧ W.cell? ⟨b1, o1 + k * 3 + 2, none⟩ = some (.int .i64 a) := fun W hW => by
          obtain ⟨d0, d1, d2⟩ := ha1 k _ hy
          have hlt' : b1 < T := by have := HTT.out; omega
          exact ⟨(hW.cell (p := ⟨b1, _, none⟩) hlt').trans d0, (hW.cell (p := ⟨b1, _, none⟩) hlt').trans d1, (hW.cell (p := ⟨b1, _, none⟩) hlt').trans d2⟩
        have hkz : ¬ (k : Int) = (j : Int) := by omega
        clear ha1 hb1 hy
        have HSall : Hid (∀ W, Below T w1 W → W.cell? ⟨w.heap.size, 0, none⟩ = some (.slice (some ⟨b1, o1, none⟩) n c) ∧ W.cell? ⟨b1, o1 + k * 3, none⟩ = some (.int .u32 (s : Int)) ∧ W.cell? ⟨b1, o1 + k * 3 + 1, none⟩ = some (.int .u32 p) ∧ W.cell? ⟨b1, o1 + k * 3 + 2, none⟩ = some (.int .i64 a)) := fun W hW => ⟨(HCT.out W hW).1.1, hrow W hW⟩
        clear hrow
        go_upto_region 9 with (fail)
        refine wp_region_held_drew (S := fun W : World => W.cell? ⟨w.heap.size, 0, none⟩ = some (.slice (some ⟨b1, o1, none⟩) n c) ∧ W.cell? ⟨b1, o1 + k * 3, none⟩ = some (.int .u32 (s : Int)) ∧ W.cell? ⟨b1, o1 + k * 3 + 1, none⟩ = some (.int .u32 p) ∧ W.cell? ⟨b1, o1 + k * 3 + 2, none⟩ = some (.int .i64 a)) (by kernel_rfl) (HSall.out _ HV.out.2.2.drew) (fun hHeld => ?_)
        obtain ⟨W0, hW0⟩ : ∃ W0, W0 = wr.drew := ⟨_, rfl⟩
        have HV0 : Hid (WSt w1 T most idle (.slice A2 m c2) m (delS x (l.take k)) W0) := by rw [hW0]; exact ⟨HV.out.1, HV.out.2.1, HV.out.2.2.drew⟩
        rw [← hW0] at hHeld ⊢
        clear hW0 HV
        refine wpAnyH_take (i := 0) (oi := ?oi0a) (v := ?v0a) ?hi0a ?hs0a ?hf0a ?hr0a ?hQ0a ?hy0a ?hS0a ?h0a
        case hi0a => exact (by simp only [List.getElem?_toArray, List.getElem?_cons_zero]; rfl)
        case hs0a => kernel_rfl
        case hf0a => kernel_rfl
        case hr0a => kernel_rfl
        case hQ0a => exact fun _ _ _ h => h
        case hy0a =>
          refine Or.inl ⟨rfl, ?_⟩
          intro W hSw
          obtain ⟨y0, y1, y2, y3⟩ := hSw
          go_simp
          try with_reducible rfl
        case hS0a => assumption
        try simp only [Act.put, List.setIfInBounds_toArray, List.set_cons_zero, List.set_cons_succ]
        refine wpAnyH_take (i := 2) (oi := ?oi2a) (v := ?v2a) ?hi2a ?hs2a ?hf2a ?hr2a ?hQ2a ?hy2a ?hS2a ?h2a
        case hi2a => exact (by simp only [List.getElem?_toArray, List.getElem?_cons_succ, List.getElem?_cons_zero]; rfl)
        case hs2a => kernel_rfl
        case hf2a => kernel_rfl
        case hr2a => kernel_rfl
        case hQ2a => exact fun _ _ _ h => h
        case hy2a =>
          refine Or.inl ⟨rfl, ?_⟩
          intro W hSw
          obtain ⟨y0, y1, y2, y3⟩ := hSw
          go_simp
          try with_reducible rfl
        case hS2a => assumption
        try simp only [Act.put, List.setIfInBounds_toArray, List.set_cons_zero, List.set_cons_succ]
        refine wpAnyH_take (i := 3) (oi := ?oi3a) (v := ?v3a) ?hi3a ?hs3a ?hf3a ?hr3a ?hQ3a ?hy3a ?hS3a ?h3a
        case hi3a => exact (by simp only [List.getElem?_toArray, List.getElem?_cons_succ, List.getElem?_cons_zero]; rfl)
        case hs3a => kernel_rfl
        case hf3a => kernel_rfl
        case hr3a => kernel_rfl
        case hQ3a => exact fun _ _ _ h => h
        case hy3a =>
          refine Or.inl ⟨rfl, ?_⟩
          intro W hSw
          obtain ⟨y0, y1, y2, y3⟩ := hSw
          go_simp
          try with_reducible rfl
        case hS3a => assumption
        try simp only [Act.put, List.setIfInBounds_toArray, List.set_cons_zero, List.set_cons_succ]
        refine wpAnyH_take (i := 4) (oi := ?oi4a) (v := ?v4a) ?hi4a ?hs4a ?hf4a ?hr4a ?hQ4a ?hy4a ?hS4a ?h4a
        case hi4a => exact (by simp only [List.getElem?_toArray, List.getElem?_cons_succ, List.getElem?_cons_zero]; rfl)
        case hs4a => kernel_rfl
        case hf4a => kernel_rfl
        case hr4a => kernel_rfl
        case hQ4a => exact fun _ _ _ h => h
        case hy4a =>
          refine Or.inl ⟨rfl, ?_⟩
          intro W hSw
          obtain ⟨y0, y1, y2, y3⟩ := hSw
          go_simp
          try with_reducible rfl
        case hS4a => assumption
        try simp only [Act.put, List.setIfInBounds_toArray, List.set_cons_zero, List.set_cons_succ]
        refine wpAnyH_take (i := 5) (oi := ?oi5a) (v := ?v5a) ?hi5a ?hs5a ?hf5a ?hr5a ?hQ5a ?hy5a ?hS5a ?h5a
        case hi5a => exact (by simp only [List.getElem?_toArray, List.getElem?_cons_succ, List.getElem?_cons_zero]; rfl)
        case hs5a => kernel_rfl
        case hf5a => kernel_rfl
        case hr5a => kernel_rfl
        case hQ5a => exact fun _ _ _ h => h
        case hy5a =>
          refine Or.inl ⟨rfl, ?_⟩
          intro W hSw
          obtain ⟨y0, y1, y2, y3⟩ := hSw
          go_simp
          try with_reducible rfl
        case hS5a => assumption
        try simp only [Act.put, List.setIfInBounds_toArray, List.set_cons_zero, List.set_cons_succ]
        refine wpAnyH_take (i := 6) (oi := ?oi6a) (v := ?v6a) ?hi6a ?hs6a ?hf6a ?hr6a ?hQ6a ?hy6a ?hS6a ?h6a
        case hi6a => exact (by simp only [List.getElem?_toArray, List.getElem?_cons_succ, List.getElem?_cons_zero]; rfl)
        case hs6a => kernel_rfl
        case hf6a => kernel_rfl
        case hr6a => kernel_rfl
        case hQ6a => exact fun _ _ _ h => h
        case hy6a =>
          refine Or.inl ⟨rfl, ?_⟩
          intro W hSw
          obtain ⟨y0, y1, y2, y3⟩ := hSw
          go_simp
          try with_reducible rfl
        case hS6a => assumption
        try simp only [Act.put, List.setIfInBounds_toArray, List.set_cons_zero, List.set_cons_succ]
        refine wpAnyH_ready (rs := [1, 7]) (by kernel_rfl) (by simp) ?_
        refine AllReadyH.cons (o := _) rfl (fun K hK => ?_) (AllReadyH.cons (o := _) rfl (fun K hK => ?_) AllReadyH.nil)
        · have c1' := cell_of_row _ T 0 _ _ _ HV0.out.2.1
          simp at c1'
          go_simp
          clear c1'
          refine hK.out _ _ (HSall.out _ HV0.out.2.2) (fun hHeld => ?_)
          clear hK K
          try simp only [Act.put, List.setIfInBounds_toArray, List.set_cons_zero, List.set_cons_succ]
          refine wpAnyH_ready (rs := [7]) (by kernel_rfl) (by simp) ?_
          refine AllReadyH.cons (o := _) rfl (fun K hK => ?_) AllReadyH.nil
          go_simp
          obtain ⟨W2, hW2⟩ : ∃ W2, W2 = W0.alloc (.cells (lC s p a) 62) := ⟨_, rfl⟩
          rw [← hW2]
          have HQ2 : Hid (W2.heap[W0.heap.size]? = some (.cells (ic (s, (a, p))).toArray 62 (0, 0))) := by rw [hW2]; exact heap_alloc_new W0 _
          have HV2 : Hid (WSt w1 T most idle (.slice A2 m c2) m (delS x (l.take k)) W2) := wst_alloc HV0.out (by rw [hW2]; exact (Below.refl _ _).alloc (Nat.le_refl _) _)
          clear hW2
          refine hK.out _ _ (HSall.out _ HV2.out.2.2) (fun hHeld => ?_)
          clear hK K
          try simp only [Act.put, List.setIfInBounds_toArray, List.set_cons_zero, List.set_cons_succ]
          refine wpAnyH_ready (rs := [8]) (by kernel_rfl) (by simp) ?_
          refine AllReadyH.cons (o := _) rfl (fun K hK => ?_) AllReadyH.nil
          refine step_append_in rfl _ _ rfl (T + 1) W0.heap.size (.slice A2 m c2) m (ir (delS x (l.take k))) (s, (a, p)) rfl rfl HV2.out.1 HQ2.out (by omega) (wst_lt HV2.out) ?_
          intro v4 W4 hown4 hg4
          obtain ⟨A4, c4, rfl⟩ := own_form1 hown4
          have HO4 := Lib.hid hown4
          have HG4 := Lib.hid hg4
          have HB4 : Hid (Below T w1 W4) := HV2.out.2.2.grown hg4 (Nat.le_of_lt (wst_lt HV2.out)) (fun g hgg => by have := (ownlt HV2.out.1 g hgg).1; omega)
          clear hown4 hg4
          refine hK.out _ _ (HSall.out _ HB4.out) (fun hHeld => ?_)
          clear hK K
          try simp only [Act.put, List.setIfInBounds_toArray, List.set_cons_zero, List.set_cons_succ]
          refine wpAnyH_take (i := 9) (oi := ?oi9ap) (v := ?v9ap) ?hi9ap ?hs9ap ?hf9ap ?hr9ap ?hQ9ap ?hy9ap ?hS9ap ?h9ap
          case hi9ap => exact (by simp only [List.getElem?_toArray, List.getElem?_cons_succ, List.getElem?_cons_zero]; rfl)
          case hs9ap => kernel_rfl
          case hf9ap => kernel_rfl
          case hr9ap => kernel_rfl
          case hQ9ap => exact fun _ _ _ h => h
          case hy9ap =>
            refine Or.inl ⟨rfl, ?_⟩
            intro W hSw
            obtain ⟨y0, y1, y2, y3⟩ := hSw
            go_simp
            try with_reducible rfl
          case hS9ap => assumption
          try simp only [Act.put, List.setIfInBounds_toArray, List.set_cons_zero, List.set_cons_succ]
          refine wpAnyH_ready (rs := [10]) (by kernel_rfl) (by simp) ?_
          refine AllReadyH.cons (o := _) rfl (fun K hK => ?_) AllReadyH.nil
          have c4' := cell_of_row W4 T 0 _ _ _ (wst_var HV2.out HG4.out)
          have f4' := frozen_of_row W4 T 0 _ _ (wst_var HV2.out HG4.out)
          simp at c4'
          go_simp
          clear c4' f4'
          have HWN := Lib.hid (wst_put HV2.out HG4.out HO4.out)
          refine hK.out _ _ (HSall.out _ HWN.out.2.2) (fun hHeld => ?_)
          clear hK K
          try simp only [Act.put, List.setIfInBounds_toArray, List.set_cons_zero, List.set_cons_succ]
          refine wpAnyH_done (by kernel_rfl) ?_ _
          obtain ⟨W5, hW5⟩ : ∃ W5, W5 = W4.setCell ⟨T, 0, none⟩ (.slice A4 (m + 1) c4) := ⟨_, rfl⟩
          rw [← hW5] at HWN ⊢
          clear hW5 hHeld
          go_wp2_with fail
          go_roundw
          case rel => exact ⟨k + 1, by omega, by go_num, m + 1, A4, c4, by rw [HTK.out]; exact HWN.out⟩
          case measure => simp [intOf] <;> omega
        · go_simp
          obtain ⟨W2, hW2⟩ : ∃ W2, W2 = W0.alloc (.cells (lC s p a) 62) := ⟨_, rfl⟩
          rw [← hW2]
          have HQ2 : Hid (W2.heap[W0.heap.size]? = some (.cells (ic (s, (a, p))).toArray 62 (0, 0))) := by rw [hW2]; exact heap_alloc_new W0 _
          have HV2 : Hid (WSt w1 T most idle (.slice A2 m c2) m (delS x (l.take k)) W2) := wst_alloc HV0.out (by rw [hW2]; exact (Below.refl _ _).alloc (Nat.le_refl _) _)
          clear hW2
          refine hK.out _ _ (HSall.out _ HV2.out.2.2) (fun hHeld => ?_)
          clear hK K
          try simp only [Act.put, List.setIfInBounds_toArray, List.set_cons_zero, List.set_cons_succ]
          refine wpAnyH_ready (rs := [1]) (by kernel_rfl) (by simp) ?_
          refine AllReadyH.cons (o := _) rfl (fun K hK => ?_) AllReadyH.nil
          have c1' := cell_of_row _ T 0 _ _ _ HV2.out.2.1
          simp at c1'
          go_simp
          clear c1'
          refine hK.out _ _ (HSall.out _ HV2.out.2.2) (fun hHeld => ?_)
          clear hK K
          try simp only [Act.put, List.setIfInBounds_toArray, List.set_cons_zero, List.set_cons_succ]
          refine wpAnyH_ready (rs := [8]) (by kernel_rfl) (by simp) ?_
          refine AllReadyH.cons (o := _) rfl (fun K hK => ?_) AllReadyH.nil
          refine step_append_in rfl _ _ rfl (T + 1) W0.heap.size (.slice A2 m c2) m (ir (delS x (l.take k))) (s, (a, p)) rfl rfl HV2.out.1 HQ2.out (by omega) (wst_lt HV2.out) ?_
          intro v4 W4 hown4 hg4
          obtain ⟨A4, c4, rfl⟩ := own_form1 hown4
          have HO4 := Lib.hid hown4
          have HG4 := Lib.hid hg4
          have HB4 : Hid (Below T w1 W4) := HV2.out.2.2.grown hg4 (Nat.le_of_lt (wst_lt HV2.out)) (fun g hgg => by have := (ownlt HV2.out.1 g hgg).1; omega)
          clear hown4 hg4
          refine hK.out _ _ (HSall.out _ HB4.out) (fun hHeld => ?_)
          clear hK K
          try simp only [Act.put, List.setIfInBounds_toArray, List.set_cons_zero, List.set_cons_succ]
          refine wpAnyH_take (i := 9) (oi := ?oi9aq) (v := ?v9aq) ?hi9aq ?hs9aq ?hf9aq ?hr9aq ?hQ9aq ?hy9aq ?hS9aq ?h9aq
          case hi9aq => exact (by simp only [List.getElem?_toArray, List.getElem?_cons_succ, List.getElem?_cons_zero]; rfl)
          case hs9aq => kernel_rfl
          case hf9aq => kernel_rfl
          case hr9aq => kernel_rfl
          case hQ9aq => exact fun _ _ _ h => h
          case hy9aq =>
            refine Or.inl ⟨rfl, ?_⟩
            intro W hSw
            obtain ⟨y0, y1, y2, y3⟩ := hSw
            go_simp
            try with_reducible rfl
          case hS9aq => assumption
          try simp only [Act.put, List.setIfInBounds_toArray, List.set_cons_zero, List.set_cons_succ]
          refine wpAnyH_ready (rs := [10]) (by kernel_rfl) (by simp) ?_
          refine AllReadyH.cons (o := _) rfl (fun K hK => ?_) AllReadyH.nil
          have c4' := cell_of_row W4 T 0 _ _ _ (wst_var HV2.out HG4.out)
          have f4' := frozen_of_row W4 T 0 _ _ (wst_var HV2.out HG4.out)
          simp at c4'
          go_simp
          clear c4' f4'
          have HWN := Lib.hid (wst_put HV2.out HG4.out HO4.out)
          refine hK.out _ _ (HSall.out _ HWN.out.2.2) (fun hHeld => ?_)
          clear hK K
          try simp only [Act.put, List.setIfInBounds_toArray, List.set_cons_zero, List.set_cons_succ]
          refine wpAnyH_done (by kernel_rfl) ?_ _
          obtain ⟨W5, hW5⟩ : ∃ W5, W5 = W4.setCell ⟨T, 0, none⟩ (.slice A4 (m + 1) c4) := ⟨_, rfl⟩
          rw [← hW5] at HWN ⊢
          clear hW5 hHeld
          go_wp2_with fail
          go_roundw
          case rel => exact ⟨k + 1, by omega, by go_num, m + 1, A4, c4, by rw [HTK.out]; exact HWN.out⟩
          case measure => simp [intOf] <;> omega
    · obtain rfl : k = n := by omega
      have HLL : Hid (l.take k = l) := List.take_of_length_le (by rw [← HN.out]; exact Nat.le_refl _)
      rw [HLL.out] at HV
      obtain ⟨b1, o1, rfl, hb1, ha1⟩ := HRT.out (by have := HN.out; omega)
      have hy4 := (HV.out.2.2.cell (p := ⟨b1, _, none⟩) (by first | (have := HTT.out; omega) | (show b1 < T; have := HTT.out; omega))).trans (ha1 j _ HJ.out).2.1
      simp only at hy4
      have HBL : Hid (b1 < w.heap.size) := hb1
      have HQ4 : Hid (wr.heap[w.heap.size + 1]? = some (.cells #[.slice none 0 0, .int .i64 0, .int .i64 0] 27 (0, 0))) := (HCT.out wr HV.out.2.2).2
      have HS10 : Hid ((fun W : World => (W.cell? ⟨T, 0, none⟩ = some (.slice A2 m c2) ∧ W.cell? ⟨T, 1, none⟩ = some (.int .i64 most) ∧ W.cell? ⟨T, 2, none⟩ = some (.int .i64 idle)) ∧ W.cell? ⟨w.heap.size, 0, none⟩ = some (.slice (some ⟨b1, o1, none⟩) k c) ∧ W.cell? ⟨b1, o1 + j * 3 + 1, none⟩ = some (.int .u32 yp)) wr.drew) := ⟨⟨cell_of_row wr _ 0 _ _ _ HV.out.2.1, cell_of_row wr _ 1 _ _ _ HV.out.2.1, cell_of_row wr _ 2 _ _ _ HV.out.2.1⟩, (HCT.out wr HV.out.2.2).1.1, hy4⟩
      have HML : Hid (m = (delS x l).length) := own_m HV.out.1
      clear ha1 hb1 hy4
      go_upto_region 10 with (fail)
      clear t0
      refine wp_region_held_drew (S := fun W : World => (W.cell? ⟨T, 0, none⟩ = some (.slice A2 m c2) ∧ W.cell? ⟨T, 1, none⟩ = some (.int .i64 most) ∧ W.cell? ⟨T, 2, none⟩ = some (.int .i64 idle)) ∧ W.cell? ⟨w.heap.size, 0, none⟩ = some (.slice (some ⟨b1, o1, none⟩) k c) ∧ W.cell? ⟨b1, o1 + j * 3 + 1, none⟩ = some (.int .u32 yp)) (by kernel_rfl) HS10.out (fun hHeld => ?_)
      obtain ⟨W0, hW0⟩ : ∃ W0, W0 = wr.drew := ⟨_, rfl⟩
      have HZ4 : Hid (W0.heap[w.heap.size + 1]? = some (.cells #[.slice none 0 0, .int .i64 0, .int .i64 0] 27 (0, 0))) := by rw [hW0]; exact HQ4.out
      have HBW0 : Hid (W0.heap[T]? = some (.cells #[.slice A2 m c2, .int .i64 most, .int .i64 idle] 27 (0, 0)) ∧ W0.heap[w.heap.size]? = wr.heap[w.heap.size]? ∧ W0.heap[b1]? = wr.heap[b1]?) := by rw [hW0]; exact ⟨HV.out.2.1, rfl, rfl⟩
      have HRES0 : Hid (Rs (((W0.setCell ⟨w.heap.size + 1, 0, none⟩ (.slice A2 m c2)).setCell ⟨w.heap.size + 1, 1, none⟩ (.int .i64 most)).setCell ⟨w.heap.size + 1, 2, none⟩ (.int .i64 idle)) (((W0.setCell ⟨w.heap.size + 1, 0, none⟩ (.slice A2 m c2)).setCell ⟨w.heap.size + 1, 1, none⟩ (.int .i64 most)).setCell ⟨w.heap.size + 1, 2, none⟩ (.int .i64 idle)).heap.size A2 (delS x l) ∧ Below w.heap.size w (((W0.setCell ⟨w.heap.size + 1, 0, none⟩ (.slice A2 m c2)).setCell ⟨w.heap.size + 1, 1, none⟩ (.int .i64 most)).setCell ⟨w.heap.size + 1, 2, none⟩ (.int .i64 idle)) ∧ ∀ b o, A2 = some ⟨b, o, none⟩ → T + 1 ≤ b ∧ Ty (((W0.setCell ⟨w.heap.size + 1, 0, none⟩ (.slice A2 m c2)).setCell ⟨w.heap.size + 1, 1, none⟩ (.int .i64 most)).setCell ⟨w.heap.size + 1, 2, none⟩ (.int .i64 idle)) b) := by
        rw [hW0]
        exact wst_out (w := w) (Q := w.heap.size + 1) (wr := wr.drew) (w3 := w1) (most := most) (idle := idle) ⟨HV.out.1, HV.out.2.1, HV.out.2.2.drew⟩ (by first | (have := HTT.out; omega) | (show b1 < T; have := HTT.out; omega)) (by omega) (((HBB.out.trans (HB1.out.mono HBB.out.size)).trans (HV.out.2.2.mono (by first | (have := HTT.out; omega) | (show b1 < T; have := HTT.out; omega)))).drew)
      rw [← hW0] at hHeld ⊢
      clear hW0
      refine wpAnyH_take (i := 0) (oi := ?oi0t) (v := ?v0t) ?hi0t ?hs0t ?hf0t ?hr0t ?hQ0t ?hy0t ?hS0t ?h0t
      case hi0t => exact (by simp only [List.getElem?_toArray, List.getElem?_cons_zero]; rfl)
      case hs0t => kernel_rfl
      case hf0t => kernel_rfl
      case hr0t => kernel_rfl
      case hQ0t => exact fun _ _ _ h => h
      case hy0t =>
        refine Or.inl ⟨rfl, ?_⟩
        intro W hSw
        obtain ⟨⟨y0, y1, y2⟩, y3, y4⟩ := hSw
        go_simp
        try with_reducible rfl
      case hS0t => assumption
      try simp only [Act.put, List.setIfInBounds_toArray, List.set_cons_zero, List.set_cons_succ]
      refine wpAnyH_take (i := 1) (oi := ?oi1t) (v := ?v1t) ?hi1t ?hs1t ?hf1t ?hr1t ?hQ1t ?hy1t ?hS1t ?h1t
      case hi1t => exact (by simp only [List.getElem?_toArray, List.getElem?_cons_succ, List.getElem?_cons_zero]; rfl)
      case hs1t => kernel_rfl
      case hf1t => kernel_rfl
      case hr1t => kernel_rfl
      case hQ1t => exact fun _ _ _ h => h
      case hy1t =>
        refine Or.inl ⟨rfl, ?_⟩
        intro W hSw
        obtain ⟨⟨y0, y1, y2⟩, y3, y4⟩ := hSw
        go_simp
        try with_reducible rfl
      case hS1t => assumption
      try simp only [Act.put, List.setIfInBounds_toArray, List.set_cons_zero, List.set_cons_succ]
      refine wpAnyH_take (i := 2) (oi := ?oi2t) (v := ?v2t) ?hi2t ?hs2t ?hf2t ?hr2t ?hQ2t ?hy2t ?hS2t ?h2t
      case hi2t => exact (by simp only [List.getElem?_toArray, List.getElem?_cons_succ, List.getElem?_cons_zero]; rfl)
      case hs2t => kernel_rfl
      case hf2t => kernel_rfl
      case hr2t => kernel_rfl
      case hQ2t => exact fun _ _ _ h => h
      case hy2t =>
        refine Or.inl ⟨rfl, ?_⟩
        intro W hSw
        obtain ⟨⟨y0, y1, y2⟩, y3, y4⟩ := hSw
        go_simp
        try with_reducible rfl
      case hS2t => assumption
      try simp only [Act.put, List.setIfInBounds_toArray, List.set_cons_zero, List.set_cons_succ]
      refine wpAnyH_take (i := 3) (oi := ?oi3t) (v := ?v3t) ?hi3t ?hs3t ?hf3t ?hr3t ?hQ3t ?hy3t ?hS3t ?h3t
      case hi3t => exact (by simp only [List.getElem?_toArray, List.getElem?_cons_succ, List.getElem?_cons_zero]; rfl)
      case hs3t => kernel_rfl
      case hf3t => kernel_rfl
      case hr3t => kernel_rfl
      case hQ3t => exact fun _ _ _ h => h
      case hy3t =>
        refine Or.inl ⟨rfl, ?_⟩
        intro W hSw
        obtain ⟨⟨y0, y1, y2⟩, y3, y4⟩ := hSw
        go_simp
        try with_reducible rfl
      case hS3t => assumption
      try simp only [Act.put, List.setIfInBounds_toArray, List.set_cons_zero, List.set_cons_succ]
      refine wpAnyH_take (i := 4) (oi := ?oi4t) (v := ?v4t) ?hi4t ?hs4t ?hf4t ?hr4t ?hQ4t ?hy4t ?hS4t ?h4t
      case hi4t => exact (by simp only [List.getElem?_toArray, List.getElem?_cons_succ, List.getElem?_cons_zero]; rfl)
      case hs4t => kernel_rfl
      case hf4t => kernel_rfl
      case hr4t => kernel_rfl
      case hQ4t => exact fun _ _ _ h => h
      case hy4t =>
        refine Or.inl ⟨rfl, ?_⟩
        intro W hSw
        obtain ⟨⟨y0, y1, y2⟩, y3, y4⟩ := hSw
        go_simp
        try with_reducible rfl
      case hS4t => assumption
      try simp only [Act.put, List.setIfInBounds_toArray, List.set_cons_zero, List.set_cons_succ]
      refine wpAnyH_take (i := 5) (oi := ?oi5t) (v := ?v5t) ?hi5t ?hs5t ?hf5t ?hr5t ?hQ5t ?hy5t ?hS5t ?h5t
      case hi5t => exact (by simp only [List.getElem?_toArray, List.getElem?_cons_succ, List.getElem?_cons_zero]; rfl)
      case hs5t => kernel_rfl
      case hf5t => kernel_rfl
      case hr5t => kernel_rfl
      case hQ5t => exact fun _ _ _ h => h
      case hy5t =>
        refine Or.inl ⟨rfl, ?_⟩
        intro W hSw
        obtain ⟨⟨y0, y1, y2⟩, y3, y4⟩ := hSw
        go_simp
        try with_reducible rfl
      case hS5t => assumption
      try simp only [Act.put, List.setIfInBounds_toArray, List.set_cons_zero, List.set_cons_succ]
      refine wpAnyH_take (i := 6) (oi := ?oi6t) (v := ?v6t) ?hi6t ?hs6t ?hf6t ?hr6t ?hQ6t ?hy6t ?hS6t ?h6t
      case hi6t => exact (by simp only [List.getElem?_toArray, List.getElem?_cons_succ, List.getElem?_cons_zero]; rfl)
      case hs6t => kernel_rfl
      case hf6t => kernel_rfl
      case hr6t => kernel_rfl
      case hQ6t => exact fun _ _ _ h => h
      case hy6t =>
        refine Or.inl ⟨rfl, ?_⟩
        intro W hSw
        obtain ⟨⟨y0, y1, y2⟩, y3, y4⟩ := hSw
        go_simp
        try with_reducible rfl
      case hS6t => assumption
      try simp only [Act.put, List.setIfInBounds_toArray, List.set_cons_zero, List.set_cons_succ]
      refine wpAnyH_ready (rs := [7]) (by kernel_rfl) (by simp) ?_
      refine AllReadyH.cons (o := _) rfl (fun K hK => ?_) AllReadyH.nil
      have z0 := cell_of_row W0 (w.heap.size + 1) 0 _ _ _ HZ4.out
      have z1 := cell_of_row W0 (w.heap.size + 1) 1 _ _ _ HZ4.out
      have z2 := cell_of_row W0 (w.heap.size + 1) 2 _ _ _ HZ4.out
      simp at z0 z1 z2
      have zf : ∀ i, W0.frozen? ⟨w.heap.size + 1, i, none⟩ = false := fun i => frozen_of_row W0 _ i _ _ HZ4.out
      go_simp
      clear z0 z1 z2 zf
      have HT := Lib.hid (three (.slice A2 m c2) (.int .i64 most) (.int .i64 idle) HZ4.out)
      obtain ⟨W5, hW5⟩ : ∃ W5, W5 = (((W0.setCell ⟨w.heap.size + 1, 0, none⟩ (.slice A2 m c2)).setCell ⟨w.heap.size + 1, 1, none⟩ (.int .i64 most)).setCell ⟨w.heap.size + 1, 2, none⟩ (.int .i64 idle)) := ⟨_, rfl⟩
      have hk5 : ∀ g, g ≠ w.heap.size + 1 → W5.heap[g]? = W0.heap[g]? := fun g hg => by rw [hW5]; exact (Below.heap_setCell _ _ _ _ hg).trans ((Below.heap_setCell _ _ _ _ hg).trans (Below.heap_setCell _ _ _ _ hg))
      rw [← hW5] at HT HRES0
      have HS5 : Hid ((fun W : World => (W.cell? ⟨T, 0, none⟩ = some (.slice A2 m c2) ∧ W.cell? ⟨T, 1, none⟩ = some (.int .i64 most) ∧ W.cell? ⟨T, 2, none⟩ = some (.int .i64 idle)) ∧ W.cell? ⟨w.heap.size, 0, none⟩ = some (.slice (some ⟨b1, o1, none⟩) k c) ∧ W.cell? ⟨b1, o1 + j * 3 + 1, none⟩ = some (.int .u32 yp)) W5) := by
        have e1 := (hk5 T (by first | (have := HTT.out; omega) | (show b1 < T; have := HTT.out; omega))).trans HBW0.out.1
        have e2 := (hk5 w.heap.size (by omega)).trans HBW0.out.2.1
        have e3 := (hk5 b1 (by have := HBL.out; omega)).trans HBW0.out.2.2
        obtain ⟨-, f1, f2⟩ := HS10.out
        exact ⟨⟨cell_of_row W5 _ 0 _ _ _ e1, cell_of_row W5 _ 1 _ _ _ e1, cell_of_row W5 _ 2 _ _ _ e1⟩, (World.cell?_of_block (a := ⟨w.heap.size, _, none⟩) e2).trans f1, (World.cell?_of_block (a := ⟨b1, _, none⟩) e3).trans f2⟩
      rw [← hW5]
      clear hW5 hk5
      refine hK.out _ _ HS5.out (fun hHeld => ?_)
      clear hK K
      try simp only [Act.put, List.setIfInBounds_toArray, List.set_cons_zero, List.set_cons_succ]
      refine wpAnyH_take (i := 8) (oi := ?oi8t) (v := ?v8t) ?hi8t ?hs8t ?hf8t ?hr8t ?hQ8t ?hy8t ?hS8t ?h8t
      case hi8t => exact (by simp only [List.getElem?_toArray, List.getElem?_cons_succ, List.getElem?_cons_zero]; rfl)
      case hs8t => kernel_rfl
      case hf8t => kernel_rfl
      case hr8t => kernel_rfl
      case hQ8t => exact fun _ _ _ h => h
      case hy8t =>
        refine Or.inl ⟨rfl, ?_⟩
        intro W hSw
        obtain ⟨⟨y0, y1, y2⟩, y3, y4⟩ := hSw
        go_simp
        try with_reducible rfl
      case hS8t => assumption
      try simp only [Act.put, List.setIfInBounds_toArray, List.set_cons_zero, List.set_cons_succ]
      refine wpAnyH_take (i := 9) (oi := ?oi9t) (v := ?v9t) ?hi9t ?hs9t ?hf9t ?hr9t ?hQ9t ?hy9t ?hS9t ?h9t
      case hi9t => exact (by simp only [List.getElem?_toArray, List.getElem?_cons_succ, List.getElem?_cons_zero]; rfl)
      case hs9t => kernel_rfl
      case hf9t => kernel_rfl
      case hr9t => kernel_rfl
      case hQ9t => exact fun _ _ _ h => h
      case hy9t =>
        refine Or.inl ⟨rfl, ?_⟩
        intro W hSw
        obtain ⟨⟨y0, y1, y2⟩, y3, y4⟩ := hSw
        go_simp
        try with_reducible rfl
      case hS9t => assumption
      try simp only [Act.put, List.setIfInBounds_toArray, List.set_cons_zero, List.set_cons_succ]
      refine wpAnyH_done (by kernel_rfl) ?_ _
      obtain ⟨e0, e1, e2, _⟩ := HT.out
      go_wp2_with fail
      exact bodyPost_ret (v := .tuple #[rV A2 m c2 most idle, .int .u32 yp, .int .i64 0]) (by simp [results, Try.results15, go_sem, e0, e1, e2]) rfl ⟨A2, m, c2, HML.out, rfl, HRES0.out.1, HRES0.out.2.1, .inr fun b o e => by have h1 := HRES0.out.2.2 b o e; exact ⟨by have := h1.1; have := HTT.out; omega, h1.2⟩⟩
end Go.Proofs.Ytfgabmjnpjmmgaa.T
