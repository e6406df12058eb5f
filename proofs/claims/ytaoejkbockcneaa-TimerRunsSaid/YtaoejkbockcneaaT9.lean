/- Timer: Set, Due. -/
import Derived.Test.YtaoejkbockcneaaT8
namespace Go.Proofs.Ytaoejkbockcneaa
open Go.RowKit
set_option maxRecDepth 20000

theorem clear_any {B0 Q M tn : Nat} {L : List It} (k : Int) (x : Nat) (w : World) (h : IsT w B0 Q M tn L) (hl : L.length ≤ 1000) (hw : wfN k x) :
    Calls Try.prog 15 #[.pointer (some ⟨Q, 0, none⟩), .int .i64 k, .int .u32 (x : Int)] w fun r w' => (∃ b, r = .returned (.bool b) ∧ (b = true ↔ ∃ e ∈ L, nm k x e = true)) ∧ IsT w' B0 Q M tn (offN k x L) ∧ Ch 2 B0 w w' := by
  by_cases hn : ∃ e ∈ L, nm k x e = true
  · obtain ⟨e, he, hne⟩ := hn
    exact (clear_in k x e w h hl hw he hne).mono fun r w' ⟨h1, h2, h3⟩ => ⟨⟨true, h1, by simp; exact ⟨_, _, _, _, _, he, hne⟩⟩, h2, h3⟩
  · have hno : ∀ e ∈ L, nm k x e = false := fun e he => by
      cases hc : nm k x e
      · rfl
      · exact absurd ⟨e, he, hc⟩ hn
    refine (clear_out k x w h hw hno).mono fun r w' ⟨h1, h2⟩ => ?_
    subst h2
    exact ⟨⟨false, h1, by simp only [Bool.false_eq_true, false_iff]; exact hn⟩, by rw [off_none hno]; exact h, Ch.refl _ _ _⟩
theorem off_len (k : Int) (x : Nat) (L : List It) : (offN k x L).length ≤ L.length := List.length_filter_le _ _
theorem off_no (k : Int) (x : Nat) (L : List It) : ∀ e ∈ offN k x L, nm k x e = false := fun e he => by
  have := (List.mem_filter.1 he).2
  simpa using this

theorem set_world {B0 Q M tn cnt G : Nat} {v : Value} {hp : List It} {D : DataW Unit} {k : Int} {x : Nat} {a : Int} {w1 w2 w3 : World} (h1 : InQ w1 B0 Q M tn v hp) (hm : w1.ownsMap Try.prog 108 RP M cnt D) (hG : G = w1.heap.size)
    (h2 : w2 = w1.alloc (.cells #[.int .i64 k, .int .u32 (x : Int), .int .i64 a, .int .u64 (tn : Int), .int .i64 0] 106)) (h3 : w3 = w2.setCell ⟨Q, 2, none⟩ (.int .u64 ((tn : Int) + 1))) :
    InQ w3 B0 Q M (tn + 1) v hp ∧ w3.ownsMap Try.prog 108 RP M cnt D ∧ w3.heap[G]? = some (.cells (ic (G, k, x, a, tn) 0) 106 (0, 0)) ∧ (∀ y ∈ hp, y.1 ≠ G) ∧ B0 ≤ G ∧ Ch 1 B0 w1 w3 ∧ w2.heap[Q]? = some (.cells #[v, .map (some M), .int .u64 (tn : Int)] 103 (0, 0)) := by
  have hb2 : Below w1.heap.size w1 w2 := by rw [h2]; exact (Below.refl _ _).alloc (Nat.le_refl _) _
  have i2 := h1.after hb2
  have g2 : w2.heap[G]? = some (.cells (ic (G, k, x, a, tn) 0) 106 (0, 0)) := by rw [h2, hG]; exact heap_alloc_new w1 _
  have k3 : ∀ (g : Nat) (cc : Array Value) (TT : Nat), w2.heap[g]? = some (.cells cc TT (0, 0)) → TT ≠ 103 → w3.heap[g]? = some (.cells cc TT (0, 0)) := fun g cc TT hg hT => by rw [h3]; exact (Below.heap_setCell _ _ _ _ (type_ne hg i2.row hT)).trans hg
  have q3 : w3.heap[Q]? = some (.cells #[v, .map (some M), .int .u64 ((tn + 1 : Nat) : Int)] 103 (0, 0)) := by
    rw [h3]
    have := heap_setCell_same w2 Q 2 _ 103 (.int .u64 ((tn : Int) + 1)) i2.row
    simpa using this
  have hB : B0 ≤ w1.heap.size := Nat.le_trans h1.lo (Nat.le_of_lt (lt_of_block h1.row))
  refine ⟨⟨q3, ⟨own_after i2.ln.own fun g hg => ?_, fun i e he => k3 _ _ 106 (i2.ln.its i e he) (by decide), i2.ln.nd, i2.ln.lo⟩, i2.lo⟩, ?_, k3 _ _ 106 g2 (by decide), fun y hy => ?_, by omega, ?_, i2.row⟩
  · obtain ⟨cur, hc⟩ := own_type i2.ln.own hg
    rw [k3 g cur 104 hc (by decide), hc]
  · obtain ⟨es, cl, hmm, r⟩ := hm
    have hm2 := (hb2.block M (lt_of_block hmm)).trans hmm
    refine ⟨es, cl, ?_, r⟩
    rw [h3]
    exact (Below.heap_setCell _ _ _ _ (fun e => by
      have e : M = Q := e
      rw [e, i2.row] at hm2
      cases hm2)).trans hm2
  · obtain ⟨i, hi⟩ := List.getElem?_of_mem hy
    have := lt_of_block (h1.ln.its i y hi)
    omega
  · refine (Ch.of_below hB hb2).trans ?_
    rw [h3]
    exact Ch.setCell i2.row (.inl ⟨rfl, Nat.le_refl _⟩) i2.lo _ _

theorem set_turned {w w1 w3 w4 w2 : World} {B0 Q M tn cnt G : Nat} {v : Value} {hp : List It} {D : DataW Unit} {e : It} (h : InQ w3 B0 Q M (tn + 1) v hp ∧ w3.ownsMap Try.prog 108 RP M cnt D ∧ w3.heap[G]? = some (.cells (ic e 0) 106 (0, 0)) ∧ (∀ y ∈ hp, y.1 ≠ G) ∧ B0 ≤ G ∧ Ch 1 B0 w1 w3 ∧ w2.heap[Q]? = some (.cells #[v, .map (some M), .int .u64 (tn : Int)] 103 (0, 0))) (ht : w3.mapTurned w4 M) (hB : B0 ≤ M) (hc : Ch 2 B0 w w1) :
    InQ w4 B0 Q M (tn + 1) v hp ∧ w4.heap[G]? = some (.cells (ic e 0) 106 (0, 0)) ∧ Ch 2 B0 w w4 := by
  obtain ⟨h1, ⟨es, cl, hm, _⟩, h3, _, _, h6, _⟩ := h
  exact ⟨turned_inq hm ht h1, turned_cells hm ht h3, (hc.trans (h6.up (by omega))).trans (turned_ch hm ht hB)⟩
set_option linter.unusedSimpArgs false in
set_option maxHeartbeats 8000000 in
theorem set_any {B0 Q M tn : Nat} {L : List It} (k : Int) (x : Nat) (a : Int) (w : World) (h : IsT w B0 Q M tn L) (hl : L.length < 900) (ht : tn ≤ 100000) (hw : wfN k x) :
    Calls Try.prog 13 #[.pointer (some ⟨Q, 0, none⟩), .int .i64 k, .int .u32 (x : Int), .int .i64 a] w fun r w' => r = .returned (.tuple #[]) ∧ ∃ G, IsT w' B0 Q M (tn + 1) (offN k x L ++ [(G, k, x, a, tn)]) ∧ Ch 2 B0 w w' := by
  have HCL := Lib.hid (clear_any k x w h (by omega) hw)
  have HKEY := Lib.hid (key108 k x hw.1 hw.2)
  have HW := Lib.hid hw
  have HLL : Hid ((offN k x L).length < 900) := Nat.lt_of_le_of_lt (off_len k x L) hl
  have HNO : Hid (∀ e ∈ offN k x L, nm k x e = false) := off_no k x L
  obtain ⟨L1, hL1⟩ : ∃ L1, L1 = offN k x L := ⟨_, rfl⟩
  rw [← hL1] at HCL HLL HNO ⊢
  clear h hl hw hL1
  go_enter Try.func13, Try.ntmps13
  go_wp2_with fail
  refine HCL.out.mono ?_
  rintro r w1 ⟨⟨b, rfl, _⟩, ⟨v, hp, D, cnt, h1, h2, h3, h4, h5, h6, h7, h8, h9, hA⟩, hC1⟩
  have HC1 := Lib.hid hC1
  obtain ⟨G, hG⟩ : ∃ G, G = w1.heap.size := ⟨_, rfl⟩
  obtain ⟨w2, hw2⟩ : ∃ w2, w2 = w1.alloc (.cells #[.int .i64 k, .int .u32 (x : Int), .int .i64 a, .int .u64 (tn : Int), .int .i64 0] 106) := ⟨_, rfl⟩
  obtain ⟨w3, hw3⟩ : ∃ w3, w3 = w2.setCell ⟨Q, 2, none⟩ (.int .u64 ((tn : Int) + 1)) := ⟨_, rfl⟩
  have HSW := Lib.hid (set_world (k := k) (x := x) (a := a) h1 h4 hG hw2 hw3)
  have HH := Lib.hid h2
  have HP := Lib.hid h3
  have HR := Lib.hid (And.intro h5 (And.intro h6 (And.intro h7 (And.intro h8 (And.intro h9 hA)))))
  have HMP := Lib.hid h4
  have hln : hp.length < 900 := by rw [h3.length_eq]; exact HLL.out
  have HLN := Lib.hid hln
  obtain ⟨A, c, rfl⟩ := own_form h1.ln.own
  obtain ⟨n, hn⟩ : ∃ n, n = hp.length := ⟨_, rfl⟩
  have hrow := h1.row
  rw [← hn] at hrow
  have q2 := cell_of_row w1 Q 2 _ _ _ hrow
  simp at q2
  have r2 := cell_of_row w2 Q 2 _ _ _ HSW.out.2.2.2.2.2.2
  have fq2 : ∀ i, w2.frozen? ⟨Q, i, none⟩ = false := fun i => frozen_of_row w2 _ i _ _ HSW.out.2.2.2.2.2.2
  simp at r2
  have hwr : IntKind.u64.wrap ((tn : Int) + 1) = (tn : Int) + 1 := by rw [IntKind.wrap_u64]; omega
  have H2 := Lib.hid hw2
  have H3 := Lib.hid hw3
  have HG := Lib.hid hG
  have s1 := cell_of_row w3 Q 1 _ _ _ HSW.out.1.row
  simp at s1
  clear h1 h2 h3 h4 h5 h6 h7 h8 h9 hA hC1 hw2 hw3 hln hn hrow
  go_upto_region 3 with (fail)
  rw [← H2.out, ← hG]
  clear hG q2
  go_upto_region 4 with (fail)
  rw [← H3.out]
  clear r2 fq2
  go_wp2_with (at_mapUpdate; refine wpList_mapUpdate_in _ rfl _ _ _ 98 rfl 108 104 K108 Try.underlying98 RP M cnt D rfl HSW.out.2.1 (by have := HR.out.1; unfold maxLen; omega) _ _ _ rfl rfl HKEY.out (pD G) [] rfl ?_; intro w4 hown4 hturn4; have HIT4 : Hid (InQ w4 B0 Q M (tn + 1) (.slice A hp.length c) hp ∧ w4.heap[G]? = some (.cells (ic (G, k, x, a, tn) 0) 106 (0, 0)) ∧ Ch 2 B0 w w4) := set_turned HSW.out hturn4 HR.out.2.1 HC1.out; have HO4 := Lib.hid hown4; clear hown4 hturn4)
  have HPU := Lib.hid (hpush_any (pl := 0) (.slice A hp.length c) hp (G, k, x, a, tn) w4 HIT4.out.1 (by have := HLN.out; omega) HIT4.out.2.1 HSW.out.2.2.2.1 HSW.out.2.2.2.2.1 HH.out)
  refine HPU.out.mono ?_
  rintro r w5 ⟨rfl, v5, hp5, hI5, hp5p, hH5, hC5⟩
  have HFIN : Hid (IsT w5 B0 Q M (tn + 1) (L1 ++ [(G, k, x, a, tn)]) ∧ Ch 2 B0 w w5) := by
    obtain ⟨r5, r6, r7, r8, r9, rA⟩ := HR.out
    refine ⟨⟨v5, hp5, _, cnt + 1, hI5, hH5, hp5p.trans (HP.out.append_right _), map_kept HO4.out hC5 (Nat.le_refl _), by omega, r6, mapl_put HMP.out.isMap K108 k x (G, k, x, a, tn) HW.out r7 HNO.out ⟨rfl, rfl⟩, ?_, ?_, ?_⟩, HIT4.out.2.2.trans (hC5.up (by omega))⟩
    · refine List.pairwise_append.2 ⟨r8, by simp, fun e he y hy hh => ?_⟩
      simp at hy
      subst hy
      have := HNO.out e he
      rw [(nm_iff k x e).2 hh] at this
      cases this
    · intro e he
      rcases List.mem_append.1 he with he | he
      · exact ⟨(r9 e he).1, by have := (r9 e he).2; omega⟩
      · simp at he
        subst he
        exact ⟨HW.out, by simp⟩
    · refine List.pairwise_append.2 ⟨rA, by simp, fun e he y hy => ?_⟩
      simp at hy
      subst hy
      exact (r9 e he).2
  clear hI5 hp5p hH5 hC5
  go_wp2
  first | go_end0 | skip
  exact ⟨rfl, G, HFIN.out⟩

def DuP (B0 Q M tn : Nat) (L : List It) (now : Int) (w : World) (r : Ending) (w' : World) : Prop :=
  ∃ (t : Value) (b : Bool) (L' : List It), r = .returned (.tuple #[t, .bool b]) ∧ ((b = false ∧ t = tV 0 0 0 ∧ L' = L ∧ ∀ e ∈ L, now < e.2.2.2.1) ∨ (b = true ∧ ∃ e ∈ L, (∀ y ∈ L, lt y e = false) ∧ e.2.2.2.1 ≤ now ∧ t = tV e.2.1 e.2.2.1 e.2.2.2.1 ∧ L' = offN e.2.1 e.2.2.1 L)) ∧ IsT w' B0 Q M tn L' ∧ Ch 2 B0 w w'
end Go.Proofs.Ytaoejkbockcneaa
