/- Ready: the ids; in which check one is. -/
import Derived.Test.YtemjmnpclknfaaaQ8
namespace Go.Proofs.Ytemjmnpclknfaaa.P
open Go.RowKit
set_option maxRecDepth 20000
set_option linter.unusedVariables false
set_option linter.unusedSimpArgs false

theorem of_first : ∀ {L : List Pt} {k : Nat} {g : Pt} {p : Nat}, (∀ e ∈ L.take k, p ∉ e.mem) → L[k]? = some g → p ∈ g.mem → ofP L p = g.id
  | [], k, g, p, _, h, _ => by simp at h
  | x :: l, 0, g, p, _, h, hp => by
    obtain rfl : x = g := by simpa using h
    unfold ofP
    rw [List.find?_cons_of_pos (by simpa using hp)]
    rfl
  | x :: l, k + 1, g, p, hn, h, hp => by
    have ih := of_first (L := l) (k := k) (fun e he => hn e (by rw [List.take_succ_cons]; exact List.mem_cons_of_mem _ he)) (by simpa using h) hp
    have hx := hn x (by rw [List.take_succ_cons]; exact List.mem_cons_self ..)
    unfold ofP at ih ⊢
    rw [List.find?_cons_of_neg (by simpa using hx)]
    exact ih
theorem of_no {L : List Pt} {p : Nat} (hn : ∀ e ∈ L, p ∉ e.mem) : ofP L p = 0 := by
  unfold ofP
  rw [List.find?_eq_none.2 (fun e he => by simpa using hn e he)]
  rfl
set_option maxHeartbeats 1000000 in
theorem rids_any (B R : Nat) (most : Int) (vi : Value) (L : List Pt) (w : World) (h : Bk w B R most vi L) (hl : L.length ≤ 100) :
    Calls Try.prog 16 #[bp B] w fun r w' => ∃ A n c, r = .returned (.slice A n c) ∧ w'.ownsRow w.heap.size 26 1 (.slice A n c) n (un (L.map (·.id))) ∧ Below w.heap.size w w' := by
  have c0 := cell_of_row w B 0 _ _ _ h.blk
  simp at c0
  have HI : Hid (Calls Try.prog 43 #[bp R] w fun r w' => ∃ v', r = .returned v' ∧ w'.ownsRow w.heap.size 26 1 v' (L.map (·.id)).length (un (L.map (·.id))) ∧ Below w.heap.size w w') := by
    obtain ⟨vt, ths, h1, _⟩ := h.ex
    exact ids_any R most vi vt _ ths w h1 (by simp; omega)
  obtain ⟨m, hm⟩ : ∃ m, m = (L.map (·.id)).length := ⟨_, rfl⟩
  rw [← hm] at HI
  clear h hm
  go_enter Try.func16, Try.ntmps16
  go_wp2_with fail
  refine HI.out.mono ?_
  rintro r w1 ⟨v', rfl, ho, hb⟩
  obtain ⟨A, c, rfl⟩ := own_form1 ho
  have HO := Lib.hid ho
  clear ho
  go_wp2
  go_ret
  exact ⟨_, _, _, rfl, HO.out, hb⟩
set_option maxHeartbeats 4000000 in
theorem of_any (B R : Nat) (most : Int) (vi : Value) (L : List Pt) (p : Nat) (w : World) (h : Bk w B R most vi L) (hl : L.length ≤ 100) (hm : ∀ e ∈ L, e.mem.length ≤ 100) :
    Calls Try.prog 13 #[bp B, .int .u32 (p : Int)] w fun r w' => r = .returned (.int .u32 (ofP L p : Int)) ∧ Below w.heap.size w w' := by
  have HPA := Lib.hid (rids_any B R most vi L w h hl)
  have HBK := Lib.hid h
  have HM := Lib.hid hm
  have HL := Lib.hid hl
  obtain ⟨z, hz⟩ : ∃ z, z = ofP L p := ⟨_, rfl⟩
  have HZ := Lib.hid hz
  rw [← hz]
  clear h hm hz hl
  go_enter Try.func13, Try.ntmps13
  go_wp2_with fail
  refine HPA.out.mono ?_
  rintro r w1 ⟨A, n, c, rfl, ho, hb1⟩
  obtain ⟨hn, hR⟩ := Rn.of_own ho
  rw [List.length_map] at hn
  have HR := Lib.hid hR
  have HN := Lib.hid hn
  have HB1 := Lib.hid hb1
  have HBr : Hid (Below w1.heap.size w1 w1) := Below.refl _ _
  have hn100 : n ≤ 100 := by rw [hn]; exact HL.out
  clear ho hn hR hb1
  go_wp2_with fail
  go_loopw [12] (fun u wr => ∃ k : Nat, k ≤ n ∧ u = .int .i64 (k : Int) ∧ Hid ((∀ e ∈ L.take k, p ∉ e.mem) ∧ Below w1.heap.size w1 wr)) (fun u _ => n - (intOf u).toNat)
  case atStart => exact ⟨0, by omega, rfl, (by intro e he; simp at he), HBr.out⟩
  case round =>
    obtain ⟨k, hk, rfl, HV⟩ := hrel
    by_cases hlt : k < n
    · obtain ⟨g, hy⟩ : ∃ g, L[k]? = some g := ⟨L[k]'(by rw [← HN.out]; exact hlt), List.getElem?_eq_getElem _⟩
      have hy2 : (L.map (·.id))[k]? = some g.id := by rw [List.getElem?_map, hy]; rfl
      obtain ⟨b1, o1, rfl, hbb, ha1⟩ := HR.out (by rw [List.length_map]; have := HN.out; omega)
      have d0 := (HV.out.2.cell (p := ⟨b1, _, none⟩) hbb).trans (ha1 k _ hy2)
      have HY := Lib.hid hy
      obtain ⟨x, hx⟩ : ∃ x, x = g.id := ⟨_, rfl⟩
      rw [← hx] at d0
      have HC := Lib.hid (at_some B R most vi L x g wr (HBK.out.after (HB1.out.trans (HV.out.2.mono HB1.out.size))) HL.out (by rw [hx]; exact get_at HBK.out.ris hy))
      have HX := Lib.hid hx
      clear ha1 hy hbb hx hy2
      go_wp2_with fail
      refine HC.out.mono ?_
      rintro r w2 ⟨y1, y2, y3, rfl, e3, f1, f2, hb2⟩
      obtain ⟨G, hG⟩ : ∃ G, G = w2.heap.size := ⟨_, rfl⟩
      obtain ⟨w3, hw3⟩ : ∃ w3, w3 = w2.alloc (.cells (mC y1 y2 y3) 86) := ⟨_, rfl⟩
      have hq : w3.heap[G]? = some (.cells (mC y1 y2 y3) 86 (0, 0)) := by rw [hw3, hG]; exact heap_alloc_new w2 _
      have hbt : Below w2.heap.size w2 w3 := by rw [hw3]; exact (Below.refl _ _).alloc (Nat.le_refl _) _
      have HB3 : Hid (Below w1.heap.size w1 w3) := HV.out.2.trans ((hb2.trans (hbt.mono hb2.size)).mono HV.out.2.size)
      have HCC := Lib.hid (contains_any y1.a y1.n y1.c g.mem p w3 f1.1 (f1.after hbt).rn (by have := HM.out g (List.mem_of_getElem? HY.out); have := f1.1; omega))
      obtain ⟨t, ht⟩ : ∃ t, t = decide (p ∈ g.mem) := ⟨_, rfl⟩
      rw [← ht] at HCC
      have HT := Lib.hid ht
      have t0 := cell_of_row w3 G 0 _ _ _ hq
      simp at t0
      have H3 := Lib.hid hw3
      have HGG := Lib.hid hG
      clear hq hbt hw3 hb2 e3 f1 f2 hG ht
      go_upto_region 5 with (fail)
      rw [← H3.out, ← HGG.out]
      clear d0
      go_wp2_with fail
      refine HCC.out.mono ?_
      rintro r w4 ⟨rfl, hb4⟩
      have HB4 : Hid (Below w1.heap.size w1 w4) := HB3.out.trans (hb4.mono HB3.out.size)
      clear hb4 t0
      cases t
      · have HNM : Hid (∀ e ∈ L.take (k + 1), p ∉ e.mem) := by
          intro e he
          rw [List.take_add_one, HY.out] at he
          rcases List.mem_append.1 he with h | h
          · exact HV.out.1 e h
          · simp at h
            subst h
            have := HT.out.symm
            simpa using this
        go_wp2
        go_roundw
        case rel => exact ⟨k + 1, by omega, by go_num, HNM.out, HB4.out⟩
        case measure => simp [intOf] <;> omega
      · have HF : Hid (z = x) := by rw [Hid, HZ.out, HX.out]; exact of_first HV.out.1 HY.out (by have := HT.out.symm; simpa using this)
        go_wp2
        go_ret
        exact ⟨by rw [HF.out]; rfl, HB1.out.trans (HB4.out.mono HB1.out.size)⟩
    · have hkn : k = n := by omega
      subst hkn
      have HF : Hid (z = 0) := by
        rw [Hid, HZ.out]
        refine of_no ?_
        have h := HV.out.1
        rw [List.take_of_length_le (by rw [← HN.out]; omega)] at h
        exact h
      go_wp2
      go_ret
      exact ⟨by rw [HF.out]; rfl, HB1.out.trans (HV.out.2.mono HB1.out.size)⟩
end Go.Proofs.Ytemjmnpclknfaaa.P
