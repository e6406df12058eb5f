/- Party: in which party one is; all; over; a party told. -/
import Derived.Test.YtjlpmdokmfmdiaaQ5
namespace Go.Proofs.Ytjlpmdokmfmdiaa.P
open Go.RowKit
set_option maxRecDepth 20000
set_option linter.unusedVariables false
set_option linter.unusedSimpArgs false

theorem of_first : ∀ {L : List Pt} {k : Nat} {g : Pt} {p : Nat}, (∀ e ∈ L.take k, p ∉ e.mem) → L[k]? = some g → p ∈ g.mem → ofP L p = g.id
  | [], k, g, p, _, h, _ => by simp at h
  | x :: l, 0, g, p, _, h, hp => by
    obtain rfl : x = g := by simpa using h
    unfold ofP
    rw [List.find?_cons_of_pos (by simpa using hp)]
    rfl
  | x :: l, k + 1, g, p, hn, h, hp => by
    have ih := of_first (L := l) (k := k) (fun e he => hn e (by rw [List.take_succ_cons]; exact List.mem_cons_of_mem _ he)) (by simpa using h) hp
    have hx := hn x (by rw [List.take_succ_cons]; exact List.mem_cons_self ..)
    unfold ofP at ih ⊢
    rw [List.find?_cons_of_neg (by simpa using hx)]
    exact ih
theorem of_no {L : List Pt} {p : Nat} (hn : ∀ e ∈ L, p ∉ e.mem) : ofP L p = 0 := by
  unfold ofP
  rw [List.find?_eq_none.2 (fun e he => by simpa using hn e he)]
  rfl
set_option maxHeartbeats 1000000 in
theorem parties_any (B R : Nat) (most : Int) (vi : Value) (L : List Pt) (w : World) (h : Bk w B R most vi L) (hl : L.length ≤ 100) :
    Calls Try.prog 19 #[bp B] w fun r w' => ∃ A n c, r = .returned (.slice A n c) ∧ w'.ownsRow w.heap.size 26 1 (.slice A n c) n (un (L.map (·.id))) ∧ Below w.heap.size w w' := by
  have c0 := cell_of_row w B 0 _ _ _ h.blk
  simp at c0
  have HI : Hid (Calls Try.prog 68 #[bp R] w fun r w' => ∃ v', r = .returned v' ∧ w'.ownsRow w.heap.size 26 1 v' (L.map (·.id)).length (un (L.map (·.id))) ∧ Below w.heap.size w w') := by
    obtain ⟨vt, ths, h1, _⟩ := h.ex
    exact ids_any R most vi vt _ ths w h1 (by simp; omega)
  obtain ⟨m, hm⟩ : ∃ m, m = (L.map (·.id)).length := ⟨_, rfl⟩
  rw [← hm] at HI
  clear h hm
  go_enter Try.func19, Try.ntmps19
  go_wp2_with fail
  refine HI.out.mono ?_
  rintro r w1 ⟨v', rfl, ho, hb⟩
  obtain ⟨A, c, rfl⟩ := own_form1 ho
  have HO := Lib.hid ho
  clear ho
  go_wp2
  go_ret
  exact ⟨_, _, _, rfl, HO.out, hb⟩
/-- The closure of Of. -/
theorem f63_any (B R : Nat) (most : Int) (vi : Value) (L : List Pt) (x p K1 K2 : Nat) (g : Pt) (w : World) (h : Bk w B R most vi L) (hl : L.length ≤ 100) (hg : getP L x = some g) (hm : g.mem.length ≤ 100)
    (k1 : w.cell? ⟨K1, 0, none⟩ = some (bp B)) (k2 : w.cell? ⟨K2, 0, none⟩ = some (.int .u32 (p : Int))) (hk2 : K2 < w.heap.size) :
    Calls Try.prog 63 #[.int .u32 (x : Int), bp K1, bp K2] w fun r w' => r = .returned (.bool (decide (p ∈ g.mem))) ∧ Below w.heap.size w w' := by
  have c0 := cell_of_row w B 0 _ _ _ h.blk
  simp at c0
  have HG := Lib.hid (rget_some B R most vi L x g w h hl hg)
  have HK2 : Hid (∀ W, Below w.heap.size w W → W.cell? ⟨K2, 0, none⟩ = some (.int .u32 (p : Int))) := fun W hW => (hW.cell (p := ⟨K2, 0, none⟩) hk2).trans k2
  have HM := Lib.hid hm
  obtain ⟨t, ht⟩ : ∃ t, t = decide (p ∈ g.mem) := ⟨_, rfl⟩
  have HT0 := Lib.hid ht
  rw [← ht]
  clear h k2 hg hm ht
  go_enter Try.func63, Try.ntmps63
  go_wp2_with fail
  refine HG.out.mono ?_
  rintro r w1 ⟨y1, y2, y3, rfl, e1, f2, f3, hb⟩
  obtain ⟨G, hG⟩ : ∃ G, G = w1.heap.size := ⟨_, rfl⟩
  obtain ⟨w3, hw3⟩ : ∃ w3, w3 = w1.alloc (.cells #[.int .u32 (y1 : Int), .slice y2.a y2.n y2.c, .slice y3.a y3.n y3.c] 112) := ⟨_, rfl⟩
  have hq : w3.heap[G]? = some (.cells #[.int .u32 (y1 : Int), .slice y2.a y2.n y2.c, .slice y3.a y3.n y3.c] 112 (0, 0)) := by rw [hw3, hG]; exact heap_alloc_new w1 _
  have hbt : Below w1.heap.size w1 w3 := by rw [hw3]; exact (Below.refl _ _).alloc (Nat.le_refl _) _
  have HB3 : Hid (Below w.heap.size w w3) := hb.trans (hbt.mono hb.size)
  have HC := Lib.hid (contains_any y2.a y2.n y2.c g.mem p w3 f2.1 (f2.after hbt).rn (by have := HM.out; have := f2.1; omega))
  rw [← HT0.out] at HC
  have t1 := cell_of_row w3 G 1 _ _ _ hq
  simp at t1
  have t2 := HK2.out w3 HB3.out
  have H3 := Lib.hid hw3
  have HGG := Lib.hid hG
  clear hq hbt hw3 hb e1 f2 f3 hG
  go_upto_region 2 with (fail)
  rw [← H3.out, ← HGG.out]
  go_wp2_with fail
  refine HC.out.mono ?_
  rintro r w4 ⟨rfl, hb⟩
  have HB4 : Hid (Below w.heap.size w w4) := HB3.out.trans (hb.mono HB3.out.size)
  clear hb
  go_wp2
  go_ret
  exact ⟨rfl, HB4.out⟩
def IdxP (L : List Pt) (p : Nat) (w : World) (r : Ending) (w' : World) : Prop := (∃ i : Int, r = .returned (.int .i64 i) ∧ ((i = -1 ∧ ofP L p = 0) ∨ ∃ (k : Nat) (g : Pt), i = (k : Int) ∧ L[k]? = some g ∧ ofP L p = g.id)) ∧ Below w.heap.size w w'
set_option maxHeartbeats 4000000 in
theorem idxf_any (B R : Nat) (most : Int) (vi : Value) (L : List Pt) (p K1 K2 : Nat) (A : Option Addr) (n c : Nat) (w : World) (h : Bk w B R most vi L) (hl : L.length ≤ 100) (hm : ∀ e ∈ L, e.mem.length ≤ 100)
    (k1 : w.cell? ⟨K1, 0, none⟩ = some (bp B)) (k2 : w.cell? ⟨K2, 0, none⟩ = some (.int .u32 (p : Int))) (hk1 : K1 < w.heap.size) (hk2 : K2 < w.heap.size) (hn : n = L.length) (hR : Rn w A (L.map (·.id))) :
    Calls Try.prog 62 #[.slice A n c, .func (.func 63) #[] #[bp K1, bp K2]] w fun r w' => IdxP L p w r w' := by
  have HBK := Lib.hid h
  have HK : Hid (∀ W, Below w.heap.size w W → W.cell? ⟨K1, 0, none⟩ = some (bp B) ∧ W.cell? ⟨K2, 0, none⟩ = some (.int .u32 (p : Int)) ∧ K2 < W.heap.size) := fun W hW => ⟨(hW.cell (p := ⟨K1, 0, none⟩) hk1).trans k1, (hW.cell (p := ⟨K2, 0, none⟩) hk2).trans k2, Nat.lt_of_lt_of_le hk2 hW.size⟩
  have HM := Lib.hid hm
  have HN := Lib.hid hn
  have HR := Lib.hid hR
  have HBr : Hid (Below w.heap.size w w) := Below.refl _ _
  have HL := Lib.hid hl
  clear h k1 k2 hm hR hn
  have hl2 : n ≤ 100 := by have := HN.out; omega
  clear hl
  go_enter Try.func62, Try.ntmps62
  go_wp2_with fail
  go_loopw [8] (fun u wr => ∃ k : Nat, k ≤ n ∧ u = .int .i64 (k : Int) ∧ Hid ((∀ e ∈ L.take k, p ∉ e.mem) ∧ Below w.heap.size w wr)) (fun u _ => n - (intOf u).toNat)
  case atStart => exact ⟨0, by omega, rfl, (by intro e he; simp at he), HBr.out⟩
  case round =>
    obtain ⟨k, hk, rfl, HV⟩ := hrel
    by_cases hlt : k < n
    · obtain ⟨g, hy⟩ : ∃ g, L[k]? = some g := ⟨L[k]'(by rw [← HN.out]; exact hlt), List.getElem?_eq_getElem _⟩
      have hy2 : (L.map (·.id))[k]? = some g.id := by rw [List.getElem?_map, hy]; rfl
      obtain ⟨b1, o1, rfl, hb1, ha1⟩ := HR.out (by rw [List.length_map]; have := HN.out; omega)
      have d0 := (HV.out.2.cell (p := ⟨b1, _, none⟩) hb1).trans (ha1 k _ hy2)
      obtain ⟨q1, q2, q3⟩ := HK.out wr HV.out.2
      have HY := Lib.hid hy
      obtain ⟨x, hx⟩ : ∃ x, x = g.id := ⟨_, rfl⟩
      rw [← hx] at d0
      have HC := Lib.hid (f63_any B R most vi L x p K1 K2 g wr (HBK.out.after HV.out.2) HL.out (by rw [hx]; exact get_at HBK.out.ris hy) (HM.out g (List.mem_of_getElem? hy)) q1 q2 q3)
      have HX := Lib.hid hx
      obtain ⟨t, ht⟩ : ∃ t, t = decide (p ∈ g.mem) := ⟨_, rfl⟩
      rw [← ht] at HC
      have HT := Lib.hid ht
      clear ha1 hy hb1 q1 q2 q3 hx ht hy2
      go_wp2_with fail
      refine (HC.out).mono ?_
      rintro r w1 ⟨rfl, hb⟩
      have HB1 : Hid (Below w.heap.size w w1) := HV.out.2.trans (hb.mono HV.out.2.size)
      clear hb
      cases t
      · have HNM : Hid (∀ e ∈ L.take (k + 1), p ∉ e.mem) := by
          intro e he
          rw [List.take_add_one, HY.out] at he
          rcases List.mem_append.1 he with h | h
          · exact HV.out.1 e h
          · simp at h
            subst h
            have := HT.out.symm
            simpa using this
        go_wp2
        go_roundw
        case rel => exact ⟨k + 1, by omega, by go_num, HNM.out, HB1.out⟩
        case measure => simp [intOf] <;> omega
      · have HF : Hid (ofP L p = g.id) := of_first HV.out.1 HY.out (by have := HT.out.symm; simpa using this)
        go_wp2
        go_ret
        exact ⟨⟨(k : Int), rfl, .inr ⟨k, g, rfl, HY.out, HF.out⟩⟩, HB1.out⟩
    · have hkn : k = n := by omega
      subst hkn
      have HF : Hid (ofP L p = 0) := of_no (by
        have h := HV.out.1
        rw [List.take_of_length_le (by rw [← HN.out]; omega)] at h
        exact h)
      go_wp2
      go_ret
      exact ⟨⟨-1, rfl, .inl ⟨rfl, HF.out⟩⟩, HV.out.2⟩
set_option maxHeartbeats 4000000 in
theorem of_any (B R : Nat) (most : Int) (vi : Value) (L : List Pt) (p : Nat) (w : World) (h : Bk w B R most vi L) (hl : L.length ≤ 100) (hm : ∀ e ∈ L, e.mem.length ≤ 100) :
    Calls Try.prog 15 #[bp B, .int .u32 (p : Int)] w fun r w' => r = .returned (.int .u32 (ofP L p : Int)) ∧ Below w.heap.size w w' := by
  obtain ⟨K, hK⟩ : ∃ K, K = w.heap.size := ⟨_, rfl⟩
  obtain ⟨w0, hw0⟩ : ∃ w0, w0 = (w.alloc (.cells #[bp B] 23)).alloc (.cells #[.int .u32 (p : Int)] 26) := ⟨_, rfl⟩
  have hb0 : Below w.heap.size w w0 := by rw [hw0]; exact ((Below.refl _ _).alloc (Nat.le_refl _) _).alloc (by simp) _
  have hq0 : w0.heap[K]? = some (.cells #[bp B] 23 (0, 0)) := by rw [hw0, hK]; exact (Below.heap_alloc _ _ _ (by simp)).trans (heap_alloc_new w _)
  have hq1 : w0.heap[K + 1]? = some (.cells #[.int .u32 (p : Int)] 26 (0, 0)) := by
    have := heap_alloc_new (w.alloc (.cells #[bp B] 23)) (.cells #[.int .u32 (p : Int)] 26)
    rw [World.size_alloc] at this
    rw [hw0, hK]; exact this
  have hbk := h.after hb0
  have HPA := Lib.hid (parties_any B R most vi L w0 hbk hl)
  have c0 := cell_of_row w0 K 0 _ _ _ hq0
  simp at c0
  have HBK := Lib.hid hbk
  have HQ : Hid (w0.heap[K]? = some (.cells #[bp B] 23 (0, 0)) ∧ w0.heap[K + 1]? = some (.cells #[.int .u32 (p : Int)] 26 (0, 0))) := ⟨hq0, hq1⟩
  have HB0 := Lib.hid hb0
  have H0 := Lib.hid hw0
  have HKK := Lib.hid hK
  have HM := Lib.hid hm
  have HL := Lib.hid hl
  obtain ⟨z, hz⟩ : ∃ z, z = ofP L p := ⟨_, rfl⟩
  have HZ := Lib.hid hz
  rw [← hz]
  clear h hbk hq0 hq1 hb0 hw0 hK hm hz hl
  go_enter Try.func15, Try.ntmps15
  go_upto_region 1 with (fail)
  rw [← HKK.out, ← H0.out]
  go_wp2_with fail
  refine HPA.out.mono ?_
  rintro r w1 ⟨A1, n, c1, rfl, ho, hb⟩
  obtain ⟨hn, hr⟩ := Rn.of_own ho
  rw [List.length_map] at hn
  have e1 := lt_of_block HQ.out.1
  have e2 := lt_of_block HQ.out.2
  have hs := hb.size
  have HIX := Lib.hid (idxf_any B R most vi L p K (K + 1) A1 n c1 w1 (HBK.out.after hb) HL.out HM.out (cell_of_row w1 K 0 _ _ _ ((hb.block _ e1).trans HQ.out.1)) (cell_of_row w1 (K + 1) 0 _ _ _ ((hb.block _ e2).trans HQ.out.2)) (by omega) (by omega) hn hr)
  have HRN := Lib.hid hr
  have HNN := Lib.hid hn
  have HB1 : Hid (Below w.heap.size w w1) := HB0.out.trans (hb.mono HB0.out.size)
  have hl2 : n ≤ 100 := by have := HL.out; omega
  clear ho hb hr hn e1 e2 hs
  go_wp2_with fail
  refine HIX.out.mono ?_
  rintro r w2 ⟨⟨i, rfl, hi⟩, hb2⟩
  have HB2 : Hid (Below w.heap.size w w2) := HB1.out.trans (hb2.mono HB1.out.size)
  rcases hi with ⟨rfl, h0⟩ | ⟨k, g, rfl, hk, h0⟩
  · have e : z = 0 := by rw [HZ.out, h0]
    subst e
    clear hb2 h0
    go_wp2
    go_ret
    exact ⟨rfl, HB2.out⟩
  · have e : z = g.id := by rw [HZ.out, h0]
    have hkl := (List.getElem?_eq_some_iff.1 hk).1
    have hkn : k < n := by have := HNN.out; omega
    obtain ⟨b1, o1, rfl, hb1, ha1⟩ := HRN.out (by rw [List.length_map]; omega)
    have d0 := (hb2.cell (p := ⟨b1, _, none⟩) hb1).trans (ha1 k z (by rw [List.getElem?_map, hk, e]; rfl))
    clear hb2 h0 e hkl hb1 ha1 hk
    go_wp2
    go_ret
    exact ⟨rfl, HB2.out⟩
end Go.Proofs.Ytjlpmdokmfmdiaa.P
