/- Pool: PoolRuns' walk. -/
import Derived.Test.YtddjbkaofodmlaaPJ
namespace Go.Proofs.Ytddjbkaofodmlaa
open Go.RowKit
set_option maxRecDepth 20000
set_option linter.unusedVariables false
set_option linter.unusedSimpArgs false

/-- How things stand in the loop: the pool and the document's pool hold the same instances. -/
def RSt (w0 : World) (P I D n : Nat) (beat : Int) (wr : World) : Prop :=
  ∃ (l : List In) (A : Option Addr) (c : Nat), Po wr w0.heap.size P I beat l ∧ n = l.length ∧ (∀ e ∈ l, Iv e) ∧ wr.heap[D]? = some (.cells (rC A n c beat) 27 (0, 0)) ∧ Rs wr wr.heap.size A l ∧ (0 < l.length → ∀ b o, A = some ⟨b, o, none⟩ → b ≠ I ∧ b ≠ D) ∧ D ≠ I ∧ w0.heap.size ≤ D ∧ Below w0.heap.size w0 wr
theorem Rs.gr {w w' : World} {I : Nat} {A : Option Addr} {l : List In} (h : Rs w w.heap.size A l) (hg : Gr I w w') (hne : 0 < l.length → ∀ b o, A = some ⟨b, o, none⟩ → b ≠ I) : Rs w' w'.heap.size A l := fun hl => by
  obtain ⟨b, o, h1, h2, h3⟩ := h hl
  have hb : w'.heap[b]? = w.heap[b]? := hg.block b h2 (fun e => hne hl b o h1 (by injection e))
  exact ⟨b, o, h1, Nat.lt_of_lt_of_le h2 hg.size, fun i e he => ⟨(World.cell?_of_block (a := ⟨b, _, none⟩) hb).trans (h3 i e he).1, (World.cell?_of_block (a := ⟨b, _, none⟩) hb).trans (h3 i e he).2.1, (World.cell?_of_block (a := ⟨b, _, none⟩) hb).trans (h3 i e he).2.2⟩⟩
theorem iv_set {l : List In} {j : Nat} {e : In} (hI : ∀ e ∈ l, Iv e) (he : Iv e) : ∀ e' ∈ l.set j e, Iv e' := fun e' h => by
  rcases List.mem_or_eq_of_mem_set h with h | rfl
  · exact hI e' h
  · exact he
/-- Both do the same. -/
theorem both_do {B P I : Nat} {beat : Int} {l : List In} (A : Option Addr) (n c x y : Nat) (d now : Int) (hn : n = l.length) (hl : n ≤ 16) (hI : ∀ e ∈ l, Iv e) (hd : 0 ≤ d) (hnow : inI now) :
    ∃ (q1 q2 : Int) (l' : List In), n = l'.length ∧ (∀ e ∈ l', Iv e) ∧
      (∀ W, Po W B P I beat l → Calls Try.prog 9 #[.pointer (some ⟨P, 0, none⟩), .agg #[.int .u8 d, .int .u32 (x : Int), .int .u32 (y : Int), .int .i64 now]] W fun r w' => r = .returned (.tuple #[.int .u32 q1, .int .i64 q2]) ∧ Po w' B P I beat l' ∧ Gr I W w') ∧
      (∀ W, Rs W W.heap.size A l → Calls Try.prog 10 #[rV A n c beat, .int .u8 d, .int .u32 (x : Int), .int .u32 (y : Int), .int .i64 now] W (DPost A n beat (q1, q2) l' W)) := by
  by_cases hx : x = 0 ∨ n < x
  · exact ⟨0, 12, l, hn, hI, fun W hP => (do_miss d hd _ x y now W (.inr ⟨B, P, I, beat, l, rfl, hP, by rw [← hn]; exact hx⟩)).mono fun r w' ⟨e, hb⟩ => ⟨e, hP.after hb, Gr.of_below hb⟩,
      fun W hR => rdo_miss A n c x y beat d now l W hR hl hx⟩
  · obtain ⟨j, rfl⟩ : ∃ j, x = j + 1 := ⟨x - 1, by omega⟩
    obtain ⟨e, hj⟩ : ∃ e, l[j]? = some e := ⟨l[j]'(by omega), List.getElem?_eq_getElem _⟩
    have hIe := hI e (List.mem_of_getElem? hj)
    exact ⟨(stepQ d y now e).1, (stepQ d y now e).2.1, l.set j (stepQ d y now e).2.2, by rw [List.length_set]; exact hn, iv_set hI (iv_step hIe hnow), fun W hP => do_there j e y now W hP hj hIe d hd, fun W hR => rdo_there A n c j y d beat now e l W hn hR hl hj hd⟩

set_option maxHeartbeats 16000000 in
theorem runs_walk (many beat : Int) (u : Option Addr × Nat) (l : List Ac) (w : World) (hmany : inI many) (hbeat : inI beat) (hA : As w w.heap.size u.1 l) (hl : l.length ≤ 9223372036854775807) (hR : ∀ e ∈ l, Ra e) :
    Calls Try.prog 3 #[.int .i64 many, .int .i64 beat, .slice u.1 l.length u.2] w fun r w' => r = .returned (.bool true) ∧ Below w.heap.size w w' := by
  obtain ⟨A, c⟩ := u
  simp only at hA ⊢
  obtain ⟨n, hn⟩ : ∃ n, n = l.length := ⟨_, rfl⟩
  rw [← hn] at hl ⊢
  obtain ⟨N, hN⟩ : ∃ N : Nat, (N : Int) = min (max many 0) 16 := ⟨(min (max many 0) 16).toNat, by omega⟩
  have HA := Lib.hid hA
  have HR := Lib.hid hR
  have HN := Lib.hid hn
  have HNW := Lib.hid (new_any many beat N w hN)
  have HRN : Hid (∀ W, Calls Try.prog 8 #[.int .i64 many, .int .i64 beat] W (RPost N beat (List.replicate N (0, 0, 0)) W)) := fun W => rnew_any many beat N W hN hmany.2
  have HAW : Hid (∀ W, Calls Try.prog 12 #[] W fun r w' => r = .returned (.bool true) ∧ Below W.heap.size W w') := fun W => pawake W
  have HBE := Lib.hid hbeat
  have HN16 : Hid (N ≤ 16) := by simp only [Hid]; omega
  clear hA hR hn hN hmany hbeat
  by_cases h80 : 80 < n
  · go_enter Try.func3, Try.ntmps3
    go_wp2
    go_ret
    exact ⟨rfl, Below.refl _ _⟩
  go_enter Try.func3, Try.ntmps3
  go_wp2_with fail
  refine HNW.out.mono ?_
  rintro r w1 ⟨P, I, rfl, h1, hb1⟩
  have HP1 := Lib.hid h1
  have HB1 := Lib.hid hb1
  clear h1 hb1
  go_wp2_with fail
  refine (HRN.out w1).mono ?_
  rintro r w2 ⟨A2, c2, rfl, hR2, hb2, hg2⟩
  obtain ⟨w3, hw3⟩ : ∃ w3, w3 = w2.alloc (.cells (rC A2 N c2 beat) 27) := ⟨_, rfl⟩
  have hb3 : Below w2.heap.size w2 w3 := by rw [hw3]; exact (Below.refl _ _).alloc (Nat.le_refl _) _
  have hq3 : w3.heap[w2.heap.size]? = some (.cells (rC A2 N c2 beat) 27 (0, 0)) := by rw [hw3]; exact heap_alloc_new w2 _
  have hIlt : I < w1.heap.size := lt_of_block HP1.out.2.2.2.2
  have HS : Hid (RSt w P I w2.heap.size N beat w3) := ⟨List.replicate N (0, 0, 0), A2, c2, (HP1.out.after hb2).after hb3, by simp, fun e he => by
    obtain rfl := List.eq_of_mem_replicate he
    exact ⟨by decide, by decide, fun _ => rfl, by decide⟩, hq3, (hR2.below hb3).mono hb3.size, fun hlen b o e => by
    have h1 := hg2 b o e
    obtain ⟨b', o', e', hlt, -⟩ := hR2 hlen
    rw [e] at e'
    injection e' with e'
    injection e' with e' _ _
    exact ⟨by omega, by omega⟩, by have := hb2.size; omega, Nat.le_trans HB1.out.size hb2.size, HB1.out.trans ((hb2.mono HB1.out.size).trans (hb3.mono (Nat.le_trans HB1.out.size hb2.size)))⟩
  obtain ⟨D, hD⟩ : ∃ D, D = w2.heap.size := ⟨_, rfl⟩
  have H3 := Lib.hid hw3
  have HDD := Lib.hid hD
  rw [← hD] at HS
  have HPI : Hid (w.heap.size ≤ I) := HP1.out.2.1
  clear hb3 hq3 hw3 hR2 hb2 hg2 hIlt hD
  go_upto_region 4 with (fail)
  rw [← H3.out, ← HDD.out]
  go_wp2_with fail
  go_loopw [9] (fun i wr => ∃ k : Nat, k ≤ n ∧ i = .int .i64 (k : Int) ∧ Hid (RSt w P I D N beat wr)) (fun i _ => n - (intOf i).toNat)
  case atStart => exact ⟨0, Nat.zero_le _, rfl, HS.out⟩
  case round =>
    obtain ⟨k, hk, rfl, HM⟩ := hrel
    by_cases hlt : k < n
    · obtain ⟨⟨d, x, y, now⟩, hy⟩ : ∃ e, l[k]? = some e := ⟨l[k]'(by rw [← HN.out]; exact hlt), List.getElem?_eq_getElem _⟩
      obtain ⟨hd, hx, -, hnow⟩ := HR.out _ (List.mem_of_getElem? hy)
      simp only at hd hx hnow
      obtain ⟨b1, o1, rfl, hb1, ha1⟩ := HA.out (by have := HN.out; omega)
      obtain ⟨e0, e1, e2, e3⟩ := ha1 k _ hy
      obtain ⟨L, A3, c3, hP, hLn, hI, hDq, hRs, hne, hDI, hDge, hBw⟩ := HM.out
      obtain ⟨q1, q2, L', hL', hI', hDo, hRdo⟩ := both_do A3 N c3 x y d now hLn HN16.out hI hd hnow
      have d0 := (hBw.cell (p := ⟨b1, _, none⟩) hb1).trans e0
      have d1 := (hBw.cell (p := ⟨b1, _, none⟩) hb1).trans e1
      have d2 := (hBw.cell (p := ⟨b1, _, none⟩) hb1).trans e2
      have d3 := (hBw.cell (p := ⟨b1, _, none⟩) hb1).trans e3
      simp only at d0 d1 d2 d3
      obtain ⟨v1, hv1⟩ : ∃ v1, v1 = wr.alloc (.cells #[.int .u8 d, .int .u32 (x : Int), .int .u32 (y : Int), .int .i64 now] 31) := ⟨_, rfl⟩
      have hbv1 : Below wr.heap.size wr v1 := by rw [hv1]; exact (Below.refl _ _).alloc (Nat.le_refl _) _
      have hqv1 : v1.heap[wr.heap.size]? = some (.cells #[.int .u8 d, .int .u32 (x : Int), .int .u32 (y : Int), .int .i64 now] 31 (0, 0)) := by rw [hv1]; exact heap_alloc_new wr _
      have HCA : Hid (∀ W : World, W.heap[wr.heap.size]? = some (.cells #[.int .u8 d, .int .u32 (x : Int), .int .u32 (y : Int), .int .i64 now] 31 (0, 0)) → W.cell? ⟨wr.heap.size, 0, none⟩ = some (.int .u8 d) ∧ W.cell? ⟨wr.heap.size, 1, none⟩ = some (.int .u32 (x : Int)) ∧ W.cell? ⟨wr.heap.size, 2, none⟩ = some (.int .u32 (y : Int)) ∧ W.cell? ⟨wr.heap.size, 3, none⟩ = some (.int .i64 now)) := fun W e => ⟨cell_of_row W _ 0 _ _ _ e, cell_of_row W _ 1 _ _ _ e, cell_of_row W _ 2 _ _ _ e, cell_of_row W _ 3 _ _ _ e⟩
      have HV1 := Lib.hid hv1
      have HQV1 := Lib.hid hqv1
      have HP1' : Hid (Po v1 w.heap.size P I beat L) := hP.after hbv1
      have HDQ1 : Hid (v1.heap[D]? = some (.cells (rC A3 N c3 beat) 27 (0, 0))) := (hbv1.block _ (lt_of_block hDq)).trans hDq
      have HRS1 : Hid (Rs v1 v1.heap.size A3 L) := (hRs.below hbv1).mono hbv1.size
      have HBW1 : Hid (Below w.heap.size w v1) := hBw.trans (hbv1.mono hBw.size)
      have HIW : Hid (I < wr.heap.size) := lt_of_block hP.2.2.2.2
      have HDW : Hid (D < wr.heap.size) := lt_of_block hDq
      have HNE : Hid (∀ hh : 0 < L.length, ∀ b o, A3 = some ⟨b, o, none⟩ → b ≠ I ∧ b ≠ D) := hne
      have HDI := Lib.hid hDI
      have HDGE := Lib.hid hDge
      have HDO := Lib.hid (hDo v1 HP1'.out)
      have HRDO := Lib.hid hRdo
      have HL' := Lib.hid hL'
      have HLN := Lib.hid hLn
      have HI' := Lib.hid hI'
      have HNOW := Lib.hid hnow
      clear hy ha1 hb1 e0 e1 e2 e3 hP hLn hI hDq hRs hne hDI hDge hBw hL' hI' hDo hRdo hv1 hbv1 hqv1 hnow hd hx
      go_upto_region 10 with (fail)
      rw [← HV1.out]
      obtain ⟨t0, t1, t2, t3⟩ := HCA.out v1 HQV1.out
      clear d0 d1 d2 d3
      go_wp2_with fail
      refine HDO.out.mono ?_
      rintro r v2 ⟨rfl, hP2, hg2⟩
      have HP2 := Lib.hid hP2
      have HQA2 : Hid (v2.heap[wr.heap.size]? = some (.cells #[.int .u8 d, .int .u32 (x : Int), .int .u32 (y : Int), .int .i64 now] 31 (0, 0))) := hg2.keep HQV1.out (by have := HIW.out; omega)
      have HDQ2 : Hid (v2.heap[D]? = some (.cells (rC A3 N c3 beat) 27 (0, 0))) := hg2.keep HDQ1.out HDI.out
      have HRS2 : Hid (Rs v2 v2.heap.size A3 L) := HRS1.out.gr hg2 (fun hh b o e => (HNE.out hh b o e).1)
      have HBW2 : Hid (Below w.heap.size w v2) := HBW1.out.trans (hg2.below HPI.out HBW1.out.size)
      have HSZ2 : Hid (D < v2.heap.size ∧ I < v2.heap.size) := ⟨lt_of_block HDQ2.out, lt_of_block hP2.2.2.2.2⟩
      clear hP2 hg2 t0 t1 t2 t3
      obtain ⟨t0, t1, t2, t3⟩ := HCA.out v2 HQA2.out
      have p0 := cell_of_row v2 D 0 _ _ _ HDQ2.out
      have p1 := cell_of_row v2 D 1 _ _ _ HDQ2.out
      simp at p0 p1
      go_wp2_with fail
      refine (HRDO.out v2 HRS2.out).mono ?_
      rintro r v3 ⟨A4, c4, rfl, hR4, hb4, hor4⟩
      obtain ⟨v4, hv4⟩ : ∃ v4, v4 = v3.alloc (.cells (rC A4 N c4 beat) 27) := ⟨_, rfl⟩
      have hq4 : v4.heap[v3.heap.size]? = some (.cells (rC A4 N c4 beat) 27 (0, 0)) := by rw [hv4]; exact heap_alloc_new v3 _
      have hb5 : Below v3.heap.size v3 v4 := by rw [hv4]; exact (Below.refl _ _).alloc (Nat.le_refl _) _
      have hb24 : Below v2.heap.size v2 v4 := hb4.trans (hb5.mono hb4.size)
      have HR4 : Hid (Rs v4 v4.heap.size A4 L') := (hR4.below hb5).mono hb5.size
      have HP4 : Hid (Po v4 w.heap.size P I beat L') := HP2.out.after hb24
      have HDQ4 : Hid (v4.heap[D]? = some (.cells (rC A3 N c3 beat) 27 (0, 0))) := (hb24.block _ HSZ2.out.1).trans HDQ2.out
      have HQA4 : Hid (v4.heap[wr.heap.size]? = some (.cells #[.int .u8 d, .int .u32 (x : Int), .int .u32 (y : Int), .int .i64 now] 31 (0, 0))) := (hb24.block _ (lt_of_block HQA2.out)).trans HQA2.out
      have HBW4 : Hid (Below w.heap.size w v4) := HBW2.out.trans (hb24.mono HBW2.out.size)
      have HNE4 : Hid (∀ hh : 0 < L'.length, ∀ b o, A4 = some ⟨b, o, none⟩ → b ≠ I ∧ b ≠ D) := fun hh b o e => by
        rcases hor4 with rfl | h4
        · exact HNE.out (by rw [← HLN.out, HL'.out]; exact hh) b o e
        · have := h4 b o e
          have := HSZ2.out
          exact ⟨by omega, by omega⟩
      have HQ4 := Lib.hid hq4
      have H4 := Lib.hid hv4
      have HLK := Lib.hid (like_any A4 N c4 now v4 HP4.out HL'.out HR4.out (fun e he => (HI'.out e he).2.2.2) HBE.out HNOW.out)
      clear hR4 hb4 hor4 hv4 hq4 hb5 hb24 t0 t1 t2 t3 p0 p1
      obtain ⟨t0, t1, t2, t3⟩ := HCA.out v4 HQA4.out
      have p0 := cell_of_row v4 v3.heap.size 0 _ _ _ HQ4.out
      have p1 := cell_of_row v4 v3.heap.size 1 _ _ _ HQ4.out
      simp at p0 p1
      go_upto_region 12 with (fail)
      rw [← H4.out]
      go_wp2_with fail
      refine HLK.out.mono ?_
      rintro r v5 ⟨rfl, hb5⟩
      have HQ5 := Lib.hid ((hb5.block _ (lt_of_block HQ4.out)).trans HQ4.out)
      have HDQ5 := Lib.hid ((hb5.block _ (lt_of_block HDQ4.out)).trans HDQ4.out)
      have HP5 : Hid (Po v5 w.heap.size P I beat L') := HP4.out.after hb5
      have HR5 : Hid (Rs v5 v5.heap.size A4 L') := (HR4.out.below hb5).mono hb5.size
      have HBW5 : Hid (Below w.heap.size w v5) := HBW4.out.trans (hb5.mono HBW4.out.size)
      clear hb5 t0 t1 t2 t3 p0 p1
      have p0 := cell_of_row v5 v3.heap.size 0 _ _ _ HQ5.out
      have p1 := cell_of_row v5 v3.heap.size 1 _ _ _ HQ5.out
      have s0 := cell_of_row v5 D 0 _ _ _ HDQ5.out
      have s1 := cell_of_row v5 D 1 _ _ _ HDQ5.out
      simp at p0 p1 s0 s1
      have sf : ∀ i, v5.frozen? ⟨D, i, none⟩ = false := fun i => frozen_of_row v5 D i _ _ HDQ5.out
      have HFIN : Hid (RSt w P I D N beat ((v5.setCell ⟨D, 0, none⟩ (.slice A4 N c4)).setCell ⟨D, 1, none⟩ (.int .i64 beat))) := by
        have hPD : P ≠ D := fun e => by
          have h1 := HP5.out.2.2.2.1
          rw [e, HDQ5.out] at h1
          injection h1 with h1
          injection h1 with _ h1 _
          exact absurd h1 (by decide)
        have hk1 : ∀ k, k ≠ D → ((v5.setCell ⟨D, 0, none⟩ (.slice A4 N c4)).setCell ⟨D, 1, none⟩ (.int .i64 beat)).heap[k]? = v5.heap[k]? := fun k hk => (Below.heap_setCell _ _ _ _ hk).trans (Below.heap_setCell _ _ _ _ hk)
        refine ⟨L', A4, c4, ⟨HP5.out.1, HP5.out.2.1, HP5.out.2.2.1, (hk1 P hPD).trans HP5.out.2.2.2.1, (hk1 I (fun e => HDI.out e.symm)).trans HP5.out.2.2.2.2⟩, HL'.out, HI'.out, ?_, ?_, HNE4.out, HDI.out, HDGE.out, (HBW5.out.setCell HDGE.out _).setCell HDGE.out _⟩
        · have s2 := heap_setCell_same v5 D 0 _ 27 (.slice A4 N c4) HDQ5.out
          have s3 := heap_setCell_same _ D 1 _ 27 (.int .i64 beat) s2
          exact s3
        · intro hh
          obtain ⟨b, o, e1, e2, e3⟩ := HR5.out hh
          have hbD := (HNE4.out hh b o e1).2
          have hbk := hk1 b hbD
          exact ⟨b, o, e1, by rw [World.size_setCell, World.size_setCell]; exact e2, fun i e he => ⟨(World.cell?_of_block (a := ⟨b, _, none⟩) hbk).trans (e3 i e he).1, (World.cell?_of_block (a := ⟨b, _, none⟩) hbk).trans (e3 i e he).2.1, (World.cell?_of_block (a := ⟨b, _, none⟩) hbk).trans (e3 i e he).2.2⟩⟩
      go_wp2_with fail
      go_roundw
      case rel => exact ⟨k + 1, by omega, by go_num, HFIN.out⟩
      case measure => simp [intOf] <;> omega
    · have hkn : k = n := by omega
      subst hkn
      have HBF : Hid (Below w.heap.size w wr) := by
        obtain ⟨_, _, _, _, _, _, _, _, _, _, _, h⟩ := HM.out
        exact h
      go_wp2_with fail
      refine (HAW.out wr).mono ?_
      rintro r w9 ⟨rfl, hb⟩
      have HB9 := Lib.hid (HBF.out.trans (hb.mono HBF.out.size))
      clear hb
      go_wp2
      go_ret
      exact ⟨rfl, HB9.out⟩
end Go.Proofs.Ytddjbkaofodmlaa
