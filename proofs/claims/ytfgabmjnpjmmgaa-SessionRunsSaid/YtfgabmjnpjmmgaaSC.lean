/- Session: Touch, Login, Same. -/
import Derived.Test.YtfgabmjnpjmmgaaSB
namespace Go.Proofs.Ytfgabmjnpjmmgaa
open Go.RowKit
set_option maxRecDepth 20000
set_option linter.unusedVariables false
set_option linter.unusedSimpArgs false

set_option maxHeartbeats 4000000 in
theorem same_eq (v v' : Value) (l : List Nat) (w : World) (hl : l.length ≤ 1000) (h : S32 w v l) (h' : S32 w v' l) :
    Calls Try.prog 35 #[v, v'] w fun r w' => r = .returned (.bool true) ∧ Below w.heap.size w w' := by
  obtain ⟨A, c, rfl, h1⟩ := h
  obtain ⟨B, d, rfl, h2⟩ := h'
  obtain ⟨n, hn⟩ : ∃ n, n = l.length := ⟨_, rfl⟩
  rw [← hn] at h1 h2 hl ⊢
  have H1 := Lib.hid h1
  have H2 := Lib.hid h2
  have HN := Lib.hid hn
  have HBr : Hid (Below w.heap.size w w) := Below.refl _ _
  clear h1 h2 hn
  go_enter Try.func35, Try.ntmps35
  go_wp2_with fail
  go_loopw [5] (fun u wr => ∃ k : Nat, k ≤ n ∧ u = .int .i64 (k : Int) ∧ Hid (Below w.heap.size w wr)) (fun u _ => n - (intOf u).toNat)
  case atStart => exact ⟨0, by omega, rfl, HBr.out⟩
  case round =>
    obtain ⟨k, hk, rfl, HV⟩ := hrel
    by_cases hlt : k < n
    · obtain ⟨b1, o1, rfl, hb1, ha1⟩ := H1.out (by omega)
      obtain ⟨b2, o2, rfl, hb2, ha2⟩ := H2.out (by omega)
      obtain ⟨y, hy⟩ : ∃ y, l[k]? = some y := ⟨l[k]'(by rw [← HN.out]; exact hlt), List.getElem?_eq_getElem _⟩
      have HD : Hid (Below w.heap.size w wr.drew) := HV.out.drew
      have HA1 : Hid (wr.drew.cell? ⟨b1, o1 + k, none⟩ = some (.int .u32 (y : Int))) := (HD.out.cell (p := ⟨b1, _, none⟩) hb1).trans (ha1 k y hy)
      have HA2 : Hid (wr.drew.cell? ⟨b2, o2 + k, none⟩ = some (.int .u32 (y : Int))) := (HD.out.cell (p := ⟨b2, _, none⟩) hb2).trans (ha2 k y hy)
      clear hy ha1 ha2 hb1 hb2
      go_upto_region 6 with (fail)
      have HSr : Hid ((fun W : World => W.cell? ⟨b1, o1 + k, none⟩ = some (.int .u32 (y : Int)) ∧ W.cell? ⟨b2, o2 + k, none⟩ = some (.int .u32 (y : Int))) wr.drew) := ⟨HA1.out, HA2.out⟩
      refine wp_region_held_drew (S := fun W : World => W.cell? ⟨b1, o1 + k, none⟩ = some (.int .u32 (y : Int)) ∧ W.cell? ⟨b2, o2 + k, none⟩ = some (.int .u32 (y : Int))) (by kernel_rfl) HSr.out (fun hHeld => ?_)
      obtain ⟨W0, hW0⟩ : ∃ W0, W0 = wr.drew := ⟨_, rfl⟩
      rw [← hW0] at hHeld HD HSr ⊢
      clear hW0
      refine wpAnyH_take (i := 0) (oi := ?oi0a) (v := ?v0a) ?hi0a ?hs0a ?hf0a ?hr0a ?hQ0a ?hy0a ?hS0a ?h0a
      case hi0a => exact (by simp only [List.getElem?_toArray, List.getElem?_cons_zero]; rfl)
      case hs0a => kernel_rfl
      case hf0a => kernel_rfl
      case hr0a => kernel_rfl
      case hQ0a => exact fun _ _ _ h => h
      case hy0a =>
        refine Or.inl ⟨rfl, ?_⟩
        intro W hSw
        obtain ⟨y0, y1⟩ := hSw
        go_simp
        try with_reducible rfl
      case hS0a => assumption
      try simp only [Act.put, List.setIfInBounds_toArray, List.set_cons_zero, List.set_cons_succ]
      refine wpAnyH_take (i := 1) (oi := ?oi1a) (v := ?v1a) ?hi1a ?hs1a ?hf1a ?hr1a ?hQ1a ?hy1a ?hS1a ?h1a
      case hi1a => exact (by simp only [List.getElem?_toArray, List.getElem?_cons_succ, List.getElem?_cons_zero]; rfl)
      case hs1a => kernel_rfl
      case hf1a => kernel_rfl
      case hr1a => kernel_rfl
      case hQ1a => exact fun _ _ _ h => h
      case hy1a =>
        refine Or.inl ⟨rfl, ?_⟩
        intro W hSw
        obtain ⟨y0, y1⟩ := hSw
        go_simp
        try with_reducible rfl
      case hS1a => assumption
      try simp only [Act.put, List.setIfInBounds_toArray, List.set_cons_zero, List.set_cons_succ]
      refine wpAnyH_take (i := 2) (oi := ?oi2a) (v := ?v2a) ?hi2a ?hs2a ?hf2a ?hr2a ?hQ2a ?hy2a ?hS2a ?h2a
      case hi2a => exact (by simp only [List.getElem?_toArray, List.getElem?_cons_succ, List.getElem?_cons_zero]; rfl)
      case hs2a => kernel_rfl
      case hf2a => kernel_rfl
      case hr2a => kernel_rfl
      case hQ2a => exact fun _ _ _ h => h
      case hy2a =>
        refine Or.inl ⟨rfl, ?_⟩
        intro W hSw
        obtain ⟨y0, y1⟩ := hSw
        go_simp
        try with_reducible rfl
      case hS2a => assumption
      try simp only [Act.put, List.setIfInBounds_toArray, List.set_cons_zero, List.set_cons_succ]
      refine wpAnyH_take (i := 3) (oi := ?oi3a) (v := ?v3a) ?hi3a ?hs3a ?hf3a ?hr3a ?hQ3a ?hy3a ?hS3a ?h3a
      case hi3a => exact (by simp only [List.getElem?_toArray, List.getElem?_cons_succ, List.getElem?_cons_zero]; rfl)
      case hs3a => kernel_rfl
      case hf3a => kernel_rfl
      case hr3a => kernel_rfl
      case hQ3a => exact fun _ _ _ h => h
      case hy3a =>
        refine Or.inl ⟨rfl, ?_⟩
        intro W hSw
        obtain ⟨y0, y1⟩ := hSw
        go_simp
        try with_reducible rfl
      case hS3a => assumption
      try simp only [Act.put, List.setIfInBounds_toArray, List.set_cons_zero, List.set_cons_succ]
      refine wpAnyH_take (i := 4) (oi := ?oi4a) (v := ?v4a) ?hi4a ?hs4a ?hf4a ?hr4a ?hQ4a ?hy4a ?hS4a ?h4a
      case hi4a => exact (by simp only [List.getElem?_toArray, List.getElem?_cons_succ, List.getElem?_cons_zero]; rfl)
      case hs4a => kernel_rfl
      case hf4a => kernel_rfl
      case hr4a => kernel_rfl
      case hQ4a => exact fun _ _ _ h => h
      case hy4a =>
        refine Or.inl ⟨rfl, ?_⟩
        intro W hSw
        obtain ⟨y0, y1⟩ := hSw
        go_simp
        try with_reducible rfl
      case hS4a => assumption
      try simp only [Act.put, List.setIfInBounds_toArray, List.set_cons_zero, List.set_cons_succ]
      refine wpAnyH_take (i := 5) (oi := ?oi5a) (v := ?v5a) ?hi5a ?hs5a ?hf5a ?hr5a ?hQ5a ?hy5a ?hS5a ?h5a
      case hi5a => exact (by simp only [List.getElem?_toArray, List.getElem?_cons_succ, List.getElem?_cons_zero]; rfl)
      case hs5a => kernel_rfl
      case hf5a => kernel_rfl
      case hr5a => kernel_rfl
      case hQ5a => exact fun _ _ _ h => h
      case hy5a =>
        refine Or.inl ⟨rfl, ?_⟩
        intro W hSw
        obtain ⟨y0, y1⟩ := hSw
        go_simp
        try with_reducible rfl
      case hS5a => assumption
      try simp only [Act.put, List.setIfInBounds_toArray, List.set_cons_zero, List.set_cons_succ]
      refine wpAnyH_take (i := 6) (oi := ?oi6a) (v := ?v6a) ?hi6a ?hs6a ?hf6a ?hr6a ?hQ6a ?hy6a ?hS6a ?h6a
      case hi6a => exact (by simp only [List.getElem?_toArray, List.getElem?_cons_succ, List.getElem?_cons_zero]; rfl)
      case hs6a => kernel_rfl
      case hf6a => kernel_rfl
      case hr6a => kernel_rfl
      case hQ6a => exact fun _ _ _ h => h
      case hy6a =>
        refine Or.inl ⟨rfl, ?_⟩
        intro W hSw
        obtain ⟨y0, y1⟩ := hSw
        go_simp
        try with_reducible rfl
      case hS6a => assumption
      try simp only [Act.put, List.setIfInBounds_toArray, List.set_cons_zero, List.set_cons_succ]
      refine wpAnyH_take (i := 7) (oi := ?oi7a) (v := ?v7a) ?hi7a ?hs7a ?hf7a ?hr7a ?hQ7a ?hy7a ?hS7a ?h7a
      case hi7a => exact (by simp only [List.getElem?_toArray, List.getElem?_cons_succ, List.getElem?_cons_zero]; rfl)
      case hs7a => kernel_rfl
      case hf7a => kernel_rfl
      case hr7a => kernel_rfl
      case hQ7a => exact fun _ _ _ h => h
      case hy7a =>
        refine Or.inl ⟨rfl, ?_⟩
        intro W hSw
        obtain ⟨y0, y1⟩ := hSw
        go_simp
        try with_reducible rfl
      case hS7a => assumption
      try simp only [Act.put, List.setIfInBounds_toArray, List.set_cons_zero, List.set_cons_succ]
      refine wpAnyH_take (i := 8) (oi := ?oi8a) (v := ?v8a) ?hi8a ?hs8a ?hf8a ?hr8a ?hQ8a ?hy8a ?hS8a ?h8a
      case hi8a => exact (by simp only [List.getElem?_toArray, List.getElem?_cons_succ, List.getElem?_cons_zero]; rfl)
      case hs8a => kernel_rfl
      case hf8a => kernel_rfl
      case hr8a => kernel_rfl
      case hQ8a => exact fun _ _ _ h => h
      case hy8a =>
        refine Or.inl ⟨rfl, ?_⟩
        intro W hSw
        obtain ⟨y0, y1⟩ := hSw
        go_simp
        try with_reducible rfl
      case hS8a => assumption
      try simp only [Act.put, List.setIfInBounds_toArray, List.set_cons_zero, List.set_cons_succ]
      refine wpAnyH_done (by kernel_rfl) ?_ _
      go_wp2
      go_roundw
      case rel => exact ⟨k + 1, by omega, by go_num, HD.out⟩
      case measure => simp [intOf] <;> omega
    · have hkn : k = n := by omega
      subst hkn
      go_wp2
      go_ret
      exact ⟨rfl, HV.out⟩


def LogPost (B T : Nat) (idle most : Int) (ids : List Nat) (ths : List Mk) (x last : Nat) (now pl : Int) (r : Ending) (w' : World) : Prop :=
  r = .returned (.tuple #[.int .u32 (last : Int), .int .i64 0]) ∧ ∃ p, ids[p]? = some x ∧ Tb w' B T idle most ids (ths.set p (now, pl))

set_option maxHeartbeats 4000000 in
theorem login_free (B T : Nat) (idle most : Int) (ids : List Nat) (ths : List Mk) (x pl : Nat) (now : Int) (w : World) (h : Tb w B T idle most ids ths) (hl : ids.length ≤ 1000) (k : Nat) (y1 : Int) (hx : ids[k]? = some x) (hy : ths[k]? = some (y1, 0)) (hpl : 1 ≤ pl ∧ pl ≤ 2147483647) (hB : B ≤ w.heap.size) (hc0 : connQ pl (ids.zip ths) = 0) :
    Calls Try.prog 10 #[.pointer (some ⟨T, 0, none⟩), .int .u32 (x : Int), .int .u32 (pl : Int), .int .i64 now] w fun r w' => LogPost B T idle most ids ths x 0 now pl r w' ∧ Bt B w w' := by
  have hxm := List.mem_of_getElem? hx
  obtain ⟨hlen, hup, hok⟩ := h.facts
  have HA : Hid (Calls Try.prog 29 #[.pointer (some ⟨T, 0, none⟩), .int .u32 (x : Int)] w fun r w' => r = .returned (.tuple #[mV y1 0, .bool true]) ∧ Below w.heap.size w w') :=
    (at_there B T idle most ids ths x w h hl hxm).mono fun r w' ⟨⟨p, z1, z2, hp1, hp2, e⟩, hb⟩ => by
      obtain rfl := up_same hup hp1 hx
      rw [hy] at hp2
      injection hp2 with hp2
      injection hp2 with e1 e2
      subst e1 e2
      exact ⟨e, hb⟩
  have HR : Hid (∀ W, Calls Try.prog 30 #[.int .u32 (pl : Int)] W fun r w' => r = .returned (.bool true) ∧ w' = W) := fun W => by
    have e : decide (1 ≤ pl ∧ pl ≤ 2147483647) = true := by rw [decide_eq_true_iff]; exact hpl
    rw [← e]; exact right_any pl W
  have HT := Lib.hid h
  have HL := Lib.hid hl
  have HB := Lib.hid hB
  have HXK := Lib.hid hx
  have HUP := Lib.hid hup
  have hpl0 : ¬ (pl : Int) = 0 := by omega
  have HCN : Hid (∀ W, Below w.heap.size w W → Calls Try.prog 20 #[.pointer (some ⟨T, 0, none⟩), .int .u32 (pl : Int)] W fun r w' => r = .returned (.int .u32 (0 : Nat)) ∧ Below W.heap.size W w') := fun W hW =>
    (conn_any B T idle most ids ths pl W (h.after hW) hl hpl0).mono fun r w' h => ⟨by rw [h.1, hc0], h.2⟩
  have h0 : (0 : Nat) ∉ ids := fun hm => by have := hok 0 hm; omega
  have HD : Hid (∀ W R vi vt, Below w.heap.size w W → IsR W R most vi vt ids ths → Calls Try.prog 31 #[.pointer (some ⟨R, 0, none⟩), .int .u32 ((0 : Nat) : Int)] W fun r w' => (∃ v9, r = .returned v9) ∧ ∃ vi' vt', ChR R vi vt W w' ∧ IsR w' R most vi' vt' ids ths) := fun W R vi vt _ hI =>
    (drop_none R most vi vt ids ths 0 W hI hl h0).mono fun r w' ⟨e, hb⟩ => ⟨⟨_, e⟩, vi, vt, ChR.of_below (Nat.le_of_lt (lt_of_block hI.row)) hb, hI.after hb⟩
  have HDL : Hid (ids.length ≤ 1000) := hl
  have HDX : Hid (x ∈ ids) := hxm
  clear h0 hc0
  clear h hl hx hy hpl hB hlen hup hok hxm hpl0
  go_enter Try.func10, Try.ntmps10
  go_wp2_with fail
  refine HA.out.mono ?_
  rintro r w1 ⟨rfl, hb1⟩
  obtain ⟨Z, hZ⟩ : ∃ Z, Z = w1.heap.size := ⟨_, rfl⟩
  obtain ⟨w2, hw2⟩ : ∃ w2, w2 = w1.alloc (.cells (mC y1 0) 55) := ⟨_, rfl⟩
  have hb2 : Below w1.heap.size w1 w2 := by rw [hw2]; exact (Below.refl _ _).alloc (Nat.le_refl _) _
  have hq2 : w2.heap[Z]? = some (.cells (mC y1 0) 55 (0, 0)) := by rw [hw2, hZ]; exact heap_alloc_new w1 _
  have HB2 : Hid (Below w.heap.size w w2) := hb1.trans (hb2.mono hb1.size)
  have c1 := cell_of_row w2 Z 1 _ _ _ hq2
  simp at c1
  have H2 := Lib.hid hw2
  have HZZ := Lib.hid hZ
  have HT2 := Lib.hid (HT.out.after HB2.out)
  have hT0 : w2.cell? ⟨T, 0, none⟩ = w2.cell? ⟨T, 0, none⟩ := rfl
  clear hb1 hb2 hq2 hw2 hZ hT0
  go_upto_region 2 with (fail)
  rw [← H2.out, ← HZZ.out]
  go_wp2_with fail
  refine (HR.out w2).mono ?_
  rintro r w' ⟨rfl, rfl⟩
  go_wp2_with fail
  refine (HCN.out w' HB2.out).mono ?_
  rintro r w3 ⟨rfl, hb3⟩
  have HB3 : Hid (Below w.heap.size w w3) := HB2.out.trans (hb3.mono HB2.out.size)
  obtain ⟨hbt, R, vi, vt, hbr, hT3, hI3⟩ := HT.out.after HB3.out
  have r0 := cell_of_row w3 T 0 _ _ _ hT3
  simp at r0
  have HI3 := Lib.hid hI3
  have HT3 := Lib.hid hT3
  have HBT := Lib.hid (And.intro hbt hbr)
  have HDR := HD.out w3 R vi vt HB3.out HI3.out
  clear hb3 c1 hbt hbr hT3 hI3
  go_wp2_with fail
  refine HDR.mono ?_
  rintro r w4 ⟨⟨v9, rfl⟩, hD⟩
  obtain ⟨vi', vt', hC4, hI4⟩ := hD
  have hT4 := tb_turned HT3.out HI3.out hC4
  have q0 := cell_of_row w4 T 0 _ _ _ hT4
  simp at q0
  have HB4 : Hid (Bt B w w4) := (Bt.of_below HB3.out HB.out).trans (chr_bt HI3.out hC4 HBT.out.2)
  have HP := Lib.hid (put_there R most vi' vt' ids ths x now (pl : Int) w4 hI4 (HDL.out) HDX.out)
  have HT4 := Lib.hid hT4
  have HI4 := Lib.hid hI4
  clear hC4 hI4 hT4 r0 HDR
  go_wp2_with fail
  refine HP.out.mono ?_
  rintro r w5 ⟨rfl, hC5, p, hp, hI5⟩
  have HF : Hid (Tb w5 B T idle most ids (ths.set p (now, (pl : Int))) ∧ Bt B w w5) := ⟨⟨HBT.out.1, R, vi', vt', HBT.out.2, tb_turned HT4.out HI4.out hC5, hI5⟩, HB4.out.trans (chr_bt HI4.out hC5 HBT.out.2)⟩
  have HPP := Lib.hid hp
  clear hC5 hI5 hp q0
  go_wp2
  go_ret2
  exact ⟨⟨rfl, p, HPP.out, HF.out.1⟩, HF.out.2⟩

set_option maxHeartbeats 4000000 in
theorem login_move (B T : Nat) (idle most : Int) (ids : List Nat) (ths : List Mk) (x pl last q : Nat) (now : Int) (w : World) (h : Tb w B T idle most ids ths) (hl : ids.length ≤ 1000) (k : Nat) (y1 : Int) (hx : ids[k]? = some x) (hy : ths[k]? = some (y1, 0)) (hpl : 1 ≤ pl ∧ pl ≤ 2147483647) (hB : B ≤ w.heap.size) (hcq : connQ pl (ids.zip ths) = last) (hq : ids[q]? = some last) (hne : ¬ last = x) :
    Calls Try.prog 10 #[.pointer (some ⟨T, 0, none⟩), .int .u32 (x : Int), .int .u32 (pl : Int), .int .i64 now] w fun r w' => LogPost B T idle most (ids.take q ++ ids.drop (q + 1)) (ths.take q ++ ths.drop (q + 1)) x last now pl r w' ∧ Bt B w w' := by
  have hxm := List.mem_of_getElem? hx
  obtain ⟨hlen, hup, hok⟩ := h.facts
  have HA : Hid (Calls Try.prog 29 #[.pointer (some ⟨T, 0, none⟩), .int .u32 (x : Int)] w fun r w' => r = .returned (.tuple #[mV y1 0, .bool true]) ∧ Below w.heap.size w w') :=
    (at_there B T idle most ids ths x w h hl hxm).mono fun r w' ⟨⟨p, z1, z2, hp1, hp2, e⟩, hb⟩ => by
      obtain rfl := up_same hup hp1 hx
      rw [hy] at hp2
      injection hp2 with hp2
      injection hp2 with e1 e2
      subst e1 e2
      exact ⟨e, hb⟩
  have HR : Hid (∀ W, Calls Try.prog 30 #[.int .u32 (pl : Int)] W fun r w' => r = .returned (.bool true) ∧ w' = W) := fun W => by
    have e : decide (1 ≤ pl ∧ pl ≤ 2147483647) = true := by rw [decide_eq_true_iff]; exact hpl
    rw [← e]; exact right_any pl W
  have HT := Lib.hid h
  have HL := Lib.hid hl
  have HB := Lib.hid hB
  have HXK := Lib.hid hx
  have HUP := Lib.hid hup
  have hpl0 : ¬ (pl : Int) = 0 := by omega
  have HCN : Hid (∀ W, Below w.heap.size w W → Calls Try.prog 20 #[.pointer (some ⟨T, 0, none⟩), .int .u32 (pl : Int)] W fun r w' => r = .returned (.int .u32 (last : Nat)) ∧ Below W.heap.size W w') := fun W hW =>
    (conn_any B T idle most ids ths pl W (h.after hW) hl hpl0).mono fun r w' h => ⟨by rw [h.1, hcq], h.2⟩
  have HD : Hid (∀ W R vi vt, Below w.heap.size w W → IsR W R most vi vt ids ths → Calls Try.prog 31 #[.pointer (some ⟨R, 0, none⟩), .int .u32 (last : Int)] W fun r w' => (∃ v9, r = .returned v9) ∧ ∃ vi' vt', ChR R vi vt W w' ∧ IsR w' R most vi' vt' (ids.take q ++ ids.drop (q + 1)) (ths.take q ++ ths.drop (q + 1))) := fun W R vi vt _ hI =>
    (drop_there R most vi vt ids ths last W hI hl (List.mem_of_getElem? hq)).mono fun r w' ⟨p, z1, z2, hp1, _, e, hC, vi', vt', _, _, hI'⟩ => by
      obtain rfl := up_same hup hp1 hq
      exact ⟨⟨_, e⟩, vi', vt', hC, hI'⟩
  have HDL : Hid ((ids.take q ++ ids.drop (q + 1)).length ≤ 1000) := by
    simp only [Hid]
    rw [del_len _ _ (List.getElem?_eq_some_iff.1 hq).1]
    omega
  have HDX : Hid (x ∈ ids.take q ++ ids.drop (q + 1)) := by
    simp only [Hid]
    rw [List.mem_append]
    rcases Nat.lt_trichotomy k q with h1 | h1 | h1
    · exact .inl (List.mem_of_getElem? (by rw [List.getElem?_take, if_pos h1]; exact hx))
    · subst h1
      rw [hx] at hq
      injection hq with hq
      exact absurd hq.symm hne
    · exact .inr (List.mem_of_getElem? (i := k - (q + 1)) (by rw [List.getElem?_drop, show q + 1 + (k - (q + 1)) = k by omega]; exact hx))
  clear hcq hq hne
  clear h hl hx hy hpl hB hlen hup hok hxm hpl0
  go_enter Try.func10, Try.ntmps10
  go_wp2_with fail
  refine HA.out.mono ?_
  rintro r w1 ⟨rfl, hb1⟩
  obtain ⟨Z, hZ⟩ : ∃ Z, Z = w1.heap.size := ⟨_, rfl⟩
  obtain ⟨w2, hw2⟩ : ∃ w2, w2 = w1.alloc (.cells (mC y1 0) 55) := ⟨_, rfl⟩
  have hb2 : Below w1.heap.size w1 w2 := by rw [hw2]; exact (Below.refl _ _).alloc (Nat.le_refl _) _
  have hq2 : w2.heap[Z]? = some (.cells (mC y1 0) 55 (0, 0)) := by rw [hw2, hZ]; exact heap_alloc_new w1 _
  have HB2 : Hid (Below w.heap.size w w2) := hb1.trans (hb2.mono hb1.size)
  have c1 := cell_of_row w2 Z 1 _ _ _ hq2
  simp at c1
  have H2 := Lib.hid hw2
  have HZZ := Lib.hid hZ
  have HT2 := Lib.hid (HT.out.after HB2.out)
  have hT0 : w2.cell? ⟨T, 0, none⟩ = w2.cell? ⟨T, 0, none⟩ := rfl
  clear hb1 hb2 hq2 hw2 hZ hT0
  go_upto_region 2 with (fail)
  rw [← H2.out, ← HZZ.out]
  go_wp2_with fail
  refine (HR.out w2).mono ?_
  rintro r w' ⟨rfl, rfl⟩
  go_wp2_with fail
  refine (HCN.out w' HB2.out).mono ?_
  rintro r w3 ⟨rfl, hb3⟩
  have HB3 : Hid (Below w.heap.size w w3) := HB2.out.trans (hb3.mono HB2.out.size)
  obtain ⟨hbt, R, vi, vt, hbr, hT3, hI3⟩ := HT.out.after HB3.out
  have r0 := cell_of_row w3 T 0 _ _ _ hT3
  simp at r0
  have HI3 := Lib.hid hI3
  have HT3 := Lib.hid hT3
  have HBT := Lib.hid (And.intro hbt hbr)
  have HDR := HD.out w3 R vi vt HB3.out HI3.out
  clear hb3 c1 hbt hbr hT3 hI3
  go_wp2_with fail
  refine HDR.mono ?_
  rintro r w4 ⟨⟨v9, rfl⟩, hD⟩
  obtain ⟨vi', vt', hC4, hI4⟩ := hD
  have hT4 := tb_turned HT3.out HI3.out hC4
  have q0 := cell_of_row w4 T 0 _ _ _ hT4
  simp at q0
  have HB4 : Hid (Bt B w w4) := (Bt.of_below HB3.out HB.out).trans (chr_bt HI3.out hC4 HBT.out.2)
  have HP := Lib.hid (put_there R most vi' vt' (ids.take q ++ ids.drop (q + 1)) (ths.take q ++ ths.drop (q + 1)) x now (pl : Int) w4 hI4 (HDL.out) HDX.out)
  have HT4 := Lib.hid hT4
  have HI4 := Lib.hid hI4
  clear hC4 hI4 hT4 r0 HDR
  go_wp2_with fail
  refine HP.out.mono ?_
  rintro r w5 ⟨rfl, hC5, p, hp, hI5⟩
  have HF : Hid (Tb w5 B T idle most (ids.take q ++ ids.drop (q + 1)) ((ths.take q ++ ths.drop (q + 1)).set p (now, (pl : Int))) ∧ Bt B w w5) := ⟨⟨HBT.out.1, R, vi', vt', HBT.out.2, tb_turned HT4.out HI4.out hC5, hI5⟩, HB4.out.trans (chr_bt HI4.out hC5 HBT.out.2)⟩
  have HPP := Lib.hid hp
  clear hC5 hI5 hp q0
  go_wp2
  go_ret2
  exact ⟨⟨rfl, p, HPP.out, HF.out.1⟩, HF.out.2⟩

set_option maxHeartbeats 4000000 in
theorem touch_there (B T : Nat) (idle most : Int) (ids : List Nat) (ths : List Mk) (x : Nat) (now : Int) (w : World) (h : Tb w B T idle most ids ths) (hl : ids.length ≤ 1000) (k : Nat) (y1 y2 : Int) (hx : ids[k]? = some x) (hy : ths[k]? = some (y1, y2)) (hB : B ≤ w.heap.size) :
    Calls Try.prog 16 #[.pointer (some ⟨T, 0, none⟩), .int .u32 (x : Int), .int .i64 now] w fun r w' => r = .returned (.int .i64 0) ∧ (∃ p, ids[p]? = some x ∧ Tb w' B T idle most ids (ths.set p (now, y2))) ∧ Bt B w w' := by
  have hxm := List.mem_of_getElem? hx
  obtain ⟨hlen, hup, hok⟩ := h.facts
  have HA : Hid (Calls Try.prog 29 #[.pointer (some ⟨T, 0, none⟩), .int .u32 (x : Int)] w fun r w' => r = .returned (.tuple #[mV y1 y2, .bool true]) ∧ Below w.heap.size w w') :=
    (at_there B T idle most ids ths x w h hl hxm).mono fun r w' ⟨⟨p, z1, z2, hp1, hp2, e⟩, hb⟩ => by
      obtain rfl := up_same hup hp1 hx
      rw [hy] at hp2
      injection hp2 with hp2
      injection hp2 with e1 e2
      subst e1 e2
      exact ⟨e, hb⟩
  have HT := Lib.hid h
  have HL := Lib.hid hl
  have HB := Lib.hid hB
  have HXM := Lib.hid hxm
  clear h hl hx hy hB hlen hup hok hxm
  go_enter Try.func16, Try.ntmps16
  go_wp2_with fail
  refine HA.out.mono ?_
  rintro r w1 ⟨rfl, hb1⟩
  obtain ⟨Z, hZ⟩ : ∃ Z, Z = w1.heap.size := ⟨_, rfl⟩
  obtain ⟨w2, hw2⟩ : ∃ w2, w2 = w1.alloc (.cells (mC y1 y2) 55) := ⟨_, rfl⟩
  have hb2 : Below w1.heap.size w1 w2 := by rw [hw2]; exact (Below.refl _ _).alloc (Nat.le_refl _) _
  have hq2 : w2.heap[Z]? = some (.cells (mC y1 y2) 55 (0, 0)) := by rw [hw2, hZ]; exact heap_alloc_new w1 _
  have HB2 : Hid (Below w.heap.size w w2) := hb1.trans (hb2.mono hb1.size)
  obtain ⟨hbt, R, vi, vt, hbr, hT1, hI1⟩ := HT.out.after hb1
  have HOV : Hid (∀ g, vt.ownBlock = some g → g < Z) := fun g hg => by rw [hZ]; exact (ownlt hI1.rto g hg).2
  have HTd : Hid (w2.drew.heap[T]? = some (.cells #[.pointer (some ⟨R, 0, none⟩), .int .i64 idle] 57 (0, 0))) := (hb2.block T (lt_of_block hT1)).trans hT1
  have HZd : Hid (w2.drew.heap[Z]? = some (.cells (mC y1 y2) 55 (0, 0))) := hq2
  have HI2 := Lib.hid (hI1.after hb2)
  have HBT := Lib.hid (And.intro hbt hbr)
  have HCS : Hid (∀ W : World, W.heap[T]? = some (.cells #[.pointer (some ⟨R, 0, none⟩), .int .i64 idle] 57 (0, 0)) → W.heap[Z]? = some (.cells (mC y1 y2) 55 (0, 0)) → (fun W : World => W.cell? ⟨T, 0, none⟩ = some (.pointer (some ⟨R, 0, none⟩)) ∧ W.cell? ⟨Z, 1, none⟩ = some (.int .u32 y2)) W) := fun W a b => ⟨cell_of_row W T 0 _ _ _ a, cell_of_row W Z 1 _ _ _ b⟩
  have HPU : Hid (∀ W, Below w2.heap.size w2 W → Calls Try.prog 32 #[.pointer (some ⟨R, 0, none⟩), .int .u32 (x : Int), mV now y2] W fun r w' => r = .returned (.int .i64 0) ∧ ChR R vi vt W w' ∧ ∃ p, ids[p]? = some x ∧ IsR w' R most vi vt ids (ths.set p (now, y2))) := fun W hW => put_there R most vi vt ids ths x now y2 W (HI2.out.after hW) HL.out HXM.out
  have H2 := Lib.hid hw2
  have HZZ := Lib.hid hZ
  clear hb1 hb2 hq2 hw2 hZ hT1 hI1 hbt hbr
  go_upto_region 4 with (fail)
  rw [← H2.out, ← HZZ.out]
  refine wp_region_held_drew (S := fun W : World => W.cell? ⟨T, 0, none⟩ = some (.pointer (some ⟨R, 0, none⟩)) ∧ W.cell? ⟨Z, 1, none⟩ = some (.int .u32 y2)) (by kernel_rfl) (HCS.out _ HTd.out HZd.out) (fun hHeld => ?_)
  obtain ⟨wd, hwd⟩ : ∃ wd, wd = w2.drew := ⟨_, rfl⟩
  rw [← hwd] at hHeld ⊢
  have HWD := Lib.hid hwd
  clear hwd
  refine wpAnyH_take (i := 0) (oi := ?oi0t) (v := ?v0t) ?hi0t ?hs0t ?hf0t ?hr0t ?hQ0t ?hy0t ?hS0t ?h0t
  case hi0t => exact (by simp only [List.getElem?_toArray, List.getElem?_cons_zero]; rfl)
  case hs0t => kernel_rfl
  case hf0t => kernel_rfl
  case hr0t => kernel_rfl
  case hQ0t => exact fun _ _ _ h => h
  case hy0t =>
    refine Or.inl ⟨rfl, ?_⟩
    intro W hSw
    obtain ⟨e0, e1⟩ := hSw
    go_simp
    try with_reducible rfl
  case hS0t => assumption
  try simp only [Act.put, List.setIfInBounds_toArray, List.set_cons_zero, List.set_cons_succ]
  refine wpAnyH_take (i := 1) (oi := ?oi1t) (v := ?v1t) ?hi1t ?hs1t ?hf1t ?hr1t ?hQ1t ?hy1t ?hS1t ?h1t
  case hi1t => exact (by simp only [List.getElem?_toArray, List.getElem?_cons_succ, List.getElem?_cons_zero]; rfl)
  case hs1t => kernel_rfl
  case hf1t => kernel_rfl
  case hr1t => kernel_rfl
  case hQ1t => exact fun _ _ _ h => h
  case hy1t =>
    refine Or.inl ⟨rfl, ?_⟩
    intro W hSw
    obtain ⟨e0, e1⟩ := hSw
    go_simp
    try with_reducible rfl
  case hS1t => assumption
  try simp only [Act.put, List.setIfInBounds_toArray, List.set_cons_zero, List.set_cons_succ]
  refine wpAnyH_take (i := 2) (oi := ?oi2t) (v := ?v2t) ?hi2t ?hs2t ?hf2t ?hr2t ?hQ2t ?hy2t ?hS2t ?h2t
  case hi2t => exact (by simp only [List.getElem?_toArray, List.getElem?_cons_succ, List.getElem?_cons_zero]; rfl)
  case hs2t => kernel_rfl
  case hf2t => kernel_rfl
  case hr2t => kernel_rfl
  case hQ2t => exact fun _ _ _ h => h
  case hy2t =>
    refine Or.inl ⟨rfl, ?_⟩
    intro W hSw
    obtain ⟨e0, e1⟩ := hSw
    go_simp
    try with_reducible rfl
  case hS2t => assumption
  try simp only [Act.put, List.setIfInBounds_toArray, List.set_cons_zero, List.set_cons_succ]
  refine wpAnyH_take (i := 3) (oi := ?oi3t) (v := ?v3t) ?hi3t ?hs3t ?hf3t ?hr3t ?hQ3t ?hy3t ?hS3t ?h3t
  case hi3t => exact (by simp only [List.getElem?_toArray, List.getElem?_cons_succ, List.getElem?_cons_zero]; rfl)
  case hs3t => kernel_rfl
  case hf3t => kernel_rfl
  case hr3t => kernel_rfl
  case hQ3t => exact fun _ _ _ h => h
  case hy3t =>
    refine Or.inl ⟨rfl, ?_⟩
    intro W hSw
    obtain ⟨e0, e1⟩ := hSw
    go_simp
    try with_reducible rfl
  case hS3t => assumption
  try simp only [Act.put, List.setIfInBounds_toArray, List.set_cons_zero, List.set_cons_succ]
  refine wpAnyH_take (i := 4) (oi := ?oi4t) (v := ?v4t) ?hi4t ?hs4t ?hf4t ?hr4t ?hQ4t ?hy4t ?hS4t ?h4t
  case hi4t => exact (by simp only [List.getElem?_toArray, List.getElem?_cons_succ, List.getElem?_cons_zero]; rfl)
  case hs4t => kernel_rfl
  case hf4t => kernel_rfl
  case hr4t => kernel_rfl
  case hQ4t => exact fun _ _ _ h => h
  case hy4t =>
    refine Or.inl ⟨rfl, ?_⟩
    intro W hSw
    obtain ⟨e0, e1⟩ := hSw
    go_simp
    try with_reducible rfl
  case hS4t => assumption
  try simp only [Act.put, List.setIfInBounds_toArray, List.set_cons_zero, List.set_cons_succ]
  refine wpAnyH_take (i := 5) (oi := ?oi5t) (v := ?v5t) ?hi5t ?hs5t ?hf5t ?hr5t ?hQ5t ?hy5t ?hS5t ?h5t
  case hi5t => exact (by simp only [List.getElem?_toArray, List.getElem?_cons_succ, List.getElem?_cons_zero]; rfl)
  case hs5t => kernel_rfl
  case hf5t => kernel_rfl
  case hr5t => kernel_rfl
  case hQ5t => exact fun _ _ _ h => h
  case hy5t =>
    refine Or.inl ⟨rfl, ?_⟩
    intro W hSw
    obtain ⟨e0, e1⟩ := hSw
    go_simp
    try with_reducible rfl
  case hS5t => assumption
  try simp only [Act.put, List.setIfInBounds_toArray, List.set_cons_zero, List.set_cons_succ]
  refine wpAnyH_take (i := 6) (oi := ?oi6t) (v := ?v6t) ?hi6t ?hs6t ?hf6t ?hr6t ?hQ6t ?hy6t ?hS6t ?h6t
  case hi6t => exact (by simp only [List.getElem?_toArray, List.getElem?_cons_succ, List.getElem?_cons_zero]; rfl)
  case hs6t => kernel_rfl
  case hf6t => kernel_rfl
  case hr6t => kernel_rfl
  case hQ6t => exact fun _ _ _ h => h
  case hy6t =>
    refine Or.inl ⟨rfl, ?_⟩
    intro W hSw
    obtain ⟨e0, e1⟩ := hSw
    go_simp
    try with_reducible rfl
  case hS6t => assumption
  try simp only [Act.put, List.setIfInBounds_toArray, List.set_cons_zero, List.set_cons_succ]
  refine wpAnyH_take (i := 7) (oi := ?oi7t) (v := ?v7t) ?hi7t ?hs7t ?hf7t ?hr7t ?hQ7t ?hy7t ?hS7t ?h7t
  case hi7t => exact (by simp only [List.getElem?_toArray, List.getElem?_cons_succ, List.getElem?_cons_zero]; rfl)
  case hs7t => kernel_rfl
  case hf7t => kernel_rfl
  case hr7t => kernel_rfl
  case hQ7t => exact fun _ _ _ h => h
  case hy7t =>
    refine Or.inl ⟨rfl, ?_⟩
    intro W hSw
    obtain ⟨e0, e1⟩ := hSw
    go_simp
    try with_reducible rfl
  case hS7t => assumption
  try simp only [Act.put, List.setIfInBounds_toArray, List.set_cons_zero, List.set_cons_succ]
  refine wpAnyH_take (i := 8) (oi := ?oi8t) (v := ?v8t) ?hi8t ?hs8t ?hf8t ?hr8t ?hQ8t ?hy8t ?hS8t ?h8t
  case hi8t => exact (by simp only [List.getElem?_toArray, List.getElem?_cons_succ, List.getElem?_cons_zero]; rfl)
  case hs8t => kernel_rfl
  case hf8t => kernel_rfl
  case hr8t => kernel_rfl
  case hQ8t => exact fun _ _ _ h => h
  case hy8t =>
    refine Or.inl ⟨rfl, ?_⟩
    intro W hSw
    obtain ⟨e0, e1⟩ := hSw
    go_simp
    try with_reducible rfl
  case hS8t => assumption
  try simp only [Act.put, List.setIfInBounds_toArray, List.set_cons_zero, List.set_cons_succ]
  refine wpAnyH_ready (rs := [9]) (by kernel_rfl) (by simp) ?_
  refine AllReadyH.cons (o := _) rfl (fun K hK => ?_) AllReadyH.nil
  go_simp
  refine (HPU.out wd (by rw [HWD.out]; exact (Below.refl w2.heap.size w2).drew)).mono ?_
  rintro r w5 ⟨rfl, hC5, p, hp, hI5⟩
  have hTd5 : wd.heap[T]? = some (.cells #[.pointer (some ⟨R, 0, none⟩), .int .i64 idle] 57 (0, 0)) := by rw [HWD.out]; exact HTd.out
  have hId5 : IsR wd R most vi vt ids ths := by rw [HWD.out]; exact HI2.out.after (Below.refl w2.heap.size w2).drew
  have hT5 := tb_turned hTd5 hId5 hC5
  have hZ5 : w5.heap[Z]? = some (.cells (mC y1 y2) 55 (0, 0)) := by
    have hzd : wd.heap[Z]? = some (.cells (mC y1 y2) 55 (0, 0)) := by rw [HWD.out]; exact HZd.out
    refine (hC5.2.2 Z (lt_of_block hzd) (fun e => ?_) (fun e => ?_) (fun e => ?_)).trans hzd
    · have := hId5.row
      rw [← e, hzd] at this
      injection this with this
      injection this with _ this _
      exact absurd this (by decide)
    · obtain ⟨c, hcc⟩ := own_type hId5.rio e.symm
      rw [hzd] at hcc
      injection hcc with hcc
      injection hcc with _ hcc _
      exact absurd hcc (by decide)
    · exact absurd (HOV.out Z e.symm) (Nat.lt_irrefl _)
  have HF : Hid (Tb w5 B T idle most ids (ths.set p (now, y2)) ∧ Bt B w w5) := ⟨⟨HBT.out.1, R, vi, vt, HBT.out.2, hT5, hI5⟩, (Bt.of_below (by rw [HWD.out]; exact HB2.out.drew) HB.out).trans (chr_bt hId5 hC5 HBT.out.2)⟩
  have HPP := Lib.hid hp
  have HS5 := Lib.hid (HCS.out w5 hT5 hZ5)
  clear hC5 hp hI5 hTd5 hId5 hT5 hZ5
  refine hK.out _ _ HS5.out (fun hHeld => ?_)
  clear hK K
  try simp only [Act.put, List.setIfInBounds_toArray, List.set_cons_zero, List.set_cons_succ]
  refine wpAnyH_take (i := 10) (oi := ?oi10t) (v := ?v10t) ?hi10t ?hs10t ?hf10t ?hr10t ?hQ10t ?hy10t ?hS10t ?h10t
  case hi10t => exact (by simp only [List.getElem?_toArray, List.getElem?_cons_succ, List.getElem?_cons_zero]; rfl)
  case hs10t => kernel_rfl
  case hf10t => kernel_rfl
  case hr10t => kernel_rfl
  case hQ10t => exact fun _ _ _ h => h
  case hy10t =>
    refine Or.inl ⟨rfl, ?_⟩
    intro W hSw
    obtain ⟨e0, e1⟩ := hSw
    go_simp
    try with_reducible rfl
  case hS10t => assumption
  try simp only [Act.put, List.setIfInBounds_toArray, List.set_cons_zero, List.set_cons_succ]
  refine wpAnyH_done (by kernel_rfl) ?_ _
  go_wp2
  go_ret
  exact ⟨rfl, ⟨p, HPP.out, HF.out.1⟩, HF.out.2⟩
end Go.Proofs.Ytfgabmjnpjmmgaa
