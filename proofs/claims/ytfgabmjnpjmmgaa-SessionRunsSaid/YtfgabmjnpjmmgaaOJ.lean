/- session: Logout of who is logged in. -/
import Derived.Test.YtfgabmjnpjmmgaaOI
namespace Go.Proofs.Ytfgabmjnpjmmgaa
open Go.RowKit
set_option maxRecDepth 20000
set_option linter.unusedVariables false

set_option maxHeartbeats 4000000 in
theorem logout_there (B T : Nat) (idle most : Int) (ids : List Nat) (ths : List Mk) (x : Nat) (w : World) (h : Tb w B T idle most ids ths) (hl : ids.length ≤ 1000) (k : Nat) (y1 y2 : Int) (hx : ids[k]? = some x) (hy : ths[k]? = some (y1, y2)) (hB : B ≤ w.heap.size) (hne : ¬ y2 = 0) :
    Calls Try.prog 12 #[.pointer (some ⟨T, 0, none⟩), .int .u32 (x : Int)] w fun r w' => r = .returned (.tuple #[.int .u32 y2, .int .i64 0]) ∧ (∃ p, ids[p]? = some x ∧ Tb w' B T idle most ids (ths.set p (y1, 0))) ∧ Bt B w w' := by
  have hxm := List.mem_of_getElem? hx
  obtain ⟨hlen, hup, hok⟩ := h.facts
  have HA : Hid (Calls Try.prog 29 #[.pointer (some ⟨T, 0, none⟩), .int .u32 (x : Int)] w fun r w' => r = .returned (.tuple #[mV y1 y2, .bool true]) ∧ Below w.heap.size w w') :=
    (at_there B T idle most ids ths x w h hl hxm).mono fun r w' ⟨⟨p, z1, z2, hp1, hp2, e⟩, hb⟩ => by
      obtain rfl := up_same hup hp1 hx
      rw [hy] at hp2
      injection hp2 with hp2
      injection hp2 with e1 e2
      subst e1 e2
      exact ⟨e, hb⟩
  have HT := Lib.hid h
  have HL := Lib.hid hl
  have HB := Lib.hid hB
  have HXM := Lib.hid hxm
  clear h hl hx hy hB hlen hup hok hxm
  go_enter Try.func12, Try.ntmps12
  go_wp2_with fail
  refine HA.out.mono ?_
  rintro r w1 ⟨rfl, hb1⟩
  obtain ⟨Z, hZ⟩ : ∃ Z, Z = w1.heap.size := ⟨_, rfl⟩
  obtain ⟨w2, hw2⟩ : ∃ w2, w2 = w1.alloc (.cells (mC y1 y2) 55) := ⟨_, rfl⟩
  have hb2 : Below w1.heap.size w1 w2 := by rw [hw2]; exact (Below.refl _ _).alloc (Nat.le_refl _) _
  have hq2 : w2.heap[Z]? = some (.cells (mC y1 y2) 55 (0, 0)) := by rw [hw2, hZ]; exact heap_alloc_new w1 _
  have HB2 : Hid (Below w.heap.size w w2) := hb1.trans (hb2.mono hb1.size)
  obtain ⟨hbt, R, vi, vt, hbr, hT1, hI1⟩ := HT.out.after hb1
  have HOV : Hid (∀ g, vt.ownBlock = some g → g < Z) := fun g hg => by rw [hZ]; exact (ownlt hI1.rto g hg).2
  have HTd : Hid (w2.drew.heap[T]? = some (.cells #[.pointer (some ⟨R, 0, none⟩), .int .i64 idle] 57 (0, 0))) := (hb2.block T (lt_of_block hT1)).trans hT1
  have HZd : Hid (w2.drew.heap[Z]? = some (.cells (mC y1 y2) 55 (0, 0))) := hq2
  have HI2 := Lib.hid (hI1.after hb2)
  have HBT := Lib.hid (And.intro hbt hbr)
  have HCS : Hid (∀ W : World, W.heap[T]? = some (.cells #[.pointer (some ⟨R, 0, none⟩), .int .i64 idle] 57 (0, 0)) → W.heap[Z]? = some (.cells (mC y1 y2) 55 (0, 0)) → (fun W : World => W.cell? ⟨T, 0, none⟩ = some (.pointer (some ⟨R, 0, none⟩)) ∧ W.cell? ⟨Z, 1, none⟩ = some (.int .u32 y2) ∧ W.cell? ⟨Z, 0, none⟩ = some (.int .i64 y1)) W) := fun W a b => ⟨cell_of_row W T 0 _ _ _ a, cell_of_row W Z 1 _ _ _ b, cell_of_row W Z 0 _ _ _ b⟩
  have HPU : Hid (∀ W, Below w2.heap.size w2 W → Calls Try.prog 32 #[.pointer (some ⟨R, 0, none⟩), .int .u32 (x : Int), mV y1 0] W fun r w' => r = .returned (.int .i64 0) ∧ ChR R vi vt W w' ∧ ∃ p, ids[p]? = some x ∧ IsR w' R most vi vt ids (ths.set p (y1, 0))) := fun W hW => put_there R most vi vt ids ths x y1 0 W (HI2.out.after hW) HL.out HXM.out
  have H2 := Lib.hid hw2
  have HZZ := Lib.hid hZ
  clear hb1 hb2 hq2 hw2 hZ hT1 hI1 hbt hbr
  have heb : (y2 == 0) = false := by simp [hne]
  go_upto_region 4 with (fail)
  rw [← H2.out, ← HZZ.out]
  obtain ⟨q0, q1, q2⟩ := HCS.out w2 HTd.out HZd.out
  go_upto_region 6 with (fail)
  clear q0 q1 q2
  refine wp_region_held_drew (S := fun W : World => W.cell? ⟨T, 0, none⟩ = some (.pointer (some ⟨R, 0, none⟩)) ∧ W.cell? ⟨Z, 1, none⟩ = some (.int .u32 y2) ∧ W.cell? ⟨Z, 0, none⟩ = some (.int .i64 y1)) (by kernel_rfl) (HCS.out _ HTd.out HZd.out) (fun hHeld => ?_)
  obtain ⟨wd, hwd⟩ : ∃ wd, wd = w2.drew := ⟨_, rfl⟩
  rw [← hwd] at hHeld ⊢
  have HWD := Lib.hid hwd
  clear hwd
  refine wpAnyH_take (i := 0) (oi := ?oi0t) (v := ?v0t) ?hi0t ?hs0t ?hf0t ?hr0t ?hQ0t ?hy0t ?hS0t ?h0t
  case hi0t => exact (by simp only [List.getElem?_toArray, List.getElem?_cons_zero]; rfl)
  case hs0t => kernel_rfl
  case hf0t => kernel_rfl
  case hr0t => kernel_rfl
  case hQ0t => exact fun _ _ _ h => h
  case hy0t =>
    refine Or.inl ⟨rfl, ?_⟩
    intro W hSw
    obtain ⟨e0, e1, e2⟩ := hSw
    go_simp
    try with_reducible rfl
  case hS0t => assumption
  try simp only [Act.put, List.setIfInBounds_toArray, List.set_cons_zero, List.set_cons_succ]
  refine wpAnyH_take (i := 1) (oi := ?oi1t) (v := ?v1t) ?hi1t ?hs1t ?hf1t ?hr1t ?hQ1t ?hy1t ?hS1t ?h1t
  case hi1t => exact (by simp only [List.getElem?_toArray, List.getElem?_cons_succ, List.getElem?_cons_zero]; rfl)
  case hs1t => kernel_rfl
  case hf1t => kernel_rfl
  case hr1t => kernel_rfl
  case hQ1t => exact fun _ _ _ h => h
  case hy1t =>
    refine Or.inl ⟨rfl, ?_⟩
    intro W hSw
    obtain ⟨e0, e1, e2⟩ := hSw
    go_simp
    try with_reducible rfl
  case hS1t => assumption
  try simp only [Act.put, List.setIfInBounds_toArray, List.set_cons_zero, List.set_cons_succ]
  refine wpAnyH_take (i := 2) (oi := ?oi2t) (v := ?v2t) ?hi2t ?hs2t ?hf2t ?hr2t ?hQ2t ?hy2t ?hS2t ?h2t
  case hi2t => exact (by simp only [List.getElem?_toArray, List.getElem?_cons_succ, List.getElem?_cons_zero]; rfl)
  case hs2t => kernel_rfl
  case hf2t => kernel_rfl
  case hr2t => kernel_rfl
  case hQ2t => exact fun _ _ _ h => h
  case hy2t =>
    refine Or.inl ⟨rfl, ?_⟩
    intro W hSw
    obtain ⟨e0, e1, e2⟩ := hSw
    go_simp
    try with_reducible rfl
  case hS2t => assumption
  try simp only [Act.put, List.setIfInBounds_toArray, List.set_cons_zero, List.set_cons_succ]
  refine wpAnyH_take (i := 3) (oi := ?oi3t) (v := ?v3t) ?hi3t ?hs3t ?hf3t ?hr3t ?hQ3t ?hy3t ?hS3t ?h3t
  case hi3t => exact (by simp only [List.getElem?_toArray, List.getElem?_cons_succ, List.getElem?_cons_zero]; rfl)
  case hs3t => kernel_rfl
  case hf3t => kernel_rfl
  case hr3t => kernel_rfl
  case hQ3t => exact fun _ _ _ h => h
  case hy3t =>
    refine Or.inl ⟨rfl, ?_⟩
    intro W hSw
    obtain ⟨e0, e1, e2⟩ := hSw
    go_simp
    try with_reducible rfl
  case hS3t => assumption
  try simp only [Act.put, List.setIfInBounds_toArray, List.set_cons_zero, List.set_cons_succ]
  refine wpAnyH_take (i := 4) (oi := ?oi4t) (v := ?v4t) ?hi4t ?hs4t ?hf4t ?hr4t ?hQ4t ?hy4t ?hS4t ?h4t
  case hi4t => exact (by simp only [List.getElem?_toArray, List.getElem?_cons_succ, List.getElem?_cons_zero]; rfl)
  case hs4t => kernel_rfl
  case hf4t => kernel_rfl
  case hr4t => kernel_rfl
  case hQ4t => exact fun _ _ _ h => h
  case hy4t =>
    refine Or.inl ⟨rfl, ?_⟩
    intro W hSw
    obtain ⟨e0, e1, e2⟩ := hSw
    go_simp
    try with_reducible rfl
  case hS4t => assumption
  try simp only [Act.put, List.setIfInBounds_toArray, List.set_cons_zero, List.set_cons_succ]
  refine wpAnyH_take (i := 5) (oi := ?oi5t) (v := ?v5t) ?hi5t ?hs5t ?hf5t ?hr5t ?hQ5t ?hy5t ?hS5t ?h5t
  case hi5t => exact (by simp only [List.getElem?_toArray, List.getElem?_cons_succ, List.getElem?_cons_zero]; rfl)
  case hs5t => kernel_rfl
  case hf5t => kernel_rfl
  case hr5t => kernel_rfl
  case hQ5t => exact fun _ _ _ h => h
  case hy5t =>
    refine Or.inl ⟨rfl, ?_⟩
    intro W hSw
    obtain ⟨e0, e1, e2⟩ := hSw
    go_simp
    try with_reducible rfl
  case hS5t => assumption
  try simp only [Act.put, List.setIfInBounds_toArray, List.set_cons_zero, List.set_cons_succ]
  refine wpAnyH_take (i := 6) (oi := ?oi6t) (v := ?v6t) ?hi6t ?hs6t ?hf6t ?hr6t ?hQ6t ?hy6t ?hS6t ?h6t
  case hi6t => exact (by simp only [List.getElem?_toArray, List.getElem?_cons_succ, List.getElem?_cons_zero]; rfl)
  case hs6t => kernel_rfl
  case hf6t => kernel_rfl
  case hr6t => kernel_rfl
  case hQ6t => exact fun _ _ _ h => h
  case hy6t =>
    refine Or.inl ⟨rfl, ?_⟩
    intro W hSw
    obtain ⟨e0, e1, e2⟩ := hSw
    go_simp
    try with_reducible rfl
  case hS6t => assumption
  try simp only [Act.put, List.setIfInBounds_toArray, List.set_cons_zero, List.set_cons_succ]
  refine wpAnyH_take (i := 7) (oi := ?oi7t) (v := ?v7t) ?hi7t ?hs7t ?hf7t ?hr7t ?hQ7t ?hy7t ?hS7t ?h7t
  case hi7t => exact (by simp only [List.getElem?_toArray, List.getElem?_cons_succ, List.getElem?_cons_zero]; rfl)
  case hs7t => kernel_rfl
  case hf7t => kernel_rfl
  case hr7t => kernel_rfl
  case hQ7t => exact fun _ _ _ h => h
  case hy7t =>
    refine Or.inl ⟨rfl, ?_⟩
    intro W hSw
    obtain ⟨e0, e1, e2⟩ := hSw
    go_simp
    try with_reducible rfl
  case hS7t => assumption
  try simp only [Act.put, List.setIfInBounds_toArray, List.set_cons_zero, List.set_cons_succ]
  refine wpAnyH_take (i := 8) (oi := ?oi8t) (v := ?v8t) ?hi8t ?hs8t ?hf8t ?hr8t ?hQ8t ?hy8t ?hS8t ?h8t
  case hi8t => exact (by simp only [List.getElem?_toArray, List.getElem?_cons_succ, List.getElem?_cons_zero]; rfl)
  case hs8t => kernel_rfl
  case hf8t => kernel_rfl
  case hr8t => kernel_rfl
  case hQ8t => exact fun _ _ _ h => h
  case hy8t =>
    refine Or.inl ⟨rfl, ?_⟩
    intro W hSw
    obtain ⟨e0, e1, e2⟩ := hSw
    go_simp
    try with_reducible rfl
  case hS8t => assumption
  try simp only [Act.put, List.setIfInBounds_toArray, List.set_cons_zero, List.set_cons_succ]
  refine wpAnyH_take (i := 9) (oi := ?oi9t) (v := ?v9t) ?hi9t ?hs9t ?hf9t ?hr9t ?hQ9t ?hy9t ?hS9t ?h9t
  case hi9t => exact (by simp only [List.getElem?_toArray, List.getElem?_cons_succ, List.getElem?_cons_zero]; rfl)
  case hs9t => kernel_rfl
  case hf9t => kernel_rfl
  case hr9t => kernel_rfl
  case hQ9t => exact fun _ _ _ h => h
  case hy9t =>
    refine Or.inl ⟨rfl, ?_⟩
    intro W hSw
    obtain ⟨e0, e1, e2⟩ := hSw
    go_simp
    try with_reducible rfl
  case hS9t => assumption
  try simp only [Act.put, List.setIfInBounds_toArray, List.set_cons_zero, List.set_cons_succ]
  refine wpAnyH_ready (rs := [10]) (by kernel_rfl) (by simp) ?_
  refine AllReadyH.cons (o := _) rfl (fun K hK => ?_) AllReadyH.nil
  go_simp
  refine (HPU.out wd (by rw [HWD.out]; exact (Below.refl w2.heap.size w2).drew)).mono ?_
  rintro r w5 ⟨rfl, hC5, p, hp, hI5⟩
  have hTd5 : wd.heap[T]? = some (.cells #[.pointer (some ⟨R, 0, none⟩), .int .i64 idle] 57 (0, 0)) := by rw [HWD.out]; exact HTd.out
  have hId5 : IsR wd R most vi vt ids ths := by rw [HWD.out]; exact HI2.out.after (Below.refl w2.heap.size w2).drew
  have hT5 := tb_turned hTd5 hId5 hC5
  have hZ5 : w5.heap[Z]? = some (.cells (mC y1 y2) 55 (0, 0)) := by
    have hzd : wd.heap[Z]? = some (.cells (mC y1 y2) 55 (0, 0)) := by rw [HWD.out]; exact HZd.out
    refine (hC5.2.2 Z (lt_of_block hzd) (fun e => ?_) (fun e => ?_) (fun e => ?_)).trans hzd
    · have := hId5.row
      rw [← e, hzd] at this
      injection this with this
      injection this with _ this _
      exact absurd this (by decide)
    · obtain ⟨c, hcc⟩ := own_type hId5.rio e.symm
      rw [hzd] at hcc
      injection hcc with hcc
      injection hcc with _ hcc _
      exact absurd hcc (by decide)
    · exact absurd (HOV.out Z e.symm) (Nat.lt_irrefl _)
  have HF : Hid (Tb w5 B T idle most ids (ths.set p (y1, 0)) ∧ Bt B w w5) := ⟨⟨HBT.out.1, R, vi, vt, HBT.out.2, hT5, hI5⟩, (Bt.of_below (by rw [HWD.out]; exact HB2.out.drew) HB.out).trans (chr_bt hId5 hC5 HBT.out.2)⟩
  have HPP := Lib.hid hp
  have HS5 := Lib.hid (HCS.out w5 hT5 hZ5)
  clear hC5 hp hI5 hTd5 hId5 hT5 hZ5
  refine hK.out _ _ HS5.out (fun hHeld => ?_)
  clear hK K
  try simp only [Act.put, List.setIfInBounds_toArray, List.set_cons_zero, List.set_cons_succ]
  refine wpAnyH_take (i := 11) (oi := ?oi11t) (v := ?v11t) ?hi11t ?hs11t ?hf11t ?hr11t ?hQ11t ?hy11t ?hS11t ?h11t
  case hi11t => exact (by simp only [List.getElem?_toArray, List.getElem?_cons_succ, List.getElem?_cons_zero]; rfl)
  case hs11t => kernel_rfl
  case hf11t => kernel_rfl
  case hr11t => kernel_rfl
  case hQ11t => exact fun _ _ _ h => h
  case hy11t =>
    refine Or.inl ⟨rfl, ?_⟩
    intro W hSw
    obtain ⟨e0, e1, e2⟩ := hSw
    go_simp
    try with_reducible rfl
  case hS11t => assumption
  try simp only [Act.put, List.setIfInBounds_toArray, List.set_cons_zero, List.set_cons_succ]
  refine wpAnyH_take (i := 12) (oi := ?oi12t) (v := ?v12t) ?hi12t ?hs12t ?hf12t ?hr12t ?hQ12t ?hy12t ?hS12t ?h12t
  case hi12t => exact (by simp only [List.getElem?_toArray, List.getElem?_cons_succ, List.getElem?_cons_zero]; rfl)
  case hs12t => kernel_rfl
  case hf12t => kernel_rfl
  case hr12t => kernel_rfl
  case hQ12t => exact fun _ _ _ h => h
  case hy12t =>
    refine Or.inl ⟨rfl, ?_⟩
    intro W hSw
    obtain ⟨e0, e1, e2⟩ := hSw
    go_simp
    try with_reducible rfl
  case hS12t => assumption
  try simp only [Act.put, List.setIfInBounds_toArray, List.set_cons_zero, List.set_cons_succ]
  refine wpAnyH_done (by kernel_rfl) ?_ _
  go_wp2
  go_ret2
  exact ⟨rfl, ⟨p, HPP.out, HF.out.1⟩, HF.out.2⟩
end Go.Proofs.Ytfgabmjnpjmmgaa
