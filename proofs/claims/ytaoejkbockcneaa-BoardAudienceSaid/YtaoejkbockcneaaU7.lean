/- Board: keep, Set, Status of whatever board. -/
import Derived.Test.YtaoejkbockcneaaU2
namespace Go.Proofs.Ytaoejkbockcneaa.Bd
open Go.RowKit Go.Maps
set_option maxRecDepth 20000
set_option linter.unusedVariables false

set_option maxHeartbeats 1000000 in
theorem keepD_zero (L M cnt p : Nat) (D : DataW Unit) (w : World) (hL : IsB w L M cnt D) (hp : p < 4294967296) :
    Calls Try.prog 49 #[.pointer (some ⟨L, 0, none⟩), .int .u32 (p : Int), nV 0 0] w fun r w' => r = .returned (.tuple #[]) ∧ IsB w' L M cnt (D.del (kl p)) ∧ ChM M w w' := by
  obtain ⟨w0, hw0⟩ : ∃ w0, w0 = w.alloc (.cells #[.int .i64 0, .int .i64 0] 120) := ⟨_, rfl⟩
  have hb0 : Below w.heap.size w w0 := by rw [hw0]; exact (Below.refl _ _).alloc (Nat.le_refl _) _
  have hp0 : w0.heap[w.heap.size]? = some (.cells #[.int .i64 0, .int .i64 0] 120 (0, 0)) := by rw [hw0]; exact heap_alloc_new w _
  have hL0 := hL.below hb0
  have g0 := cell_of_row w0 w.heap.size 0 _ _ _ hp0
  have g1 := cell_of_row w0 w.heap.size 1 _ _ _ hp0
  have c1 := cell_of_row w0 L 0 _ _ _ hL0.1
  simp at g0 g1 c1
  have hown := hL0.2
  have hkey := key26 p hp
  have HNE := Lib.hid hL.ne
  have HL1 := Lib.hid hL0.1
  have H0 := Lib.hid hw0
  have HB0 := Lib.hid hb0
  clear hw0 hb0 hp0 hL hL0
  go_enter Try.func49, Try.ntmps49
  go_upto_region 1 with (fail)
  rw [← H0.out]
  go_wp2_with (first
    | (at_delete; refine wpList_delete_own _ rfl _ _ 114 26 rfl 120 K26 Try.underlying114 R M cnt _ rfl hown _ _ rfl hkey ?_; intro w1 hown1 hturn1)
    | go_in)
  (try simp only [Exit.inBlock, Exit.then])
  refine bodyPost_ret (results_none rfl _ _ _) rfl ?_
  have hg := hturn1.grown
  exact ⟨rfl, ⟨(hg.block L (lt_of_block HL1.out) (fun e => by injection e with e; exact HNE.out e)).trans HL1.out, hown1⟩, ChM.of_grown HB0.out hg⟩

set_option maxHeartbeats 4000000 in
theorem keepD_a (L M cnt p : Nat) (D : DataW Unit) (s t : Int) (w : World) (hL : IsB w L M cnt D) (hp : p < 4294967296) (hcnt : cnt ≤ 1000) (hs : ¬ s = 0) (hs1 : (s == 0) = false) :
    Calls Try.prog 49 #[.pointer (some ⟨L, 0, none⟩), .int .u32 (p : Int), nV s t] w fun r w' => r = .returned (.tuple #[]) ∧ IsB w' L M (cnt + 1) (D.put (kl p) (nD s t)) ∧ ChM M w w' := by
  obtain ⟨w0, hw0⟩ : ∃ w0, w0 = w.alloc (.cells #[.int .i64 s, .int .i64 t] 120) := ⟨_, rfl⟩
  have hb0 : Below w.heap.size w w0 := by rw [hw0]; exact (Below.refl _ _).alloc (Nat.le_refl _) _
  have hp0 : w0.heap[w.heap.size]? = some (.cells #[.int .i64 s, .int .i64 t] 120 (0, 0)) := by rw [hw0]; exact heap_alloc_new w _
  have hL0 := hL.below hb0
  have g0 := cell_of_row w0 w.heap.size 0 _ _ _ hp0
  have g1 := cell_of_row w0 w.heap.size 1 _ _ _ hp0
  simp at g0 g1
  have HNE := Lib.hid hL.ne
  have HCE : Hid (∀ W, Below w0.heap.size w0 W → (fun W : World => W.cell? ⟨L, 0, none⟩ = some (.map (some M)) ∧ W.cell? ⟨w.heap.size, 0, none⟩ = some (.int .i64 s) ∧ W.cell? ⟨w.heap.size, 1, none⟩ = some (.int .i64 t)) W) := fun W hW => by
    have e1 := (hL0.below hW).1
    have e2 := (hW.block _ (lt_of_block hp0)).trans hp0
    exact ⟨cell_of_row W _ 0 _ _ _ e1, cell_of_row W _ 0 _ _ _ e2, cell_of_row W _ 1 _ _ _ e2⟩
  have HST : Hid (∀ W, Below w0.heap.size w0 W → ∃ w', (Instr.mapUpdate 114 (.map (some M)) (.int .u32 (p : Int)) (nV s t)).run Try.prog W = .ok () w' ∧ w'.ownsMap Try.prog 26 R M (cnt + 1) (D.put (kl p) (nD s t)) ∧ W.mapTurned w' M) := fun W hW =>
    (hL0.below hW).2.store K26 Try.underlying114 (by unfold maxLen; omega) (key26 p hp) (R_mk s t)
  have HIL : Hid (∀ W, Below w0.heap.size w0 W → IsB W L M cnt D) := fun W hW => hL0.below hW
  have H0 := Lib.hid hw0
  have HB0 := Lib.hid hb0
  clear hw0 hb0 hp0 hL hL0 hp hcnt
  go_enter Try.func49, Try.ntmps49
  go_upto_region 1 with (fail)
  rw [← H0.out]
  go_upto_region 3 with (fail)
  have HD : Hid (Below w0.heap.size w0 w0.drew) := (Below.refl _ _).drew
  refine wp_region_held_drew (S := fun W : World => W.cell? ⟨L, 0, none⟩ = some (.map (some M)) ∧ W.cell? ⟨w.heap.size, 0, none⟩ = some (.int .i64 s) ∧ W.cell? ⟨w.heap.size, 1, none⟩ = some (.int .i64 t)) (by kernel_rfl) (HCE.out _ HD.out) (fun hHeld => ?_)
  obtain ⟨W0, hW0⟩ : ∃ W0, W0 = w0.drew := ⟨_, rfl⟩
  have HD0 : Hid (Below w0.heap.size w0 W0) := by rw [hW0]; exact HD.out
  rw [← hW0] at hHeld ⊢
  clear hW0 g0 g1
  obtain ⟨w', hrun, hown', hturn⟩ := HST.out W0 HD0.out
  have HOW := Lib.hid hown'
  have HG := Lib.hid hturn.grown
  have HC' : Hid ((fun W : World => W.cell? ⟨L, 0, none⟩ = some (.map (some M)) ∧ W.cell? ⟨w.heap.size, 0, none⟩ = some (.int .i64 s) ∧ W.cell? ⟨w.heap.size, 1, none⟩ = some (.int .i64 t)) w') := by
    have hl0 := lt_of_block (HIL.out W0 HD0.out).1
    have hbx := World.block_lt_of_cell? W0 _ hHeld.2.1
    have hMb : M ≠ w.heap.size := fun e => by
      obtain ⟨es, clock, hm, _⟩ := (HIL.out W0 HD0.out).2
      have h1 := hHeld.2.1
      rw [← e] at h1
      unfold World.cell? at h1
      rw [hm] at h1
      cases h1
    have kL : ∀ i, w'.cell? ⟨L, i, none⟩ = W0.cell? ⟨L, i, none⟩ := fun i => by
      unfold World.cell?
      rw [HG.out.block L hl0 (fun e => by injection e with e; exact HNE.out e)]
    have kB : ∀ i, w'.cell? ⟨w.heap.size, i, none⟩ = W0.cell? ⟨w.heap.size, i, none⟩ := fun i => by
      unfold World.cell?
      rw [HG.out.block w.heap.size hbx (fun e => by injection e with e; exact hMb e.symm)]
    exact ⟨(kL 0).trans hHeld.1, (kB 0).trans hHeld.2.1, (kB 1).trans hHeld.2.2⟩
  have HL' : Hid (w'.heap[L]? = some (.cells #[.map (some M)] 116 (0, 0))) := (HG.out.block L (lt_of_block (HIL.out W0 HD0.out).1) (fun e => by injection e with e; exact HNE.out e)).trans (HIL.out W0 HD0.out).1
  clear hown' hturn
  refine wpAnyH_take (i := 0) (oi := ?oi0b) (v := ?v0b) ?hi0b ?hs0b ?hf0b ?hr0b ?hQ0b ?hy0b ?hS0b ?h0b
  case hi0b => exact (by simp only [List.getElem?_toArray, List.getElem?_cons_zero]; rfl)
  case hs0b => kernel_rfl
  case hf0b => kernel_rfl
  case hr0b => kernel_rfl
  case hQ0b => exact fun _ _ _ h => h
  case hy0b =>
    refine Or.inl ⟨rfl, ?_⟩
    intro W hSw
    obtain ⟨y1, y2, y3⟩ := hSw
    go_simp
    try with_reducible rfl
  case hS0b => assumption
  try simp only [Act.put, List.setIfInBounds_toArray, List.set_cons_zero, List.set_cons_succ]
  refine wpAnyH_take (i := 1) (oi := ?oi1b) (v := ?v1b) ?hi1b ?hs1b ?hf1b ?hr1b ?hQ1b ?hy1b ?hS1b ?h1b
  case hi1b => exact (by simp only [List.getElem?_toArray, List.getElem?_cons_succ, List.getElem?_cons_zero]; rfl)
  case hs1b => kernel_rfl
  case hf1b => kernel_rfl
  case hr1b => kernel_rfl
  case hQ1b => exact fun _ _ _ h => h
  case hy1b =>
    refine Or.inl ⟨rfl, ?_⟩
    intro W hSw
    obtain ⟨y1, y2, y3⟩ := hSw
    go_simp
    try with_reducible rfl
  case hS1b => assumption
  try simp only [Act.put, List.setIfInBounds_toArray, List.set_cons_zero, List.set_cons_succ]
  refine wpAnyH_take (i := 2) (oi := ?oi2b) (v := ?v2b) ?hi2b ?hs2b ?hf2b ?hr2b ?hQ2b ?hy2b ?hS2b ?h2b
  case hi2b => exact (by simp only [List.getElem?_toArray, List.getElem?_cons_succ, List.getElem?_cons_zero]; rfl)
  case hs2b => kernel_rfl
  case hf2b => kernel_rfl
  case hr2b => kernel_rfl
  case hQ2b => exact fun _ _ _ h => h
  case hy2b =>
    refine Or.inl ⟨rfl, ?_⟩
    intro W hSw
    obtain ⟨y1, y2, y3⟩ := hSw
    go_simp
    try with_reducible rfl
  case hS2b => assumption
  try simp only [Act.put, List.setIfInBounds_toArray, List.set_cons_zero, List.set_cons_succ]
  refine wpAnyH_take (i := 3) (oi := ?oi3b) (v := ?v3b) ?hi3b ?hs3b ?hf3b ?hr3b ?hQ3b ?hy3b ?hS3b ?h3b
  case hi3b => exact (by simp only [List.getElem?_toArray, List.getElem?_cons_succ, List.getElem?_cons_zero]; rfl)
  case hs3b => kernel_rfl
  case hf3b => kernel_rfl
  case hr3b => kernel_rfl
  case hQ3b => exact fun _ _ _ h => h
  case hy3b =>
    refine Or.inl ⟨rfl, ?_⟩
    intro W hSw
    obtain ⟨y1, y2, y3⟩ := hSw
    go_simp
    try with_reducible rfl
  case hS3b => assumption
  try simp only [Act.put, List.setIfInBounds_toArray, List.set_cons_zero, List.set_cons_succ]
  refine wpAnyH_take (i := 4) (oi := ?oi4b) (v := ?v4b) ?hi4b ?hs4b ?hf4b ?hr4b ?hQ4b ?hy4b ?hS4b ?h4b
  case hi4b => exact (by simp only [List.getElem?_toArray, List.getElem?_cons_succ, List.getElem?_cons_zero]; rfl)
  case hs4b => kernel_rfl
  case hf4b => kernel_rfl
  case hr4b => kernel_rfl
  case hQ4b => exact fun _ _ _ h => h
  case hy4b =>
    refine Or.inl ⟨rfl, ?_⟩
    intro W hSw
    obtain ⟨y1, y2, y3⟩ := hSw
    go_simp
    try with_reducible rfl
  case hS4b => assumption
  try simp only [Act.put, List.setIfInBounds_toArray, List.set_cons_zero, List.set_cons_succ]
  refine wpAnyH_take (i := 5) (oi := ?oi5b) (v := ?v5b) ?hi5b ?hs5b ?hf5b ?hr5b ?hQ5b ?hy5b ?hS5b ?h5b
  case hi5b => exact (by simp only [List.getElem?_toArray, List.getElem?_cons_succ, List.getElem?_cons_zero]; rfl)
  case hs5b => kernel_rfl
  case hf5b => kernel_rfl
  case hr5b => kernel_rfl
  case hQ5b => exact fun _ _ _ h => h
  case hy5b =>
    refine Or.inl ⟨rfl, ?_⟩
    intro W hSw
    obtain ⟨y1, y2, y3⟩ := hSw
    go_simp
    try with_reducible rfl
  case hS5b => assumption
  try simp only [Act.put, List.setIfInBounds_toArray, List.set_cons_zero, List.set_cons_succ]
  refine wpAnyH_ready (rs := [6]) (by kernel_rfl) (by simp) ?_
  refine AllReadyH.cons (o := _) rfl (fun K hK => ?_) AllReadyH.nil
  go_simp
  refine hK.out _ _ HC'.out (fun hHeld => ?_)
  clear hK K
  try simp only [Act.put, List.setIfInBounds_toArray, List.set_cons_zero, List.set_cons_succ]
  refine wpAnyH_done (by kernel_rfl) ?_ _
  go_wp2
  go_end0
  exact ⟨rfl, ⟨HL'.out, HOW.out⟩, ChM.of_grown (HB0.out.trans (HD0.out.mono HB0.out.size)) HG.out⟩
set_option maxHeartbeats 4000000 in
theorem keepD_b (L M cnt p : Nat) (D : DataW Unit) (t : Int) (w : World) (hL : IsB w L M cnt D) (hp : p < 4294967296) (hcnt : cnt ≤ 1000) (ht : ¬ t = 0) (ht1 : (t == 0) = false) :
    Calls Try.prog 49 #[.pointer (some ⟨L, 0, none⟩), .int .u32 (p : Int), nV 0 t] w fun r w' => r = .returned (.tuple #[]) ∧ IsB w' L M (cnt + 1) (D.put (kl p) (nD 0 t)) ∧ ChM M w w' := by
  obtain ⟨w0, hw0⟩ : ∃ w0, w0 = w.alloc (.cells #[.int .i64 0, .int .i64 t] 120) := ⟨_, rfl⟩
  have hb0 : Below w.heap.size w w0 := by rw [hw0]; exact (Below.refl _ _).alloc (Nat.le_refl _) _
  have hp0 : w0.heap[w.heap.size]? = some (.cells #[.int .i64 0, .int .i64 t] 120 (0, 0)) := by rw [hw0]; exact heap_alloc_new w _
  have hL0 := hL.below hb0
  have g0 := cell_of_row w0 w.heap.size 0 _ _ _ hp0
  have g1 := cell_of_row w0 w.heap.size 1 _ _ _ hp0
  simp at g0 g1
  have HNE := Lib.hid hL.ne
  have HCE : Hid (∀ W, Below w0.heap.size w0 W → (fun W : World => W.cell? ⟨L, 0, none⟩ = some (.map (some M)) ∧ W.cell? ⟨w.heap.size, 0, none⟩ = some (.int .i64 0) ∧ W.cell? ⟨w.heap.size, 1, none⟩ = some (.int .i64 t)) W) := fun W hW => by
    have e1 := (hL0.below hW).1
    have e2 := (hW.block _ (lt_of_block hp0)).trans hp0
    exact ⟨cell_of_row W _ 0 _ _ _ e1, cell_of_row W _ 0 _ _ _ e2, cell_of_row W _ 1 _ _ _ e2⟩
  have HST : Hid (∀ W, Below w0.heap.size w0 W → ∃ w', (Instr.mapUpdate 114 (.map (some M)) (.int .u32 (p : Int)) (nV 0 t)).run Try.prog W = .ok () w' ∧ w'.ownsMap Try.prog 26 R M (cnt + 1) (D.put (kl p) (nD 0 t)) ∧ W.mapTurned w' M) := fun W hW =>
    (hL0.below hW).2.store K26 Try.underlying114 (by unfold maxLen; omega) (key26 p hp) (R_mk 0 t)
  have HIL : Hid (∀ W, Below w0.heap.size w0 W → IsB W L M cnt D) := fun W hW => hL0.below hW
  have H0 := Lib.hid hw0
  have HB0 := Lib.hid hb0
  clear hw0 hb0 hp0 hL hL0 hp hcnt
  go_enter Try.func49, Try.ntmps49
  go_upto_region 1 with (fail)
  rw [← H0.out]
  go_upto_region 3 with (fail)
  have HD : Hid (Below w0.heap.size w0 w0.drew) := (Below.refl _ _).drew
  refine wp_region_held_drew (S := fun W : World => W.cell? ⟨L, 0, none⟩ = some (.map (some M)) ∧ W.cell? ⟨w.heap.size, 0, none⟩ = some (.int .i64 0) ∧ W.cell? ⟨w.heap.size, 1, none⟩ = some (.int .i64 t)) (by kernel_rfl) (HCE.out _ HD.out) (fun hHeld => ?_)
  obtain ⟨W0, hW0⟩ : ∃ W0, W0 = w0.drew := ⟨_, rfl⟩
  have HD0 : Hid (Below w0.heap.size w0 W0) := by rw [hW0]; exact HD.out
  rw [← hW0] at hHeld ⊢
  clear hW0 g0 g1
  obtain ⟨w', hrun, hown', hturn⟩ := HST.out W0 HD0.out
  have HOW := Lib.hid hown'
  have HG := Lib.hid hturn.grown
  have HC' : Hid ((fun W : World => W.cell? ⟨L, 0, none⟩ = some (.map (some M)) ∧ W.cell? ⟨w.heap.size, 0, none⟩ = some (.int .i64 0) ∧ W.cell? ⟨w.heap.size, 1, none⟩ = some (.int .i64 t)) w') := by
    have hl0 := lt_of_block (HIL.out W0 HD0.out).1
    have hbx := World.block_lt_of_cell? W0 _ hHeld.2.1
    have hMb : M ≠ w.heap.size := fun e => by
      obtain ⟨es, clock, hm, _⟩ := (HIL.out W0 HD0.out).2
      have h1 := hHeld.2.1
      rw [← e] at h1
      unfold World.cell? at h1
      rw [hm] at h1
      cases h1
    have kL : ∀ i, w'.cell? ⟨L, i, none⟩ = W0.cell? ⟨L, i, none⟩ := fun i => by
      unfold World.cell?
      rw [HG.out.block L hl0 (fun e => by injection e with e; exact HNE.out e)]
    have kB : ∀ i, w'.cell? ⟨w.heap.size, i, none⟩ = W0.cell? ⟨w.heap.size, i, none⟩ := fun i => by
      unfold World.cell?
      rw [HG.out.block w.heap.size hbx (fun e => by injection e with e; exact hMb e.symm)]
    exact ⟨(kL 0).trans hHeld.1, (kB 0).trans hHeld.2.1, (kB 1).trans hHeld.2.2⟩
  have HL' : Hid (w'.heap[L]? = some (.cells #[.map (some M)] 116 (0, 0))) := (HG.out.block L (lt_of_block (HIL.out W0 HD0.out).1) (fun e => by injection e with e; exact HNE.out e)).trans (HIL.out W0 HD0.out).1
  clear hown' hturn
  refine wpAnyH_take (i := 0) (oi := ?oi0b) (v := ?v0b) ?hi0b ?hs0b ?hf0b ?hr0b ?hQ0b ?hy0b ?hS0b ?h0b
  case hi0b => exact (by simp only [List.getElem?_toArray, List.getElem?_cons_zero]; rfl)
  case hs0b => kernel_rfl
  case hf0b => kernel_rfl
  case hr0b => kernel_rfl
  case hQ0b => exact fun _ _ _ h => h
  case hy0b =>
    refine Or.inl ⟨rfl, ?_⟩
    intro W hSw
    obtain ⟨y1, y2, y3⟩ := hSw
    go_simp
    try with_reducible rfl
  case hS0b => assumption
  try simp only [Act.put, List.setIfInBounds_toArray, List.set_cons_zero, List.set_cons_succ]
  refine wpAnyH_take (i := 1) (oi := ?oi1b) (v := ?v1b) ?hi1b ?hs1b ?hf1b ?hr1b ?hQ1b ?hy1b ?hS1b ?h1b
  case hi1b => exact (by simp only [List.getElem?_toArray, List.getElem?_cons_succ, List.getElem?_cons_zero]; rfl)
  case hs1b => kernel_rfl
  case hf1b => kernel_rfl
  case hr1b => kernel_rfl
  case hQ1b => exact fun _ _ _ h => h
  case hy1b =>
    refine Or.inl ⟨rfl, ?_⟩
    intro W hSw
    obtain ⟨y1, y2, y3⟩ := hSw
    go_simp
    try with_reducible rfl
  case hS1b => assumption
  try simp only [Act.put, List.setIfInBounds_toArray, List.set_cons_zero, List.set_cons_succ]
  refine wpAnyH_take (i := 2) (oi := ?oi2b) (v := ?v2b) ?hi2b ?hs2b ?hf2b ?hr2b ?hQ2b ?hy2b ?hS2b ?h2b
  case hi2b => exact (by simp only [List.getElem?_toArray, List.getElem?_cons_succ, List.getElem?_cons_zero]; rfl)
  case hs2b => kernel_rfl
  case hf2b => kernel_rfl
  case hr2b => kernel_rfl
  case hQ2b => exact fun _ _ _ h => h
  case hy2b =>
    refine Or.inl ⟨rfl, ?_⟩
    intro W hSw
    obtain ⟨y1, y2, y3⟩ := hSw
    go_simp
    try with_reducible rfl
  case hS2b => assumption
  try simp only [Act.put, List.setIfInBounds_toArray, List.set_cons_zero, List.set_cons_succ]
  refine wpAnyH_take (i := 3) (oi := ?oi3b) (v := ?v3b) ?hi3b ?hs3b ?hf3b ?hr3b ?hQ3b ?hy3b ?hS3b ?h3b
  case hi3b => exact (by simp only [List.getElem?_toArray, List.getElem?_cons_succ, List.getElem?_cons_zero]; rfl)
  case hs3b => kernel_rfl
  case hf3b => kernel_rfl
  case hr3b => kernel_rfl
  case hQ3b => exact fun _ _ _ h => h
  case hy3b =>
    refine Or.inl ⟨rfl, ?_⟩
    intro W hSw
    obtain ⟨y1, y2, y3⟩ := hSw
    go_simp
    try with_reducible rfl
  case hS3b => assumption
  try simp only [Act.put, List.setIfInBounds_toArray, List.set_cons_zero, List.set_cons_succ]
  refine wpAnyH_take (i := 4) (oi := ?oi4b) (v := ?v4b) ?hi4b ?hs4b ?hf4b ?hr4b ?hQ4b ?hy4b ?hS4b ?h4b
  case hi4b => exact (by simp only [List.getElem?_toArray, List.getElem?_cons_succ, List.getElem?_cons_zero]; rfl)
  case hs4b => kernel_rfl
  case hf4b => kernel_rfl
  case hr4b => kernel_rfl
  case hQ4b => exact fun _ _ _ h => h
  case hy4b =>
    refine Or.inl ⟨rfl, ?_⟩
    intro W hSw
    obtain ⟨y1, y2, y3⟩ := hSw
    go_simp
    try with_reducible rfl
  case hS4b => assumption
  try simp only [Act.put, List.setIfInBounds_toArray, List.set_cons_zero, List.set_cons_succ]
  refine wpAnyH_take (i := 5) (oi := ?oi5b) (v := ?v5b) ?hi5b ?hs5b ?hf5b ?hr5b ?hQ5b ?hy5b ?hS5b ?h5b
  case hi5b => exact (by simp only [List.getElem?_toArray, List.getElem?_cons_succ, List.getElem?_cons_zero]; rfl)
  case hs5b => kernel_rfl
  case hf5b => kernel_rfl
  case hr5b => kernel_rfl
  case hQ5b => exact fun _ _ _ h => h
  case hy5b =>
    refine Or.inl ⟨rfl, ?_⟩
    intro W hSw
    obtain ⟨y1, y2, y3⟩ := hSw
    go_simp
    try with_reducible rfl
  case hS5b => assumption
  try simp only [Act.put, List.setIfInBounds_toArray, List.set_cons_zero, List.set_cons_succ]
  refine wpAnyH_ready (rs := [6]) (by kernel_rfl) (by simp) ?_
  refine AllReadyH.cons (o := _) rfl (fun K hK => ?_) AllReadyH.nil
  go_simp
  refine hK.out _ _ HC'.out (fun hHeld => ?_)
  clear hK K
  try simp only [Act.put, List.setIfInBounds_toArray, List.set_cons_zero, List.set_cons_succ]
  refine wpAnyH_done (by kernel_rfl) ?_ _
  go_wp2
  go_end0
  exact ⟨rfl, ⟨HL'.out, HOW.out⟩, ChM.of_grown (HB0.out.trans (HD0.out.mono HB0.out.size)) HG.out⟩
/-- The notes, with one player's. -/
def keepD (D : DataW Unit) (p : Nat) (s t : Int) : DataW Unit := if s = 0 ∧ t = 0 then D.del (kl p) else D.put (kl p) (nD s t)
theorem keepD_any (L M cnt p : Nat) (D : DataW Unit) (s t : Int) (w : World) (hL : IsB w L M cnt D) (hp : p < 4294967296) (hcnt : cnt ≤ 1000) :
    Calls Try.prog 49 #[.pointer (some ⟨L, 0, none⟩), .int .u32 (p : Int), nV s t] w fun r w' => r = .returned (.tuple #[]) ∧ IsB w' L M (cnt + 1) (keepD D p s t) ∧ ChM M w w' := by
  by_cases h : s = 0 ∧ t = 0
  · have e : keepD D p s t = D.del (kl p) := by simp [keepD, h]
    rw [e]
    obtain ⟨rfl, rfl⟩ := h
    exact (keepD_zero L M cnt p D w hL hp).mono fun r w' ⟨h1, h2, h3⟩ => ⟨h1, ⟨h2.1, h2.2.mono (by omega)⟩, h3⟩
  · have e : keepD D p s t = D.put (kl p) (nD s t) := by simp [keepD, h]
    rw [e]
    by_cases h1 : s = 0
    · subst h1
      have h2 : ¬ t = 0 := fun e => h ⟨rfl, e⟩
      exact keepD_b L M cnt p D t w hL hp hcnt h2 (by simp [h2])
    · exact keepD_a L M cnt p D s t w hL hp hcnt h1 (by simp [h1])
/-- What is told of every player: N gives the status and what was told last. -/
def Rep (D : DataW Unit) (N : Nat → Int × Int) : Prop := IsMap D ∧ ∀ p, D.atKey (kl p) (nD 0 0) = nD (N p).1 (N p).2 ∧ (has D (kl p) = true ↔ ¬ ((N p).1 = 0 ∧ (N p).2 = 0))
theorem Rep.start : Rep (.map []) (fun _ => (0, 0)) := ⟨⟨[], rfl⟩, fun p => ⟨rfl, by simp [has_eq]⟩⟩
def upd (N : Nat → Int × Int) (p : Nat) (x : Int × Int) : Nat → Int × Int := fun q => if q = p then x else N q
theorem kl_ne {p q : Nat} (h : q ≠ p) : kl q ≠ kl p := fun e => h (by injection e with _ e; omega)
theorem Rep.keep {D : DataW Unit} {N : Nat → Int × Int} (h : Rep D N) (p : Nat) (s t : Int) : Rep (keepD D p s t) (upd N p (s, t)) := by
  unfold keepD
  split
  · rename_i c
    refine ⟨h.1.del _, fun q => ?_⟩
    by_cases e : q = p
    · subst e
      simp [upd, c, atKey_del_same, has_del_same]
    · have hn := kl_ne e
      simp only [upd, e, if_false]
      rw [atKey_del_other hn, has_del_other hn]
      exact h.2 q
  · rename_i c
    refine ⟨h.1.put _ _, fun q => ?_⟩
    have hk : WideAt.IsKeyLit (kl p) := by simp [WideAt.IsKeyLit]
    by_cases e : q = p
    · subst e
      rw [atKey_put_same h.1 hk, has_put_same h.1 hk]
      simp only [upd, if_true]
      exact ⟨trivial, by simp; exact fun h1 h2 => c ⟨h1, h2⟩⟩
    · have hn := kl_ne e
      simp only [upd, e, if_false]
      rw [atKey_put_other hn, has_put_other hn]
      exact h.2 q
set_option maxHeartbeats 1000000 in
theorem setD_yes (L M cnt p : Nat) (D : DataW Unit) (N : Nat → Int × Int) (x : Int) (w : World) (hL : IsB w L M cnt D) (hN : Rep D N) (h1 : 1 ≤ p) (h2 : p ≤ 2147483647) (hcnt : cnt ≤ 1000) :
    Calls Try.prog 32 #[.pointer (some ⟨L, 0, none⟩), .int .u32 (p : Int), .int .i64 x] w fun r w' => r = .returned (.tuple #[]) ∧ IsB w' L M (cnt + 1) (keepD D p (nrm x) (N p).2) ∧ ChM M w w' := by
  obtain ⟨s, hs⟩ : ∃ s, s = (N p).1 := ⟨_, rfl⟩
  obtain ⟨t, ht⟩ : ∃ t, t = (N p).2 := ⟨_, rfl⟩
  have HC := Lib.hid (right_yes p h1 h2 w)
  have HK := Lib.hid fun y => keepD_any L M cnt p D y t w hL (by omega) hcnt
  obtain ⟨v, ps, hlk, hv⟩ := hL.2.lookup K26 Try.underlying114 (zero120 w) (R_mk 0 0) (key26 p (by omega))
  rw [(hN.2 p).1, ← hs, ← ht] at hv
  obtain rfl := R_inv hv
  dsimp only [nV] at hlk
  have hfd := fld1 s t w
  have c1 := cell_of_row w L 0 _ _ _ hL.1
  simp at c1
  rw [← ht]
  clear hv hL h1 h2 hcnt hs ht hN
  by_cases hx : x < 0
  · have t1 : decide (x < 0) = true := by rw [decide_eq_true_iff]; exact hx
    have HE := Lib.hid (show nrm x = 0 by simp [nrm, hx])
    go_enter Try.func32, Try.ntmps32
    go_wp2_with (first | (go_at_call 53; refine HC.out.mono ?_; rintro e w' ⟨rfl, rfl⟩) | (go_at_call 49; refine (HK.out _).mono ?_; rintro e w' ⟨rfl, hw⟩))
    go_end0
    exact ⟨rfl, by rw [HE.out]; exact hw.1, hw.2⟩
  · have t1 : decide (x < 0) = false := by rw [decide_eq_false_iff_not]; exact hx
    by_cases hy : x > 6
    · have t2 : decide (x > 6) = true := by rw [decide_eq_true_iff]; exact hy
      have HE := Lib.hid (show nrm x = 0 by simp [nrm]; intro _ h; omega)
      go_enter Try.func32, Try.ntmps32
      go_wp2_with (first | (go_at_call 53; refine HC.out.mono ?_; rintro e w' ⟨rfl, rfl⟩) | (go_at_call 49; refine (HK.out _).mono ?_; rintro e w' ⟨rfl, hw⟩))
      go_end0
      exact ⟨rfl, by rw [HE.out]; exact hw.1, hw.2⟩
    · have t2 : decide (x > 6) = false := by rw [decide_eq_false_iff_not]; exact hy
      have HE := Lib.hid (show nrm x = x by simp [nrm]; intro h; omega)
      go_enter Try.func32, Try.ntmps32
      go_wp2_with (first | (go_at_call 53; refine HC.out.mono ?_; rintro e w' ⟨rfl, rfl⟩) | (go_at_call 49; refine (HK.out _).mono ?_; rintro e w' ⟨rfl, hw⟩))
      go_end0
      exact ⟨rfl, by rw [HE.out]; exact hw.1, hw.2⟩
theorem statusD (L M cnt p : Nat) (D : DataW Unit) (N : Nat → Int × Int) (w : World) (hL : IsB w L M cnt D) (hN : Rep D N) (hp : p < 4294967296) :
    Calls Try.prog 34 #[.pointer (some ⟨L, 0, none⟩), .int .u32 (p : Int)] w fun r w' => r = .returned (.int .i64 (N p).1) ∧ w' = w := by
  obtain ⟨s, hs⟩ : ∃ s, s = (N p).1 := ⟨_, rfl⟩
  obtain ⟨t, ht⟩ : ∃ t, t = (N p).2 := ⟨_, rfl⟩
  obtain ⟨v, ps, hlk, hv⟩ := hL.2.lookup K26 Try.underlying114 (zero120 w) (R_mk 0 0) (key26 p hp)
  rw [(hN.2 p).1, ← hs, ← ht] at hv
  obtain rfl := R_inv hv
  dsimp only [nV] at hlk
  have hfd := fld0 s t w
  have c1 := cell_of_row w L 0 _ _ _ hL.1
  simp at c1
  rw [← hs]
  clear hv hL hs ht hN
  go_enter Try.func34, Try.ntmps34
  go_wp2
  go_ret
  exact ⟨rfl, rfl⟩
end Go.Proofs.Ytaoejkbockcneaa.Bd
