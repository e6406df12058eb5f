/- Friend: FriendRuns' walk. -/
import Derived.Test.YtohcibmlkngaeaaE7
namespace Go.Proofs.Ytohcibmlkngaeaa
open Go.RowKit Go.Maps
set_option maxRecDepth 20000
set_option linter.unusedVariables false
set_option linter.unusedSimpArgs false

/-- How things stand behind some acts: the graph, and the document's rows. -/
def FS (w : World) (L M N : Nat) (l : List Rw) (A : Option Addr) (n : Nat) (wr : World) : Prop :=
  Gr wr L M N l ∧ Inv l ∧ n = l.length ∧ n ≤ N ∧ Rr wr A l ∧ Below w.heap.size w wr
theorem FS.below {w W W' : World} {L M N : Nat} {l : List Rw} {A : Option Addr} {n : Nat} (h : FS w L M N l A n W) (hb : Below W.heap.size W W') : FS w L M N l A n W' :=
  ⟨h.1.below hb, h.2.1, h.2.2.1, h.2.2.2.1, h.2.2.2.2.1.below hb, h.2.2.2.2.2.trans (hb.mono h.2.2.2.2.2.size)⟩
/-- One more act. -/
theorem FS.act {w W : World} {L N n c : Nat} {l : List Rw} {A : Option Addr} (h : FS w L w.heap.size N l A n W) (hN : N ≤ 190) {d : Int} {a b : Nat} (hd : 0 ≤ d) (ha : u32ok a) (hb : u32ok b) :
    Calls Try.prog 8 #[gp L, .slice A n c, .agg #[.int .u8 d, u a, u b]] W fun r w' => ∃ B m c', r = .returned (.tuple #[.slice B m c', .bool true]) ∧ FS w L w.heap.size (N + 1) (actP d l a b) B m w' ∧ ChM w.heap.size W w' := by
  obtain ⟨h1, h2, h3, h4, h5, h6⟩ := h
  refine (do_any L w.heap.size N n c a b A l l W h1 h2 h2 (by omega) ha hb h3 h5 (by omega) d hd).mono ?_
  rintro r w' ⟨B, m, c', bo, rfl, hbo, hm, hR, hG, hK⟩
  rw [hbo rfl]
  exact ⟨B, m, c', rfl, ⟨hG, h2.act d a b, hm, by have := len_act d l a b; omega, hR, h6.trans (hK.1 _ (Nat.le_refl _) h6.size)⟩, hK⟩
set_option maxHeartbeats 16000000 in
theorem runs_any (p : Option Addr × Nat) (acts : List Ac) (w : World) (hA : As w w.heap.size p.1 acts) (hl : acts.length ≤ 9223372036854775807) (hR : ∀ e ∈ acts, Ra e) :
    Calls Try.prog 3 #[.slice p.1 acts.length p.2] w fun r w' => r = .returned (.bool true) ∧ Below w.heap.size w w' := by
  obtain ⟨P, cp⟩ := p
  simp only at hA ⊢
  obtain ⟨n0, hn⟩ : ∃ n, n = acts.length := ⟨_, rfl⟩
  rw [← hn] at hl ⊢
  have HA := Lib.hid hA
  have HR := Lib.hid hR
  have HN := Lib.hid hn
  have HAW : Hid (∀ W, Calls Try.prog 12 #[] W fun r w' => r = .returned (.bool true) ∧ Below W.heap.size W w') := fun W => awake_any W
  have HNW := Lib.hid (new_any w)
  clear hA hR hn
  by_cases h120 : 120 < n0
  · go_enter Try.func3, Try.ntmps3
    go_wp2
    go_ret
    exact ⟨rfl, Below.refl _ _⟩
  go_enter Try.func3, Try.ntmps3
  go_wp2_with fail
  refine HNW.out.mono ?_
  rintro r w1 ⟨rfl, g1, b1⟩
  obtain ⟨L, hL⟩ : ∃ L, L = w.heap.size + 1 := ⟨_, rfl⟩
  rw [← hL] at g1 ⊢
  have HS : Hid (FS w L w.heap.size 0 [] none 0 w1) := ⟨g1, Inv.nil, rfl, Nat.le_refl _, Rr.nil _, b1⟩
  clear g1 b1 hL
  go_wp2_with fail
  go_loopw [4, 5] (fun vl i wr => ∃ (k n c : Nat) (A : Option Addr) (l : List Rw), k ≤ n0 ∧ i = .int .i64 (k : Int) ∧ vl = .slice A n c ∧ Hid (FS w L w.heap.size k l A n wr)) (fun _ i _ => n0 - (intOf i).toNat)
  case atStart => exact ⟨0, 0, 0, none, [], Nat.zero_le _, rfl, rfl, HS.out⟩
  case round =>
    obtain ⟨k, n, c, A, l, hk, rfl, rfl, HM⟩ := hrel
    by_cases hlt : k < n0
    · obtain ⟨⟨d, a, b⟩, hy⟩ : ∃ e, acts[k]? = some e := ⟨acts[k]'(by rw [← HN.out]; exact hlt), List.getElem?_eq_getElem _⟩
      obtain ⟨hd, ha, hb⟩ := HR.out _ (List.mem_of_getElem? hy)
      simp only at hd ha hb
      obtain ⟨b1, o1, rfl, hb1, ha1⟩ := HA.out (by have := HN.out; omega)
      obtain ⟨e0, e1, e2⟩ := ha1 k _ hy
      have d0 := (HM.out.2.2.2.2.2.cell (p := ⟨b1, _, none⟩) hb1).trans e0
      have d1 := (HM.out.2.2.2.2.2.cell (p := ⟨b1, _, none⟩) hb1).trans e1
      have d2 := (HM.out.2.2.2.2.2.cell (p := ⟨b1, _, none⟩) hb1).trans e2
      simp only at d0 d1 d2
      obtain ⟨X, hX⟩ : ∃ X, X = wr.heap.size := ⟨_, rfl⟩
      obtain ⟨v1, hv1⟩ : ∃ v1, v1 = wr.alloc (.cells #[.int .u8 d, u a, u b] 28) := ⟨_, rfl⟩
      have hbv1 : Below wr.heap.size wr v1 := by rw [hv1]; exact (Below.refl _ _).alloc (Nat.le_refl _) _
      have hqv1 : v1.heap[X]? = some (.cells #[.int .u8 d, u a, u b] 28 (0, 0)) := by rw [hv1, hX]; exact heap_alloc_new wr _
      have HXM : Hid (w.heap.size < X) := by
        obtain ⟨D, ⟨_, hm⟩, _⟩ := HM.out.1
        have := hm.lt
        simp only [Hid]
        omega
      have HACT := Lib.hid ((HM.out.below hbv1).act (c := c) (by omega) hd ha hb)
      have HV1 := Lib.hid hv1
      have HQV1 := Lib.hid hqv1
      have HXX := Lib.hid hX
      have HAB := Lib.hid (And.intro ha hb)
      have t0 := cell_of_row v1 X 0 _ _ _ hqv1
      have t1 := cell_of_row v1 X 1 _ _ _ hqv1
      have t2 := cell_of_row v1 X 2 _ _ _ hqv1
      simp at t0 t1 t2
      clear hy ha1 hb1 e0 e1 e2 hv1 hbv1 hqv1 hd ha hb hX
      go_upto_region 11 with (fail)
      rw [← HV1.out, ← HXX.out]
      clear d0 d1 d2
      go_wp2_with fail
      refine HACT.out.mono ?_
      rintro r w2 ⟨B, m, c', rfl, hfs, hk2⟩
      have HF2 := Lib.hid hfs
      have hq2 : w2.heap[X]? = some (.cells #[.int .u8 d, u a, u b] 28 (0, 0)) := (hk2.2.1 _ (lt_of_block HQV1.out) (by have := HXM.out; omega)).trans HQV1.out
      have HCE : Hid (∀ W, Below w2.heap.size w2 W → (fun W : World => W.cell? ⟨X, 1, none⟩ = some (u a) ∧ W.cell? ⟨X, 2, none⟩ = some (u b)) W) := fun W hW => by
        have e := (hW.block _ (lt_of_block hq2)).trans hq2
        exact ⟨cell_of_row W _ 1 _ _ _ e, cell_of_row W _ 2 _ _ _ e⟩
      obtain ⟨l2, hl2⟩ : ∃ l2, l2 = actP d l a b := ⟨_, rfl⟩
      rw [← hl2] at HF2
      have HLA : Hid (∀ W, Below w2.heap.size w2 W → Calls Try.prog 9 #[gp L, .slice B m c', u a] W fun r w' => r = .returned (.bool true) ∧ Below W.heap.size W w') := fun W hW => by
        obtain ⟨q1, q2, q3, q4, q5, q6⟩ := HF2.out.below hW
        exact like_any L w.heap.size (k + 1) m c' a B l2 W q1 q2 (by omega) HAB.out.1 q3 q5 (by omega)
      have HLB : Hid (∀ W, Below w2.heap.size w2 W → Calls Try.prog 9 #[gp L, .slice B m c', u b] W fun r w' => r = .returned (.bool true) ∧ Below W.heap.size W w') := fun W hW => by
        obtain ⟨q1, q2, q3, q4, q5, q6⟩ := HF2.out.below hW
        exact like_any L w.heap.size (k + 1) m c' b B l2 W q1 q2 (by omega) HAB.out.2 q3 q5 (by omega)
      obtain ⟨ar, har⟩ : ∃ ar, ar = areB l2 a b := ⟨_, rfl⟩
      have HAR : Hid (∀ W, Below w2.heap.size w2 W → Calls Try.prog 10 #[gp L, u a, u b] W fun r w' => r = .returned (.bool ar) ∧ Below W.heap.size W w') := fun W hW => by
        obtain ⟨⟨D, q1, q2, _⟩, hi, _⟩ := HF2.out.below hW
        exact (are_any L w.heap.size _ a b D _ W q1 q2 HAB.out.1 HAB.out.2).mono fun r w' h => ⟨by rw [h.1, har, are_dec hi], by rw [h.2]; exact Below.refl _ _⟩
      have HRA : Hid (∀ W, Below w2.heap.size w2 W → Calls Try.prog 11 #[.slice B m c', u a, u b] W fun r w' => r = .returned (.bool ar) ∧ Below W.heap.size W w') := fun W hW => by
        obtain ⟨q1, q2, q3, q4, q5, q6⟩ := HF2.out.below hW
        exact (rare_any B m c' a b l2 W q3 q5 (by omega)).mono fun r w' h => ⟨by rw [h.1, har], by rw [h.2]; exact Below.refl _ _⟩
      have HBS : Hid (Below w2.heap.size w2 w2) := Below.refl _ _
      clear hfs hk2 hq2 hl2 har t0 t1 t2
      go_upto_region 12 with (fail)
      have HDz : Hid (Below w2.heap.size w2 w2.drew) := HBS.out.drew
      refine wp_region_held_drew (S := fun W : World => W.cell? ⟨X, 1, none⟩ = some (u a) ∧ W.cell? ⟨X, 2, none⟩ = some (u b)) (by kernel_rfl) (HCE.out _ (HDz.out)) (fun hHeld => ?_)
      obtain ⟨Wz0, hW0⟩ : ∃ W0, W0 = w2.drew := ⟨_, rfl⟩
      rw [← hW0] at hHeld HDz ⊢
      clear hW0
      refine wpAnyH_take (i := 0) (oi := ?oi0z) (v := ?v0z) ?hi0z ?hs0z ?hf0z ?hr0z ?hQ0z ?hy0z ?hS0z ?h0z
      case hi0z => exact (by simp only [List.getElem?_toArray, List.getElem?_cons_zero]; rfl)
      case hs0z => kernel_rfl
      case hf0z => kernel_rfl
      case hr0z => kernel_rfl
      case hQ0z => exact fun _ _ _ h => h
      case hy0z =>
        refine Or.inl ⟨rfl, ?_⟩
        intro W hSw
        obtain ⟨y0, y1⟩ := hSw
        go_simp
        try with_reducible rfl
      case hS0z => assumption
      try simp only [Act.put, List.setIfInBounds_toArray, List.set_cons_zero, List.set_cons_succ]
      refine wpAnyH_take (i := 1) (oi := ?oi1z) (v := (.bool false)) ?hi1z ?hs1z ?hf1z ?hr1z ?hQ1z ?hy1z ?hS1z ?h1z
      case hi1z => exact (by simp only [List.getElem?_toArray, List.getElem?_cons_succ, List.getElem?_cons_zero]; rfl)
      case hs1z => kernel_rfl
      case hf1z => kernel_rfl
      case hr1z => kernel_rfl
      case hQ1z => exact fun _ _ _ h => h
      case hy1z =>
        refine Or.inl ⟨rfl, ?_⟩
        intro W hSw
        obtain ⟨y0, y1⟩ := hSw
        go_simp
        try simp
      case hS1z => assumption
      try simp only [Act.put, List.setIfInBounds_toArray, List.set_cons_zero, List.set_cons_succ]
      refine wpAnyH_take (i := 2) (oi := ?oi2z) (v := ?v2z) ?hi2z ?hs2z ?hf2z ?hr2z ?hQ2z ?hy2z ?hS2z ?h2z
      case hi2z => exact (by simp only [List.getElem?_toArray, List.getElem?_cons_succ, List.getElem?_cons_zero]; rfl)
      case hs2z => kernel_rfl
      case hf2z => kernel_rfl
      case hr2z => kernel_rfl
      case hQ2z => exact fun _ _ _ h => h
      case hy2z =>
        refine Or.inl ⟨rfl, ?_⟩
        intro W hSw
        obtain ⟨y0, y1⟩ := hSw
        go_simp
        try with_reducible rfl
      case hS2z => assumption
      try simp only [Act.put, List.setIfInBounds_toArray, List.set_cons_zero, List.set_cons_succ]
      refine wpAnyH_take (i := 3) (oi := ?oi3z) (v := ?v3z) ?hi3z ?hs3z ?hf3z ?hr3z ?hQ3z ?hy3z ?hS3z ?h3z
      case hi3z => exact (by simp only [List.getElem?_toArray, List.getElem?_cons_succ, List.getElem?_cons_zero]; rfl)
      case hs3z => kernel_rfl
      case hf3z => kernel_rfl
      case hr3z => kernel_rfl
      case hQ3z => exact fun _ _ _ h => h
      case hy3z =>
        refine Or.inl ⟨rfl, ?_⟩
        intro W hSw
        obtain ⟨y0, y1⟩ := hSw
        go_simp
        try with_reducible rfl
      case hS3z => assumption
      try simp only [Act.put, List.setIfInBounds_toArray, List.set_cons_zero, List.set_cons_succ]
      refine wpAnyH_take (i := 4) (oi := ?oi4z) (v := ?v4z) ?hi4z ?hs4z ?hf4z ?hr4z ?hQ4z ?hy4z ?hS4z ?h4z
      case hi4z => exact (by simp only [List.getElem?_toArray, List.getElem?_cons_succ, List.getElem?_cons_zero]; rfl)
      case hs4z => kernel_rfl
      case hf4z => kernel_rfl
      case hr4z => kernel_rfl
      case hQ4z => exact fun _ _ _ h => h
      case hy4z =>
        refine Or.inl ⟨rfl, ?_⟩
        intro W hSw
        obtain ⟨y0, y1⟩ := hSw
        go_simp
        try with_reducible rfl
      case hS4z => assumption
      try simp only [Act.put, List.setIfInBounds_toArray, List.set_cons_zero, List.set_cons_succ]
      refine wpAnyH_take (i := 5) (oi := ?oi5z) (v := ?v5z) ?hi5z ?hs5z ?hf5z ?hr5z ?hQ5z ?hy5z ?hS5z ?h5z
      case hi5z => exact (by simp only [List.getElem?_toArray, List.getElem?_cons_succ, List.getElem?_cons_zero]; rfl)
      case hs5z => kernel_rfl
      case hf5z => kernel_rfl
      case hr5z => kernel_rfl
      case hQ5z => exact fun _ _ _ h => h
      case hy5z =>
        refine Or.inl ⟨rfl, ?_⟩
        intro W hSw
        obtain ⟨y0, y1⟩ := hSw
        go_simp
        try with_reducible rfl
      case hS5z => assumption
      try simp only [Act.put, List.setIfInBounds_toArray, List.set_cons_zero, List.set_cons_succ]
      refine wpAnyH_take (i := 6) (oi := ?oi6z) (v := ?v6z) ?hi6z ?hs6z ?hf6z ?hr6z ?hQ6z ?hy6z ?hS6z ?h6z
      case hi6z => exact (by simp only [List.getElem?_toArray, List.getElem?_cons_succ, List.getElem?_cons_zero]; rfl)
      case hs6z => kernel_rfl
      case hf6z => kernel_rfl
      case hr6z => kernel_rfl
      case hQ6z => exact fun _ _ _ h => h
      case hy6z =>
        refine Or.inl ⟨rfl, ?_⟩
        intro W hSw
        obtain ⟨y0, y1⟩ := hSw
        go_simp
        try with_reducible rfl
      case hS6z => assumption
      try simp only [Act.put, List.setIfInBounds_toArray, List.set_cons_zero, List.set_cons_succ]
      refine wpAnyH_ready (rs := [7]) (by kernel_rfl) (by simp) ?_
      refine AllReadyH.cons (o := _) rfl (fun K hK => ?_) AllReadyH.nil
      go_simp
      refine ((HLA.out Wz0 HDz.out)).mono ?_
      rintro r Wz1 ⟨rfl, hbq⟩
      have HBz1 := Lib.hid (HDz.out.trans (hbq.mono HDz.out.size))
      clear hbq
      refine hK.out _ _ (HCE.out _ (HBz1.out)) (fun hHeld => ?_)
      clear hK K
      try simp only [Act.put, List.setIfInBounds_toArray, List.set_cons_zero, List.set_cons_succ]
      refine wpAnyH_take (i := 8) (oi := ?oi8z) (v := (.bool false)) ?hi8z ?hs8z ?hf8z ?hr8z ?hQ8z ?hy8z ?hS8z ?h8z
      case hi8z => exact (by simp only [List.getElem?_toArray, List.getElem?_cons_succ, List.getElem?_cons_zero]; rfl)
      case hs8z => kernel_rfl
      case hf8z => kernel_rfl
      case hr8z => kernel_rfl
      case hQ8z => exact fun _ _ _ h => h
      case hy8z =>
        refine Or.inl ⟨rfl, ?_⟩
        intro W hSw
        obtain ⟨y0, y1⟩ := hSw
        go_simp
        try simp
      case hS8z => assumption
      try simp only [Act.put, List.setIfInBounds_toArray, List.set_cons_zero, List.set_cons_succ]
      refine wpAnyH_take (i := 9) (oi := ?oi9z) (v := ?v9z) ?hi9z ?hs9z ?hf9z ?hr9z ?hQ9z ?hy9z ?hS9z ?h9z
      case hi9z => exact (by simp only [List.getElem?_toArray, List.getElem?_cons_succ, List.getElem?_cons_zero]; rfl)
      case hs9z => kernel_rfl
      case hf9z => kernel_rfl
      case hr9z => kernel_rfl
      case hQ9z => exact fun _ _ _ h => h
      case hy9z =>
        refine Or.inl ⟨rfl, ?_⟩
        intro W hSw
        obtain ⟨y0, y1⟩ := hSw
        go_simp
        try with_reducible rfl
      case hS9z => assumption
      try simp only [Act.put, List.setIfInBounds_toArray, List.set_cons_zero, List.set_cons_succ]
      refine wpAnyH_take (i := 10) (oi := ?oi10z) (v := ?v10z) ?hi10z ?hs10z ?hf10z ?hr10z ?hQ10z ?hy10z ?hS10z ?h10z
      case hi10z => exact (by simp only [List.getElem?_toArray, List.getElem?_cons_succ, List.getElem?_cons_zero]; rfl)
      case hs10z => kernel_rfl
      case hf10z => kernel_rfl
      case hr10z => kernel_rfl
      case hQ10z => exact fun _ _ _ h => h
      case hy10z =>
        refine Or.inl ⟨rfl, ?_⟩
        intro W hSw
        obtain ⟨y0, y1⟩ := hSw
        go_simp
        try with_reducible rfl
      case hS10z => assumption
      try simp only [Act.put, List.setIfInBounds_toArray, List.set_cons_zero, List.set_cons_succ]
      refine wpAnyH_take (i := 11) (oi := ?oi11z) (v := ?v11z) ?hi11z ?hs11z ?hf11z ?hr11z ?hQ11z ?hy11z ?hS11z ?h11z
      case hi11z => exact (by simp only [List.getElem?_toArray, List.getElem?_cons_succ, List.getElem?_cons_zero]; rfl)
      case hs11z => kernel_rfl
      case hf11z => kernel_rfl
      case hr11z => kernel_rfl
      case hQ11z => exact fun _ _ _ h => h
      case hy11z =>
        refine Or.inl ⟨rfl, ?_⟩
        intro W hSw
        obtain ⟨y0, y1⟩ := hSw
        go_simp
        try with_reducible rfl
      case hS11z => assumption
      try simp only [Act.put, List.setIfInBounds_toArray, List.set_cons_zero, List.set_cons_succ]
      refine wpAnyH_take (i := 12) (oi := ?oi12z) (v := ?v12z) ?hi12z ?hs12z ?hf12z ?hr12z ?hQ12z ?hy12z ?hS12z ?h12z
      case hi12z => exact (by simp only [List.getElem?_toArray, List.getElem?_cons_succ, List.getElem?_cons_zero]; rfl)
      case hs12z => kernel_rfl
      case hf12z => kernel_rfl
      case hr12z => kernel_rfl
      case hQ12z => exact fun _ _ _ h => h
      case hy12z =>
        refine Or.inl ⟨rfl, ?_⟩
        intro W hSw
        obtain ⟨y0, y1⟩ := hSw
        go_simp
        try with_reducible rfl
      case hS12z => assumption
      try simp only [Act.put, List.setIfInBounds_toArray, List.set_cons_zero, List.set_cons_succ]
      refine wpAnyH_take (i := 13) (oi := ?oi13z) (v := ?v13z) ?hi13z ?hs13z ?hf13z ?hr13z ?hQ13z ?hy13z ?hS13z ?h13z
      case hi13z => exact (by simp only [List.getElem?_toArray, List.getElem?_cons_succ, List.getElem?_cons_zero]; rfl)
      case hs13z => kernel_rfl
      case hf13z => kernel_rfl
      case hr13z => kernel_rfl
      case hQ13z => exact fun _ _ _ h => h
      case hy13z =>
        refine Or.inl ⟨rfl, ?_⟩
        intro W hSw
        obtain ⟨y0, y1⟩ := hSw
        go_simp
        try with_reducible rfl
      case hS13z => assumption
      try simp only [Act.put, List.setIfInBounds_toArray, List.set_cons_zero, List.set_cons_succ]
      refine wpAnyH_take (i := 14) (oi := ?oi14z) (v := ?v14z) ?hi14z ?hs14z ?hf14z ?hr14z ?hQ14z ?hy14z ?hS14z ?h14z
      case hi14z => exact (by simp only [List.getElem?_toArray, List.getElem?_cons_succ, List.getElem?_cons_zero]; rfl)
      case hs14z => kernel_rfl
      case hf14z => kernel_rfl
      case hr14z => kernel_rfl
      case hQ14z => exact fun _ _ _ h => h
      case hy14z =>
        refine Or.inl ⟨rfl, ?_⟩
        intro W hSw
        obtain ⟨y0, y1⟩ := hSw
        go_simp
        try with_reducible rfl
      case hS14z => assumption
      try simp only [Act.put, List.setIfInBounds_toArray, List.set_cons_zero, List.set_cons_succ]
      refine wpAnyH_ready (rs := [15]) (by kernel_rfl) (by simp) ?_
      refine AllReadyH.cons (o := _) rfl (fun K hK => ?_) AllReadyH.nil
      go_simp
      refine ((HLB.out Wz1 HBz1.out)).mono ?_
      rintro r Wz2 ⟨rfl, hbq⟩
      have HBz2 := Lib.hid (HBz1.out.trans (hbq.mono HBz1.out.size))
      clear hbq
      refine hK.out _ _ (HCE.out _ (HBz2.out)) (fun hHeld => ?_)
      clear hK K
      try simp only [Act.put, List.setIfInBounds_toArray, List.set_cons_zero, List.set_cons_succ]
      refine wpAnyH_take (i := 16) (oi := ?oi16z) (v := (.bool false)) ?hi16z ?hs16z ?hf16z ?hr16z ?hQ16z ?hy16z ?hS16z ?h16z
      case hi16z => exact (by simp only [List.getElem?_toArray, List.getElem?_cons_succ, List.getElem?_cons_zero]; rfl)
      case hs16z => kernel_rfl
      case hf16z => kernel_rfl
      case hr16z => kernel_rfl
      case hQ16z => exact fun _ _ _ h => h
      case hy16z =>
        refine Or.inl ⟨rfl, ?_⟩
        intro W hSw
        obtain ⟨y0, y1⟩ := hSw
        go_simp
        try simp
      case hS16z => assumption
      try simp only [Act.put, List.setIfInBounds_toArray, List.set_cons_zero, List.set_cons_succ]
      refine wpAnyH_take (i := 17) (oi := ?oi17z) (v := ?v17z) ?hi17z ?hs17z ?hf17z ?hr17z ?hQ17z ?hy17z ?hS17z ?h17z
      case hi17z => exact (by simp only [List.getElem?_toArray, List.getElem?_cons_succ, List.getElem?_cons_zero]; rfl)
      case hs17z => kernel_rfl
      case hf17z => kernel_rfl
      case hr17z => kernel_rfl
      case hQ17z => exact fun _ _ _ h => h
      case hy17z =>
        refine Or.inl ⟨rfl, ?_⟩
        intro W hSw
        obtain ⟨y0, y1⟩ := hSw
        go_simp
        try with_reducible rfl
      case hS17z => assumption
      try simp only [Act.put, List.setIfInBounds_toArray, List.set_cons_zero, List.set_cons_succ]
      refine wpAnyH_take (i := 18) (oi := ?oi18z) (v := ?v18z) ?hi18z ?hs18z ?hf18z ?hr18z ?hQ18z ?hy18z ?hS18z ?h18z
      case hi18z => exact (by simp only [List.getElem?_toArray, List.getElem?_cons_succ, List.getElem?_cons_zero]; rfl)
      case hs18z => kernel_rfl
      case hf18z => kernel_rfl
      case hr18z => kernel_rfl
      case hQ18z => exact fun _ _ _ h => h
      case hy18z =>
        refine Or.inl ⟨rfl, ?_⟩
        intro W hSw
        obtain ⟨y0, y1⟩ := hSw
        go_simp
        try with_reducible rfl
      case hS18z => assumption
      try simp only [Act.put, List.setIfInBounds_toArray, List.set_cons_zero, List.set_cons_succ]
      refine wpAnyH_take (i := 19) (oi := ?oi19z) (v := ?v19z) ?hi19z ?hs19z ?hf19z ?hr19z ?hQ19z ?hy19z ?hS19z ?h19z
      case hi19z => exact (by simp only [List.getElem?_toArray, List.getElem?_cons_succ, List.getElem?_cons_zero]; rfl)
      case hs19z => kernel_rfl
      case hf19z => kernel_rfl
      case hr19z => kernel_rfl
      case hQ19z => exact fun _ _ _ h => h
      case hy19z =>
        refine Or.inl ⟨rfl, ?_⟩
        intro W hSw
        obtain ⟨y0, y1⟩ := hSw
        go_simp
        try with_reducible rfl
      case hS19z => assumption
      try simp only [Act.put, List.setIfInBounds_toArray, List.set_cons_zero, List.set_cons_succ]
      refine wpAnyH_take (i := 20) (oi := ?oi20z) (v := ?v20z) ?hi20z ?hs20z ?hf20z ?hr20z ?hQ20z ?hy20z ?hS20z ?h20z
      case hi20z => exact (by simp only [List.getElem?_toArray, List.getElem?_cons_succ, List.getElem?_cons_zero]; rfl)
      case hs20z => kernel_rfl
      case hf20z => kernel_rfl
      case hr20z => kernel_rfl
      case hQ20z => exact fun _ _ _ h => h
      case hy20z =>
        refine Or.inl ⟨rfl, ?_⟩
        intro W hSw
        obtain ⟨y0, y1⟩ := hSw
        go_simp
        try with_reducible rfl
      case hS20z => assumption
      try simp only [Act.put, List.setIfInBounds_toArray, List.set_cons_zero, List.set_cons_succ]
      refine wpAnyH_take (i := 21) (oi := ?oi21z) (v := ?v21z) ?hi21z ?hs21z ?hf21z ?hr21z ?hQ21z ?hy21z ?hS21z ?h21z
      case hi21z => exact (by simp only [List.getElem?_toArray, List.getElem?_cons_succ, List.getElem?_cons_zero]; rfl)
      case hs21z => kernel_rfl
      case hf21z => kernel_rfl
      case hr21z => kernel_rfl
      case hQ21z => exact fun _ _ _ h => h
      case hy21z =>
        refine Or.inl ⟨rfl, ?_⟩
        intro W hSw
        obtain ⟨y0, y1⟩ := hSw
        go_simp
        try with_reducible rfl
      case hS21z => assumption
      try simp only [Act.put, List.setIfInBounds_toArray, List.set_cons_zero, List.set_cons_succ]
      refine wpAnyH_take (i := 22) (oi := ?oi22z) (v := ?v22z) ?hi22z ?hs22z ?hf22z ?hr22z ?hQ22z ?hy22z ?hS22z ?h22z
      case hi22z => exact (by simp only [List.getElem?_toArray, List.getElem?_cons_succ, List.getElem?_cons_zero]; rfl)
      case hs22z => kernel_rfl
      case hf22z => kernel_rfl
      case hr22z => kernel_rfl
      case hQ22z => exact fun _ _ _ h => h
      case hy22z =>
        refine Or.inl ⟨rfl, ?_⟩
        intro W hSw
        obtain ⟨y0, y1⟩ := hSw
        go_simp
        try with_reducible rfl
      case hS22z => assumption
      try simp only [Act.put, List.setIfInBounds_toArray, List.set_cons_zero, List.set_cons_succ]
      refine wpAnyH_take (i := 23) (oi := ?oi23z) (v := ?v23z) ?hi23z ?hs23z ?hf23z ?hr23z ?hQ23z ?hy23z ?hS23z ?h23z
      case hi23z => exact (by simp only [List.getElem?_toArray, List.getElem?_cons_succ, List.getElem?_cons_zero]; rfl)
      case hs23z => kernel_rfl
      case hf23z => kernel_rfl
      case hr23z => kernel_rfl
      case hQ23z => exact fun _ _ _ h => h
      case hy23z =>
        refine Or.inl ⟨rfl, ?_⟩
        intro W hSw
        obtain ⟨y0, y1⟩ := hSw
        go_simp
        try with_reducible rfl
      case hS23z => assumption
      try simp only [Act.put, List.setIfInBounds_toArray, List.set_cons_zero, List.set_cons_succ]
      refine wpAnyH_take (i := 25) (oi := ?oi25z) (v := ?v25z) ?hi25z ?hs25z ?hf25z ?hr25z ?hQ25z ?hy25z ?hS25z ?h25z
      case hi25z => exact (by simp only [List.getElem?_toArray, List.getElem?_cons_succ, List.getElem?_cons_zero]; rfl)
      case hs25z => kernel_rfl
      case hf25z => kernel_rfl
      case hr25z => kernel_rfl
      case hQ25z => exact fun _ _ _ h => h
      case hy25z =>
        refine Or.inl ⟨rfl, ?_⟩
        intro W hSw
        obtain ⟨y0, y1⟩ := hSw
        go_simp
        try with_reducible rfl
      case hS25z => assumption
      try simp only [Act.put, List.setIfInBounds_toArray, List.set_cons_zero, List.set_cons_succ]
      refine wpAnyH_take (i := 26) (oi := ?oi26z) (v := ?v26z) ?hi26z ?hs26z ?hf26z ?hr26z ?hQ26z ?hy26z ?hS26z ?h26z
      case hi26z => exact (by simp only [List.getElem?_toArray, List.getElem?_cons_succ, List.getElem?_cons_zero]; rfl)
      case hs26z => kernel_rfl
      case hf26z => kernel_rfl
      case hr26z => kernel_rfl
      case hQ26z => exact fun _ _ _ h => h
      case hy26z =>
        refine Or.inl ⟨rfl, ?_⟩
        intro W hSw
        obtain ⟨y0, y1⟩ := hSw
        go_simp
        try with_reducible rfl
      case hS26z => assumption
      try simp only [Act.put, List.setIfInBounds_toArray, List.set_cons_zero, List.set_cons_succ]
      refine wpAnyH_take (i := 27) (oi := ?oi27z) (v := ?v27z) ?hi27z ?hs27z ?hf27z ?hr27z ?hQ27z ?hy27z ?hS27z ?h27z
      case hi27z => exact (by simp only [List.getElem?_toArray, List.getElem?_cons_succ, List.getElem?_cons_zero]; rfl)
      case hs27z => kernel_rfl
      case hf27z => kernel_rfl
      case hr27z => kernel_rfl
      case hQ27z => exact fun _ _ _ h => h
      case hy27z =>
        refine Or.inl ⟨rfl, ?_⟩
        intro W hSw
        obtain ⟨y0, y1⟩ := hSw
        go_simp
        try with_reducible rfl
      case hS27z => assumption
      try simp only [Act.put, List.setIfInBounds_toArray, List.set_cons_zero, List.set_cons_succ]
      refine wpAnyH_take (i := 28) (oi := ?oi28z) (v := ?v28z) ?hi28z ?hs28z ?hf28z ?hr28z ?hQ28z ?hy28z ?hS28z ?h28z
      case hi28z => exact (by simp only [List.getElem?_toArray, List.getElem?_cons_succ, List.getElem?_cons_zero]; rfl)
      case hs28z => kernel_rfl
      case hf28z => kernel_rfl
      case hr28z => kernel_rfl
      case hQ28z => exact fun _ _ _ h => h
      case hy28z =>
        refine Or.inl ⟨rfl, ?_⟩
        intro W hSw
        obtain ⟨y0, y1⟩ := hSw
        go_simp
        try with_reducible rfl
      case hS28z => assumption
      try simp only [Act.put, List.setIfInBounds_toArray, List.set_cons_zero, List.set_cons_succ]
      refine wpAnyH_take (i := 29) (oi := ?oi29z) (v := ?v29z) ?hi29z ?hs29z ?hf29z ?hr29z ?hQ29z ?hy29z ?hS29z ?h29z
      case hi29z => exact (by simp only [List.getElem?_toArray, List.getElem?_cons_succ, List.getElem?_cons_zero]; rfl)
      case hs29z => kernel_rfl
      case hf29z => kernel_rfl
      case hr29z => kernel_rfl
      case hQ29z => exact fun _ _ _ h => h
      case hy29z =>
        refine Or.inl ⟨rfl, ?_⟩
        intro W hSw
        obtain ⟨y0, y1⟩ := hSw
        go_simp
        try with_reducible rfl
      case hS29z => assumption
      try simp only [Act.put, List.setIfInBounds_toArray, List.set_cons_zero, List.set_cons_succ]
      refine wpAnyH_ready (rs := [24]) (by kernel_rfl) (by simp) ?_
      refine AllReadyH.cons (o := _) rfl (fun K hK => ?_) AllReadyH.nil
      go_simp
      refine ((HAR.out Wz2 HBz2.out)).mono ?_
      rintro r Wz3 ⟨rfl, hbq⟩
      have HBz3 := Lib.hid (HBz2.out.trans (hbq.mono HBz2.out.size))
      clear hbq
      refine hK.out _ _ (HCE.out _ (HBz3.out)) (fun hHeld => ?_)
      clear hK K
      try simp only [Act.put, List.setIfInBounds_toArray, List.set_cons_zero, List.set_cons_succ]
      refine wpAnyH_ready (rs := [30]) (by kernel_rfl) (by simp) ?_
      refine AllReadyH.cons (o := _) rfl (fun K hK => ?_) AllReadyH.nil
      go_simp
      refine ((HRA.out Wz3 HBz3.out)).mono ?_
      rintro r Wz4 ⟨rfl, hbq⟩
      have HBz4 := Lib.hid (HBz3.out.trans (hbq.mono HBz3.out.size))
      clear hbq
      refine hK.out _ _ (HCE.out _ (HBz4.out)) (fun hHeld => ?_)
      clear hK K
      try simp only [Act.put, List.setIfInBounds_toArray, List.set_cons_zero, List.set_cons_succ]
      refine wpAnyH_take (i := 31) (oi := ?oi31z) (v := (.bool false)) ?hi31z ?hs31z ?hf31z ?hr31z ?hQ31z ?hy31z ?hS31z ?h31z
      case hi31z => exact (by simp only [List.getElem?_toArray, List.getElem?_cons_succ, List.getElem?_cons_zero]; rfl)
      case hs31z => kernel_rfl
      case hf31z => kernel_rfl
      case hr31z => kernel_rfl
      case hQ31z => exact fun _ _ _ h => h
      case hy31z =>
        refine Or.inl ⟨rfl, ?_⟩
        intro W hSw
        obtain ⟨y0, y1⟩ := hSw
        go_simp
        try simp
      case hS31z => assumption
      try simp only [Act.put, List.setIfInBounds_toArray, List.set_cons_zero, List.set_cons_succ]
      refine wpAnyH_take (i := 32) (oi := ?oi32z) (v := ?v32z) ?hi32z ?hs32z ?hf32z ?hr32z ?hQ32z ?hy32z ?hS32z ?h32z
      case hi32z => exact (by simp only [List.getElem?_toArray, List.getElem?_cons_succ, List.getElem?_cons_zero]; rfl)
      case hs32z => kernel_rfl
      case hf32z => kernel_rfl
      case hr32z => kernel_rfl
      case hQ32z => exact fun _ _ _ h => h
      case hy32z =>
        refine Or.inl ⟨rfl, ?_⟩
        intro W hSw
        obtain ⟨y0, y1⟩ := hSw
        go_simp
        try with_reducible rfl
      case hS32z => assumption
      try simp only [Act.put, List.setIfInBounds_toArray, List.set_cons_zero, List.set_cons_succ]
      refine wpAnyH_done (by kernel_rfl) ?_ _
      have HFN := Lib.hid (HF2.out.below HBz4.out)
      go_wp2_with fail
      go_roundw
      case rel => exact ⟨k + 1, m, c', B, l2, by omega, by go_num, rfl, HFN.out⟩
      case measure => simp [intOf] <;> omega
    · have hkn : k = n0 := by omega
      subst hkn
      have HBF : Hid (Below w.heap.size w wr) := HM.out.2.2.2.2.2
      go_wp2_with fail
      refine (HAW.out wr).mono ?_
      rintro r w9 ⟨rfl, hb⟩
      have HB9 := Lib.hid (HBF.out.trans (hb.mono HBF.out.size))
      clear hb
      go_wp2
      go_ret
      exact ⟨rfl, HB9.out⟩
end Go.Proofs.Ytohcibmlkngaeaa
