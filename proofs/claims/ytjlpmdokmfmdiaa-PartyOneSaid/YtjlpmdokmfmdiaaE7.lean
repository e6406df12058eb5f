/- Party: PartyRuns' walk. -/
import Derived.Test.YtjlpmdokmfmdiaaE6
namespace Go.Proofs.Ytjlpmdokmfmdiaa.P
open Go.RowKit
set_option maxRecDepth 20000
set_option linter.unusedVariables false
set_option linter.unusedSimpArgs false

/-- How things stand behind some acts. -/
def PS (w : World) (B : Nat) (mo : Int) (k : Nat) (L : List Pt) (A : Option Addr) (n : Nat) (wr : World) : Prop :=
  ∃ vi, Bk wr B w.heap.size mo vi L ∧ Dd wr w.heap.size vi A n L ∧ Inv L ∧ n ≤ k ∧ Below w.heap.size w wr
theorem PS.below {w W W' : World} {B : Nat} {mo : Int} {k : Nat} {L : List Pt} {A : Option Addr} {n : Nat} (h : PS w B mo k L A n W) (hb : Below W.heap.size W W') : PS w B mo k L A n W' := by
  obtain ⟨vi, h1, h2, h3, h4, h5⟩ := h
  exact ⟨vi, h1.after hb, h2.after hb, h3, h4, h5.trans (hb.mono h5.size)⟩
theorem PS.all {w W : World} {B : Nat} {mo : Int} {k : Nat} {L : List Pt} {A : Option Addr} {n : Nat} (h : PS w B mo k L A n W) : Below w.heap.size w W := by
  obtain ⟨vi, h1, h2, h3, h4, h5⟩ := h
  exact h5
/-- One more act. -/
theorem PS.act {w W : World} {B k n c : Nat} {mo : Int} {L : List Pt} {A : Option Addr} (h : PS w B mo k L A n W) (hk : k ≤ 90) (hmo : mo ≤ 2147483647) (d : Int) (a b : Nat) :
    Calls Try.prog 13 #[bp B, .slice A n c, .int .i64 mo, .agg #[.int .u8 d, .int .u32 (a : Int), .int .u32 (b : Int)]] W fun r w' => ∃ A' n' c', r = .returned (.tuple #[.slice A' n' c', .bool true]) ∧ PS w B mo (k + 1) (actL mo d L a b) A' n' w' ∧ ∀ (X : Nat) (cur : Array Value), W.heap[X]? = some (Obj.cells cur 28 (0, 0)) → w'.heap[X]? = some (Obj.cells cur 28 (0, 0)) := by
  obtain ⟨vi, h1, h2, h3, h4, h5⟩ := h
  refine (do_any B w.heap.size mo vi L A n c a b W h1 h2 h3 (by omega) hmo d).mono ?_
  rintro r w' ⟨A', n', c', vi', rfl, hb', hd', hs⟩
  have hx := nx_act h3 (by have := h2.n; omega) mo d a b
  exact ⟨A', n', c', rfl, ⟨vi', hb', hd', hx.1, by have := hx.2; have := hd'.n; have := h2.n; omega, h5.trans hs.below⟩, fun X cur hX => (hs.keep X cur 28 hX (by decide) (by decide) (fun e => absurd e (by decide))).trans hX⟩
set_option maxHeartbeats 16000000 in
theorem runs_any (most : Int) (p : Option Addr × Nat) (acts : List Ac) (w : World) (hA : As w w.heap.size p.1 acts) (hl : acts.length ≤ 9223372036854775807) (hR : ∀ e ∈ acts, Ra e) :
    Calls Try.prog 3 #[.int .i64 most, .slice p.1 acts.length p.2] w fun r w' => r = .returned (.bool true) ∧ Below w.heap.size w w' := by
  obtain ⟨P, cp⟩ := p
  simp only at hA ⊢
  obtain ⟨n0, hn⟩ : ∃ n, n = acts.length := ⟨_, rfl⟩
  rw [← hn] at hl ⊢
  have HA := Lib.hid hA
  have HR := Lib.hid hR
  have HN := Lib.hid hn
  have HAW : Hid (∀ W, Calls Try.prog 18 #[] W fun r w' => r = .returned (.bool true) ∧ Below W.heap.size W w') := fun W => awake_any W
  have HNW := Lib.hid (new_bk most w)
  clear hA hR hn
  by_cases h20 : 20 < most
  · go_enter Try.func3, Try.ntmps3
    go_wp2
    go_ret
    exact ⟨rfl, Below.refl _ _⟩
  by_cases h80 : 80 < n0
  · go_enter Try.func3, Try.ntmps3
    go_wp2
    go_ret
    exact ⟨rfl, Below.refl _ _⟩
  obtain ⟨mo, hmo⟩ : ∃ mo, mo = max most 0 := ⟨_, rfl⟩
  have HMO : Hid (mo ≤ 2147483647) := by simp only [Hid]; omega
  have HME : Hid (max 0 most = mo) := by simp only [Hid]; omega
  have HMX := Lib.hid hmo
  clear hmo
  go_enter Try.func3, Try.ntmps3
  go_wp2_with fail
  refine HNW.out.mono ?_
  rintro r w1 ⟨B, rfl, hB, hbk, hb1⟩
  rw [← HMX.out] at hbk
  have HS : Hid (PS w B mo 0 [] none 0 w1) := ⟨_, hbk, ⟨rfl, Dr.nil, hbk.ctx⟩, Inv.nil, Nat.le_refl _, hb1⟩
  clear hbk hb1
  go_wp2_with fail
  go_loopw [6, 7] (fun vl i wr => ∃ (k n c : Nat) (A : Option Addr) (L : List Pt), k ≤ n0 ∧ i = .int .i64 (k : Int) ∧ vl = .slice A n c ∧ Hid (PS w B mo k L A n wr)) (fun _ i _ => n0 - (intOf i).toNat)
  case atStart => exact ⟨0, 0, 0, none, [], Nat.zero_le _, rfl, rfl, HS.out⟩
  case round =>
    obtain ⟨k, n, c, A, L, hk, rfl, rfl, HM⟩ := hrel
    by_cases hlt : k < n0
    · obtain ⟨⟨d, a, b⟩, hy⟩ : ∃ e, acts[k]? = some e := ⟨acts[k]'(by rw [← HN.out]; exact hlt), List.getElem?_eq_getElem _⟩
      obtain ⟨hd, ha, hb⟩ := HR.out _ (List.mem_of_getElem? hy)
      simp only at hd ha hb
      obtain ⟨b1, o1, rfl, hb1, ha1⟩ := HA.out (by have := HN.out; omega)
      obtain ⟨e0, e1, e2⟩ := ha1 k _ hy
      have d0 := (HM.out.all.cell (p := ⟨b1, _, none⟩) hb1).trans e0
      have d1 := (HM.out.all.cell (p := ⟨b1, _, none⟩) hb1).trans e1
      have d2 := (HM.out.all.cell (p := ⟨b1, _, none⟩) hb1).trans e2
      simp only at d0 d1 d2
      obtain ⟨X, hX⟩ : ∃ X, X = wr.heap.size := ⟨_, rfl⟩
      obtain ⟨v1, hv1⟩ : ∃ v1, v1 = wr.alloc (.cells #[.int .u8 d, .int .u32 (a : Int), .int .u32 (b : Int)] 28) := ⟨_, rfl⟩
      have hbv1 : Below wr.heap.size wr v1 := by rw [hv1]; exact (Below.refl _ _).alloc (Nat.le_refl _) _
      have hqv1 : v1.heap[X]? = some (.cells #[.int .u8 d, .int .u32 (a : Int), .int .u32 (b : Int)] 28 (0, 0)) := by rw [hv1, hX]; exact heap_alloc_new wr _
      have HACT := Lib.hid ((HM.out.below hbv1).act (c := c) (by omega) HMO.out d a b)
      have HV1 := Lib.hid hv1
      have HQV1 := Lib.hid hqv1
      have HXX := Lib.hid hX
      have t0 := cell_of_row v1 X 0 _ _ _ hqv1
      have t1 := cell_of_row v1 X 1 _ _ _ hqv1
      have t2 := cell_of_row v1 X 2 _ _ _ hqv1
      simp at t0 t1 t2
      clear hy ha1 hb1 e0 e1 e2 hv1 hbv1 hqv1 hd ha hb hX
      go_upto_region 11 with (fail)
      rw [← HV1.out, ← HXX.out]
      clear d0 d1 d2
      go_wp2_with fail
      first | rw [HME.out] | skip
      refine HACT.out.mono ?_
      rintro r w2 ⟨A2, n2, c2, rfl, hps, hkp⟩
      have HF2 := Lib.hid hps
      have hq2 := hkp X _ HQV1.out
      have HCE : Hid (∀ W, Below w2.heap.size w2 W → (fun W : World => W.cell? ⟨X, 1, none⟩ = some (.int .u32 (a : Int)) ∧ W.cell? ⟨X, 2, none⟩ = some (.int .u32 (b : Int))) W) := fun W hW => by
        have e := (hW.block _ (lt_of_block hq2)).trans hq2
        exact ⟨cell_of_row W _ 1 _ _ _ e, cell_of_row W _ 2 _ _ _ e⟩
      obtain ⟨L2, hL2⟩ : ∃ L2, L2 = actL mo d L a b := ⟨_, rfl⟩
      rw [← hL2] at HF2
      have hk81 : k + 1 ≤ 90 := by omega
      have HLK : Hid (∀ W, Below w2.heap.size w2 W → Calls Try.prog 14 #[bp B, .slice A2 n2 c2] W fun r w' => r = .returned (.bool true) ∧ Below W.heap.size W w') := fun W hW => by
        obtain ⟨vi, h1, h2, h3, h4, h5⟩ := HF2.out.below hW
        exact like_any B w.heap.size mo vi L2 A2 n2 c2 W h1 h2 h3 (by omega)
      obtain ⟨q, hq⟩ : ∃ q, q = ofP L2 a := ⟨_, rfl⟩
      have HOA : Hid (∀ W, Below w2.heap.size w2 W → Calls Try.prog 15 #[bp B, .int .u32 (a : Int)] W fun r w' => r = .returned (.int .u32 (q : Int)) ∧ Below W.heap.size W w') := fun W hW => by
        obtain ⟨vi, h1, h2, h3, h4, h5⟩ := HF2.out.below hW
        rw [hq]
        exact of_any B w.heap.size mo vi L2 a W h1 (by have := h2.n; omega) (fun e he => by have := (h3.each e he).four; omega)
      have HOB : Hid (∀ W, Below w2.heap.size w2 W → Calls Try.prog 16 #[.slice A2 n2 c2, .int .u32 (a : Int)] W fun r w' => r = .returned (.int .u32 (q : Int)) ∧ Below W.heap.size W w') := fun W hW => by
        obtain ⟨vi, h1, h2, h3, h4, h5⟩ := HF2.out.below hW
        rw [hq]
        exact (dof_any w.heap.size vi A2 n2 c2 L2 a W h2.n h2.dr (by omega) (fun e he => by have := (h3.each e he).four; omega)).mono fun r w' h => ⟨h.1, by rw [h.2]; exact Below.refl _ _⟩
      have HBS : Hid (Below w2.heap.size w2 w2) := Below.refl _ _
      clear hps hkp hq2 hL2 hq t0 t1 t2 hk81
      go_upto_region 12 with (fail)
      have HDz : Hid (Below w2.heap.size w2 w2.drew) := HBS.out.drew
      refine wp_region_held_drew (S := fun W : World => W.cell? ⟨X, 1, none⟩ = some (.int .u32 (a : Int)) ∧ W.cell? ⟨X, 2, none⟩ = some (.int .u32 (b : Int))) (by kernel_rfl) (HCE.out _ (HDz.out)) (fun hHeld => ?_)
      obtain ⟨Wz0, hW0⟩ : ∃ W0, W0 = w2.drew := ⟨_, rfl⟩
      rw [← hW0] at hHeld HDz ⊢
      clear hW0
      refine wpAnyH_take (i := 0) (oi := ?oi0z) (v := ?v0z) ?hi0z ?hs0z ?hf0z ?hr0z ?hQ0z ?hy0z ?hS0z ?h0z
      case hi0z => exact (by simp only [List.getElem?_toArray, List.getElem?_cons_zero]; rfl)
      case hs0z => kernel_rfl
      case hf0z => kernel_rfl
      case hr0z => kernel_rfl
      case hQ0z => exact fun _ _ _ h => h
      case hy0z =>
        refine Or.inl ⟨rfl, ?_⟩
        intro W hSw
        obtain ⟨y0, y1⟩ := hSw
        go_simp
        try with_reducible rfl
      case hS0z => assumption
      try simp only [Act.put, List.setIfInBounds_toArray, List.set_cons_zero, List.set_cons_succ]
      refine wpAnyH_take (i := 1) (oi := ?oi1z) (v := (.bool false)) ?hi1z ?hs1z ?hf1z ?hr1z ?hQ1z ?hy1z ?hS1z ?h1z
      case hi1z => exact (by simp only [List.getElem?_toArray, List.getElem?_cons_succ, List.getElem?_cons_zero]; rfl)
      case hs1z => kernel_rfl
      case hf1z => kernel_rfl
      case hr1z => kernel_rfl
      case hQ1z => exact fun _ _ _ h => h
      case hy1z =>
        refine Or.inl ⟨rfl, ?_⟩
        intro W hSw
        obtain ⟨y0, y1⟩ := hSw
        go_simp
        try simp
      case hS1z => assumption
      try simp only [Act.put, List.setIfInBounds_toArray, List.set_cons_zero, List.set_cons_succ]
      refine wpAnyH_take (i := 2) (oi := ?oi2z) (v := ?v2z) ?hi2z ?hs2z ?hf2z ?hr2z ?hQ2z ?hy2z ?hS2z ?h2z
      case hi2z => exact (by simp only [List.getElem?_toArray, List.getElem?_cons_succ, List.getElem?_cons_zero]; rfl)
      case hs2z => kernel_rfl
      case hf2z => kernel_rfl
      case hr2z => kernel_rfl
      case hQ2z => exact fun _ _ _ h => h
      case hy2z =>
        refine Or.inl ⟨rfl, ?_⟩
        intro W hSw
        obtain ⟨y0, y1⟩ := hSw
        go_simp
        try with_reducible rfl
      case hS2z => assumption
      try simp only [Act.put, List.setIfInBounds_toArray, List.set_cons_zero, List.set_cons_succ]
      refine wpAnyH_take (i := 3) (oi := ?oi3z) (v := ?v3z) ?hi3z ?hs3z ?hf3z ?hr3z ?hQ3z ?hy3z ?hS3z ?h3z
      case hi3z => exact (by simp only [List.getElem?_toArray, List.getElem?_cons_succ, List.getElem?_cons_zero]; rfl)
      case hs3z => kernel_rfl
      case hf3z => kernel_rfl
      case hr3z => kernel_rfl
      case hQ3z => exact fun _ _ _ h => h
      case hy3z =>
        refine Or.inl ⟨rfl, ?_⟩
        intro W hSw
        obtain ⟨y0, y1⟩ := hSw
        go_simp
        try with_reducible rfl
      case hS3z => assumption
      try simp only [Act.put, List.setIfInBounds_toArray, List.set_cons_zero, List.set_cons_succ]
      refine wpAnyH_take (i := 4) (oi := ?oi4z) (v := ?v4z) ?hi4z ?hs4z ?hf4z ?hr4z ?hQ4z ?hy4z ?hS4z ?h4z
      case hi4z => exact (by simp only [List.getElem?_toArray, List.getElem?_cons_succ, List.getElem?_cons_zero]; rfl)
      case hs4z => kernel_rfl
      case hf4z => kernel_rfl
      case hr4z => kernel_rfl
      case hQ4z => exact fun _ _ _ h => h
      case hy4z =>
        refine Or.inl ⟨rfl, ?_⟩
        intro W hSw
        obtain ⟨y0, y1⟩ := hSw
        go_simp
        try with_reducible rfl
      case hS4z => assumption
      try simp only [Act.put, List.setIfInBounds_toArray, List.set_cons_zero, List.set_cons_succ]
      refine wpAnyH_ready (rs := [5]) (by kernel_rfl) (by simp) ?_
      refine AllReadyH.cons (o := _) rfl (fun K hK => ?_) AllReadyH.nil
      go_simp
      refine ((HLK.out Wz0 HDz.out)).mono ?_
      rintro r Wz1 ⟨rfl, hbq⟩
      have HBz1 := Lib.hid (HDz.out.trans (hbq.mono HDz.out.size))
      clear hbq
      refine hK.out _ _ (HCE.out _ (HBz1.out)) (fun hHeld => ?_)
      clear hK K
      try simp only [Act.put, List.setIfInBounds_toArray, List.set_cons_zero, List.set_cons_succ]
      refine wpAnyH_take (i := 6) (oi := ?oi6z) (v := (.bool false)) ?hi6z ?hs6z ?hf6z ?hr6z ?hQ6z ?hy6z ?hS6z ?h6z
      case hi6z => exact (by simp only [List.getElem?_toArray, List.getElem?_cons_succ, List.getElem?_cons_zero]; rfl)
      case hs6z => kernel_rfl
      case hf6z => kernel_rfl
      case hr6z => kernel_rfl
      case hQ6z => exact fun _ _ _ h => h
      case hy6z =>
        refine Or.inl ⟨rfl, ?_⟩
        intro W hSw
        obtain ⟨y0, y1⟩ := hSw
        go_simp
        try simp
      case hS6z => assumption
      try simp only [Act.put, List.setIfInBounds_toArray, List.set_cons_zero, List.set_cons_succ]
      refine wpAnyH_take (i := 7) (oi := ?oi7z) (v := ?v7z) ?hi7z ?hs7z ?hf7z ?hr7z ?hQ7z ?hy7z ?hS7z ?h7z
      case hi7z => exact (by simp only [List.getElem?_toArray, List.getElem?_cons_succ, List.getElem?_cons_zero]; rfl)
      case hs7z => kernel_rfl
      case hf7z => kernel_rfl
      case hr7z => kernel_rfl
      case hQ7z => exact fun _ _ _ h => h
      case hy7z =>
        refine Or.inl ⟨rfl, ?_⟩
        intro W hSw
        obtain ⟨y0, y1⟩ := hSw
        go_simp
        try with_reducible rfl
      case hS7z => assumption
      try simp only [Act.put, List.setIfInBounds_toArray, List.set_cons_zero, List.set_cons_succ]
      refine wpAnyH_take (i := 8) (oi := ?oi8z) (v := ?v8z) ?hi8z ?hs8z ?hf8z ?hr8z ?hQ8z ?hy8z ?hS8z ?h8z
      case hi8z => exact (by simp only [List.getElem?_toArray, List.getElem?_cons_succ, List.getElem?_cons_zero]; rfl)
      case hs8z => kernel_rfl
      case hf8z => kernel_rfl
      case hr8z => kernel_rfl
      case hQ8z => exact fun _ _ _ h => h
      case hy8z =>
        refine Or.inl ⟨rfl, ?_⟩
        intro W hSw
        obtain ⟨y0, y1⟩ := hSw
        go_simp
        try with_reducible rfl
      case hS8z => assumption
      try simp only [Act.put, List.setIfInBounds_toArray, List.set_cons_zero, List.set_cons_succ]
      refine wpAnyH_take (i := 9) (oi := ?oi9z) (v := ?v9z) ?hi9z ?hs9z ?hf9z ?hr9z ?hQ9z ?hy9z ?hS9z ?h9z
      case hi9z => exact (by simp only [List.getElem?_toArray, List.getElem?_cons_succ, List.getElem?_cons_zero]; rfl)
      case hs9z => kernel_rfl
      case hf9z => kernel_rfl
      case hr9z => kernel_rfl
      case hQ9z => exact fun _ _ _ h => h
      case hy9z =>
        refine Or.inl ⟨rfl, ?_⟩
        intro W hSw
        obtain ⟨y0, y1⟩ := hSw
        go_simp
        try with_reducible rfl
      case hS9z => assumption
      try simp only [Act.put, List.setIfInBounds_toArray, List.set_cons_zero, List.set_cons_succ]
      refine wpAnyH_take (i := 10) (oi := ?oi10z) (v := ?v10z) ?hi10z ?hs10z ?hf10z ?hr10z ?hQ10z ?hy10z ?hS10z ?h10z
      case hi10z => exact (by simp only [List.getElem?_toArray, List.getElem?_cons_succ, List.getElem?_cons_zero]; rfl)
      case hs10z => kernel_rfl
      case hf10z => kernel_rfl
      case hr10z => kernel_rfl
      case hQ10z => exact fun _ _ _ h => h
      case hy10z =>
        refine Or.inl ⟨rfl, ?_⟩
        intro W hSw
        obtain ⟨y0, y1⟩ := hSw
        go_simp
        try with_reducible rfl
      case hS10z => assumption
      try simp only [Act.put, List.setIfInBounds_toArray, List.set_cons_zero, List.set_cons_succ]
      refine wpAnyH_take (i := 11) (oi := ?oi11z) (v := ?v11z) ?hi11z ?hs11z ?hf11z ?hr11z ?hQ11z ?hy11z ?hS11z ?h11z
      case hi11z => exact (by simp only [List.getElem?_toArray, List.getElem?_cons_succ, List.getElem?_cons_zero]; rfl)
      case hs11z => kernel_rfl
      case hf11z => kernel_rfl
      case hr11z => kernel_rfl
      case hQ11z => exact fun _ _ _ h => h
      case hy11z =>
        refine Or.inl ⟨rfl, ?_⟩
        intro W hSw
        obtain ⟨y0, y1⟩ := hSw
        go_simp
        try with_reducible rfl
      case hS11z => assumption
      try simp only [Act.put, List.setIfInBounds_toArray, List.set_cons_zero, List.set_cons_succ]
      refine wpAnyH_take (i := 13) (oi := ?oi13z) (v := ?v13z) ?hi13z ?hs13z ?hf13z ?hr13z ?hQ13z ?hy13z ?hS13z ?h13z
      case hi13z => exact (by simp only [List.getElem?_toArray, List.getElem?_cons_succ, List.getElem?_cons_zero]; rfl)
      case hs13z => kernel_rfl
      case hf13z => kernel_rfl
      case hr13z => kernel_rfl
      case hQ13z => exact fun _ _ _ h => h
      case hy13z =>
        refine Or.inl ⟨rfl, ?_⟩
        intro W hSw
        obtain ⟨y0, y1⟩ := hSw
        go_simp
        try with_reducible rfl
      case hS13z => assumption
      try simp only [Act.put, List.setIfInBounds_toArray, List.set_cons_zero, List.set_cons_succ]
      refine wpAnyH_take (i := 14) (oi := ?oi14z) (v := ?v14z) ?hi14z ?hs14z ?hf14z ?hr14z ?hQ14z ?hy14z ?hS14z ?h14z
      case hi14z => exact (by simp only [List.getElem?_toArray, List.getElem?_cons_succ, List.getElem?_cons_zero]; rfl)
      case hs14z => kernel_rfl
      case hf14z => kernel_rfl
      case hr14z => kernel_rfl
      case hQ14z => exact fun _ _ _ h => h
      case hy14z =>
        refine Or.inl ⟨rfl, ?_⟩
        intro W hSw
        obtain ⟨y0, y1⟩ := hSw
        go_simp
        try with_reducible rfl
      case hS14z => assumption
      try simp only [Act.put, List.setIfInBounds_toArray, List.set_cons_zero, List.set_cons_succ]
      refine wpAnyH_take (i := 15) (oi := ?oi15z) (v := ?v15z) ?hi15z ?hs15z ?hf15z ?hr15z ?hQ15z ?hy15z ?hS15z ?h15z
      case hi15z => exact (by simp only [List.getElem?_toArray, List.getElem?_cons_succ, List.getElem?_cons_zero]; rfl)
      case hs15z => kernel_rfl
      case hf15z => kernel_rfl
      case hr15z => kernel_rfl
      case hQ15z => exact fun _ _ _ h => h
      case hy15z =>
        refine Or.inl ⟨rfl, ?_⟩
        intro W hSw
        obtain ⟨y0, y1⟩ := hSw
        go_simp
        try with_reducible rfl
      case hS15z => assumption
      try simp only [Act.put, List.setIfInBounds_toArray, List.set_cons_zero, List.set_cons_succ]
      refine wpAnyH_ready (rs := [12]) (by kernel_rfl) (by simp) ?_
      refine AllReadyH.cons (o := _) rfl (fun K hK => ?_) AllReadyH.nil
      go_simp
      refine ((HOA.out Wz1 HBz1.out)).mono ?_
      rintro r Wz2 ⟨rfl, hbq⟩
      have HBz2 := Lib.hid (HBz1.out.trans (hbq.mono HBz1.out.size))
      clear hbq
      refine hK.out _ _ (HCE.out _ (HBz2.out)) (fun hHeld => ?_)
      clear hK K
      try simp only [Act.put, List.setIfInBounds_toArray, List.set_cons_zero, List.set_cons_succ]
      refine wpAnyH_ready (rs := [16]) (by kernel_rfl) (by simp) ?_
      refine AllReadyH.cons (o := _) rfl (fun K hK => ?_) AllReadyH.nil
      go_simp
      refine ((HOB.out Wz2 HBz2.out)).mono ?_
      rintro r Wz3 ⟨rfl, hbq⟩
      have HBz3 := Lib.hid (HBz2.out.trans (hbq.mono HBz2.out.size))
      clear hbq
      refine hK.out _ _ (HCE.out _ (HBz3.out)) (fun hHeld => ?_)
      clear hK K
      try simp only [Act.put, List.setIfInBounds_toArray, List.set_cons_zero, List.set_cons_succ]
      refine wpAnyH_take (i := 17) (oi := ?oi17z) (v := (.bool false)) ?hi17z ?hs17z ?hf17z ?hr17z ?hQ17z ?hy17z ?hS17z ?h17z
      case hi17z => exact (by simp only [List.getElem?_toArray, List.getElem?_cons_succ, List.getElem?_cons_zero]; rfl)
      case hs17z => kernel_rfl
      case hf17z => kernel_rfl
      case hr17z => kernel_rfl
      case hQ17z => exact fun _ _ _ h => h
      case hy17z =>
        refine Or.inl ⟨rfl, ?_⟩
        intro W hSw
        obtain ⟨y0, y1⟩ := hSw
        go_simp
        try simp
      case hS17z => assumption
      try simp only [Act.put, List.setIfInBounds_toArray, List.set_cons_zero, List.set_cons_succ]
      refine wpAnyH_take (i := 18) (oi := ?oi18z) (v := ?v18z) ?hi18z ?hs18z ?hf18z ?hr18z ?hQ18z ?hy18z ?hS18z ?h18z
      case hi18z => exact (by simp only [List.getElem?_toArray, List.getElem?_cons_succ, List.getElem?_cons_zero]; rfl)
      case hs18z => kernel_rfl
      case hf18z => kernel_rfl
      case hr18z => kernel_rfl
      case hQ18z => exact fun _ _ _ h => h
      case hy18z =>
        refine Or.inl ⟨rfl, ?_⟩
        intro W hSw
        obtain ⟨y0, y1⟩ := hSw
        go_simp
        try with_reducible rfl
      case hS18z => assumption
      try simp only [Act.put, List.setIfInBounds_toArray, List.set_cons_zero, List.set_cons_succ]
      refine wpAnyH_done (by kernel_rfl) ?_ _
      have HFN := Lib.hid (HF2.out.below HBz3.out)
      go_wp2_with fail
      go_roundw
      case rel => exact ⟨k + 1, n2, c2, A2, L2, by omega, by go_num, rfl, HFN.out⟩
      case measure => simp [intOf] <;> omega
    · have hkn : k = n0 := by omega
      subst hkn
      have HZ : Hid (Calls Try.prog 17 #[bp B, .int .u32 0] wr fun r w' => r = .returned (.tuple #[.agg dZ, .bool false]) ∧ Below wr.heap.size wr w') := by
        obtain ⟨vi, h1, h2, h3, h4, h5⟩ := HM.out
        exact party_none B w.heap.size mo vi L 0 wr h1 (by have := h2.n; omega) (get_no fun e he => by have := (h3.each e he).id.1; omega)
      have HBF := Lib.hid HM.out.all
      go_wp2_with fail
      refine HZ.out.mono ?_
      rintro r w8 ⟨rfl, hb8⟩
      obtain ⟨w7, hw7⟩ : ∃ W, W = w8.alloc (.cells #[.int .u32 0, .int .u32 0, .slice none 0 0, .slice none 0 0] 36) := ⟨_, rfl⟩
      have HB7 : Hid (Below w.heap.size w w7) := by
        have hb7 : Below w8.heap.size w8 w7 := by rw [hw7]; exact (Below.refl _ _).alloc (Nat.le_refl _) _
        exact HBF.out.trans ((hb8.trans (hb7.mono hb8.size)).mono HBF.out.size)
      have HW7 := Lib.hid hw7
      clear hb8 hw7
      go_upto_region 16 with (fail)
      rw [← HW7.out]
      go_wp2_with fail
      refine (HAW.out w7).mono ?_
      rintro r w9 ⟨rfl, hb⟩
      have HB9 := Lib.hid (HB7.out.trans (hb.mono HB7.out.size))
      clear hb
      go_wp2
      go_ret
      exact ⟨rfl, HB9.out⟩
end Go.Proofs.Ytjlpmdokmfmdiaa.P
