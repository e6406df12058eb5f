/- Board: BoardAudience's walk. -/
import Derived.Test.YtaoejkbockcneaaA5
import Derived.Test.YtaoejkbockcneaaG8
import Derived.Test.YtaoejkbockcneaaW4
import Derived.Test.YtaoejkbockcneaaU4
import Derived.Test.YtaoejkbockcneaaU6
namespace Go.Proofs.Ytaoejkbockcneaa
open Go.RowKit Go.Maps
set_option maxRecDepth 20000
set_option linter.unusedVariables false
set_option linter.unusedSimpArgs false

structure Rk (wb : World) (R k : Nat) (areP : Nat → Bool) (xs : List Nat) (W : World) : Prop where
  ex : ∃ (m : Nat) (B : Option Addr) (c2 : Nat) (rows ps : V.Ps), W.heap[R]? = some (.cells #[.slice B m c2, .int .i64 40] 86 (0, 0)) ∧ m = rows.length ∧ rows.Perm ps ∧ W.ownsRow (R + 1) 137 2 (.slice B m c2) m (V.rr rows) ∧ Up (ps.map (·.1)) ∧ (∀ y ∈ ps.map (·.1), V.okN y) ∧ (∀ y, y ∈ ps.map (·.1) ↔ y ∈ aud areP (xs.take k)) ∧ ps.length ≤ k
  below : Below wb.heap.size wb W
  low : wb.heap.size ≤ R ∧ R < W.heap.size
theorem are_ok {l : List Rw} (h : Inv l) {p x : Nat} (hx : areB l p x = true) : V.okN x := by
  unfold areB at hx
  rw [decide_eq_true_iff] at hx
  rcases hx with hx | hx
  · exact (h.ok _ hx).2.2.1
  · exact (h.ok _ hx).2.1
theorem rise_one {a b : List Nat} (h1 : a.Pairwise (· < ·)) (h2 : b.Pairwise (· < ·)) (h : ∀ y, y ∈ a ↔ y ∈ b) : a = b :=
  List.Perm.eq_of_pairwise (le := (· < ·)) (fun a b _ _ h1 h2 => absurd h1 (Nat.lt_asymm h2)) h1 h2 ((List.perm_ext_iff_of_nodup (h1.imp fun {a b} h => Nat.ne_of_lt h) (h2.imp fun {a b} h => Nat.ne_of_lt h)).2 h)
set_option maxHeartbeats 16000000 in
theorem aud_walk (A1 : Option Addr) (c1 : Nat) (pr : List (Nat × Nat)) (p : Nat) (A2 : Option Addr) (c2 : Nat) (xs : List Nat) (w : World) (h1 : Ps2 w w.heap.size A1 pr) (hl1 : pr.length ≤ 9223372036854775807) (hb1 : ∀ e ∈ pr, e.1 < 4294967296 ∧ e.2 < 4294967296) (hp : p < 4294967296) (h2 : On w w.heap.size A2 xs) (hl2 : xs.length ≤ 9223372036854775807) (hb2 : ∀ e ∈ xs, e < 4294967296) :
    Calls Try.prog 9 #[.slice A1 pr.length c1, .int .u32 (p : Int), .slice A2 xs.length c2] w fun r w' => r = .returned (.bool true) ∧ Below w.heap.size w w' := by
  obtain ⟨n1, hn1⟩ : ∃ n, n = pr.length := ⟨_, rfl⟩
  obtain ⟨n2, hn2⟩ : ∃ n, n = xs.length := ⟨_, rfl⟩
  rw [← hn1] at hl1 ⊢
  rw [← hn2] at hl2 ⊢
  have HA1 := Lib.hid h1
  have HA2 := Lib.hid h2
  have HN1 := Lib.hid hn1
  have HN2 := Lib.hid hn2
  have HBP := Lib.hid hb1
  have HBX := Lib.hid hb2
  have HP := Lib.hid hp
  clear h1 h2 hn1 hn2 hb1 hb2 hp
  by_cases h40 : 40 < n1
  · go_enter Try.func9, Try.ntmps9
    go_wp2
    go_ret
    exact ⟨rfl, Below.refl _ _⟩
  by_cases h41 : 40 < n2
  · go_enter Try.func9, Try.ntmps9
    go_wp2
    go_ret
    exact ⟨rfl, Below.refl _ _⟩
  have HNW := Lib.hid (new_any w)
  go_enter Try.func9, Try.ntmps9
  go_wp2_with fail
  refine HNW.out.mono ?_
  rintro r w1 ⟨rfl, g1, bb1⟩
  obtain ⟨L, hL⟩ : ∃ L, L = w.heap.size + 1 := ⟨_, rfl⟩
  obtain ⟨M, hM⟩ : ∃ M, M = w.heap.size := ⟨_, rfl⟩
  rw [← hL, ← hM] at g1
  rw [← hL]
  have HM := Lib.hid hM
  have HS : Hid (Gr w1 L M (2 * 0) [] ∧ Inv [] ∧ Below w.heap.size w w1) := ⟨g1, Inv.nil, bb1⟩
  clear g1 bb1 hL hM
  go_wp2_with fail
  go_loopw [8] (fun i wr => ∃ (k : Nat) (l : List Rw), k ≤ n1 ∧ i = .int .i64 (k : Int) ∧ Hid (Gr wr L M (2 * k) l ∧ Inv l ∧ Below w.heap.size w wr)) (fun i _ => n1 - (intOf i).toNat)
  case atStart => exact ⟨0, [], Nat.zero_le _, rfl, HS⟩
  case round =>
    obtain ⟨k, l, hk, rfl, HV⟩ := hrel
    by_cases hlt : k < n1
    · obtain ⟨⟨a, b⟩, hy⟩ : ∃ e, pr[k]? = some e := ⟨pr[k]'(by rw [← HN1.out]; exact hlt), List.getElem?_eq_getElem _⟩
      obtain ⟨b1, o1, rfl, hb1, ha1⟩ := HA1.out (by have := HN1.out; omega)
      have HAB : Hid (a < 4294967296 ∧ b < 4294967296) := HBP.out _ (List.mem_of_getElem? hy)
      have HCE : Hid (∀ W, Below w.heap.size w W → (fun W : World => W.cell? ⟨b1, o1 + k * 2, none⟩ = some (.int .u32 (a : Int)) ∧ W.cell? ⟨b1, o1 + k * 2 + 1, none⟩ = some (.int .u32 (b : Int))) W) := fun W hW => ⟨(hW.cell (p := ⟨b1, _, none⟩) hb1).trans (ha1 k _ hy).1, (hW.cell (p := ⟨b1, _, none⟩) hb1).trans (ha1 k _ hy).2⟩
      have HINVa : Hid (Inv l) := HV.out.2.1
      have HINVb : Hid (Inv (askL l a b).1) := HV.out.2.1.ask a b
      have HINVc : Hid (Inv (askL (askL l a b).1 b a).1) := HINVb.out.ask b a
      obtain ⟨d0, d1⟩ := HCE.out wr HV.out.2.2
      clear hy ha1 hb1
      go_upto_region 7 with (fail)
      clear d0 d1
      have HDa : Hid (Below w.heap.size w wr.drew) := HV.out.2.2.drew
      have HGDa : Hid (Gr wr.drew L M (2 * k) l) := HV.out.1.below (Below.refl _ _).drew
      refine wp_region_held_drew (S := fun W : World => W.cell? ⟨b1, o1 + k * 2, none⟩ = some (.int .u32 (a : Int)) ∧ W.cell? ⟨b1, o1 + k * 2 + 1, none⟩ = some (.int .u32 (b : Int))) (by kernel_rfl) (HCE.out _ HDa.out) (fun hHeld => ?_)
      obtain ⟨Wa0, hW0⟩ : ∃ W0, W0 = wr.drew := ⟨_, rfl⟩
      rw [← hW0] at hHeld HDa HGDa ⊢
      clear hW0
      refine wpAnyH_take (i := 0) (oi := ?oi0a) (v := ?v0a) ?hi0a ?hs0a ?hf0a ?hr0a ?hQ0a ?hy0a ?hS0a ?h0a
      case hi0a => exact (by simp only [List.getElem?_toArray, List.getElem?_cons_zero]; rfl)
      case hs0a => kernel_rfl
      case hf0a => kernel_rfl
      case hr0a => kernel_rfl
      case hQ0a => exact fun _ _ _ h => h
      case hy0a =>
        refine Or.inl ⟨rfl, ?_⟩
        intro W hSw
        obtain ⟨y1, y2⟩ := hSw
        go_simp
        try with_reducible rfl
      case hS0a => assumption
      try simp only [Act.put, List.setIfInBounds_toArray, List.set_cons_zero, List.set_cons_succ]
      refine wpAnyH_take (i := 1) (oi := ?oi1a) (v := ?v1a) ?hi1a ?hs1a ?hf1a ?hr1a ?hQ1a ?hy1a ?hS1a ?h1a
      case hi1a => exact (by simp only [List.getElem?_toArray, List.getElem?_cons_succ, List.getElem?_cons_zero]; rfl)
      case hs1a => kernel_rfl
      case hf1a => kernel_rfl
      case hr1a => kernel_rfl
      case hQ1a => exact fun _ _ _ h => h
      case hy1a =>
        refine Or.inl ⟨rfl, ?_⟩
        intro W hSw
        obtain ⟨y1, y2⟩ := hSw
        go_simp
        try with_reducible rfl
      case hS1a => assumption
      try simp only [Act.put, List.setIfInBounds_toArray, List.set_cons_zero, List.set_cons_succ]
      refine wpAnyH_take (i := 2) (oi := ?oi2a) (v := ?v2a) ?hi2a ?hs2a ?hf2a ?hr2a ?hQ2a ?hy2a ?hS2a ?h2a
      case hi2a => exact (by simp only [List.getElem?_toArray, List.getElem?_cons_succ, List.getElem?_cons_zero]; rfl)
      case hs2a => kernel_rfl
      case hf2a => kernel_rfl
      case hr2a => kernel_rfl
      case hQ2a => exact fun _ _ _ h => h
      case hy2a =>
        refine Or.inl ⟨rfl, ?_⟩
        intro W hSw
        obtain ⟨y1, y2⟩ := hSw
        go_simp
        try with_reducible rfl
      case hS2a => assumption
      try simp only [Act.put, List.setIfInBounds_toArray, List.set_cons_zero, List.set_cons_succ]
      refine wpAnyH_take (i := 3) (oi := ?oi3a) (v := ?v3a) ?hi3a ?hs3a ?hf3a ?hr3a ?hQ3a ?hy3a ?hS3a ?h3a
      case hi3a => exact (by simp only [List.getElem?_toArray, List.getElem?_cons_succ, List.getElem?_cons_zero]; rfl)
      case hs3a => kernel_rfl
      case hf3a => kernel_rfl
      case hr3a => kernel_rfl
      case hQ3a => exact fun _ _ _ h => h
      case hy3a =>
        refine Or.inl ⟨rfl, ?_⟩
        intro W hSw
        obtain ⟨y1, y2⟩ := hSw
        go_simp
        try with_reducible rfl
      case hS3a => assumption
      try simp only [Act.put, List.setIfInBounds_toArray, List.set_cons_zero, List.set_cons_succ]
      refine wpAnyH_take (i := 4) (oi := ?oi4a) (v := ?v4a) ?hi4a ?hs4a ?hf4a ?hr4a ?hQ4a ?hy4a ?hS4a ?h4a
      case hi4a => exact (by simp only [List.getElem?_toArray, List.getElem?_cons_succ, List.getElem?_cons_zero]; rfl)
      case hs4a => kernel_rfl
      case hf4a => kernel_rfl
      case hr4a => kernel_rfl
      case hQ4a => exact fun _ _ _ h => h
      case hy4a =>
        refine Or.inl ⟨rfl, ?_⟩
        intro W hSw
        obtain ⟨y1, y2⟩ := hSw
        go_simp
        try with_reducible rfl
      case hS4a => assumption
      try simp only [Act.put, List.setIfInBounds_toArray, List.set_cons_zero, List.set_cons_succ]
      refine wpAnyH_take (i := 5) (oi := ?oi5a) (v := ?v5a) ?hi5a ?hs5a ?hf5a ?hr5a ?hQ5a ?hy5a ?hS5a ?h5a
      case hi5a => exact (by simp only [List.getElem?_toArray, List.getElem?_cons_succ, List.getElem?_cons_zero]; rfl)
      case hs5a => kernel_rfl
      case hf5a => kernel_rfl
      case hr5a => kernel_rfl
      case hQ5a => exact fun _ _ _ h => h
      case hy5a =>
        refine Or.inl ⟨rfl, ?_⟩
        intro W hSw
        obtain ⟨y1, y2⟩ := hSw
        go_simp
        try with_reducible rfl
      case hS5a => assumption
      try simp only [Act.put, List.setIfInBounds_toArray, List.set_cons_zero, List.set_cons_succ]
      refine wpAnyH_take (i := 6) (oi := ?oi6a) (v := ?v6a) ?hi6a ?hs6a ?hf6a ?hr6a ?hQ6a ?hy6a ?hS6a ?h6a
      case hi6a => exact (by simp only [List.getElem?_toArray, List.getElem?_cons_succ, List.getElem?_cons_zero]; rfl)
      case hs6a => kernel_rfl
      case hf6a => kernel_rfl
      case hr6a => kernel_rfl
      case hQ6a => exact fun _ _ _ h => h
      case hy6a =>
        refine Or.inl ⟨rfl, ?_⟩
        intro W hSw
        obtain ⟨y1, y2⟩ := hSw
        go_simp
        try with_reducible rfl
      case hS6a => assumption
      try simp only [Act.put, List.setIfInBounds_toArray, List.set_cons_zero, List.set_cons_succ]
      refine wpAnyH_take (i := 7) (oi := ?oi7a) (v := ?v7a) ?hi7a ?hs7a ?hf7a ?hr7a ?hQ7a ?hy7a ?hS7a ?h7a
      case hi7a => exact (by simp only [List.getElem?_toArray, List.getElem?_cons_succ, List.getElem?_cons_zero]; rfl)
      case hs7a => kernel_rfl
      case hf7a => kernel_rfl
      case hr7a => kernel_rfl
      case hQ7a => exact fun _ _ _ h => h
      case hy7a =>
        refine Or.inl ⟨rfl, ?_⟩
        intro W hSw
        obtain ⟨y1, y2⟩ := hSw
        go_simp
        try with_reducible rfl
      case hS7a => assumption
      try simp only [Act.put, List.setIfInBounds_toArray, List.set_cons_zero, List.set_cons_succ]
      refine wpAnyH_take (i := 8) (oi := ?oi8a) (v := ?v8a) ?hi8a ?hs8a ?hf8a ?hr8a ?hQ8a ?hy8a ?hS8a ?h8a
      case hi8a => exact (by simp only [List.getElem?_toArray, List.getElem?_cons_succ, List.getElem?_cons_zero]; rfl)
      case hs8a => kernel_rfl
      case hf8a => kernel_rfl
      case hr8a => kernel_rfl
      case hQ8a => exact fun _ _ _ h => h
      case hy8a =>
        refine Or.inl ⟨rfl, ?_⟩
        intro W hSw
        obtain ⟨y1, y2⟩ := hSw
        go_simp
        try with_reducible rfl
      case hS8a => assumption
      try simp only [Act.put, List.setIfInBounds_toArray, List.set_cons_zero, List.set_cons_succ]
      refine wpAnyH_take (i := 9) (oi := ?oi9a) (v := ?v9a) ?hi9a ?hs9a ?hf9a ?hr9a ?hQ9a ?hy9a ?hS9a ?h9a
      case hi9a => exact (by simp only [List.getElem?_toArray, List.getElem?_cons_succ, List.getElem?_cons_zero]; rfl)
      case hs9a => kernel_rfl
      case hf9a => kernel_rfl
      case hr9a => kernel_rfl
      case hQ9a => exact fun _ _ _ h => h
      case hy9a =>
        refine Or.inl ⟨rfl, ?_⟩
        intro W hSw
        obtain ⟨y1, y2⟩ := hSw
        go_simp
        try with_reducible rfl
      case hS9a => assumption
      try simp only [Act.put, List.setIfInBounds_toArray, List.set_cons_zero, List.set_cons_succ]
      refine wpAnyH_take (i := 10) (oi := ?oi10a) (v := ?v10a) ?hi10a ?hs10a ?hf10a ?hr10a ?hQ10a ?hy10a ?hS10a ?h10a
      case hi10a => exact (by simp only [List.getElem?_toArray, List.getElem?_cons_succ, List.getElem?_cons_zero]; rfl)
      case hs10a => kernel_rfl
      case hf10a => kernel_rfl
      case hr10a => kernel_rfl
      case hQ10a => exact fun _ _ _ h => h
      case hy10a =>
        refine Or.inl ⟨rfl, ?_⟩
        intro W hSw
        obtain ⟨y1, y2⟩ := hSw
        go_simp
        try with_reducible rfl
      case hS10a => assumption
      try simp only [Act.put, List.setIfInBounds_toArray, List.set_cons_zero, List.set_cons_succ]
      refine wpAnyH_ready (rs := [11]) (by kernel_rfl) (by simp) ?_
      refine AllReadyH.cons (o := _) rfl (fun K hK => ?_) AllReadyH.nil
      go_simp
      refine (ask_any L M (2 * k) a b l Wa0 HGDa.out HINVa.out (by omega) HAB.out.1 HAB.out.2).mono ?_
      rintro r w5 ⟨rfl, hgw5, hcw5⟩
      have HGw5 := Lib.hid hgw5
      have HBw5 : Hid (Below w.heap.size w w5) := HDa.out.trans (hcw5.1 _ (by rw [HM.out]; exact Nat.le_refl _) HDa.out.size)
      clear hgw5 hcw5
      refine hK.out _ _ (HCE.out _ HBw5.out) (fun hHeld => ?_)
      clear hK K
      try simp only [Act.put, List.setIfInBounds_toArray, List.set_cons_zero, List.set_cons_succ]
      refine wpAnyH_done (by kernel_rfl) ?_ _
      obtain ⟨d0, d1⟩ := HCE.out w5 HBw5.out
      go_upto_region 8 with (fail)
      clear d0 d1
      have HDb : Hid (Below w.heap.size w w5.drew) := HBw5.out.drew
      have HGDb : Hid (Gr w5.drew L M (2 * k + 1) (askL l a b).1) := HGw5.out.below (Below.refl _ _).drew
      refine wp_region_held_drew (S := fun W : World => W.cell? ⟨b1, o1 + k * 2, none⟩ = some (.int .u32 (a : Int)) ∧ W.cell? ⟨b1, o1 + k * 2 + 1, none⟩ = some (.int .u32 (b : Int))) (by kernel_rfl) (HCE.out _ HDb.out) (fun hHeld => ?_)
      obtain ⟨Wb0, hW0⟩ : ∃ W0, W0 = w5.drew := ⟨_, rfl⟩
      rw [← hW0] at hHeld HDb HGDb ⊢
      clear hW0
      refine wpAnyH_take (i := 0) (oi := ?oi0b) (v := ?v0b) ?hi0b ?hs0b ?hf0b ?hr0b ?hQ0b ?hy0b ?hS0b ?h0b
      case hi0b => exact (by simp only [List.getElem?_toArray, List.getElem?_cons_zero]; rfl)
      case hs0b => kernel_rfl
      case hf0b => kernel_rfl
      case hr0b => kernel_rfl
      case hQ0b => exact fun _ _ _ h => h
      case hy0b =>
        refine Or.inl ⟨rfl, ?_⟩
        intro W hSw
        obtain ⟨y1, y2⟩ := hSw
        go_simp
        try with_reducible rfl
      case hS0b => assumption
      try simp only [Act.put, List.setIfInBounds_toArray, List.set_cons_zero, List.set_cons_succ]
      refine wpAnyH_take (i := 1) (oi := ?oi1b) (v := ?v1b) ?hi1b ?hs1b ?hf1b ?hr1b ?hQ1b ?hy1b ?hS1b ?h1b
      case hi1b => exact (by simp only [List.getElem?_toArray, List.getElem?_cons_succ, List.getElem?_cons_zero]; rfl)
      case hs1b => kernel_rfl
      case hf1b => kernel_rfl
      case hr1b => kernel_rfl
      case hQ1b => exact fun _ _ _ h => h
      case hy1b =>
        refine Or.inl ⟨rfl, ?_⟩
        intro W hSw
        obtain ⟨y1, y2⟩ := hSw
        go_simp
        try with_reducible rfl
      case hS1b => assumption
      try simp only [Act.put, List.setIfInBounds_toArray, List.set_cons_zero, List.set_cons_succ]
      refine wpAnyH_take (i := 2) (oi := ?oi2b) (v := ?v2b) ?hi2b ?hs2b ?hf2b ?hr2b ?hQ2b ?hy2b ?hS2b ?h2b
      case hi2b => exact (by simp only [List.getElem?_toArray, List.getElem?_cons_succ, List.getElem?_cons_zero]; rfl)
      case hs2b => kernel_rfl
      case hf2b => kernel_rfl
      case hr2b => kernel_rfl
      case hQ2b => exact fun _ _ _ h => h
      case hy2b =>
        refine Or.inl ⟨rfl, ?_⟩
        intro W hSw
        obtain ⟨y1, y2⟩ := hSw
        go_simp
        try with_reducible rfl
      case hS2b => assumption
      try simp only [Act.put, List.setIfInBounds_toArray, List.set_cons_zero, List.set_cons_succ]
      refine wpAnyH_take (i := 3) (oi := ?oi3b) (v := ?v3b) ?hi3b ?hs3b ?hf3b ?hr3b ?hQ3b ?hy3b ?hS3b ?h3b
      case hi3b => exact (by simp only [List.getElem?_toArray, List.getElem?_cons_succ, List.getElem?_cons_zero]; rfl)
      case hs3b => kernel_rfl
      case hf3b => kernel_rfl
      case hr3b => kernel_rfl
      case hQ3b => exact fun _ _ _ h => h
      case hy3b =>
        refine Or.inl ⟨rfl, ?_⟩
        intro W hSw
        obtain ⟨y1, y2⟩ := hSw
        go_simp
        try with_reducible rfl
      case hS3b => assumption
      try simp only [Act.put, List.setIfInBounds_toArray, List.set_cons_zero, List.set_cons_succ]
      refine wpAnyH_take (i := 4) (oi := ?oi4b) (v := ?v4b) ?hi4b ?hs4b ?hf4b ?hr4b ?hQ4b ?hy4b ?hS4b ?h4b
      case hi4b => exact (by simp only [List.getElem?_toArray, List.getElem?_cons_succ, List.getElem?_cons_zero]; rfl)
      case hs4b => kernel_rfl
      case hf4b => kernel_rfl
      case hr4b => kernel_rfl
      case hQ4b => exact fun _ _ _ h => h
      case hy4b =>
        refine Or.inl ⟨rfl, ?_⟩
        intro W hSw
        obtain ⟨y1, y2⟩ := hSw
        go_simp
        try with_reducible rfl
      case hS4b => assumption
      try simp only [Act.put, List.setIfInBounds_toArray, List.set_cons_zero, List.set_cons_succ]
      refine wpAnyH_take (i := 5) (oi := ?oi5b) (v := ?v5b) ?hi5b ?hs5b ?hf5b ?hr5b ?hQ5b ?hy5b ?hS5b ?h5b
      case hi5b => exact (by simp only [List.getElem?_toArray, List.getElem?_cons_succ, List.getElem?_cons_zero]; rfl)
      case hs5b => kernel_rfl
      case hf5b => kernel_rfl
      case hr5b => kernel_rfl
      case hQ5b => exact fun _ _ _ h => h
      case hy5b =>
        refine Or.inl ⟨rfl, ?_⟩
        intro W hSw
        obtain ⟨y1, y2⟩ := hSw
        go_simp
        try with_reducible rfl
      case hS5b => assumption
      try simp only [Act.put, List.setIfInBounds_toArray, List.set_cons_zero, List.set_cons_succ]
      refine wpAnyH_take (i := 6) (oi := ?oi6b) (v := ?v6b) ?hi6b ?hs6b ?hf6b ?hr6b ?hQ6b ?hy6b ?hS6b ?h6b
      case hi6b => exact (by simp only [List.getElem?_toArray, List.getElem?_cons_succ, List.getElem?_cons_zero]; rfl)
      case hs6b => kernel_rfl
      case hf6b => kernel_rfl
      case hr6b => kernel_rfl
      case hQ6b => exact fun _ _ _ h => h
      case hy6b =>
        refine Or.inl ⟨rfl, ?_⟩
        intro W hSw
        obtain ⟨y1, y2⟩ := hSw
        go_simp
        try with_reducible rfl
      case hS6b => assumption
      try simp only [Act.put, List.setIfInBounds_toArray, List.set_cons_zero, List.set_cons_succ]
      refine wpAnyH_take (i := 7) (oi := ?oi7b) (v := ?v7b) ?hi7b ?hs7b ?hf7b ?hr7b ?hQ7b ?hy7b ?hS7b ?h7b
      case hi7b => exact (by simp only [List.getElem?_toArray, List.getElem?_cons_succ, List.getElem?_cons_zero]; rfl)
      case hs7b => kernel_rfl
      case hf7b => kernel_rfl
      case hr7b => kernel_rfl
      case hQ7b => exact fun _ _ _ h => h
      case hy7b =>
        refine Or.inl ⟨rfl, ?_⟩
        intro W hSw
        obtain ⟨y1, y2⟩ := hSw
        go_simp
        try with_reducible rfl
      case hS7b => assumption
      try simp only [Act.put, List.setIfInBounds_toArray, List.set_cons_zero, List.set_cons_succ]
      refine wpAnyH_take (i := 8) (oi := ?oi8b) (v := ?v8b) ?hi8b ?hs8b ?hf8b ?hr8b ?hQ8b ?hy8b ?hS8b ?h8b
      case hi8b => exact (by simp only [List.getElem?_toArray, List.getElem?_cons_succ, List.getElem?_cons_zero]; rfl)
      case hs8b => kernel_rfl
      case hf8b => kernel_rfl
      case hr8b => kernel_rfl
      case hQ8b => exact fun _ _ _ h => h
      case hy8b =>
        refine Or.inl ⟨rfl, ?_⟩
        intro W hSw
        obtain ⟨y1, y2⟩ := hSw
        go_simp
        try with_reducible rfl
      case hS8b => assumption
      try simp only [Act.put, List.setIfInBounds_toArray, List.set_cons_zero, List.set_cons_succ]
      refine wpAnyH_take (i := 9) (oi := ?oi9b) (v := ?v9b) ?hi9b ?hs9b ?hf9b ?hr9b ?hQ9b ?hy9b ?hS9b ?h9b
      case hi9b => exact (by simp only [List.getElem?_toArray, List.getElem?_cons_succ, List.getElem?_cons_zero]; rfl)
      case hs9b => kernel_rfl
      case hf9b => kernel_rfl
      case hr9b => kernel_rfl
      case hQ9b => exact fun _ _ _ h => h
      case hy9b =>
        refine Or.inl ⟨rfl, ?_⟩
        intro W hSw
        obtain ⟨y1, y2⟩ := hSw
        go_simp
        try with_reducible rfl
      case hS9b => assumption
      try simp only [Act.put, List.setIfInBounds_toArray, List.set_cons_zero, List.set_cons_succ]
      refine wpAnyH_take (i := 10) (oi := ?oi10b) (v := ?v10b) ?hi10b ?hs10b ?hf10b ?hr10b ?hQ10b ?hy10b ?hS10b ?h10b
      case hi10b => exact (by simp only [List.getElem?_toArray, List.getElem?_cons_succ, List.getElem?_cons_zero]; rfl)
      case hs10b => kernel_rfl
      case hf10b => kernel_rfl
      case hr10b => kernel_rfl
      case hQ10b => exact fun _ _ _ h => h
      case hy10b =>
        refine Or.inl ⟨rfl, ?_⟩
        intro W hSw
        obtain ⟨y1, y2⟩ := hSw
        go_simp
        try with_reducible rfl
      case hS10b => assumption
      try simp only [Act.put, List.setIfInBounds_toArray, List.set_cons_zero, List.set_cons_succ]
      refine wpAnyH_ready (rs := [11]) (by kernel_rfl) (by simp) ?_
      refine AllReadyH.cons (o := _) rfl (fun K hK => ?_) AllReadyH.nil
      go_simp
      refine (ask_any L M (2 * k + 1) b a (askL l a b).1 Wb0 HGDb.out HINVb.out (by omega) HAB.out.2 HAB.out.1).mono ?_
      rintro r w6 ⟨rfl, hgw6, hcw6⟩
      have HGw6 := Lib.hid hgw6
      have HBw6 : Hid (Below w.heap.size w w6) := HDb.out.trans (hcw6.1 _ (by rw [HM.out]; exact Nat.le_refl _) HDb.out.size)
      clear hgw6 hcw6
      refine hK.out _ _ (HCE.out _ HBw6.out) (fun hHeld => ?_)
      clear hK K
      try simp only [Act.put, List.setIfInBounds_toArray, List.set_cons_zero, List.set_cons_succ]
      refine wpAnyH_done (by kernel_rfl) ?_ _
      have HF : Hid (Gr w6 L M (2 * (k + 1)) (askL (askL l a b).1 b a).1 ∧ Inv (askL (askL l a b).1 b a).1 ∧ Below w.heap.size w w6) := ⟨by rw [show 2 * (k + 1) = 2 * k + 1 + 1 by omega]; exact HGw6.out, HINVc.out, HBw6.out⟩
      go_wp2_with fail
      go_roundw
      case rel => exact ⟨k + 1, _, by omega, by go_num, HF⟩
      case measure => simp [intOf] <;> omega
    · obtain ⟨wb, rfl⟩ : ∃ wb, wb = wr := ⟨wr, rfl⟩
      obtain ⟨areP, hare⟩ : ∃ areP, areP = areB l p := ⟨_, rfl⟩
      have HARE : Hid (∀ W, Below wb.heap.size wb W → ∀ x : Nat, x < 4294967296 → Calls Try.prog 41 #[gp L, .int .u32 (p : Int), .int .u32 (x : Int)] W fun r w' => r = .returned (.bool (areP x)) ∧ w' = W) := fun W hW x hx => by
        obtain ⟨D, g1, g2, _⟩ := HV.out.1.below hW
        have h := are_any L M _ p x D _ W g1 g2 HP.out hx
        rw [are_dec HV.out.2.1] at h
        rw [hare]
        exact h
      have HOKX : Hid (∀ x, areP x = true → V.okN x) := fun x hx => by rw [hare] at hx; exact are_ok HV.out.2.1 hx
      have HBW := Lib.hid HV.out.2.2
      obtain ⟨R, hR⟩ : ∃ R, R = wb.heap.size := ⟨_, rfl⟩
      obtain ⟨w2, hw2⟩ : ∃ w2, w2 = wb.alloc (.cells #[.slice none 0 0, .int .i64 40] 86) := ⟨_, rfl⟩
      have hb2 : Below wb.heap.size wb w2 := by rw [hw2]; exact (Below.refl _ _).alloc (Nat.le_refl _) _
      have hq2 : w2.heap[R]? = some (.cells #[.slice none 0 0, .int .i64 40] 86 (0, 0)) := by rw [hw2, hR]; exact heap_alloc_new wb _
      have HR0 : Hid (Rk wb R 0 areP xs w2) := ⟨⟨0, none, 0, [], [], hq2, rfl, List.Perm.refl _, World.ownsRow_nil w2 _ 137 2, fun i j x y _ h => by simp at h, by simp, by simp [aud], Nat.le_refl _⟩, hb2, by omega, lt_of_block hq2⟩
      have H2 := Lib.hid hw2
      have HRR := Lib.hid hR
      clear hare hR hw2 hb2 hq2
      go_upto_region 10 with (fail)
      rw [← H2.out, ← HRR.out]
      go_wp2_with fail
      go_loopw [10] (fun i wr => ∃ (k : Nat), k ≤ n2 ∧ i = .int .i64 (k : Int) ∧ Hid (Rk wb R k areP xs wr)) (fun i _ => n2 - (intOf i).toNat)
      case atStart => exact ⟨0, Nat.zero_le _, rfl, HR0⟩
      case round =>
        clear HV
        obtain ⟨k, hk, rfl, HV⟩ := hrel
        obtain ⟨m, B, c3, rows, ps, hrow, hm, hperm, hown, hup, hokp, hmem, hlen⟩ := HV.out.ex
        have HROW := Lib.hid hrow
        have HSM : Hid (m = rows.length ∧ m ≤ 900 ∧ ps.length ≤ k) := ⟨hm, by rw [hm, hperm.length_eq]; omega, hlen⟩
        have HPS := Lib.hid (And.intro hperm (And.intro hup (And.intro hokp hmem)))
        have HOW := Lib.hid hown
        clear hrow hm hperm hown hup hokp hmem hlen
        by_cases hlt2 : k < n2
        · obtain ⟨x, hx⟩ : ∃ x, xs[k]? = some x := ⟨xs[k]'(by rw [← HN2.out]; exact hlt2), List.getElem?_eq_getElem _⟩
          obtain ⟨b2, o2, rfl, hb2, hc2⟩ := HA2.out (by have := HN2.out; omega)
          have HCX : Hid (∀ W, Below wb.heap.size wb W → (fun W : World => W.cell? ⟨b2, o2 + k, none⟩ = some (.int .u32 (x : Int))) W) := fun W hW => ((HBW.out.trans (hW.mono HBW.out.size)).cell (p := ⟨b2, _, none⟩) hb2).trans (hc2 k x hx)
          have HC := Lib.hid (HARE.out wr HV.out.below x (HBX.out x (List.mem_of_getElem? hx)))
          have HTK : Hid (aud areP (xs.take (k + 1)) = aud areP (xs.take k) ++ (if areP x then [x] else [])) := by
            simp only [Hid, aud]
            rw [List.take_add_one, hx, List.filter_append]
            cases h : areP x <;> simp [h]
          have d0 := HCX.out wr HV.out.below
          simp only at d0
          clear hx hb2 hc2
          cases hq : areP x with
          | false =>
            rw [hq] at HC HTK
            have HTF : Hid (aud areP (xs.take (k + 1)) = aud areP (xs.take k)) := by simp only [Hid]; have := HTK.out; simpa using this
            have HV5 : Hid (Rk wb R (k + 1) areP xs wr) := ⟨⟨m, B, c3, rows, ps, HROW.out, HSM.out.1, HPS.out.1, HOW.out, HPS.out.2.1, HPS.out.2.2.1, fun y => by rw [HTF.out]; exact HPS.out.2.2.2 y, by have := HSM.out.2.2; omega⟩, HV.out.below, HV.out.low⟩
            clear hq
            go_wp2_with fail
            refine HC.out.mono ?_
            rintro r w' ⟨rfl, hw⟩
            have hw := hw.symm
            subst hw
            go_wp2_with fail
            go_roundw
            case rel => exact ⟨k + 1, by omega, by go_num, HV5⟩
            case measure => simp [intOf] <;> omega
          | true =>
            rw [hq] at HC HTK
            have HTT : Hid (aud areP (xs.take (k + 1)) = aud areP (xs.take k) ++ [x]) := by simp only [Hid]; have := HTK.out; simpa using this
            have hxok := HOKX.out x hq
            obtain ⟨qs, hq1, hq2, hq3, hq4⟩ := Bd.put_exists (most := 40) 0 HPS.out.2.1 hxok (by have := HSM.out.2.2; omega)
            have HQ : Hid (V.PutR 40 ps x 0 0 qs) := hq1
            have HQF : Hid (Up (qs.map (·.1)) ∧ (∀ y ∈ qs.map (·.1), V.okN y) ∧ (∀ y, y ∈ qs.map (·.1) ↔ y ∈ aud areP (xs.take (k + 1))) ∧ qs.length ≤ k + 1) := ⟨hq2, fun y hy => by
              rcases (hq3 y).1 hy with rfl | hy
              · exact hxok
              · exact HPS.out.2.2.1 y hy, fun y => by
              rw [hq3 y, HPS.out.2.2.2 y, HTT.out, List.mem_append, List.mem_singleton]
              exact Or.comm, by have := HSM.out.2.2; omega⟩
            clear hq hxok hq1 hq2 hq3 hq4
            go_wp2_with fail
            refine HC.out.mono ?_
            rintro r w' ⟨rfl, hw⟩
            have hw := hw.symm
            subst hw
            go_upto_region 14 with (fail)
            clear d0
            refine wp_region_held_drew (S := fun W : World => W.cell? ⟨b2, o2 + k, none⟩ = some (.int .u32 (x : Int))) (by kernel_rfl) (HCX.out _ HV.out.below.drew) (fun hHeld => ?_)
            obtain ⟨W0, hW0⟩ : ∃ W0, W0 = wr.drew := ⟨_, rfl⟩
            have HW0 : Hid (Below wb.heap.size wb W0 ∧ W0.heap[R]? = some (.cells #[.slice B m c3, .int .i64 40] 86 (0, 0)) ∧ W0.ownsRow (R + 1) 137 2 (.slice B m c3) m (V.rr rows) ∧ R < W0.heap.size) := by rw [hW0]; exact ⟨HV.out.below.drew, HROW.out, HOW.out, HV.out.low.2⟩
            rw [← hW0] at hHeld ⊢
            clear hW0
            refine wpAnyH_take (i := 1) (oi := ?oi1) (v := ?v1) ?hi1 ?hs1 ?hf1 ?hr1 ?hQ1 ?hy1 ?hS1 ?h1
            case hi1 => exact (by simp only [List.getElem?_toArray, List.getElem?_cons_succ, List.getElem?_cons_zero]; rfl)
            case hs1 => kernel_rfl
            case hf1 => kernel_rfl
            case hr1 => kernel_rfl
            case hQ1 => exact fun _ _ _ h => h
            case hy1 =>
              refine Or.inl ⟨rfl, ?_⟩
              intro W hSw
              go_simp
              try with_reducible rfl
            case hS1 => assumption
            try simp only [Act.put, List.setIfInBounds_toArray, List.set_cons_zero, List.set_cons_succ]
            refine wpAnyH_take (i := 2) (oi := ?oi2) (v := ?v2) ?hi2 ?hs2 ?hf2 ?hr2 ?hQ2 ?hy2 ?hS2 ?h2
            case hi2 => exact (by simp only [List.getElem?_toArray, List.getElem?_cons_succ, List.getElem?_cons_zero]; rfl)
            case hs2 => kernel_rfl
            case hf2 => kernel_rfl
            case hr2 => kernel_rfl
            case hQ2 => exact fun _ _ _ h => h
            case hy2 =>
              refine Or.inl ⟨rfl, ?_⟩
              intro W hSw
              go_simp
              try with_reducible rfl
            case hS2 => assumption
            try simp only [Act.put, List.setIfInBounds_toArray, List.set_cons_zero, List.set_cons_succ]
            refine wpAnyH_take (i := 3) (oi := ?oi3) (v := ?v3) ?hi3 ?hs3 ?hf3 ?hr3 ?hQ3 ?hy3 ?hS3 ?h3
            case hi3 => exact (by simp only [List.getElem?_toArray, List.getElem?_cons_succ, List.getElem?_cons_zero]; rfl)
            case hs3 => kernel_rfl
            case hf3 => kernel_rfl
            case hr3 => kernel_rfl
            case hQ3 => exact fun _ _ _ h => h
            case hy3 =>
              refine Or.inl ⟨rfl, ?_⟩
              intro W hSw
              go_simp
              try with_reducible rfl
            case hS3 => assumption
            try simp only [Act.put, List.setIfInBounds_toArray, List.set_cons_zero, List.set_cons_succ]
            refine wpAnyH_take (i := 4) (oi := ?oi4) (v := ?v4) ?hi4 ?hs4 ?hf4 ?hr4 ?hQ4 ?hy4 ?hS4 ?h4
            case hi4 => exact (by simp only [List.getElem?_toArray, List.getElem?_cons_succ, List.getElem?_cons_zero]; rfl)
            case hs4 => kernel_rfl
            case hf4 => kernel_rfl
            case hr4 => kernel_rfl
            case hQ4 => exact fun _ _ _ h => h
            case hy4 =>
              refine Or.inl ⟨rfl, ?_⟩
              intro W hSw
              go_simp
              try with_reducible rfl
            case hS4 => assumption
            try simp only [Act.put, List.setIfInBounds_toArray, List.set_cons_zero, List.set_cons_succ]
            have z0 := cell_of_row W0 R 0 _ _ _ HW0.out.2.1
            have z1 := cell_of_row W0 R 1 _ _ _ HW0.out.2.1
            simp at z0 z1
            refine wpAnyH_ready (rs := [0]) (by kernel_rfl) (by simp) ?_
            refine AllReadyH.cons (o := _) rfl (fun K hK => ?_) AllReadyH.nil
            go_simp
            refine hK.out _ _ (HCX.out _ HW0.out.1) (fun hHeld => ?_)
            clear hK K z0 z1
            try simp only [Act.put, List.setIfInBounds_toArray, List.set_cons_zero, List.set_cons_succ]
            refine wpAnyH_ready (rs := [5]) (by kernel_rfl) (by simp) ?_
            refine AllReadyH.cons (o := _) rfl (fun K hK => ?_) AllReadyH.nil
            go_simp
            refine (V.rput_any (R + 1) B m c3 40 x 0 0 rows ps qs W0 HSM.out.1 HW0.out.2.2.1 (by have := HW0.out.2.2.2; omega) HSM.out.2.1 HPS.out.1 HPS.out.2.1 HPS.out.2.2.1 HQ.out).mono ?_
            rintro r w3 ⟨B3, m3, c4, l3, rfl, hm3, hp3, ho3, hb3⟩
            have HR3 : Hid (w3.heap[R]? = some (.cells #[.slice B m c3, .int .i64 40] 86 (0, 0))) := (hb3.block R HW0.out.2.2.2).trans HW0.out.2.1
            have HB3 : Hid (Below wb.heap.size wb w3) := HW0.out.1.trans (hb3.mono HW0.out.1.size)
            have HO3 := Lib.hid ho3
            have HM3 := Lib.hid (And.intro hm3 hp3)
            clear hm3 hp3 ho3 hb3
            unfold V.rV
            refine hK.out _ _ (HCX.out _ HB3.out) (fun hHeld => ?_)
            clear hK K
            try simp only [Act.put, List.setIfInBounds_toArray, List.set_cons_zero, List.set_cons_succ]
            refine wpAnyH_take (i := 6) (oi := ?oi6q) (v := ?v6q) ?hi6q ?hs6q ?hf6q ?hr6q ?hQ6q ?hy6q ?hS6q ?h6q
            case hi6q => exact (by simp only [List.getElem?_toArray, List.getElem?_cons_succ, List.getElem?_cons_zero]; rfl)
            case hs6q => kernel_rfl
            case hf6q => kernel_rfl
            case hr6q => kernel_rfl
            case hQ6q => exact fun _ _ _ h => h
            case hy6q =>
              refine Or.inl ⟨rfl, ?_⟩
              intro W hSw
              go_simp
              try with_reducible rfl
            case hS6q => assumption
            try simp only [Act.put, List.setIfInBounds_toArray, List.set_cons_zero, List.set_cons_succ]
            refine wpAnyH_take (i := 7) (oi := ?oi7q) (v := ?v7q) ?hi7q ?hs7q ?hf7q ?hr7q ?hQ7q ?hy7q ?hS7q ?h7q
            case hi7q => exact (by simp only [List.getElem?_toArray, List.getElem?_cons_succ, List.getElem?_cons_zero]; rfl)
            case hs7q => kernel_rfl
            case hf7q => kernel_rfl
            case hr7q => kernel_rfl
            case hQ7q => exact fun _ _ _ h => h
            case hy7q =>
              refine Or.inl ⟨rfl, ?_⟩
              intro W hSw
              go_simp
              try with_reducible rfl
            case hS7q => assumption
            try simp only [Act.put, List.setIfInBounds_toArray, List.set_cons_zero, List.set_cons_succ]
            refine wpAnyH_take (i := 8) (oi := ?oi8q) (v := ?v8q) ?hi8q ?hs8q ?hf8q ?hr8q ?hQ8q ?hy8q ?hS8q ?h8q
            case hi8q => exact (by simp only [List.getElem?_toArray, List.getElem?_cons_succ, List.getElem?_cons_zero]; rfl)
            case hs8q => kernel_rfl
            case hf8q => kernel_rfl
            case hr8q => kernel_rfl
            case hQ8q => exact fun _ _ _ h => h
            case hy8q =>
              refine Or.inl ⟨rfl, ?_⟩
              intro W hSw
              go_simp
              try with_reducible rfl
            case hS8q => assumption
            try simp only [Act.put, List.setIfInBounds_toArray, List.set_cons_zero, List.set_cons_succ]
            refine wpAnyH_ready (rs := [9]) (by kernel_rfl) (by simp) ?_
            refine AllReadyH.cons (o := _) rfl (fun K hK => ?_) AllReadyH.nil
            have hq4 := HR3.out
            have z0 := cell_of_row w3 R 0 _ _ _ hq4
            have z1 := cell_of_row w3 R 1 _ _ _ hq4
            simp at z0 z1
            have zf : ∀ i, w3.frozen? ⟨R, i, none⟩ = false := fun i => frozen_of_row w3 _ i _ _ hq4
            clear hq4
            go_simp
            clear z0 z1 zf
            obtain ⟨W5, hW5⟩ : ∃ W5, W5 = ((w3.setCell ⟨R, 0, none⟩ (.slice B3 m3 c4)).setCell ⟨R, 1, none⟩ (.int .i64 40)) := ⟨_, rfl⟩
            have HV5 : Hid (Rk wb R (k + 1) areP xs W5) := by
              have e1 := Bd.two_row (.slice B3 m3 c4) (.int .i64 40) HR3.out
              have hlo := HV.out.low.1
              refine ⟨⟨m3, B3, c4, l3, qs, by rw [hW5]; exact e1, HM3.out.1, HM3.out.2, ?_, HQF.out⟩, by rw [hW5]; exact (HB3.out.setCell hlo _).setCell hlo _, hlo, by rw [hW5]; exact lt_of_block e1⟩
              rw [hW5]
              exact V.own2_after HO3.out fun g hg => Bd.two_other _ _ (by have := (V.own2_lt HO3.out g hg).1; omega)
            rw [← hW5]
            clear hW5
            refine hK.out _ _ (HCX.out _ HV5.out.below) (fun hHeld => ?_)
            clear hK K
            try simp only [Act.put, List.setIfInBounds_toArray, List.set_cons_zero, List.set_cons_succ]
            refine wpAnyH_done (by kernel_rfl) ?_ _
            go_wp2_with fail
            go_roundw
            case rel => exact ⟨k + 1, by omega, by go_num, HV5⟩
            case measure => simp [intOf] <;> omega
        · have HX : Hid (∀ y, y ∈ ps.map (·.1) ↔ y ∈ xs ∧ areP y = true) := fun y => by
            rw [HPS.out.2.2.2 y, List.take_of_length_le (by rw [← HN2.out]; omega)]
            unfold aud
            rw [List.mem_filter]
          have HBR : Hid (Below w.heap.size w wr) := HBW.out.trans (HV.out.below.mono HBW.out.size)
          have HON : Hid (∀ W, Below w.heap.size w W → On W W.heap.size A2 xs) := fun W hW hl => by
            obtain ⟨b, o, e1, e2, e3⟩ := HA2.out hl
            exact ⟨b, o, e1, Nat.lt_of_lt_of_le e2 hW.size, fun i x hx => (hW.cell (p := ⟨b, _, none⟩) e2).trans (e3 i x hx)⟩
          have HAU := Lib.hid (audience_any (Lib.hid sortU) (gp L) p areP A2 n2 c2 xs wr HN2.out (HON.out wr HBR.out) (by omega) (fun W hW x hx => HARE.out W (HV.out.below.trans (hW.mono HV.out.below.size)) x (HBX.out x hx)))
          go_wp2_with fail
          refine HAU.out.mono ?_
          rintro r w4 ⟨v, zs, rfl, ho, hr, hmz, hb4⟩
          have HZP : Hid (ps.map (·.1) = zs) := (rise_one hr ((Bd.up_iff _).1 HPS.out.2.1) (fun y => (hmz y).trans (HX.out y).symm)).symm
          have HS4 := Lib.hid (S32.of_own ho)
          have HB4 := Lib.hid hb4
          have HROW4 : Hid (w4.heap[R]? = some (.cells #[.slice B m c3, .int .i64 40] 86 (0, 0))) := (hb4.block R HV.out.low.2).trans HROW.out
          have HIDS := Lib.hid (V.rids_any B m c3 40 rows ps w4 HSM.out.1 (V.Rs.of_own (V.own2_after HOW.out fun g hg => hb4.block g (V.own2_lt HOW.out g hg).2)) HSM.out.2.1 HPS.out.1 HPS.out.2.1 HPS.out.2.2.1)
          rw [HZP.out] at HIDS
          obtain ⟨Av, cv, rfl⟩ := own_form1 ho
          clear ho hr hmz hb4
          have z0 := cell_of_row w4 R 0 _ _ _ HROW4.out
          have z1 := cell_of_row w4 R 1 _ _ _ HROW4.out
          simp at z0 z1
          go_wp2_with fail
          refine HIDS.out.mono ?_
          rintro r w5 ⟨v', rfl, ho, hb5⟩
          have HB5 : Hid (Below w.heap.size w w5) := (HBR.out.trans (HB4.out.mono HBR.out.size)).trans (hb5.mono (Nat.le_trans HBR.out.size HB4.out.size))
          have HSAME := Lib.hid (same_eq _ _ zs w5 (by rw [← HZP.out, List.length_map]; have := HSM.out.2.2; omega) (HS4.out.after hb5) (S32.of_own ho))
          clear ho hb5 z0 z1
          go_wp2_with fail
          refine HSAME.out.mono ?_
          rintro r w6 ⟨rfl, hb6⟩
          have HB6 : Hid (Below w.heap.size w w6) := HB5.out.trans (hb6.mono HB5.out.size)
          clear hb6
          have HAN := Lib.hid (audience_any (Lib.hid sortU) (.pointer none) p (fun _ => false) A2 n2 c2 xs w6 HN2.out (HON.out w6 HB6.out) (by omega) (fun W hW x hx => (are_nil p x W)))
          go_wp2_with fail
          refine HAN.out.mono ?_
          rintro r w7 ⟨v7, zs7, rfl, ho, hr, hmz, hb7⟩
          have hz7 : zs7 = [] := by
            cases zs7 with
            | nil => rfl
            | cons y l => have := (hmz y).1 (by simp); simp at this
          subst hz7
          obtain ⟨Aw, cw, rfl⟩ := own_form1 ho
          have HB7 : Hid (Below w.heap.size w w7) := HB6.out.trans (hb7.mono HB6.out.size)
          have HAWK := Lib.hid (Bd.awake_any w7)
          clear ho hr hmz hb7
          go_wp2_with fail
          refine HAWK.out.mono ?_
          rintro r w8 ⟨rfl, hb8⟩
          have HB8 : Hid (Below w.heap.size w w8) := HB7.out.trans (hb8.mono HB7.out.size)
          clear hb8
          go_wp2
          go_ret
          exact ⟨rfl, HB8.out⟩
end Go.Proofs.Ytaoejkbockcneaa
