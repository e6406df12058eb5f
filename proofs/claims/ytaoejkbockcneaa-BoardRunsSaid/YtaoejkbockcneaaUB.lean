/- Board: BoardKnows' walk. -/
import Derived.Test.YtaoejkbockcneaaU9
import Derived.Test.YtaoejkbockcneaaU4
namespace Go.Proofs.Ytaoejkbockcneaa.Bd
open Go.RowKit Go.Maps
set_option maxRecDepth 20000
set_option linter.unusedVariables false
set_option linter.unusedSimpArgs false

abbrev Ac3 := Bool × Nat × Int
def At3 (w : World) (b p : Nat) (e : Ac3) : Prop := w.cell? ⟨b, p, none⟩ = some (.bool e.1) ∧ w.cell? ⟨b, p + 1, none⟩ = some (.int .u32 (e.2.1 : Int)) ∧ w.cell? ⟨b, p + 2, none⟩ = some (.int .i64 e.2.2)
def As3 (w : World) (B : Nat) (A : Option Addr) (l : List Ac3) : Prop := 0 < l.length → ∃ b o, A = some ⟨b, o, none⟩ ∧ b < B ∧ ∀ (i : Nat) (e : Ac3), l[i]? = some e → At3 w b (o + i * 3) e
/-- Behind a Set. -/
def SetPost (L M q n : Nat) (t : Int) (W w' : World) : Prop := (∃ D' N', IsB w' L M (size D') D' ∧ Rep D' N' ∧ (N' q).2 = t ∧ size D' ≤ n + 1) ∧ ChM M W w'
theorem setP (L M p q : Nat) (D : DataW Unit) (N : Nat → Int × Int) (x : Int) (w : World) (hL : IsB w L M (size D) D) (hN : Rep D N) (hsz : size D ≤ 100) :
    Calls Try.prog 32 #[.pointer (some ⟨L, 0, none⟩), .int .u32 (p : Int), .int .i64 x] w fun r w' => r = .returned (.tuple #[]) ∧ SetPost L M q (size D) (N q).2 w w' := by
  by_cases h : p < 1 ∨ p > 2147483647
  · exact (set_no L p x h w).mono fun r w' ⟨h1, h2⟩ => ⟨h1, by rw [h2]; exact ⟨⟨D, N, hL, hN, rfl, by omega⟩, ChM.of_below (Below.refl _ _)⟩⟩
  · exact (setD_yes L M (size D) p D N x w hL hN (by omega) (by omega) (by omega)).mono fun r w' ⟨h1, h2, h3⟩ => ⟨h1, ⟨_, _, h2.norm, hN.keep p (nrm x) (N p).2, by
      unfold upd
      split
      · rename_i e; rw [e]
      · rfl, (size_keepD (hL.2.tidy K26) p _ _).1⟩, h3⟩
/-- What whoever was told knows, x changes on. -/
def Kn (N : Nat → Int × Int) (l : List (Int × Int)) (q x : Nat) : Int := if (q : Int) ∈ (l.take x).map Prod.fst then seen (N q).1 else (N q).2
theorem Kn_zero (N : Nat → Int × Int) (l : List (Int × Int)) (q : Nat) : Kn N l q 0 = (N q).2 := by simp [Kn]
theorem Kn_hit {N : Nat → Int × Int} {l : List (Int × Int)} {q x : Nat} {e : Int} (h : Tells N l) (hx : l[x]? = some ((q : Int), e)) : Kn N l q x = (N q).2 ∧ e = seen (N q).1 ∧ e ≠ (N q).2 ∧ Kn N l q (x + 1) = e := by
  obtain ⟨p, _, h1, h2⟩ := h.2.1 _ (List.mem_of_getElem? hx)
  have hpq : p = q := by simp at h1; omega
  subst hpq
  have he : e = seen (N p).1 := by simpa using h1
  have hn := nodup_take h.1 hx
  refine ⟨by simp only [Kn]; rw [if_neg hn], he, by rw [he]; exact h2, ?_⟩
  simp only [Kn]
  rw [take_snoc hx, if_pos (by simp), he]
theorem Kn_miss {N : Nat → Int × Int} {l : List (Int × Int)} {q x : Nat} {y : Int × Int} (hx : l[x]? = some y) (hne : y.1 ≠ q) : Kn N l q (x + 1) = Kn N l q x := by
  have : ¬ (q : Int) = y.1 := fun e => hne e.symm
  simp only [Kn]
  rw [take_snoc hx]
  simp only [List.map_append, List.mem_append, List.map_cons, List.map_nil, List.mem_singleton, this, or_false]
theorem Kn_all {N : Nat → Int × Int} {l : List (Int × Int)} (h : Tells N l) (q : Nat) : Kn N l q l.length = seen (N q).1 := by
  simp only [Kn]
  rw [List.take_length]
  split
  · rfl
  · rename_i hn
    by_cases e : seen (N q).1 = (N q).2
    · exact e.symm
    · exact absurd (List.mem_map.2 ⟨_, h.2.2 q e, rfl⟩) hn

set_option maxHeartbeats 16000000 in
theorem knows_walk (HSORT : Hid SortOk) (u : Option Addr × Nat) (acts : List Ac3) (q : Nat) (w : World) (hs : As3 w w.heap.size u.1 acts) (hl : acts.length ≤ 9223372036854775807) (hwf : ∀ e ∈ acts, e.2.1 < 4294967296) (hq : q < 4294967296) :
    Calls Try.prog 10 #[.slice u.1 acts.length u.2, .int .u32 (q : Int)] w fun r w' => r = .returned (.bool true) ∧ Below w.heap.size w w' := by
  obtain ⟨E, ec⟩ := u
  obtain ⟨n, hn⟩ : ∃ n, n = acts.length := ⟨_, rfl⟩
  simp only at hs ⊢
  rw [← hn] at hl ⊢
  have HA := Lib.hid hs
  have HNN := Lib.hid hn
  clear hs hn hwf
  by_cases h80 : n > 80
  · have t0 : decide ((n : Int) > 80) = true := by rw [decide_eq_true_iff]; omega
    go_enter Try.func10, Try.ntmps10
    go_wp2
    go_ret
    exact ⟨rfl, Below.refl _ _⟩
  have t0 : decide ((n : Int) > 80) = false := by rw [decide_eq_false_iff_not]; omega
  obtain ⟨L, hL⟩ : ∃ L, L = w.heap.size + 1 := ⟨_, rfl⟩
  obtain ⟨M, hM⟩ : ∃ M, M = w.heap.size := ⟨_, rfl⟩
  have HN : Hid (Calls Try.prog 28 #[] w fun e w' => e = .returned (.pointer (some ⟨L, 0, none⟩)) ∧ IsB w' L M 0 (.map []) ∧ Below w.heap.size w w') := by
    rw [hL, hM]
    exact new_any w
  have HM := Lib.hid hM
  have HAW := Lib.hid awake_any
  have HQ := Lib.hid hq
  clear hL hM hq
  go_enter Try.func10, Try.ntmps10
  go_wp2_with fail
  refine HN.out.mono ?_
  rintro r w1 ⟨rfl, hI1, hB1⟩
  have HI1 := Lib.hid hI1
  have HB1 := Lib.hid hB1
  clear hI1 hB1
  go_wp2_with fail
  go_loopw [6, 7] (fun k i wr => ∃ (j : Nat) (D : DataW Unit) (Nt : Nat → Int × Int) (t : Int), i = .int .i64 (j : Int) ∧ k = .int .i64 t ∧ t = (Nt q).2 ∧ j ≤ n ∧ IsB wr L M (size D) D ∧ Rep D Nt ∧ size D ≤ j ∧ Below w.heap.size w wr)
    (fun _ i _ => n - (intOf i).toNat)
  case atStart => exact ⟨0, .map [], fun _ => (0, 0), 0, rfl, rfl, rfl, Nat.zero_le _, HI1.out, Rep.start, Nat.le_refl _, HB1.out⟩
  case round =>
    obtain ⟨j, D, Nt, t, rfl, rfl, ht, hj, hI, hR, hsz, hB⟩ := hrel
    have HT := Lib.hid ht
    have HI := Lib.hid hI
    have HR := Lib.hid hR
    have HSZ := Lib.hid hsz
    have HB := Lib.hid hB
    clear ht hI hR hsz hB
    by_cases hlt : j < n
    · have t1 : decide ((j : Int) < (n : Int)) = true := by rw [decide_eq_true_iff]; omega
      obtain ⟨e, he⟩ : ∃ e, acts[j]? = some e := ⟨acts[j]'(by have := HNN.out; omega), List.getElem?_eq_getElem _⟩
      obtain ⟨b, o, hE, hbw, hat⟩ := HA.out (by have := HNN.out; omega)
      have hae := hat j e he
      obtain ⟨fl, p, st⟩ := e
      have hcw : ∀ i, wr.cell? ⟨b, i, none⟩ = w.cell? ⟨b, i, none⟩ := fun i => by unfold World.cell?; rw [HB.out.block b hbw]
      have a0 := (hcw _).trans hae.1
      have a1 := (hcw _).trans hae.2.1
      have a2 := (hcw _).trans hae.2.2
      simp only at a0 a1 a2
      have hbr : b < wr.heap.size := by have := HB.out.size; omega
      have HBR := Lib.hid (show b < wr.heap.size ∧ b ≠ M from ⟨hbr, by rw [HM.out]; omega⟩)
      clear hcw hae hat he hbr hbw
      subst hE
      cases fl with
      | false =>
        have HST : Hid (∀ W, Below wr.heap.size wr W → Calls Try.prog 32 #[.pointer (some ⟨L, 0, none⟩), .int .u32 (p : Int), .int .i64 st] W fun r w' => r = .returned (.tuple #[]) ∧ SetPost L M q (size D) t W w') := fun W hW => by
          rw [HT.out]
          exact setP L M p q D Nt st W (HI.out.below hW) HR.out (by have := HSZ.out; omega)
        have HCE : Hid (∀ V, Below wr.heap.size wr V → (fun W : World => W.cell? ⟨b, o + j * 3 + 1, none⟩ = some (.int .u32 (p : Int)) ∧ W.cell? ⟨b, o + j * 3 + 2, none⟩ = some (.int .i64 st)) V) := fun V hV => by
          have e : ∀ i, V.cell? ⟨b, i, none⟩ = wr.cell? ⟨b, i, none⟩ := fun i => by unfold World.cell?; rw [hV.block b HBR.out.1]
          exact ⟨(e _).trans a1, (e _).trans a2⟩
        have HSX : Hid (∀ W w5, Below wr.heap.size wr W → SetPost L M q (size D) t W w5 → (fun W : World => W.cell? ⟨b, o + j * 3 + 1, none⟩ = some (.int .u32 (p : Int)) ∧ W.cell? ⟨b, o + j * 3 + 2, none⟩ = some (.int .i64 st)) w5) := fun W w5 hW hP => by
          have e : ∀ i, w5.cell? ⟨b, i, none⟩ = W.cell? ⟨b, i, none⟩ := fun i => by unfold World.cell?; rw [hP.2.2.1 b (Nat.lt_of_lt_of_le HBR.out.1 hW.size) HBR.out.2]
          exact ⟨(e _).trans (HCE.out W hW).1, (e _).trans (HCE.out W hW).2⟩
        go_upto_region 9 with (fail)
        have HD : Hid (Below wr.heap.size wr wr.drew) := (Below.refl _ _).drew
        refine wp_region_held_drew (S := fun W : World => W.cell? ⟨b, o + j * 3 + 1, none⟩ = some (.int .u32 (p : Int)) ∧ W.cell? ⟨b, o + j * 3 + 2, none⟩ = some (.int .i64 st)) (by kernel_rfl) (HCE.out _ HD.out) (fun hHeld => ?_)
        obtain ⟨W0, hW0⟩ : ∃ W0, W0 = wr.drew := ⟨_, rfl⟩
        have HD0 : Hid (Below wr.heap.size wr W0) := by rw [hW0]; exact HD.out
        rw [← hW0] at hHeld ⊢
        clear hW0 a0 a1 a2
        refine wpAnyH_take (i := 0) (oi := ?oi0a) (v := ?v0a) ?hi0a ?hs0a ?hf0a ?hr0a ?hQ0a ?hy0a ?hS0a ?h0a
        case hi0a => exact (by simp only [List.getElem?_toArray, List.getElem?_cons_zero]; rfl)
        case hs0a => kernel_rfl
        case hf0a => kernel_rfl
        case hr0a => kernel_rfl
        case hQ0a => exact fun _ _ _ h => h
        case hy0a =>
          refine Or.inl ⟨rfl, ?_⟩
          intro W hSw
          obtain ⟨y1, y2⟩ := hSw
          go_simp
          try with_reducible rfl
        case hS0a => assumption
        try simp only [Act.put, List.setIfInBounds_toArray, List.set_cons_zero, List.set_cons_succ]
        refine wpAnyH_take (i := 1) (oi := ?oi1a) (v := ?v1a) ?hi1a ?hs1a ?hf1a ?hr1a ?hQ1a ?hy1a ?hS1a ?h1a
        case hi1a => exact (by simp only [List.getElem?_toArray, List.getElem?_cons_succ, List.getElem?_cons_zero]; rfl)
        case hs1a => kernel_rfl
        case hf1a => kernel_rfl
        case hr1a => kernel_rfl
        case hQ1a => exact fun _ _ _ h => h
        case hy1a =>
          refine Or.inl ⟨rfl, ?_⟩
          intro W hSw
          obtain ⟨y1, y2⟩ := hSw
          go_simp
          try with_reducible rfl
        case hS1a => assumption
        try simp only [Act.put, List.setIfInBounds_toArray, List.set_cons_zero, List.set_cons_succ]
        refine wpAnyH_take (i := 2) (oi := ?oi2a) (v := ?v2a) ?hi2a ?hs2a ?hf2a ?hr2a ?hQ2a ?hy2a ?hS2a ?h2a
        case hi2a => exact (by simp only [List.getElem?_toArray, List.getElem?_cons_succ, List.getElem?_cons_zero]; rfl)
        case hs2a => kernel_rfl
        case hf2a => kernel_rfl
        case hr2a => kernel_rfl
        case hQ2a => exact fun _ _ _ h => h
        case hy2a =>
          refine Or.inl ⟨rfl, ?_⟩
          intro W hSw
          obtain ⟨y1, y2⟩ := hSw
          go_simp
          try with_reducible rfl
        case hS2a => assumption
        try simp only [Act.put, List.setIfInBounds_toArray, List.set_cons_zero, List.set_cons_succ]
        refine wpAnyH_take (i := 3) (oi := ?oi3a) (v := ?v3a) ?hi3a ?hs3a ?hf3a ?hr3a ?hQ3a ?hy3a ?hS3a ?h3a
        case hi3a => exact (by simp only [List.getElem?_toArray, List.getElem?_cons_succ, List.getElem?_cons_zero]; rfl)
        case hs3a => kernel_rfl
        case hf3a => kernel_rfl
        case hr3a => kernel_rfl
        case hQ3a => exact fun _ _ _ h => h
        case hy3a =>
          refine Or.inl ⟨rfl, ?_⟩
          intro W hSw
          obtain ⟨y1, y2⟩ := hSw
          go_simp
          try with_reducible rfl
        case hS3a => assumption
        try simp only [Act.put, List.setIfInBounds_toArray, List.set_cons_zero, List.set_cons_succ]
        refine wpAnyH_take (i := 4) (oi := ?oi4a) (v := ?v4a) ?hi4a ?hs4a ?hf4a ?hr4a ?hQ4a ?hy4a ?hS4a ?h4a
        case hi4a => exact (by simp only [List.getElem?_toArray, List.getElem?_cons_succ, List.getElem?_cons_zero]; rfl)
        case hs4a => kernel_rfl
        case hf4a => kernel_rfl
        case hr4a => kernel_rfl
        case hQ4a => exact fun _ _ _ h => h
        case hy4a =>
          refine Or.inl ⟨rfl, ?_⟩
          intro W hSw
          obtain ⟨y1, y2⟩ := hSw
          go_simp
          try with_reducible rfl
        case hS4a => assumption
        try simp only [Act.put, List.setIfInBounds_toArray, List.set_cons_zero, List.set_cons_succ]
        refine wpAnyH_take (i := 5) (oi := ?oi5a) (v := ?v5a) ?hi5a ?hs5a ?hf5a ?hr5a ?hQ5a ?hy5a ?hS5a ?h5a
        case hi5a => exact (by simp only [List.getElem?_toArray, List.getElem?_cons_succ, List.getElem?_cons_zero]; rfl)
        case hs5a => kernel_rfl
        case hf5a => kernel_rfl
        case hr5a => kernel_rfl
        case hQ5a => exact fun _ _ _ h => h
        case hy5a =>
          refine Or.inl ⟨rfl, ?_⟩
          intro W hSw
          obtain ⟨y1, y2⟩ := hSw
          go_simp
          try with_reducible rfl
        case hS5a => assumption
        try simp only [Act.put, List.setIfInBounds_toArray, List.set_cons_zero, List.set_cons_succ]
        refine wpAnyH_take (i := 6) (oi := ?oi6a) (v := ?v6a) ?hi6a ?hs6a ?hf6a ?hr6a ?hQ6a ?hy6a ?hS6a ?h6a
        case hi6a => exact (by simp only [List.getElem?_toArray, List.getElem?_cons_succ, List.getElem?_cons_zero]; rfl)
        case hs6a => kernel_rfl
        case hf6a => kernel_rfl
        case hr6a => kernel_rfl
        case hQ6a => exact fun _ _ _ h => h
        case hy6a =>
          refine Or.inl ⟨rfl, ?_⟩
          intro W hSw
          obtain ⟨y1, y2⟩ := hSw
          go_simp
          try with_reducible rfl
        case hS6a => assumption
        try simp only [Act.put, List.setIfInBounds_toArray, List.set_cons_zero, List.set_cons_succ]
        refine wpAnyH_take (i := 7) (oi := ?oi7a) (v := ?v7a) ?hi7a ?hs7a ?hf7a ?hr7a ?hQ7a ?hy7a ?hS7a ?h7a
        case hi7a => exact (by simp only [List.getElem?_toArray, List.getElem?_cons_succ, List.getElem?_cons_zero]; rfl)
        case hs7a => kernel_rfl
        case hf7a => kernel_rfl
        case hr7a => kernel_rfl
        case hQ7a => exact fun _ _ _ h => h
        case hy7a =>
          refine Or.inl ⟨rfl, ?_⟩
          intro W hSw
          obtain ⟨y1, y2⟩ := hSw
          go_simp
          try with_reducible rfl
        case hS7a => assumption
        try simp only [Act.put, List.setIfInBounds_toArray, List.set_cons_zero, List.set_cons_succ]
        refine wpAnyH_take (i := 8) (oi := ?oi8a) (v := ?v8a) ?hi8a ?hs8a ?hf8a ?hr8a ?hQ8a ?hy8a ?hS8a ?h8a
        case hi8a => exact (by simp only [List.getElem?_toArray, List.getElem?_cons_succ, List.getElem?_cons_zero]; rfl)
        case hs8a => kernel_rfl
        case hf8a => kernel_rfl
        case hr8a => kernel_rfl
        case hQ8a => exact fun _ _ _ h => h
        case hy8a =>
          refine Or.inl ⟨rfl, ?_⟩
          intro W hSw
          obtain ⟨y1, y2⟩ := hSw
          go_simp
          try with_reducible rfl
        case hS8a => assumption
        try simp only [Act.put, List.setIfInBounds_toArray, List.set_cons_zero, List.set_cons_succ]
        refine wpAnyH_take (i := 9) (oi := ?oi9a) (v := ?v9a) ?hi9a ?hs9a ?hf9a ?hr9a ?hQ9a ?hy9a ?hS9a ?h9a
        case hi9a => exact (by simp only [List.getElem?_toArray, List.getElem?_cons_succ, List.getElem?_cons_zero]; rfl)
        case hs9a => kernel_rfl
        case hf9a => kernel_rfl
        case hr9a => kernel_rfl
        case hQ9a => exact fun _ _ _ h => h
        case hy9a =>
          refine Or.inl ⟨rfl, ?_⟩
          intro W hSw
          obtain ⟨y1, y2⟩ := hSw
          go_simp
          try with_reducible rfl
        case hS9a => assumption
        try simp only [Act.put, List.setIfInBounds_toArray, List.set_cons_zero, List.set_cons_succ]
        refine wpAnyH_take (i := 10) (oi := ?oi10a) (v := ?v10a) ?hi10a ?hs10a ?hf10a ?hr10a ?hQ10a ?hy10a ?hS10a ?h10a
        case hi10a => exact (by simp only [List.getElem?_toArray, List.getElem?_cons_succ, List.getElem?_cons_zero]; rfl)
        case hs10a => kernel_rfl
        case hf10a => kernel_rfl
        case hr10a => kernel_rfl
        case hQ10a => exact fun _ _ _ h => h
        case hy10a =>
          refine Or.inl ⟨rfl, ?_⟩
          intro W hSw
          obtain ⟨y1, y2⟩ := hSw
          go_simp
          try with_reducible rfl
        case hS10a => assumption
        try simp only [Act.put, List.setIfInBounds_toArray, List.set_cons_zero, List.set_cons_succ]
        refine wpAnyH_ready (rs := [11]) (by kernel_rfl) (by simp) ?_
        refine AllReadyH.cons (o := _) rfl (fun K hK => ?_) AllReadyH.nil
        go_simp
        refine (HST.out W0 HD0.out).mono ?_
        rintro r w5 ⟨rfl, hP⟩
        have HP5 := Lib.hid hP
        clear hP
        refine hK.out _ _ (HSX.out W0 w5 HD0.out HP5.out) (fun hHeld => ?_)
        clear hK K
        try simp only [Act.put, List.setIfInBounds_toArray, List.set_cons_zero, List.set_cons_succ]
        refine wpAnyH_done (by kernel_rfl) ?_ _
        (try simp only [Exit.inBlock, Exit.then])
        go_wp2_with fail
        obtain ⟨⟨D', N', hI', hR', ht', hs'⟩, hC'⟩ := HP5.out
        go_roundw
        case rel => exact ⟨j + 1, D', N', t, by push_cast; rfl, rfl, ht'.symm, by omega, hI', hR', by have := HSZ.out; omega, HB.out.trans ((HD0.out.mono HB.out.size).trans (hC'.1 _ (by rw [HM.out]; exact Nat.le_refl _) (Nat.le_trans HB.out.size HD0.out.size)))⟩
        case measure => simp [intOf]; omega
      | true =>
        go_wp2_with fail
        refine (flushD HSORT L M D Nt wr HI.out HR.out (by have := HSZ.out; omega)).mono ?_
        rintro r w2 ⟨⟨v, l, rfl, hT, hl1, _, a, c, rfl, hrow⟩, ⟨D2, hI2, hR2, hs2⟩, hC2⟩
        have HTL := Lib.hid hT
        have HROW := Lib.hid hrow
        have HI2 := Lib.hid hI2
        have HR2 := Lib.hid hR2
        have HS2 := Lib.hid hs2
        have HC2 := Lib.hid hC2
        obtain ⟨m, hm⟩ : ∃ m, m = l.length := ⟨_, rfl⟩
        have HMM := Lib.hid hm
        have HML := Lib.hid (show m ≤ 1000 by rw [hm]; exact hl1)
        rw [← hm]
        clear hl1 hT hrow hI2 hR2 hs2 hC2 hm a0 a1 a2
        have hm1 := HML.out
        go_wp2_with fail
        go_loopw [6, 9] (fun k i wr => ∃ (x : Nat) (kn : Int), i = .int .i64 (x : Int) ∧ k = .int .i64 kn ∧ kn = Kn Nt l q x ∧ x ≤ m ∧ w2 = wr)
          (fun _ i _ => m - (intOf i).toNat)
        case atStart => exact ⟨0, t, rfl, rfl, by rw [Kn_zero]; exact HT.out, Nat.zero_le _, rfl⟩
        case round =>
          obtain ⟨x, kn, rfl, rfl, hkn, hx, rfl⟩ := hrel
          have HKN := Lib.hid hkn
          clear hkn
          by_cases hxm : x < m
          · have t2 : decide ((x : Int) < (m : Int)) = true := by rw [decide_eq_true_iff]; omega
            obtain ⟨y, hy⟩ : ∃ y, l[x]? = some y := ⟨l[x]'(by have := HMM.out; omega), List.getElem?_eq_getElem _⟩
            obtain ⟨g, hga, _, _, hrc⟩ := HROW.out (fun h => by rw [h] at hy; simp at hy)
            obtain ⟨q0, q1⟩ := hrc x y hy
            obtain ⟨p2, _, hyp, hne⟩ := HTL.out.2.1 y (List.mem_of_getElem? hy)
            obtain ⟨ee, hee⟩ : ∃ ee, ee = seen (Nt p2).1 := ⟨_, rfl⟩
            rw [← hee] at hyp
            subst hyp
            simp only at q0 q1
            subst hga
            by_cases hpq : p2 = q
            · subst hpq
              obtain ⟨k1, k2, k3, k4⟩ := Kn_hit HTL.out hy
              have t4 : (ee == kn) = false := by rw [HKN.out, k1]; simpa using k3
              have HK4 := Lib.hid k4
              clear hrc hy hne hee k1 k2 k3 k4
              go_wp2_with fail
              go_roundw
              case rel => exact ⟨x + 1, ee, by push_cast; rfl, rfl, HK4.out.symm, by omega, trivial⟩
              case measure => simp [intOf]; omega
            · have hpi : ¬ (p2 : Int) = (q : Int) := by omega
              have t3 : ((p2 : Int) == (q : Int)) = false := by simp; omega
              have HK5 := Lib.hid (Kn_miss (N := Nt) (q := q) hy hpi)
              clear hrc hy hne hee hpi hpq
              go_wp2_with fail
              go_roundw
              case rel => exact ⟨x + 1, kn, by push_cast; rfl, rfl, by rw [HK5.out]; exact HKN.out, by omega, trivial⟩
              case measure => simp [intOf]; omega
          · have t2 : decide ((x : Int) < (m : Int)) = false := by rw [decide_eq_false_iff_not]; omega
            obtain ⟨sq, hsq⟩ : ∃ sq, sq = (Nt q).1 := ⟨_, rfl⟩
            obtain ⟨sv, hsv⟩ : ∃ sv, sv = seen sq := ⟨_, rfl⟩
            have hkv : kn = sv := by
              have h1 := HKN.out
              have h2 : x = l.length := by have := HMM.out; omega
              rw [h2, Kn_all HTL.out q] at h1
              rw [h1, hsv, hsq]
            subst hkv
            have HSTAT := Lib.hid (statusD L M _ q _ (toldN Nt) _ HI2.out HR2.out HQ.out)
            have HSTAT : Hid (∀ P, (∀ r w', (r = .returned (.int .i64 sq) ∧ w' = _) → P r w') → Calls Try.prog 34 #[.pointer (some ⟨L, 0, none⟩), .int .u32 (q : Int)] _ P) := fun P hP => HSTAT.out.mono fun r w' h => hP r w' (by rw [hsq]; exact h)
            have HSEEN : Hid (∀ W, Calls Try.prog 36 #[.int .i64 sq] W fun r w' => r = .returned (.int .i64 kn) ∧ w' = W) := fun W => by rw [hsv]; exact seen_any sq W
            have HV := Lib.hid (show kn = (toldN (toldN Nt) q).2 by rw [hsv, hsq]; rfl)
            clear hsq hsv
            go_wp2_with fail
            refine HSTAT.out _ ?_
            rintro r w3 ⟨rfl, rfl⟩
            clear HSTAT
            go_wp2_with fail
            refine (HSEEN.out _).mono ?_
            rintro r w4 ⟨rfl, rfl⟩
            go_wp2_with fail
            refine (flushD HSORT L M _ (toldN Nt) _ HI2.out HR2.out (by have := HSZ.out; have := HS2.out; omega)).mono ?_
            rintro r w5 ⟨⟨v2, l2, rfl, hT2, _, _, a2', c2, rfl, _⟩, ⟨D3, hI3, hR3, hs3⟩, hC3⟩
            have hl2 := hT2.again
            subst hl2
            have HI3 := Lib.hid hI3
            have HR3 := Lib.hid hR3
            have HS3 := Lib.hid hs3
            have HC3 := Lib.hid (HC2.out.trans hC3)
            clear hT2 hI3 hR3 hs3 hC3
            go_wp2_with fail
            go_roundw
            case rel => exact ⟨j + 1, D3, toldN (toldN Nt), kn, by push_cast; rfl, rfl, HV.out, by omega, HI3.out, HR3.out, by have := HSZ.out; have := HS2.out; have := HS3.out; omega, HB.out.trans (HC3.out.1 _ (by rw [HM.out]; exact Nat.le_refl _) HB.out.size)⟩
            case measure => simp [intOf]; omega
    · have t1 : decide ((j : Int) < (n : Int)) = false := by rw [decide_eq_false_iff_not]; omega
      go_wp2_with fail
      refine (HAW.out wr).mono ?_
      rintro r w9 ⟨rfl, hb9⟩
      have HB9 := Lib.hid (HB.out.trans (hb9.mono HB.out.size))
      clear hb9
      go_wp2
      go_ret
      exact ⟨rfl, HB9.out⟩
end Go.Proofs.Ytaoejkbockcneaa.Bd
