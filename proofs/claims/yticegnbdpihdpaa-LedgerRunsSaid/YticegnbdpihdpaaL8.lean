/- Ledger: LedgerOnce's walk. -/
import Derived.Test.YticegnbdpihdpaaL7
import Derived.Deep.OwnRows
namespace Go.Proofs.Yticegnbdpihdpaa
open Go.RowKit
set_option maxRecDepth 20000

theorem own_after {w w' : World} {base size n : Nat} {e : TypeId} {v : Value} {xs : List Value} (h : w.ownsRow base e size v n xs) (hb : Below w.heap.size w w') : w'.ownsRow base e size v n xs := by
  refine ⟨h.1, ?_⟩
  rcases h.2 with hn | ⟨g, cap, cur, hv, hb0, hg, r⟩
  · exact .inl hn
  · exact .inr ⟨g, cap, cur, hv, hb0, (hb.block g (lt_of_block hg)).trans hg, r⟩
theorem own_ch {w w' : World} {base size n M : Nat} {e : TypeId} {v : Value} {xs : List Value} (h : w.ownsRow base e size v n xs) (hM : M < base) (hc : ChM M w w') : w'.ownsRow base e size v n xs := by
  refine ⟨h.1, ?_⟩
  rcases h.2 with hn | ⟨g, cap, cur, hv, hb0, hg, r⟩
  · exact .inl hn
  · exact .inr ⟨g, cap, cur, hv, hb0, (hc.2.1 g (lt_of_block hg) (by omega)).trans hg, r⟩
theorem IsL.grown {w w' : World} {L M : Nat} {most : Int} {cnt : Nat} {D : DataW Unit} {row : Option Nat} (h : IsL w L M most cnt D) (hg : w.grownBy w' row) (h1 : some L ≠ row) (h2 : some M ≠ row) : IsL w' L M most cnt D :=
  ⟨(hg.block L (lt_of_block h.1) h1).trans h.1, h.2.kept hg h2⟩
theorem grown_setCell (w : World) (G i : Nat) (u : Value) : w.grownBy (w.setCell ⟨G, i, none⟩ u) (some G) :=
  ⟨rfl, rfl, rfl, by simp, fun k _ hne => heap_setCell_other w ⟨G, i, none⟩ k u (fun e => hne (by rw [e]))⟩
theorem mkBool (m : Nat) : madeCells #[Value.bool false] m = ((List.replicate m false).map Value.bool).toArray := by
  apply Array.ext
  · simp [size_madeCells]
  · intro i h1 h2
    simp [madeCells, Nat.mod_one]
theorem own_other {w : World} {base size n SB i : Nat} {v u : Value} {xs : List Value} {cs : Array Value} (h : w.ownsRow base 33 size v n xs) (hs : w.heap[SB]? = some (.cells cs 4 (0, 0))) : (w.setCell ⟨SB, i, none⟩ u).ownsRow base 33 size v n xs := by
  refine ⟨h.1, ?_⟩
  rcases h.2 with hn | ⟨g, cap, cur, hv, hb0, hg, r⟩
  · exact .inl hn
  · have hne : g ≠ SB := by
      rintro rfl
      rw [hs] at hg
      simp at hg
    exact .inr ⟨g, cap, cur, hv, hb0, ((grown_setCell w SB i u).block g (lt_of_block hg) (fun e => hne (by injection e))).trans hg, r⟩
theorem info4 : (Try.prog.info? 4).map (fun i => (i.zero, i.size, i.bytes)) = some (some (.bool false), 1, 1) := by kernel_rfl
theorem map_set (sp : List Bool) (k : Nat) : ((sp.map Value.bool).toArray.setIfInBounds k (.bool true)) = ((sp.set k true).map Value.bool).toArray := by
  rw [List.map_set, List.setIfInBounds_toArray]
theorem q_cases (tn tu ta : Nat) (tw : Int) (en eo ea : Nat) (ex : Int) (s : Bool) (l : List Ent) (sp : List Bool) (p : Nat) (he : l[p]? = some (en, eo, ea, ex)) (hs : sp[p]? = some s) :
    (((en : Int) == (tn : Int)) = false ∧ mayP (tn, tu, ta, tw) l sp (p + 1) = mayP (tn, tu, ta, tw) l sp p) ∨
    (((en : Int) == (tn : Int)) = true ∧ ((eo : Int) == (tu : Int)) = false ∧ mayP (tn, tu, ta, tw) l sp (p + 1) = mayP (tn, tu, ta, tw) l sp p) ∨
    (((en : Int) == (tn : Int)) = true ∧ ((eo : Int) == (tu : Int)) = true ∧ ((ea : Int) == (ta : Int)) = false ∧ mayP (tn, tu, ta, tw) l sp (p + 1) = mayP (tn, tu, ta, tw) l sp p) ∨
    (((en : Int) == (tn : Int)) = true ∧ ((eo : Int) == (tu : Int)) = true ∧ ((ea : Int) == (ta : Int)) = true ∧ decide (tw ≤ ex) = false ∧ mayP (tn, tu, ta, tw) l sp (p + 1) = mayP (tn, tu, ta, tw) l sp p) ∨
    (((en : Int) == (tn : Int)) = true ∧ ((eo : Int) == (tu : Int)) = true ∧ ((ea : Int) == (ta : Int)) = true ∧ decide (tw ≤ ex) = true ∧ s = true ∧ mayP (tn, tu, ta, tw) l sp (p + 1) = mayP (tn, tu, ta, tw) l sp p) ∨
    (((en : Int) == (tn : Int)) = true ∧ ((eo : Int) == (tu : Int)) = true ∧ ((ea : Int) == (ta : Int)) = true ∧ decide (tw ≤ ex) = true ∧ s = false ∧ mayP (tn, tu, ta, tw) l sp (p + 1) = (p : Int)) := by
  have hq : qAt (tn, tu, ta, tw) l sp p = (en == tn && (eo == tu && (ea == ta && (decide (tw ≤ ex) && !s)))) := by
    unfold qAt
    rw [he, hs]
    rfl
  have hm : mayP (tn, tu, ta, tw) l sp (p + 1) = if qAt (tn, tu, ta, tw) l sp p = true then (p : Int) else mayP (tn, tu, ta, tw) l sp p := rfl
  rw [hq] at hm
  by_cases h1 : en = tn
  · by_cases h2 : eo = tu
    · by_cases h3 : ea = ta
      · by_cases h4 : tw ≤ ex
        · cases s
          · exact .inr (.inr (.inr (.inr (.inr ⟨by simp [h1], by simp [h2], by simp [h3], by simp [h4], rfl, by rw [hm]; simp [h1, h2, h3, h4]⟩))))
          · exact .inr (.inr (.inr (.inr (.inl ⟨by simp [h1], by simp [h2], by simp [h3], by simp [h4], rfl, by rw [hm]; simp⟩))))
        · exact .inr (.inr (.inr (.inl ⟨by simp [h1], by simp [h2], by simp [h3], by simp [h4], by rw [hm]; simp [h4]⟩)))
      · exact .inr (.inr (.inl ⟨by simp [h1], by simp [h2], by simp; omega, by rw [hm]; simp [h3]⟩))
    · exact .inr (.inl ⟨by simp [h1], by simp; omega, by rw [hm]; simp [h2]⟩)
  · exact .inl ⟨by simp; omega, by rw [hm]; simp [h1]⟩

set_option linter.unusedSimpArgs false in
set_option maxHeartbeats 10000000 in
theorem lonce_walk (A : Option Addr) (c : Nat) (E : List Ent) (A2 : Option Addr) (c2 : Nat) (Ts : List Ent) (w : World) (hE : Es w w.heap.size A E) (hEl : E.length ≤ 9223372036854775807) (hEb : ∀ e ∈ E, BE e) (hT : Es w w.heap.size A2 Ts) (hTl : Ts.length ≤ 9223372036854775807) (hTb : ∀ e ∈ Ts, BE e) :
    Calls Try.prog 4 #[.slice A E.length c, .slice A2 Ts.length c2] w fun r w' => r = .returned (.bool true) ∧ Below w.heap.size w w' := by
  obtain ⟨n1, hn1⟩ : ∃ n, n = E.length := ⟨_, rfl⟩
  obtain ⟨n2, hn2⟩ : ∃ n, n = Ts.length := ⟨_, rfl⟩
  rw [← hn1, ← hn2]
  rw [← hn1] at hEl
  rw [← hn2] at hTl
  have HN1 := Lib.hid hn1
  have HN2 := Lib.hid hn2
  have HE := Lib.hid hE
  have HEB := Lib.hid hEb
  have HT := Lib.hid hT
  have HTB := Lib.hid hTb
  clear hn1 hn2 hE hEb hT hTb
  by_cases hbig : 20 < n1
  · have t : decide ((n1 : Int) > 20) = true := by rw [decide_eq_true_iff]; omega
    go_enter Try.func4, Try.ntmps4
    go_wp2
    go_ret
    exact ⟨rfl, Below.refl _ _⟩
  have t : decide ((n1 : Int) > 20) = false := by rw [decide_eq_false_iff_not]; omega
  by_cases hbig2 : 40 < n2
  · have t2 : decide ((n2 : Int) > 40) = true := by rw [decide_eq_true_iff]; omega
    go_enter Try.func4, Try.ntmps4
    go_wp2
    go_ret
    exact ⟨rfl, Below.refl _ _⟩
  have t2 : decide ((n2 : Int) > 40) = false := by rw [decide_eq_false_iff_not]; omega
  go_enter Try.func4, Try.ntmps4
  go_wp2_with fail
  refine (new_some 20 (by decide) w).mono ?_
  rintro e w1 ⟨rfl, hl1, hb1⟩
  obtain ⟨M, hM⟩ : ∃ M, M = w.heap.size := ⟨_, rfl⟩
  rw [← hM] at hl1 ⊢
  obtain ⟨L, hL⟩ : ∃ L, L = M + 1 := ⟨_, rfl⟩
  rw [← hL] at hl1 ⊢
  obtain ⟨Bs, hBs⟩ : ∃ B, B = w1.heap.size := ⟨_, rfl⟩
  have HMB : Hid (M < Bs) := by rw [hBs]; exact hl1.2.lt
  have HLB : Hid (L < Bs) := by rw [hBs]; exact lt_of_block hl1.1
  have HMW : Hid (w.heap.size ≤ M) := by simp only [Hid]; omega
  have HL1 := Lib.hid hl1
  have HB1 := Lib.hid hb1
  have HBS := Lib.hid hBs
  clear hM hL hBs hl1 hb1
  go_wp2_with fail
  go_loopw [6, 7] (fun s i wr => ∃ (k m : Nat) (B : Option Addr) (cc cnt : Nat) (D : DataW Unit), k ≤ n1 ∧ s = .slice B m cc ∧ i = .int .i64 (k : Int) ∧ m ≤ k ∧ cnt ≤ k ∧ Hid (m = (iss (E.take k)).length) ∧ Hid (wr.ownsRow Bs 33 4 (.slice B m cc) m (er (iss (E.take k))) ∧ IsL wr L M 20 cnt D ∧ Rep D (iss (E.take k)) ∧ Below w.heap.size w wr ∧ Bs ≤ wr.heap.size)) (fun _ i _ => n1 - (intOf i).toNat)
  case atStart => exact ⟨0, 0, none, 0, 0, .map [], by omega, rfl, rfl, by omega, by omega, rfl, ⟨World.ownsRow_nil _ _ _ _, HL1.out, Rep.empty, HB1.out, by rw [HBS.out]; exact Nat.le_refl _⟩⟩
  case round =>
    obtain ⟨k, m, B, cc, cnt, D, hk, rfl, rfl, hmk, hck, hm, HW⟩ := hrel
    have HBW := Lib.hid HW.out.2.2.2.1
    by_cases hlt : k < n1
    · obtain ⟨⟨n, o, a, x⟩, he⟩ : ∃ e, E[k]? = some e := ⟨E[k]'(by rw [← HN1.out]; exact hlt), List.getElem?_eq_getElem _⟩
      obtain ⟨b1, o1, rfl, hb1l, hcl⟩ := HE.out (by have := HN1.out; omega)
      have HAt : Hid (∀ W, Below w.heap.size w W → W.cell? ⟨b1, o1 + k * 4, none⟩ = some (.int .u64 (n : Int)) ∧ W.cell? ⟨b1, o1 + k * 4 + 1, none⟩ = some (.int .u32 (o : Int)) ∧ W.cell? ⟨b1, o1 + k * 4 + 2, none⟩ = some (.int .u32 (a : Int)) ∧ W.cell? ⟨b1, o1 + k * 4 + 3, none⟩ = some (.int .i64 x)) := fun W hW => by
        obtain ⟨r0, r1, r2, r3⟩ := hcl k _ he
        exact ⟨(hW.cell (p := ⟨b1, _, none⟩) hb1l).trans r0, (hW.cell (p := ⟨b1, _, none⟩) hb1l).trans r1, (hW.cell (p := ⟨b1, _, none⟩) hb1l).trans r2, (hW.cell (p := ⟨b1, _, none⟩) hb1l).trans r3⟩
      have hbe := HEB.out _ (List.mem_of_getElem? he)
      have HTS : Hid (iss (E.take (k + 1)) = if (iss (E.take k)).any (fun y => y.1 == n) then iss (E.take k) else iss (E.take k) ++ [(n, o, a, x)]) := by
        have hke := List.getElem?_eq_some_iff.1 he
        rw [List.take_succ_eq_append_getElem hke.1, hke.2, iss_snoc]
        exact rfl
      have HK20 : Hid (k < 20) := by simp only [Hid]; omega
      have HBE := Lib.hid hbe
      clear hcl he hbe hb1l
      by_cases hx : (iss (E.take k)).any (fun y => y.1 == n) = true
      · obtain ⟨e', he', hn'⟩ := List.any_eq_true.1 hx
        have hat := HW.out.2.2.1.at' e' he'
        rw [show e'.1 = n by simpa using hn'] at hat
        have HIS : Hid (∀ W, Below wr.heap.size wr W → Calls Try.prog 15 #[.pointer (some ⟨L, 0, none⟩), eV n o a x, .int .i64 x] W fun r w' => r = .returned (.int .i64 11) ∧ Below W.heap.size W w') := fun W hW =>
          issue_exists L M 20 cnt D n o a x x W (HW.out.2.1.below hW) HBE.out.1 (by omega) (by rw [HW.out.2.2.1.has]; exact hx) e'.1 e'.2.1 e'.2.2.1 e'.2.2.2 hat
        have HTS2 := Lib.hid (HTS.out.trans (if_pos hx))
        clear hx hat he' hn'
        go_upto_region 8 with (fail)
        have HD : Hid (Below wr.heap.size wr wr.drew) := (Below.refl _ _).drew
        have HS : Hid ((fun W : World => W.cell? ⟨b1, o1 + k * 4, none⟩ = some (.int .u64 (n : Int)) ∧ W.cell? ⟨b1, o1 + k * 4 + 1, none⟩ = some (.int .u32 (o : Int)) ∧ W.cell? ⟨b1, o1 + k * 4 + 2, none⟩ = some (.int .u32 (a : Int)) ∧ W.cell? ⟨b1, o1 + k * 4 + 3, none⟩ = some (.int .i64 x)) wr.drew) := HAt.out _ (HBW.out.trans (HD.out.mono HBW.out.size))
        refine wp_region_held_drew (S := fun W : World => W.cell? ⟨b1, o1 + k * 4, none⟩ = some (.int .u64 (n : Int)) ∧ W.cell? ⟨b1, o1 + k * 4 + 1, none⟩ = some (.int .u32 (o : Int)) ∧ W.cell? ⟨b1, o1 + k * 4 + 2, none⟩ = some (.int .u32 (a : Int)) ∧ W.cell? ⟨b1, o1 + k * 4 + 3, none⟩ = some (.int .i64 x)) (by kernel_rfl) HS.out (fun hHeld => ?_)
        obtain ⟨W0, hW0⟩ : ∃ W0, W0 = wr.drew := ⟨_, rfl⟩
        have HD0 : Hid (Below wr.heap.size wr W0) := by rw [hW0]; exact HD.out
        rw [← hW0] at hHeld ⊢
        clear hW0
        refine wpAnyH_take (i := 0) (oi := ?oi0a) (v := ?v0a) ?hi0a ?hs0a ?hf0a ?hr0a ?hQ0a ?hy0a ?hS0a ?h0a
        case hi0a => exact (by simp only [List.getElem?_toArray, List.getElem?_cons_zero]; rfl)
        case hs0a => kernel_rfl
        case hf0a => kernel_rfl
        case hr0a => kernel_rfl
        case hQ0a => exact fun _ _ _ h => h
        case hy0a =>
          refine Or.inl ⟨rfl, ?_⟩
          intro W hSw
          obtain ⟨y1, y2, y3, y4⟩ := hSw
          go_simp
          try with_reducible rfl
        case hS0a => assumption
        try simp only [Act.put, List.setIfInBounds_toArray, List.set_cons_zero, List.set_cons_succ]
        refine wpAnyH_take (i := 1) (oi := ?oi1a) (v := ?v1a) ?hi1a ?hs1a ?hf1a ?hr1a ?hQ1a ?hy1a ?hS1a ?h1a
        case hi1a => exact (by simp only [List.getElem?_toArray, List.getElem?_cons_succ, List.getElem?_cons_zero]; rfl)
        case hs1a => kernel_rfl
        case hf1a => kernel_rfl
        case hr1a => kernel_rfl
        case hQ1a => exact fun _ _ _ h => h
        case hy1a =>
          refine Or.inl ⟨rfl, ?_⟩
          intro W hSw
          obtain ⟨y1, y2, y3, y4⟩ := hSw
          go_simp
          try with_reducible rfl
        case hS1a => assumption
        try simp only [Act.put, List.setIfInBounds_toArray, List.set_cons_zero, List.set_cons_succ]
        refine wpAnyH_take (i := 2) (oi := ?oi2a) (v := ?v2a) ?hi2a ?hs2a ?hf2a ?hr2a ?hQ2a ?hy2a ?hS2a ?h2a
        case hi2a => exact (by simp only [List.getElem?_toArray, List.getElem?_cons_succ, List.getElem?_cons_zero]; rfl)
        case hs2a => kernel_rfl
        case hf2a => kernel_rfl
        case hr2a => kernel_rfl
        case hQ2a => exact fun _ _ _ h => h
        case hy2a =>
          refine Or.inl ⟨rfl, ?_⟩
          intro W hSw
          obtain ⟨y1, y2, y3, y4⟩ := hSw
          go_simp
          try with_reducible rfl
        case hS2a => assumption
        try simp only [Act.put, List.setIfInBounds_toArray, List.set_cons_zero, List.set_cons_succ]
        refine wpAnyH_take (i := 3) (oi := ?oi3a) (v := ?v3a) ?hi3a ?hs3a ?hf3a ?hr3a ?hQ3a ?hy3a ?hS3a ?h3a
        case hi3a => exact (by simp only [List.getElem?_toArray, List.getElem?_cons_succ, List.getElem?_cons_zero]; rfl)
        case hs3a => kernel_rfl
        case hf3a => kernel_rfl
        case hr3a => kernel_rfl
        case hQ3a => exact fun _ _ _ h => h
        case hy3a =>
          refine Or.inl ⟨rfl, ?_⟩
          intro W hSw
          obtain ⟨y1, y2, y3, y4⟩ := hSw
          go_simp
          try with_reducible rfl
        case hS3a => assumption
        try simp only [Act.put, List.setIfInBounds_toArray, List.set_cons_zero, List.set_cons_succ]
        refine wpAnyH_take (i := 4) (oi := ?oi4a) (v := ?v4a) ?hi4a ?hs4a ?hf4a ?hr4a ?hQ4a ?hy4a ?hS4a ?h4a
        case hi4a => exact (by simp only [List.getElem?_toArray, List.getElem?_cons_succ, List.getElem?_cons_zero]; rfl)
        case hs4a => kernel_rfl
        case hf4a => kernel_rfl
        case hr4a => kernel_rfl
        case hQ4a => exact fun _ _ _ h => h
        case hy4a =>
          refine Or.inl ⟨rfl, ?_⟩
          intro W hSw
          obtain ⟨y1, y2, y3, y4⟩ := hSw
          go_simp
          try with_reducible rfl
        case hS4a => assumption
        try simp only [Act.put, List.setIfInBounds_toArray, List.set_cons_zero, List.set_cons_succ]
        refine wpAnyH_take (i := 5) (oi := ?oi5a) (v := ?v5a) ?hi5a ?hs5a ?hf5a ?hr5a ?hQ5a ?hy5a ?hS5a ?h5a
        case hi5a => exact (by simp only [List.getElem?_toArray, List.getElem?_cons_succ, List.getElem?_cons_zero]; rfl)
        case hs5a => kernel_rfl
        case hf5a => kernel_rfl
        case hr5a => kernel_rfl
        case hQ5a => exact fun _ _ _ h => h
        case hy5a =>
          refine Or.inl ⟨rfl, ?_⟩
          intro W hSw
          obtain ⟨y1, y2, y3, y4⟩ := hSw
          go_simp
          try with_reducible rfl
        case hS5a => assumption
        try simp only [Act.put, List.setIfInBounds_toArray, List.set_cons_zero, List.set_cons_succ]
        refine wpAnyH_take (i := 6) (oi := ?oi6a) (v := ?v6a) ?hi6a ?hs6a ?hf6a ?hr6a ?hQ6a ?hy6a ?hS6a ?h6a
        case hi6a => exact (by simp only [List.getElem?_toArray, List.getElem?_cons_succ, List.getElem?_cons_zero]; rfl)
        case hs6a => kernel_rfl
        case hf6a => kernel_rfl
        case hr6a => kernel_rfl
        case hQ6a => exact fun _ _ _ h => h
        case hy6a =>
          refine Or.inl ⟨rfl, ?_⟩
          intro W hSw
          obtain ⟨y1, y2, y3, y4⟩ := hSw
          go_simp
          try with_reducible rfl
        case hS6a => assumption
        try simp only [Act.put, List.setIfInBounds_toArray, List.set_cons_zero, List.set_cons_succ]
        refine wpAnyH_take (i := 7) (oi := ?oi7a) (v := ?v7a) ?hi7a ?hs7a ?hf7a ?hr7a ?hQ7a ?hy7a ?hS7a ?h7a
        case hi7a => exact (by simp only [List.getElem?_toArray, List.getElem?_cons_succ, List.getElem?_cons_zero]; rfl)
        case hs7a => kernel_rfl
        case hf7a => kernel_rfl
        case hr7a => kernel_rfl
        case hQ7a => exact fun _ _ _ h => h
        case hy7a =>
          refine Or.inl ⟨rfl, ?_⟩
          intro W hSw
          obtain ⟨y1, y2, y3, y4⟩ := hSw
          go_simp
          try with_reducible rfl
        case hS7a => assumption
        try simp only [Act.put, List.setIfInBounds_toArray, List.set_cons_zero, List.set_cons_succ]
        refine wpAnyH_take (i := 8) (oi := ?oi8a) (v := ?v8a) ?hi8a ?hs8a ?hf8a ?hr8a ?hQ8a ?hy8a ?hS8a ?h8a
        case hi8a => exact (by simp only [List.getElem?_toArray, List.getElem?_cons_succ, List.getElem?_cons_zero]; rfl)
        case hs8a => kernel_rfl
        case hf8a => kernel_rfl
        case hr8a => kernel_rfl
        case hQ8a => exact fun _ _ _ h => h
        case hy8a =>
          refine Or.inl ⟨rfl, ?_⟩
          intro W hSw
          obtain ⟨y1, y2, y3, y4⟩ := hSw
          go_simp
          try with_reducible rfl
        case hS8a => assumption
        try simp only [Act.put, List.setIfInBounds_toArray, List.set_cons_zero, List.set_cons_succ]
        refine wpAnyH_take (i := 9) (oi := ?oi9a) (v := ?v9a) ?hi9a ?hs9a ?hf9a ?hr9a ?hQ9a ?hy9a ?hS9a ?h9a
        case hi9a => exact (by simp only [List.getElem?_toArray, List.getElem?_cons_succ, List.getElem?_cons_zero]; rfl)
        case hs9a => kernel_rfl
        case hf9a => kernel_rfl
        case hr9a => kernel_rfl
        case hQ9a => exact fun _ _ _ h => h
        case hy9a =>
          refine Or.inl ⟨rfl, ?_⟩
          intro W hSw
          obtain ⟨y1, y2, y3, y4⟩ := hSw
          go_simp
          try with_reducible rfl
        case hS9a => assumption
        try simp only [Act.put, List.setIfInBounds_toArray, List.set_cons_zero, List.set_cons_succ]
        refine wpAnyH_ready (rs := [10]) (by kernel_rfl) (by simp) ?_
        refine AllReadyH.cons (o := _) rfl (fun K hK => ?_) AllReadyH.nil
        go_simp
        refine (HIS.out W0 HD0.out).mono ?_
        rintro r w' ⟨rfl, hbw⟩
        have HX := Lib.hid (HD0.out.trans (hbw.mono HD0.out.size))
        refine hK.out _ _ (HAt.out _ (HBW.out.trans (HX.out.mono HBW.out.size))) (fun hHeld => ?_)
        clear hK K
        try simp only [Act.put, List.setIfInBounds_toArray, List.set_cons_zero, List.set_cons_succ]
        refine wpAnyH_take (i := 11) (oi := ?oi11a) (v := ?v11a) ?hi11a ?hs11a ?hf11a ?hr11a ?hQ11a ?hy11a ?hS11a ?h11a
        case hi11a => exact (by simp only [List.getElem?_toArray, List.getElem?_cons_succ, List.getElem?_cons_zero]; rfl)
        case hs11a => kernel_rfl
        case hf11a => kernel_rfl
        case hr11a => kernel_rfl
        case hQ11a => exact fun _ _ _ h => h
        case hy11a =>
          refine Or.inl ⟨rfl, ?_⟩
          intro W hSw
          obtain ⟨y1, y2, y3, y4⟩ := hSw
          go_simp
          try with_reducible rfl
        case hS11a => assumption
        try simp only [Act.put, List.setIfInBounds_toArray, List.set_cons_zero, List.set_cons_succ]
        refine wpAnyH_done (by kernel_rfl) ?_ _
        go_wp2_with fail
        go_roundw
        case rel => exact ⟨k + 1, m, B, cc, cnt, D, by omega, rfl, by go_num, by omega, by omega, by rw [HTS2.out]; exact hm.out, by rw [HTS2.out]; exact ⟨own_after HW.out.1 HX.out, HW.out.2.1.below HX.out, HW.out.2.2.1, HBW.out.trans (HX.out.mono HBW.out.size), Nat.le_trans HW.out.2.2.2.2 HX.out.size⟩⟩
        case measure => simp [intOf] <;> omega
      · have hx2 : (iss (E.take k)).any (fun y => y.1 == n) = false := by simpa only [Bool.not_eq_true] using hx
        have HRP : Hid (Rep (D.put (kl n) (eD n o a x)) (iss (E.take (k + 1)))) := by
          rw [HTS.out, if_neg hx]
          exact HW.out.2.2.1.put (HW.out.2.1.2.tidy K26) (n, o, a, x) HBE.out.1 hx2
        have HTS2 := Lib.hid (HTS.out.trans (if_neg hx))
        have HIS : Hid (∀ W, Below wr.heap.size wr W → Calls Try.prog 15 #[.pointer (some ⟨L, 0, none⟩), eV n o a x, .int .i64 x] W fun r w' => r = .returned (.int .i64 0) ∧ IsL w' L M 20 (cnt + 1) (D.put (kl n) (eD n o a x)) ∧ ChM M W w') := fun W hW =>
          issue_ok L M 20 cnt D n o a x x W (HW.out.2.1.below hW) HBE.out.1 (by omega) (by rw [HW.out.2.2.1.has]; exact hx2) (by rw [HW.out.2.2.1.size, ← hm.out]; have := HK20.out; omega) (by omega)
        clear hx hx2
        go_upto_region 8 with (fail)
        have HD : Hid (Below wr.heap.size wr wr.drew) := (Below.refl _ _).drew
        have HS : Hid ((fun W : World => W.cell? ⟨b1, o1 + k * 4, none⟩ = some (.int .u64 (n : Int)) ∧ W.cell? ⟨b1, o1 + k * 4 + 1, none⟩ = some (.int .u32 (o : Int)) ∧ W.cell? ⟨b1, o1 + k * 4 + 2, none⟩ = some (.int .u32 (a : Int)) ∧ W.cell? ⟨b1, o1 + k * 4 + 3, none⟩ = some (.int .i64 x)) wr.drew) := HAt.out _ (HBW.out.trans (HD.out.mono HBW.out.size))
        refine wp_region_held_drew (S := fun W : World => W.cell? ⟨b1, o1 + k * 4, none⟩ = some (.int .u64 (n : Int)) ∧ W.cell? ⟨b1, o1 + k * 4 + 1, none⟩ = some (.int .u32 (o : Int)) ∧ W.cell? ⟨b1, o1 + k * 4 + 2, none⟩ = some (.int .u32 (a : Int)) ∧ W.cell? ⟨b1, o1 + k * 4 + 3, none⟩ = some (.int .i64 x)) (by kernel_rfl) HS.out (fun hHeld => ?_)
        obtain ⟨W0, hW0⟩ : ∃ W0, W0 = wr.drew := ⟨_, rfl⟩
        have HD0 : Hid (Below wr.heap.size wr W0) := by rw [hW0]; exact HD.out
        rw [← hW0] at hHeld ⊢
        clear hW0
        refine wpAnyH_take (i := 0) (oi := ?oi0b) (v := ?v0b) ?hi0b ?hs0b ?hf0b ?hr0b ?hQ0b ?hy0b ?hS0b ?h0b
        case hi0b => exact (by simp only [List.getElem?_toArray, List.getElem?_cons_zero]; rfl)
        case hs0b => kernel_rfl
        case hf0b => kernel_rfl
        case hr0b => kernel_rfl
        case hQ0b => exact fun _ _ _ h => h
        case hy0b =>
          refine Or.inl ⟨rfl, ?_⟩
          intro W hSw
          obtain ⟨y1, y2, y3, y4⟩ := hSw
          go_simp
          try with_reducible rfl
        case hS0b => assumption
        try simp only [Act.put, List.setIfInBounds_toArray, List.set_cons_zero, List.set_cons_succ]
        refine wpAnyH_take (i := 1) (oi := ?oi1b) (v := ?v1b) ?hi1b ?hs1b ?hf1b ?hr1b ?hQ1b ?hy1b ?hS1b ?h1b
        case hi1b => exact (by simp only [List.getElem?_toArray, List.getElem?_cons_succ, List.getElem?_cons_zero]; rfl)
        case hs1b => kernel_rfl
        case hf1b => kernel_rfl
        case hr1b => kernel_rfl
        case hQ1b => exact fun _ _ _ h => h
        case hy1b =>
          refine Or.inl ⟨rfl, ?_⟩
          intro W hSw
          obtain ⟨y1, y2, y3, y4⟩ := hSw
          go_simp
          try with_reducible rfl
        case hS1b => assumption
        try simp only [Act.put, List.setIfInBounds_toArray, List.set_cons_zero, List.set_cons_succ]
        refine wpAnyH_take (i := 2) (oi := ?oi2b) (v := ?v2b) ?hi2b ?hs2b ?hf2b ?hr2b ?hQ2b ?hy2b ?hS2b ?h2b
        case hi2b => exact (by simp only [List.getElem?_toArray, List.getElem?_cons_succ, List.getElem?_cons_zero]; rfl)
        case hs2b => kernel_rfl
        case hf2b => kernel_rfl
        case hr2b => kernel_rfl
        case hQ2b => exact fun _ _ _ h => h
        case hy2b =>
          refine Or.inl ⟨rfl, ?_⟩
          intro W hSw
          obtain ⟨y1, y2, y3, y4⟩ := hSw
          go_simp
          try with_reducible rfl
        case hS2b => assumption
        try simp only [Act.put, List.setIfInBounds_toArray, List.set_cons_zero, List.set_cons_succ]
        refine wpAnyH_take (i := 3) (oi := ?oi3b) (v := ?v3b) ?hi3b ?hs3b ?hf3b ?hr3b ?hQ3b ?hy3b ?hS3b ?h3b
        case hi3b => exact (by simp only [List.getElem?_toArray, List.getElem?_cons_succ, List.getElem?_cons_zero]; rfl)
        case hs3b => kernel_rfl
        case hf3b => kernel_rfl
        case hr3b => kernel_rfl
        case hQ3b => exact fun _ _ _ h => h
        case hy3b =>
          refine Or.inl ⟨rfl, ?_⟩
          intro W hSw
          obtain ⟨y1, y2, y3, y4⟩ := hSw
          go_simp
          try with_reducible rfl
        case hS3b => assumption
        try simp only [Act.put, List.setIfInBounds_toArray, List.set_cons_zero, List.set_cons_succ]
        refine wpAnyH_take (i := 4) (oi := ?oi4b) (v := ?v4b) ?hi4b ?hs4b ?hf4b ?hr4b ?hQ4b ?hy4b ?hS4b ?h4b
        case hi4b => exact (by simp only [List.getElem?_toArray, List.getElem?_cons_succ, List.getElem?_cons_zero]; rfl)
        case hs4b => kernel_rfl
        case hf4b => kernel_rfl
        case hr4b => kernel_rfl
        case hQ4b => exact fun _ _ _ h => h
        case hy4b =>
          refine Or.inl ⟨rfl, ?_⟩
          intro W hSw
          obtain ⟨y1, y2, y3, y4⟩ := hSw
          go_simp
          try with_reducible rfl
        case hS4b => assumption
        try simp only [Act.put, List.setIfInBounds_toArray, List.set_cons_zero, List.set_cons_succ]
        refine wpAnyH_take (i := 5) (oi := ?oi5b) (v := ?v5b) ?hi5b ?hs5b ?hf5b ?hr5b ?hQ5b ?hy5b ?hS5b ?h5b
        case hi5b => exact (by simp only [List.getElem?_toArray, List.getElem?_cons_succ, List.getElem?_cons_zero]; rfl)
        case hs5b => kernel_rfl
        case hf5b => kernel_rfl
        case hr5b => kernel_rfl
        case hQ5b => exact fun _ _ _ h => h
        case hy5b =>
          refine Or.inl ⟨rfl, ?_⟩
          intro W hSw
          obtain ⟨y1, y2, y3, y4⟩ := hSw
          go_simp
          try with_reducible rfl
        case hS5b => assumption
        try simp only [Act.put, List.setIfInBounds_toArray, List.set_cons_zero, List.set_cons_succ]
        refine wpAnyH_take (i := 6) (oi := ?oi6b) (v := ?v6b) ?hi6b ?hs6b ?hf6b ?hr6b ?hQ6b ?hy6b ?hS6b ?h6b
        case hi6b => exact (by simp only [List.getElem?_toArray, List.getElem?_cons_succ, List.getElem?_cons_zero]; rfl)
        case hs6b => kernel_rfl
        case hf6b => kernel_rfl
        case hr6b => kernel_rfl
        case hQ6b => exact fun _ _ _ h => h
        case hy6b =>
          refine Or.inl ⟨rfl, ?_⟩
          intro W hSw
          obtain ⟨y1, y2, y3, y4⟩ := hSw
          go_simp
          try with_reducible rfl
        case hS6b => assumption
        try simp only [Act.put, List.setIfInBounds_toArray, List.set_cons_zero, List.set_cons_succ]
        refine wpAnyH_take (i := 7) (oi := ?oi7b) (v := ?v7b) ?hi7b ?hs7b ?hf7b ?hr7b ?hQ7b ?hy7b ?hS7b ?h7b
        case hi7b => exact (by simp only [List.getElem?_toArray, List.getElem?_cons_succ, List.getElem?_cons_zero]; rfl)
        case hs7b => kernel_rfl
        case hf7b => kernel_rfl
        case hr7b => kernel_rfl
        case hQ7b => exact fun _ _ _ h => h
        case hy7b =>
          refine Or.inl ⟨rfl, ?_⟩
          intro W hSw
          obtain ⟨y1, y2, y3, y4⟩ := hSw
          go_simp
          try with_reducible rfl
        case hS7b => assumption
        try simp only [Act.put, List.setIfInBounds_toArray, List.set_cons_zero, List.set_cons_succ]
        refine wpAnyH_take (i := 8) (oi := ?oi8b) (v := ?v8b) ?hi8b ?hs8b ?hf8b ?hr8b ?hQ8b ?hy8b ?hS8b ?h8b
        case hi8b => exact (by simp only [List.getElem?_toArray, List.getElem?_cons_succ, List.getElem?_cons_zero]; rfl)
        case hs8b => kernel_rfl
        case hf8b => kernel_rfl
        case hr8b => kernel_rfl
        case hQ8b => exact fun _ _ _ h => h
        case hy8b =>
          refine Or.inl ⟨rfl, ?_⟩
          intro W hSw
          obtain ⟨y1, y2, y3, y4⟩ := hSw
          go_simp
          try with_reducible rfl
        case hS8b => assumption
        try simp only [Act.put, List.setIfInBounds_toArray, List.set_cons_zero, List.set_cons_succ]
        refine wpAnyH_take (i := 9) (oi := ?oi9b) (v := ?v9b) ?hi9b ?hs9b ?hf9b ?hr9b ?hQ9b ?hy9b ?hS9b ?h9b
        case hi9b => exact (by simp only [List.getElem?_toArray, List.getElem?_cons_succ, List.getElem?_cons_zero]; rfl)
        case hs9b => kernel_rfl
        case hf9b => kernel_rfl
        case hr9b => kernel_rfl
        case hQ9b => exact fun _ _ _ h => h
        case hy9b =>
          refine Or.inl ⟨rfl, ?_⟩
          intro W hSw
          obtain ⟨y1, y2, y3, y4⟩ := hSw
          go_simp
          try with_reducible rfl
        case hS9b => assumption
        try simp only [Act.put, List.setIfInBounds_toArray, List.set_cons_zero, List.set_cons_succ]
        refine wpAnyH_ready (rs := [10]) (by kernel_rfl) (by simp) ?_
        refine AllReadyH.cons (o := _) rfl (fun K hK => ?_) AllReadyH.nil
        go_simp
        refine (HIS.out W0 HD0.out).mono ?_
        rintro r w' ⟨rfl, hl', hch⟩
        have HBX : Hid (Below w.heap.size w w') := (HBW.out.trans (HD0.out.mono HBW.out.size)).trans (hch.1 w.heap.size HMW.out (HBW.out.trans (HD0.out.mono HBW.out.size)).size)
        have HLX := Lib.hid hl'
        have HOX := Lib.hid (own_ch (own_after HW.out.1 HD0.out) HMB.out hch)
        have HSX : Hid (Bs ≤ w'.heap.size) := Nat.le_trans (Nat.le_trans HW.out.2.2.2.2 HD0.out.size) hch.2.2
        clear hl' hch
        refine hK.out _ _ (HAt.out _ HBX.out) (fun hHeld => ?_)
        clear hK K
        try simp only [Act.put, List.setIfInBounds_toArray, List.set_cons_zero, List.set_cons_succ]
        refine wpAnyH_take (i := 11) (oi := ?oi11b) (v := ?v11b) ?hi11b ?hs11b ?hf11b ?hr11b ?hQ11b ?hy11b ?hS11b ?h11b
        case hi11b => exact (by simp only [List.getElem?_toArray, List.getElem?_cons_succ, List.getElem?_cons_zero]; rfl)
        case hs11b => kernel_rfl
        case hf11b => kernel_rfl
        case hr11b => kernel_rfl
        case hQ11b => exact fun _ _ _ h => h
        case hy11b =>
          refine Or.inl ⟨rfl, ?_⟩
          intro W hSw
          obtain ⟨y1, y2, y3, y4⟩ := hSw
          go_simp
          try with_reducible rfl
        case hS11b => assumption
        try simp only [Act.put, List.setIfInBounds_toArray, List.set_cons_zero, List.set_cons_succ]
        refine wpAnyH_done (by kernel_rfl) ?_ _
        obtain ⟨r0, r1, r2, r3⟩ := HAt.out w' HBX.out
        have HAL : Hid ((w'.alloc (.cells #[.int .u64 (n : Int), .int .u32 (o : Int), .int .u32 (a : Int), .int .i64 x] 33)).heap[w'.heap.size]? = some (.cells (ec (n, o, a, x)).toArray 33 (0, 0))) := heap_alloc_new w' _
        have HBA : Hid (Below w'.heap.size w' (w'.alloc (.cells #[.int .u64 (n : Int), .int .u32 (o : Int), .int .u32 (a : Int), .int .i64 x] 33))) := (Below.refl _ _).alloc (Nat.le_refl _) _
        go_wp2_with (at_builtin; refine wpList_append_ent rfl (.tmp 42) (.tmp 47) rfl Bs w'.heap.size (.slice B m cc) m (iss (E.take k)) (n, o, a, x) rfl rfl (own_after HOX.out HBA.out) HAL.out (by have := HK20.out; omega) (Nat.le_trans HSX.out HBA.out.size) ?_; intro v2 w2 hown2 hg2; rw [← HTS2.out] at hown2; obtain ⟨B2, cc2, rfl⟩ := own_form4 hown2)
        go_roundw
        case rel =>
          have hge : ∀ g, (Value.slice B m cc).ownBlock = some g → Bs ≤ g := fun g hg => (HOX.out.lt g hg).1
          refine ⟨k + 1, m + 1, B2, cc2, cnt + 1, _, by omega, rfl, by go_num, by omega, by omega, by rw [HTS2.out, List.length_append, ← hm.out]; rfl, ⟨hown2, (HLX.out.below HBA.out).grown hg2 (fun e => by have := hge L e.symm; have := HLB.out; omega) (fun e => by have := hge M e.symm; have := HMB.out; omega), HRP.out, ?_, Nat.le_trans (Nat.le_trans HSX.out HBA.out.size) hg2.size⟩⟩
          have hb := HBX.out.trans (HBA.out.mono HBX.out.size)
          exact hb.grown hg2 hb.size (fun g hg => by have := hge g hg; have := HMB.out; have := HMW.out; omega)
        case measure => simp [intOf] <;> omega
    · have hEt : E.take k = E := List.take_of_length_le (by rw [← HN1.out]; omega)
      obtain ⟨l, hl⟩ : ∃ l, l = iss E := ⟨_, rfl⟩
      have hm' := hm.out
      have hW := HW.out
      rw [hEt, ← hl] at hm' hW
      have HAP : Hid (Apart l) := by rw [hl]; exact iss_apart E
      have hm20 : m ≤ 20 := by omega
      obtain ⟨C, hC⟩ : ∃ C, C = ((List.replicate m false).map Value.bool).toArray := ⟨_, rfl⟩
      have hmk : ∀ W : World, (Instr.makeSlice 53 (.int .i64 (m : Int)) (.int .i64 (m : Int))).run Try.prog W = .ok (.slice (some ⟨W.heap.size, 0, none⟩) m m) (W.alloc (.cells C 4)) := fun W => by
        rw [hC, ← mkBool m]
        exact run_make_row' (P := Try.prog) 53 4 (.bool false) 1 Try.underlying53 info4 rfl .i64 .i64 m (by omega) (by omega) W
      obtain ⟨SB, hSB⟩ : ∃ g, g = wr.heap.size := ⟨_, rfl⟩
      obtain ⟨w5, hw5⟩ : ∃ w5, w5 = wr.alloc (.cells C 4) := ⟨_, rfl⟩
      have hb5 : Below wr.heap.size wr w5 := by rw [hw5]; exact (Below.refl _ _).alloc (Nat.le_refl _) _
      have hq5 : w5.heap[SB]? = some (.cells ((List.replicate m false).map Value.bool).toArray 4 (0, 0)) := by rw [hw5, hSB, hC]; exact heap_alloc_new wr _
      have HBS2 : Hid (Bs ≤ SB) := by rw [hSB]; exact hW.2.2.2.2
      have HV5 : Hid (w5.heap[SB]? = some (.cells ((List.replicate m false).map Value.bool).toArray 4 (0, 0)) ∧ w5.ownsRow Bs 33 4 (.slice B m cc) m (er l) ∧ IsL w5 L M 20 cnt D ∧ Live D l (List.replicate m false) ∧ Below w.heap.size w w5 ∧ Bs ≤ w5.heap.size) :=
        ⟨hq5, own_after hW.1 hb5, hW.2.1.below hb5, by rw [hm']; exact Live.start hW.2.2.1, hW.2.2.2.1.trans (hb5.mono hW.2.2.2.1.size), Nat.le_trans hW.2.2.2.2 hb5.size⟩
      have HML := Lib.hid hm'
      have HSB := Lib.hid hSB
      have H5 := Lib.hid hw5
      clear hEt hl hm' hW hC hSB hw5 hb5 hq5
      go_wp2_with fail
      rw [← H5.out, ← HSB.out]
      clear hmk
      go_loopw [9] (fun i wr => ∃ (j : Nat) (D2 : DataW Unit) (sp : List Bool), j ≤ n2 ∧ i = .int .i64 (j : Int) ∧ Hid (wr.heap[SB]? = some (.cells (sp.map Value.bool).toArray 4 (0, 0)) ∧ wr.ownsRow Bs 33 4 (.slice B m cc) m (er l) ∧ IsL wr L M 20 cnt D2 ∧ Live D2 l sp ∧ Below w.heap.size w wr ∧ Bs ≤ wr.heap.size)) (fun i _ => n2 - (intOf i).toNat)
      case atStart => exact ⟨0, D, List.replicate m false, by omega, rfl, HV5⟩
      case round =>
        obtain ⟨j, D2, sp, hj, rfl, HV⟩ := hrel
        by_cases hlt2 : j < n2
        · obtain ⟨⟨tn, tu, ta, tw⟩, he⟩ : ∃ e, Ts[j]? = some e := ⟨Ts[j]'(by rw [← HN2.out]; exact hlt2), List.getElem?_eq_getElem _⟩
          obtain ⟨b2, o2, rfl, hb2l, hcl⟩ := HT.out (by have := HN2.out; omega)
          obtain ⟨s0, s1, s2, s3⟩ := hcl j _ he
          have r0 := (HV.out.2.2.2.2.1.cell (p := ⟨b2, _, none⟩) hb2l).trans s0
          have r1 := (HV.out.2.2.2.2.1.cell (p := ⟨b2, _, none⟩) hb2l).trans s1
          have r2 := (HV.out.2.2.2.2.1.cell (p := ⟨b2, _, none⟩) hb2l).trans s2
          have r3 := (HV.out.2.2.2.2.1.cell (p := ⟨b2, _, none⟩) hb2l).trans s3
          simp only at r0 r1 r2 r3
          have hbt := HTB.out _ (List.mem_of_getElem? he)
          obtain ⟨TB, hTB⟩ : ∃ g, g = wr.heap.size := ⟨_, rfl⟩
          obtain ⟨w6, hw6⟩ : ∃ w6, w6 = wr.alloc (.cells #[.int .u64 (tn : Int), .int .u32 (tu : Int), .int .u32 (ta : Int), .int .i64 tw] 55) := ⟨_, rfl⟩
          have hb6 : Below wr.heap.size wr w6 := by rw [hw6]; exact (Below.refl _ _).alloc (Nat.le_refl _) _
          have hq6 : w6.heap[TB]? = some (.cells #[.int .u64 (tn : Int), .int .u32 (tu : Int), .int .u32 (ta : Int), .int .i64 tw] 55 (0, 0)) := by rw [hw6, hTB]; exact heap_alloc_new wr _
          obtain ⟨c', D', sp', hcall, hlive', hout⟩ := spend_all L M cnt D2 l sp (tn, tu, ta, tw) w6 (HV.out.2.2.1.below hb6) HV.out.2.2.2.1 HAP.out hbt
          obtain ⟨okb, hok⟩ : ∃ z, z = ((c' : Int) == 0) := ⟨_, rfl⟩
          have tok : ((c' : Int) == 0) = okb := hok.symm
          have d0 := cell_of_row w6 TB 0 _ _ _ hq6
          have d1 := cell_of_row w6 TB 1 _ _ _ hq6
          have d2 := cell_of_row w6 TB 2 _ _ _ hq6
          have d3 := cell_of_row w6 TB 3 _ _ _ hq6
          simp at d0 d1 d2 d3
          have HCALL := Lib.hid hcall
          have HLIVE := Lib.hid hlive'
          have HOUT := Lib.hid hout
          have HOK := Lib.hid hok
          have HTBN : Hid (TB ≠ M ∧ TB ≠ SB) := by
            have h1 := lt_of_block HV.out.1
            have h2 := HBS2.out
            have h3 := HMB.out
            simp only [Hid]
            omega
          have HQ6 := Lib.hid hq6
          have HTB' := Lib.hid hTB
          have HB6 := Lib.hid hb6
          have H6 := Lib.hid hw6
          clear hcall hlive' hout hok hq6 hTB hb6 hw6 hbt s0 s1 s2 s3 hcl he hb2l
          go_upto_region 15 with (fail)
          rw [← H6.out, ← HTB'.out]
          clear r0 r1 r2 r3
          go_wp2_with fail
          refine HCALL.out.mono ?_
          rintro r w7 ⟨rfl, hl7, hch⟩
          have HS7 : Hid (w7.heap[SB]? = some (.cells (sp.map Value.bool).toArray 4 (0, 0))) := by
            have h1 := (HB6.out.block SB (lt_of_block HV.out.1)).trans HV.out.1
            exact (hch.2.1 SB (lt_of_block h1) (by have := HBS2.out; have := HMB.out; omega)).trans h1
          have HT7 : Hid (w7.heap[TB]? = some (.cells #[.int .u64 (tn : Int), .int .u32 (tu : Int), .int .u32 (ta : Int), .int .i64 tw] 55 (0, 0))) := (hch.2.1 TB (lt_of_block HQ6.out) HTBN.out.1).trans HQ6.out
          have HO7 := Lib.hid (own_ch (own_after HV.out.2.1 HB6.out) HMB.out hch)
          have HL7 := Lib.hid hl7
          have HBW6 := Lib.hid (HV.out.2.2.2.2.1.trans (HB6.out.mono HV.out.2.2.2.2.1.size))
          have HB7 : Hid (Below w.heap.size w w7) := HBW6.out.trans (hch.1 w.heap.size HMW.out HBW6.out.size)
          have HZ7 : Hid (Bs ≤ w7.heap.size) := Nat.le_trans (Nat.le_trans HV.out.2.2.2.2.2 HB6.out.size) hch.2.2
          have HSPL := Lib.hid HV.out.2.2.2.1.len
          clear hl7 hch d0 d1 d2 d3
          go_wp2_with fail
          go_loopw [12, 13] (fun mv i wr => ∃ (p : Nat) (q : Int), p ≤ m ∧ i = .int .i64 (p : Int) ∧ mv = .int .i64 q ∧ Hid (q = mayP (tn, tu, ta, tw) l sp p) ∧ Hid (Below w7.heap.size w7 wr)) (fun _ i _ => m - (intOf i).toNat)
          case atStart => exact ⟨0, -1, by omega, rfl, rfl, rfl, Below.refl _ _⟩
          case round =>
            obtain ⟨p, q, hp, rfl, rfl, hq, hbp⟩ := hrel
            by_cases hlt3 : p < m
            · obtain ⟨⟨en, eo, ea, ex⟩, hx⟩ : ∃ e, l[p]? = some e := ⟨l[p]'(by rw [← HML.out]; exact hlt3), List.getElem?_eq_getElem _⟩
              obtain ⟨s, hs⟩ : ∃ s, sp[p]? = some s := ⟨sp[p]'(by rw [HSPL.out, ← HML.out]; exact hlt3), List.getElem?_eq_getElem _⟩
              obtain ⟨b3, o3, rfl, hb3l, hcl3⟩ := Es.of_own HO7.out (by rw [← HML.out]; omega)
              obtain ⟨s0, s1, s2, s3⟩ := hcl3 p _ hx
              have r0 := (hbp.out.cell (p := ⟨b3, _, none⟩) hb3l).trans s0
              have r1 := (hbp.out.cell (p := ⟨b3, _, none⟩) hb3l).trans s1
              have r2 := (hbp.out.cell (p := ⟨b3, _, none⟩) hb3l).trans s2
              have r3 := (hbp.out.cell (p := ⟨b3, _, none⟩) hb3l).trans s3
              simp only at r0 r1 r2 r3
              have HQC := Lib.hid (q_cases tn tu ta tw en eo ea ex s l sp p hx hs)
              obtain ⟨w8, hw8⟩ : ∃ w8, w8 = wr.alloc (.cells #[.int .u64 (en : Int), .int .u32 (eo : Int), .int .u32 (ea : Int), .int .i64 ex] 33) := ⟨_, rfl⟩
              have hb8 : Below wr.heap.size wr w8 := by rw [hw8]; exact (Below.refl _ _).alloc (Nat.le_refl _) _
              have hq8 : w8.heap[wr.heap.size]? = some (.cells #[.int .u64 (en : Int), .int .u32 (eo : Int), .int .u32 (ea : Int), .int .i64 ex] 33 (0, 0)) := by rw [hw8]; exact heap_alloc_new wr _
              have HB8 := Lib.hid (hbp.out.trans (hb8.mono hbp.out.size))
              have ht8 := (HB8.out.block TB (lt_of_block HT7.out)).trans HT7.out
              have hs8 := (HB8.out.block SB (lt_of_block HS7.out)).trans HS7.out
              have x0 := cell_of_row w8 wr.heap.size 0 _ _ _ hq8
              have x1 := cell_of_row w8 wr.heap.size 1 _ _ _ hq8
              have x2 := cell_of_row w8 wr.heap.size 2 _ _ _ hq8
              have x3 := cell_of_row w8 wr.heap.size 3 _ _ _ hq8
              have d0 := cell_of_row w8 TB 0 _ _ _ ht8
              have d1 := cell_of_row w8 TB 1 _ _ _ ht8
              have d2 := cell_of_row w8 TB 2 _ _ _ ht8
              have d3 := cell_of_row w8 TB 3 _ _ _ ht8
              have g0 : w8.cell? ⟨SB, p, none⟩ = some (.bool s) := (cell_of_row w8 SB p _ _ _ hs8).trans (by rw [List.getElem?_toArray, List.getElem?_map, hs]; rfl)
              simp at x0 x1 x2 x3 d0 d1 d2 d3
              have H8 := Lib.hid hw8
              clear hw8 hb8 hq8 ht8 hs8 hx hs s0 s1 s2 s3 hcl3 hb3l
              go_upto_region 21 with (fail)
              rw [← H8.out]
              clear r0 r1 r2 r3
              rcases HQC.out with ⟨f1, hq1⟩ | ⟨f1, f2, hq1⟩ | ⟨f1, f2, f3, hq1⟩ | ⟨f1, f2, f3, f4, hq1⟩ | ⟨f1, f2, f3, f4, rfl, hq1⟩ | ⟨f1, f2, f3, f4, rfl, hq1⟩
              all_goals
                have HQ1 := Lib.hid hq1
                clear hq1
                go_wp2_with fail
                go_roundw
                case rel =>
                  first
                    | exact ⟨p + 1, q, by omega, by go_num, rfl, hq.out.trans HQ1.out.symm, HB8⟩
                    | exact ⟨p + 1, (p : Int), by omega, by go_num, rfl, HQ1.out.symm, HB8⟩
                case measure => simp [intOf] <;> omega
            · obtain rfl : p = m := by omega
              rcases HOUT.out with ⟨hc0, k0, hk0, hmay, hsp⟩ | ⟨hc0, hmay, hsp⟩
              · obtain rfl : okb = true := by rw [HOK.out, hc0]; rfl
                obtain rfl : q = (k0 : Int) := by rw [hq.out, ← hmay, ← HML.out]
                have hkm : k0 < p := by rw [HML.out]; exact hk0
                have hsr := (hbp.out.block SB (lt_of_block HS7.out)).trans HS7.out
                have fz : ∀ i, wr.frozen? ⟨SB, i, none⟩ = false := fun i => frozen_of_row wr SB i _ _ hsr
                obtain ⟨s, hs⟩ : ∃ s, sp[k0]? = some s := ⟨sp[k0]'(by rw [HSPL.out, ← HML.out]; exact hkm), List.getElem?_eq_getElem _⟩
                have g0 : wr.cell? ⟨SB, k0, none⟩ = some (.bool s) := (cell_of_row wr SB k0 _ _ _ hsr).trans (by rw [List.getElem?_toArray, List.getElem?_map, hs]; rfl)
                have HSR := Lib.hid hsr
                have HSP := Lib.hid hsp
                have HBB : Hid (SB < wr.heap.size) := lt_of_block hsr
                have tk : (0 : Int) ≤ (k0 : Int) := by omega
                clear hsr hs hsp hmay hc0 hk0
                go_wp2_with fail
                go_roundw
                case rel =>
                  refine ⟨j + 1, D', sp', by omega, by go_num, ?_⟩
                  refine ⟨?_, own_other (own_after HO7.out hbp.out) HSR.out, (HL7.out.below hbp.out).grown (grown_setCell wr SB k0 _) (fun e => by injection e with e; have := HLB.out; have := HMB.out; have := HBS2.out; omega) (fun e => by injection e with e; have := HMB.out; have := HBS2.out; omega), HLIVE.out, ?_, ?_⟩
                  · rw [HSP.out, ← map_set]
                    simp [World.setCell, Array.getElem?_modify, HSR.out]
                  · exact (HB7.out.trans (hbp.out.mono HB7.out.size)).grown (grown_setCell wr SB k0 _) (HB7.out.trans (hbp.out.mono HB7.out.size)).size (fun g hg => by injection hg with hg; have := HMW.out; have := HMB.out; have := HBS2.out; omega)
                  · exact Nat.le_trans (Nat.le_trans HZ7.out hbp.out.size) (grown_setCell wr SB k0 _).size
                case measure => simp [intOf] <;> omega
              · obtain rfl : okb = false := by rw [HOK.out, beq_eq_false_iff_ne]; omega
                obtain rfl : q = -1 := by rw [hq.out, ← hmay, ← HML.out]
                have HSP := Lib.hid hsp
                clear hsp hmay hc0
                go_wp2_with fail
                go_roundw
                case rel =>
                  refine ⟨j + 1, D', sp', by omega, by go_num, ?_⟩
                  exact ⟨by rw [HSP.out]; exact (hbp.out.block SB (lt_of_block HS7.out)).trans HS7.out, own_after HO7.out hbp.out, HL7.out.below hbp.out, HLIVE.out, HB7.out.trans (hbp.out.mono HB7.out.size), Nat.le_trans HZ7.out hbp.out.size⟩
                case measure => simp [intOf] <;> omega
        · go_wp2_with fail
          refine (lawake wr).mono ?_
          rintro e w2 ⟨rfl, hb2⟩
          go_wp2
          go_ret
          exact ⟨rfl, HV.out.2.2.2.2.1.trans (hb2.mono HV.out.2.2.2.2.1.size)⟩
end Go.Proofs.Yticegnbdpihdpaa
