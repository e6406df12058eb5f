/- Timer: times that came in; what a list of timers holds; TimerAnew's walk. -/
import Derived.Test.YtaoejkbockcneaaTB
namespace Go.Proofs.Ytaoejkbockcneaa
open Go.RowKit Go.ChangeShapes
set_option maxRecDepth 20000

/-- The times l are read from A on. -/
def A64 (w : World) (B : Nat) (A : Option Addr) (l : List Int) : Prop := 0 < l.length → ∃ b o, A = some ⟨b, o, none⟩ ∧ b < B ∧ ∀ (j : Nat) (x : Int), l[j]? = some x → w.cell? ⟨b, o + j, none⟩ = some (.int .i64 x)
theorem open_i64s {H : Type} {enc : TypeId × Value → H} {W : World} {r : Reach} {b0 : Nat} {v : Value} {d : DataW H} {q : List MemPlace} (hv : Value.okWide Try.prog W r b0 53 v) (h : DataW.Trod enc Try.prog W 0 (fun _ => true) true 53 v d q) :
    ∃ (u : Option Addr × Nat) (l : List Int), v = .slice u.1 l.length u.2 ∧ A64 W W.heap.size u.1 l ∧ l.length ≤ 9223372036854775807 ∧ ∀ x ∈ l, -9223372036854775808 ≤ x ∧ x ≤ 9223372036854775807 := by
  obtain ⟨A, n, c, rfl⟩ := WideShapes.okWide_slice Try.underlying53 hv
  obtain ⟨fuel, hf⟩ := h
  have c1 : Try.prog.cellsOf 2 = 1 := by kernel_rfl
  rcases Deep.open_slice1 Try.underlying53 c1 hf with ⟨hcs, _⟩ | ⟨a, len, cap, m, k, V, D, Pl, hcs, _, hl, hm, hmm, _, hx⟩
  · simp [Value.cells] at hcs
    obtain ⟨rfl, rfl, rfl⟩ := hcs
    exact ⟨(none, 0), [], rfl, fun h => by simp at h, by simp, fun x h => by simp at h⟩
  · simp [Value.cells] at hcs
    obtain ⟨rfl, rfl, rfl⟩ := hcs
    have each : ∀ i, i < n → ∃ x : Int, (-9223372036854775808 ≤ x ∧ x ≤ 9223372036854775807) ∧ W.cell? (a.add i) = some (.int .i64 x) := fun i hi => by
      obtain ⟨h1, h2⟩ := hx i (by rw [hmm]; simp; omega)
      obtain ⟨x, e, _, wf⟩ := DataW.trod_int Try.underlying2 h2
      simp only [List.cons.injEq, and_true] at e
      have b := bounds_i64 wf
      exact ⟨x, b, by rw [h1, e]⟩
    obtain ⟨f, hf⟩ := Deep.choose_lt each
    refine ⟨(some a, c), (List.range n).map f, by simp, fun h0 => ?_, by unfold maxLen at hm; simp; omega, fun x hx => ?_⟩
    · simp at h0
      have hc0 := (hf 0 h0).2
      obtain ⟨b, off, spot⟩ := a
      have hspot : spot = none := by simpa [Addr.add] using World.cell?_spot hc0
      subst hspot
      refine ⟨b, off, rfl, World.block_lt_of_cell? W ⟨b, off + 0, none⟩ (by rw [← Go.WideShapes.add_plain]; exact hc0), fun i x hi => ?_⟩
      rw [List.getElem?_map] at hi
      obtain ⟨i', hi', rfl⟩ := Option.map_eq_some_iff.1 hi
      obtain ⟨hin, rfl⟩ := List.getElem?_eq_some_iff.1 hi'
      simp at hin
      simp only [List.getElem_range]
      have := (hf i hin).2
      rw [Go.WideShapes.add_plain] at this
      exact this
    · obtain ⟨i, hi, rfl⟩ := List.mem_map.1 hx
      exact (hf i (List.mem_range.1 hi)).1
theorem wfn_mk {k : Int} {x : Nat} (h1 : -9223372036854775808 ≤ k) (h2 : k ≤ 9223372036854775807) (h3 : x < 4294967296) : wfN k x :=
  ⟨by simp only [Lit.wf, Bool.and_eq_true, decide_eq_true_eq]; exact ⟨by show (-9223372036854775808 : Int) ≤ _; omega, by show _ ≤ (9223372036854775807 : Int); omega⟩, by simp only [Lit.wf, Bool.and_eq_true, decide_eq_true_eq]; exact ⟨by show (0 : Int) ≤ _; omega, by show _ ≤ (4294967295 : Int); omega⟩⟩
theorem IsT.dis {w : World} {B0 Q M tn : Nat} {L : List It} (h : IsT w B0 Q M tn L) : Dis L := by
  obtain ⟨v0, hp, D, cnt, _, _, _, _, _, _, _, h8, _, _⟩ := h
  exact h8
theorem off_one {L : List It} (hd : Dis L) {e : It} (he : e ∈ L) : (offN e.2.1 e.2.2.1 L).length + 1 = L.length := by
  have h1 := List.perm_cons_erase he
  have h2 := off_perm (k := e.2.1) (x := e.2.2.1) (hp' := L.erase e) hd ((List.perm_append_comm).trans h1.symm) ((nm_iff _ _ _).2 ⟨rfl, rfl⟩)
  rw [← h2.length_eq]
  have := h1.length_eq
  simp only [List.length_cons] at this
  omega
theorem off_mem {k : Int} {x : Nat} {L : List It} {y : It} : y ∈ offN k x L ↔ y ∈ L ∧ ¬(y.2.1 = k ∧ y.2.2.1 = x) := by
  unfold offN
  rw [List.mem_filter, Bool.not_eq_true', ← nm_iff k x y]
  simp
/-- The first k times are set, in their order, at kinds f, by their numbers. -/
def FL (f : Nat → Int) (tms : List Int) (k : Nat) (L : List It) : Prop := L.map (·.2) = (List.range k).map fun i => (f i, i, tms.getD i 0, i)
theorem FL.mem {f : Nat → Int} {tms : List Int} {k : Nat} {L : List It} (h : FL f tms k L) {e : It} (he : e ∈ L) : ∃ i, i < k ∧ e.2 = (f i, i, tms.getD i 0, i) := by
  have h1 : e.2 ∈ L.map (·.2) := List.mem_map.2 ⟨e, he, rfl⟩
  rw [h] at h1
  obtain ⟨i, hi, hh⟩ := List.mem_map.1 h1
  exact ⟨i, List.mem_range.1 hi, hh.symm⟩
theorem FL.of_lt {f : Nat → Int} {tms : List Int} {k : Nat} {L : List It} (h : FL f tms k L) {i : Nat} (hi : i < k) : ∃ e ∈ L, e.2 = (f i, i, tms.getD i 0, i) := by
  have h1 : (f i, i, tms.getD i 0, i) ∈ L.map (·.2) := by rw [h]; exact List.mem_map.2 ⟨i, List.mem_range.2 hi, rfl⟩
  obtain ⟨e, he, hh⟩ := List.mem_map.1 h1
  exact ⟨e, he, hh⟩
theorem FL.len {f : Nat → Int} {tms : List Int} {k : Nat} {L : List It} (h : FL f tms k L) : L.length = k := by
  have := congrArg List.length h
  simpa using this
theorem FL.step {f : Nat → Int} {tms : List Int} {k : Nat} {L : List It} (h : FL f tms k L) (g : Nat) (c : Int) {t : Int} (hc : c = f k) (ht : tms[k]? = some t) : FL f tms (k + 1) (offN c k L ++ [(g, c, k, t, k)]) := by
  have hn : offN c k L = L := off_none fun e he => by
    obtain ⟨i, hi, hh⟩ := h.mem he
    cases hq : nm c k e
    · rfl
    · rw [nm_iff, hh] at hq
      simp at hq
      omega
  unfold FL at h ⊢
  rw [hn, List.map_append, h, List.range_succ, List.map_append]
  simp [hc, List.getD, ht]

set_option linter.unusedSimpArgs false in
set_option maxHeartbeats 20000000 in
theorem tanew_walk (u : Option Addr × Nat) (tms : List Int) (ag : Nat) (at_ : Int) (w : World) (hs : A64 w w.heap.size u.1 tms) (hl : tms.length ≤ 9223372036854775807) (hb : ∀ x ∈ tms, -9223372036854775808 ≤ x ∧ x ≤ 9223372036854775807) (hag : ag ≤ 255) (_ha1 : -9223372036854775808 ≤ at_) (ha2 : at_ ≤ 9223372036854775807) :
    Calls Try.prog 6 #[.slice u.1 tms.length u.2, .int .u8 (ag : Int), .int .i64 at_] w fun r w' => r = .returned (.bool true) ∧ Below w.heap.size w w' := by
  obtain ⟨E, ec⟩ := u
  obtain ⟨N, hN⟩ : ∃ N, N = tms.length := ⟨_, rfl⟩
  simp only at hs ⊢
  rw [← hN] at hl ⊢
  have HA := Lib.hid hs
  have HN := Lib.hid hN
  have HBD := Lib.hid hb
  clear hs hN hb
  by_cases h1 : 30 < N
  · have t : decide ((N : Int) > 30) = true := by rw [decide_eq_true_iff]; omega
    go_enter Try.func6, Try.ntmps6
    go_wp2
    go_ret
    exact ⟨rfl, Below.refl _ _⟩
  have t : decide ((N : Int) > 30) = false := by rw [decide_eq_false_iff_not]; omega
  by_cases h2 : N = 0
  · have t2 : (N : Int) = 0 := by omega
    go_enter Try.func6, Try.ntmps6
    go_wp2
    go_ret
    exact ⟨rfl, Below.refl _ _⟩
  have t2 : ¬ (N : Int) = 0 := by omega
  have HNEW := Lib.hid (new_any w.heap.size w (Nat.le_refl _))
  obtain ⟨Q, hQ⟩ : ∃ Q, Q = w.heap.size + 1 := ⟨_, rfl⟩
  rw [← hQ] at HNEW
  clear hQ
  go_enter Try.func6, Try.ntmps6
  go_wp2_with fail
  refine HNEW.out.mono ?_
  rintro r w1 ⟨rfl, hI1, hb1⟩
  have HI1 := Lib.hid hI1
  have HC1 : Hid (Ch 2 w.heap.size w w1) := Ch.of_below (Nat.le_refl _) hb1
  clear hI1 hb1 HNEW t t2
  go_wp2_with fail
  go_loopw [8] (fun u wr => ∃ (k : Nat) (L : List It), k ≤ N ∧ u = .int .i64 (k : Int) ∧ Hid (IsT wr w.heap.size Q w.heap.size k L) ∧ Hid (FL (fun _ => 1) tms k L) ∧ Hid (Ch 2 w.heap.size w wr)) (fun u _ => N - (intOf u).toNat)
  case atStart => exact ⟨0, [], by omega, rfl, HI1, rfl, HC1⟩
  case round =>
    obtain ⟨k, L, hk, rfl, HI, HF, HC⟩ := hrel
    by_cases hlt : k < N
    · obtain ⟨t, ht⟩ : ∃ t, tms[k]? = some t := ⟨tms[k]'(by rw [← HN.out]; exact hlt), List.getElem?_eq_getElem _⟩
      obtain ⟨b1, o1, rfl, hb1, ha1⟩ := HA.out (by have := HN.out; omega)
      have d0 := (HC.out.below.cell (p := ⟨b1, _, none⟩) hb1).trans (ha1 k t ht)
      have hw32 : IntKind.u32.wrap (k : Int) = (k : Int) := by rw [IntKind.wrap_u32]; omega
      have HSET := Lib.hid (set_any 1 k t wr HI.out (by rw [HF.out.len]; omega) (by omega) (wfn_mk (by decide) (by decide) (by omega)))
      have HTK := Lib.hid ht
      clear ht ha1 hb1
      go_wp2_with fail
      refine HSET.out.mono ?_
      rintro r w2 ⟨rfl, g, hI2, hC2⟩
      have HF2 : Hid (FL (fun _ => 1) tms (k + 1) (offN 1 k L ++ [(g, 1, k, t, k)])) := HF.out.step g 1 rfl HTK.out
      have HI2 := Lib.hid hI2
      have HC2 := Lib.hid (HC.out.trans hC2)
      clear hI2 hC2
      go_wp2
      go_roundw
      case rel => exact ⟨k + 1, _, by omega, by go_num, HI2, HF2, HC2⟩
      case measure => simp [intOf] <;> omega
    · have hkn : k = N := by omega
      subst hkn
      obtain ⟨id, hid⟩ : ∃ id, id = ag % k := ⟨_, rfl⟩
      have hidk : id < k := by rw [hid]; exact Nat.mod_lt _ (by omega)
      have htm : Int.tmod (ag : Int) (k : Int) = (id : Int) := by rw [hid]; rfl
      have hw32 : IntKind.u32.wrap (id : Int) = (id : Int) := by rw [IntKind.wrap_u32]; omega
      have HSET := Lib.hid (set_any 1 id at_ wr HI.out (by rw [HF.out.len]; omega) (by omega) (wfn_mk (by decide) (by decide) (by omega)))
      have HID := Lib.hid hid
      clear hid
      go_wp2_with fail
      refine HSET.out.mono ?_
      rintro r w2 ⟨rfl, g, hI2, hC2⟩
      have HI2 := Lib.hid hI2
      have HC2 := Lib.hid (HC.out.trans hC2)
      have hlen : (offN 1 id L ++ [(g, (1 : Int), id, at_, k)]).length = k := by
        obtain ⟨e, he, heq⟩ := HF.out.of_lt hidk
        have := off_one HI.out.dis he
        rw [heq] at this
        simp only at this
        rw [List.length_append, List.length_singleton, this, HF.out.len]
      have HL2 : Hid (∀ y ∈ offN 1 id L ++ [(g, (1 : Int), id, at_, k)], y.2.2.2.1 ≤ 9223372036854775807 ∧ (y.2.2.1 = id → y = (g, (1 : Int), id, at_, k)) ∧ (y.2.2.1 ≠ id → y.2.2.2.2 < k)) := fun y hy => by
        rcases List.mem_append.1 hy with hy | hy
        · have hy2 := off_mem.1 hy
          obtain ⟨i, hi, hh⟩ := HF.out.mem hy2.1
          have hy3 : ¬ i = id := fun h => hy2.2 ⟨by rw [hh], by rw [hh]; exact h⟩
          rw [hh]
          refine ⟨?_, fun h => absurd h hy3, fun _ => hi⟩
          show tms.getD i 0 ≤ 9223372036854775807
          obtain ⟨x, hx⟩ : ∃ x, tms[i]? = some x := ⟨tms[i]'(by rw [← HN.out]; exact hi), List.getElem?_eq_getElem _⟩
          have := HBD.out x (List.mem_of_getElem? hx)
          simp [List.getD, hx]
          omega
        · simp at hy
          subst hy
          exact ⟨ha2, fun _ => rfl, fun h => absurd rfl h⟩
      obtain ⟨L2, hL2⟩ : ∃ L2, L2 = offN 1 id L ++ [(g, (1 : Int), id, at_, k)] := ⟨_, rfl⟩
      have HE2 : Hid ((g, (1 : Int), id, at_, k) ∈ L2) := by simp only [Hid]; rw [hL2]; simp
      rw [← hL2] at HI2 hlen HL2
      have HLEN := Lib.hid (len_any w2 HI2.out)
      rw [hlen] at HLEN
      have HLN2 := Lib.hid hlen
      clear hI2 hC2 hL2 hlen
      go_wp2_with fail
      refine HLEN.out.mono ?_
      rintro r w3 ⟨rfl, hw3⟩
      subst hw3
      go_wp2_with fail
      go_loopw [10, 11] (fun s u wr => ∃ (j : Nat) (b : Bool) (L : List It), j ≤ k ∧ s = .bool b ∧ u = .int .i64 (j : Int) ∧ L.length + j = k ∧ Hid (IsT wr w.heap.size Q w.heap.size (k + 1) L) ∧ Hid (Ch 2 w.heap.size w wr) ∧ Hid (∀ y ∈ L, y.2.2.2.1 ≤ 9223372036854775807 ∧ (y.2.2.1 = id → y = (g, (1 : Int), id, at_, k)) ∧ (y.2.2.1 ≠ id → y.2.2.2.2 < k)) ∧ Hid ((b = false ∧ (g, (1 : Int), id, at_, k) ∈ L) ∨ (b = true ∧ ∀ y ∈ L, at_ < y.2.2.2.1 ∧ y.2.2.1 ≠ id))) (fun _ u _ => k - (intOf u).toNat)
      case atStart => exact ⟨0, false, L2, by omega, rfl, rfl, by rw [HLN2.out]; rfl, HI2, HC2, HL2, .inl ⟨rfl, HE2.out⟩⟩
      case round =>
        obtain ⟨j, b, L3, hj, rfl, rfl, hl3, HI3, HC3, HL3, HS3⟩ := hrel
        by_cases hlt2 : j < k
        · go_wp2_with fail
          refine (due_any 9223372036854775807 wr HI3.out (by omega)).mono ?_
          rintro r w4 ⟨t, b4, L4, rfl, hcase, hI4, hC4⟩
          obtain ⟨e, he, rfl, rfl, rfl, hmin⟩ : ∃ e ∈ L3, b4 = true ∧ t = tV e.2.1 e.2.2.1 e.2.2.2.1 ∧ L4 = offN e.2.1 e.2.2.1 L3 ∧ ∀ y ∈ L3, lt y e = false := by
            rcases hcase with ⟨_, _, _, hlate⟩ | ⟨hb, e, he, hmin, _, ht, hL⟩
            · obtain ⟨y, hy⟩ := List.exists_mem_of_length_pos (l := L3) (by omega)
              have h1 := hlate y hy
              have h2 := (HL3.out y hy).1
              omega
            · exact ⟨e, he, hb, ht, hL, hmin⟩
          have hone := off_one HI3.out.dis he
          have HI4 := Lib.hid hI4
          have HC4 := Lib.hid (HC3.out.trans hC4)
          have HE := Lib.hid (And.intro he hmin)
          have HL4 : Hid (∀ y ∈ offN e.2.1 e.2.2.1 L3, y.2.2.2.1 ≤ 9223372036854775807 ∧ (y.2.2.1 = id → y = (g, (1 : Int), id, at_, k)) ∧ (y.2.2.1 ≠ id → y.2.2.2.2 < k)) := fun y hy => HL3.out y (off_mem.1 hy).1
          obtain ⟨G, hG⟩ : ∃ G, G = w4.heap.size := ⟨_, rfl⟩
          obtain ⟨w5, hw5⟩ : ∃ w5, w5 = w4.alloc (.cells #[.int .i64 e.2.1, .int .u32 (e.2.2.1 : Int), .int .i64 e.2.2.2.1] 35) := ⟨_, rfl⟩
          have hb5 : Below w4.heap.size w4 w5 := by rw [hw5]; exact (Below.refl _ _).alloc (Nat.le_refl _) _
          have hx5 : w5.heap[G]? = some (.cells #[.int .i64 e.2.1, .int .u32 (e.2.2.1 : Int), .int .i64 e.2.2.2.1] 35 (0, 0)) := by rw [hw5, hG]; exact heap_alloc_new w4 _
          have HI5 := Lib.hid (HI4.out.after hb5)
          have HC5 : Hid (Ch 2 w.heap.size w w5) := HC4.out.trans (Ch.of_below HI4.out.lo hb5)
          have H5 := Lib.hid hw5
          have x0 := cell_of_row w5 G 0 _ _ _ hx5
          have x1 := cell_of_row w5 G 1 _ _ _ hx5
          have x2 := cell_of_row w5 G 2 _ _ _ hx5
          have xf : ∀ i, w5.frozen? ⟨G, i, none⟩ = false := fun i => frozen_of_row w5 _ i _ _ hx5
          simp at x0 x1 x2
          clear hI4 hC4 hcase he hmin hb5 hx5 hw5 xf
          go_upto_region 17 with (fail)
          rw [← H5.out, ← hG]
          clear hG
          obtain ⟨ek, ex, ea, hek, hex, hea⟩ : ∃ (ek : Int) (ex : Nat) (ea : Int), e.2.1 = ek ∧ e.2.2.1 = ex ∧ e.2.2.2.1 = ea := ⟨_, _, _, rfl, rfl, rfl⟩
          rw [hek, hex] at hone HL4 HI5
          simp only [hek, hex, hea] at x0 x1 x2 ⊢
          have HEQ := Lib.hid (And.intro hek (And.intro hex hea))
          clear hek hex hea
          cases b with
          | false =>
            have HIN : Hid ((g, (1 : Int), id, at_, k) ∈ L3) := by
              rcases HS3.out with ⟨_, h⟩ | ⟨h, _⟩
              · exact h
              · cases h
            by_cases hei : ex = id
            · have HEE : Hid (e = (g, (1 : Int), id, at_, k)) := (HL3.out e HE.out.1).2.1 (HEQ.out.2.1.trans hei)
              have heat : ea = at_ := by have := HEQ.out.2.2; rw [HEE.out] at this; exact this.symm
              have hekk : ek = 1 := by have := HEQ.out.1; rw [HEE.out] at this; exact this.symm
              have HS4 : Hid ((true = false ∧ (g, (1 : Int), id, at_, k) ∈ offN ek ex L3) ∨ (true = true ∧ ∀ y ∈ offN ek ex L3, at_ < y.2.2.2.1 ∧ y.2.2.1 ≠ id)) := by
                right
                refine ⟨rfl, fun y hy => ?_⟩
                have hy2 := off_mem.1 hy
                have hyi : y.2.2.1 ≠ id := fun h => by
                  have := (HL3.out y hy2.1).2.1 h
                  rw [this] at hy2
                  exact hy2.2 ⟨hekk.symm, hei.symm⟩
                refine ⟨?_, hyi⟩
                have h1 := HE.out.2 y hy2.1
                rw [HEE.out, lt_iff'] at h1
                have h2 := (HL3.out y hy2.1).2.2 hyi
                simp only at h1
                omega
              have hei' : (ex : Int) = (id : Int) := by omega
              go_wp2
              go_roundw
              case rel => exact ⟨j + 1, true, _, by omega, rfl, by go_num, by omega, HI5, HC5, HL4, HS4⟩
              case measure => simp [intOf] <;> omega
            · have HS4 : Hid ((false = false ∧ (g, (1 : Int), id, at_, k) ∈ offN ek ex L3) ∨ (false = true ∧ ∀ y ∈ offN ek ex L3, at_ < y.2.2.2.1 ∧ y.2.2.1 ≠ id)) := .inl ⟨rfl, off_mem.2 ⟨HIN.out, fun h => hei h.2.symm⟩⟩
              have hei' : ¬ (ex : Int) = (id : Int) := by omega
              go_wp2
              go_roundw
              case rel => exact ⟨j + 1, false, _, by omega, rfl, by go_num, by omega, HI5, HC5, HL4, HS4⟩
              case measure => simp [intOf] <;> omega
          | true =>
            have HALL : Hid (∀ y ∈ L3, at_ < y.2.2.2.1 ∧ y.2.2.1 ≠ id) := by
              rcases HS3.out with ⟨h, _⟩ | ⟨_, h⟩
              · cases h
              · exact h
            have h1 := HALL.out e HE.out.1
            have hea1 : at_ < ea := by have := HEQ.out.2.2; omega
            have hei : ¬ ex = id := by have := HEQ.out.2.1; rw [← this]; exact h1.2
            have hei' : ¬ (ex : Int) = (id : Int) := by omega
            have hea2 : ¬ ea ≤ at_ := by omega
            have HS4 : Hid ((true = false ∧ (g, (1 : Int), id, at_, k) ∈ offN ek ex L3) ∨ (true = true ∧ ∀ y ∈ offN ek ex L3, at_ < y.2.2.2.1 ∧ y.2.2.1 ≠ id)) := .inr ⟨rfl, fun y hy => HALL.out y (off_mem.1 hy).1⟩
            clear h1
            go_wp2
            go_roundw
            case rel => exact ⟨j + 1, true, _, by omega, rfl, by go_num, by omega, HI5, HC5, HL4, HS4⟩
            case measure => simp [intOf] <;> omega
        · have hL0 : L3 = [] := List.length_eq_zero_iff.1 (by omega)
          subst hL0
          have hbt : b = true := by
            rcases HS3.out with ⟨_, h⟩ | ⟨h, _⟩
            · cases h
            · exact h
          subst hbt
          have HLN := Lib.hid (len_any wr HI3.out)
          rw [List.length_nil] at HLN
          have hjk : j = k := by omega
          subst hjk
          go_wp2_with fail
          refine HLN.out.mono ?_
          rintro r w4 ⟨rfl, hw4⟩
          subst hw4
          go_wp2_with fail
          refine (tawake _).mono ?_
          rintro r w5 ⟨rfl, hb5⟩
          have HBF : Hid (Below w.heap.size w w5) := HC3.out.below.trans (hb5.mono HC3.out.size)
          clear hb5
          go_wp2
          go_ret
          exact ⟨rfl, HBF.out⟩
end Go.Proofs.Ytaoejkbockcneaa
