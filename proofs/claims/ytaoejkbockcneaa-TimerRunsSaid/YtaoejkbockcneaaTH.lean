/- Timer: acts that came in; program and document side by side. -/
import Derived.Test.YtaoejkbockcneaaTG
namespace Go.Proofs.Ytaoejkbockcneaa
open Go.RowKit Go.ChangeShapes Go.Joins
set_option maxRecDepth 20000

abbrev Ac := Int × Int × Nat × Int
def At4 (w : World) (b p : Nat) (e : Ac) : Prop := w.cell? ⟨b, p, none⟩ = some (.int .u8 e.1) ∧ w.cell? ⟨b, p + 1, none⟩ = some (.int .i64 e.2.1) ∧ w.cell? ⟨b, p + 2, none⟩ = some (.int .u32 (e.2.2.1 : Int)) ∧ w.cell? ⟨b, p + 3, none⟩ = some (.int .i64 e.2.2.2)
def As (w : World) (B : Nat) (A : Option Addr) (l : List Ac) : Prop := 0 < l.length → ∃ b o, A = some ⟨b, o, none⟩ ∧ b < B ∧ ∀ (i : Nat) (e : Ac), l[i]? = some e → At4 w b (o + i * 4) e
theorem open_acts {H : Type} {enc : TypeId × Value → H} {W : World} {r : Reach} {b0 : Nat} {v : Value} {d : DataW H} {q : List MemPlace} (hv : Value.okWide Try.prog W r b0 22 v) (h : DataW.Trod enc Try.prog W 0 (fun _ => true) true 22 v d q) :
    ∃ (u : Option Addr × Nat) (l : List Ac), v = .slice u.1 l.length u.2 ∧ As W W.heap.size u.1 l ∧ l.length ≤ 9223372036854775807 ∧ ∀ e ∈ l, wfN e.2.1 e.2.2.1 := by
  obtain ⟨A, n, c, rfl⟩ := WideShapes.okWide_slice Try.underlying22 hv
  obtain ⟨fuel, hf⟩ := h
  have c4 : Try.prog.cellsOf 28 = 4 := by kernel_rfl
  have k5 : Try.prog.cellsOf 5 = 1 := by kernel_rfl
  have k3 : Try.prog.cellsOf 3 = 1 := by kernel_rfl
  have k26 : Try.prog.cellsOf 26 = 1 := by kernel_rfl
  have k2 : Try.prog.cellsOf 2 = 1 := by kernel_rfl
  rcases Deep.open_slice Try.underlying22 hf with ⟨hcs, _⟩ | ⟨a, len, cap, m, k, D, Pl, hcs, _, hl, hm, hmm, _, hx⟩
  · simp [Value.cells] at hcs
    obtain ⟨rfl, rfl, rfl⟩ := hcs
    exact ⟨(none, 0), [], rfl, fun h => by simp at h, by simp, fun e he => by cases he⟩
  · simp [Value.cells] at hcs
    obtain ⟨rfl, rfl, rfl⟩ := hcs
    rw [c4] at hx
    have each : ∀ i, i < n → ∃ e : Ac, wfN e.2.1 e.2.2.1 ∧ W.cell? (a.add (i * 4)) = some (.int .u8 e.1) ∧ W.cell? (a.add (i * 4 + 1)) = some (.int .i64 e.2.1) ∧ W.cell? (a.add (i * 4 + 2)) = some (.int .u32 (e.2.2.1 : Int)) ∧ W.cell? (a.add (i * 4 + 3)) = some (.int .i64 e.2.2.2) := fun i hi => by
      obtain ⟨cs', h1, h2⟩ := hx i (by rw [hmm]; simp; omega)
      obtain ⟨_, hlen, hcell⟩ := World.cells?_some h1
      match cs', hlen with
      | [c0, c1, c2, c3], _ =>
        obtain ⟨y0, y1, y2, y3, m', _, _, g0, g1, g2, g3⟩ := trod_struct4 Try.underlying28 h2
        have g0 : DataW.trod enc Try.prog W 0 (fun _ => true) true m' 5 [c0] = some y0 := by simpa [k5] using g0
        have g1 : DataW.trod enc Try.prog W 0 (fun _ => true) true m' 3 [c1] = some y1 := by simpa [k3] using g1
        have g2 : DataW.trod enc Try.prog W 0 (fun _ => true) true m' 26 [c2] = some y2 := by simpa [k26] using g2
        have g3 : DataW.trod enc Try.prog W 0 (fun _ => true) true m' 2 [c3] = some y3 := by simpa [k2] using g3
        obtain ⟨x0, e0, _, w0⟩ := DataW.trod_int Try.underlying5 g0
        obtain ⟨x1, e1, _, w1⟩ := DataW.trod_int Try.underlying3 g1
        obtain ⟨x2, e2, _, w2⟩ := DataW.trod_int Try.underlying26 g2
        obtain ⟨x3, e3, _, w3⟩ := DataW.trod_int Try.underlying2 g3
        simp only [List.cons.injEq, and_true] at e0 e1 e2 e3
        subst e0 e1 e2 e3
        have b1 := bounds_i64 w1
        have b2 := bounds_u32 w2
        have q0 := hcell 0 (by omega)
        have q1 := hcell 1 (by omega)
        have q2 := hcell 2 (by omega)
        have q3 := hcell 3 (by omega)
        rw [Deep.add_add] at q0 q1 q2 q3
        refine ⟨(x0, x1, x2.toNat, x3), wfn_mk (k := x1) (x := x2.toNat) b1.1 b1.2 (by omega), ?_, ?_, ?_, ?_⟩
        · simpa using q0
        · simpa using q1
        · simpa [show (x2.toNat : Int) = x2 by omega] using q2
        · simpa using q3
    obtain ⟨f, hf⟩ := Deep.choose_lt each
    refine ⟨(some a, c), (List.range n).map f, by simp, fun h0 => ?_, by unfold maxLen at hm; simp; omega, fun e he => ?_⟩
    · simp at h0
      have hc0 := (hf 0 h0).2.1
      obtain ⟨b, off, spot⟩ := a
      have hspot : spot = none := by simpa [Addr.add] using World.cell?_spot hc0
      subst hspot
      refine ⟨b, off, rfl, World.block_lt_of_cell? W ⟨b, off + 0 * 4, none⟩ (by rw [← Go.WideShapes.add_plain]; exact hc0), fun i e he => ?_⟩
      rw [List.getElem?_map] at he
      obtain ⟨i', hi', rfl⟩ := Option.map_eq_some_iff.1 he
      obtain ⟨hin, rfl⟩ := List.getElem?_eq_some_iff.1 hi'
      simp at hin
      simp only [List.getElem_range]
      have hq := (hf i hin).2
      rw [Go.WideShapes.add_plain, Go.WideShapes.add_plain, Go.WideShapes.add_plain, Go.WideShapes.add_plain] at hq
      exact ⟨hq.1, by rw [Nat.add_assoc]; exact hq.2.1, by rw [Nat.add_assoc]; exact hq.2.2.1, by rw [Nat.add_assoc]; exact hq.2.2.2⟩
    · obtain ⟨i, hi, rfl⟩ := List.mem_map.1 he
      exact (hf i (List.mem_range.1 hi)).1

theorem findat_any {B0 Q M tn : Nat} {L : List It} (k : Int) (x : Nat) (w : World) (h : IsT w B0 Q M tn L) (hw : wfN k x) :
    Calls Try.prog 20 #[.pointer (some ⟨Q, 0, none⟩), .int .i64 k, .int .u32 (x : Int)] w fun r w' => (∃ v b, r = .returned (.tuple #[.int .i64 v, .bool b]) ∧ FindR L k x v b) ∧ w' = w := by
  by_cases hn : ∃ e ∈ L, nm k x e = true
  · obtain ⟨e, he, hne⟩ := hn
    exact (findat_in k x e w h hw he hne).mono fun r w' ⟨h1, h2⟩ => ⟨⟨_, _, h1, .inl ⟨rfl, e, he, hne, rfl⟩⟩, h2⟩
  · have hno : ∀ e ∈ L, nm k x e = false := fun e he => by
      cases hc : nm k x e
      · rfl
      · exact absurd ⟨e, he, hc⟩ hn
    exact (findat_out k x w h hw hno).mono fun r w' ⟨h1, h2⟩ => ⟨⟨_, _, h1, .inr ⟨rfl, rfl, hno⟩⟩, h2⟩
theorem find_one {L : List It} (hd : Dis L) {k : Int} {x : Nat} {v v' : Int} {b b' : Bool} (h : FindR L k x v b) (h' : FindR L k x v' b') : v' = v ∧ b' = b := by
  rcases h with ⟨rfl, e, he, hn, rfl⟩ | ⟨rfl, rfl, hno⟩ <;> rcases h' with ⟨rfl, e', he', hn', rfl⟩ | ⟨rfl, rfl, hno'⟩
  · have : e = e' := by
      obtain ⟨i, hi⟩ := List.getElem?_of_mem he
      obtain ⟨j, hj⟩ := List.getElem?_of_mem he'
      obtain ⟨hil, hie⟩ := List.getElem?_eq_some_iff.1 hi
      obtain ⟨hjl, hje⟩ := List.getElem?_eq_some_iff.1 hj
      have hp := List.pairwise_iff_getElem.1 hd
      rw [nm_iff] at hn hn'
      rcases Nat.lt_trichotomy i j with h1 | h1 | h1
      · have := hp i j hil hjl h1
        rw [hie, hje] at this
        exact absurd ⟨hn.1.trans hn'.1.symm, hn.2.trans hn'.2.symm⟩ this
      · subst h1
        rw [hi] at hj
        injection hj
      · have := hp j i hjl hil h1
        rw [hie, hje] at this
        exact absurd ⟨hn'.1.trans hn.1.symm, hn'.2.trans hn.2.symm⟩ this
    rw [this]
    exact ⟨rfl, rfl⟩
  · rw [hno' e he] at hn
    cases hn
  · rw [hno e' he'] at hn'
    cases hn'
  · exact ⟨rfl, rfl⟩
def FirstR (L : List It) (k : Int) (x : Nat) (a : Int) (b : Bool) : Prop := (L = [] ∧ k = 0 ∧ x = 0 ∧ a = 0 ∧ b = false) ∨ (∃ e ∈ L, (∀ y ∈ L, lt y e = false) ∧ k = e.2.1 ∧ x = e.2.2.1 ∧ a = e.2.2.2.1 ∧ b = true)
theorem next_any {B0 Q M tn : Nat} {L : List It} (w : World) (h : IsT w B0 Q M tn L) : Calls Try.prog 22 #[.pointer (some ⟨Q, 0, none⟩)] w fun r w' => (∃ k x a b, FirstR L k x a b ∧ r = .returned (.tuple #[tV k x a, .bool b])) ∧ Below w.heap.size w w' := by
  by_cases h0 : L = []
  · subst h0
    exact (next_none w h).mono fun r w' ⟨h1, h2⟩ => ⟨⟨0, 0, 0, false, .inl ⟨rfl, rfl, rfl, rfl, rfl⟩, h1⟩, h2⟩
  · exact (next_some w h (List.length_pos_iff.2 h0)).mono fun r w' ⟨⟨e, he, hm, h1⟩, h2⟩ => ⟨⟨_, _, _, true, .inr ⟨e, he, hm, rfl, rfl, rfl, rfl⟩, h1⟩, h2⟩
theorem rfirst_any (A : Option Addr) (n c : Nat) (L : List It) (k : Int) (x : Nat) (a : Int) (b : Bool) (w : World) (hn : n = L.length) (hR : Rt w w.heap.size A L) (hl : n ≤ 900) (hs : Ris L) (hF : FirstR L k x a b) :
    Calls Try.prog 23 #[.slice A n c] w fun r w' => r = .returned (.tuple #[tV k x a, .bool b]) ∧ Below w.heap.size w w' := by
  rcases hF with ⟨rfl, rfl, rfl, rfl, rfl⟩ | ⟨e, he, hm, rfl, rfl, rfl, rfl⟩
  · rw [hn]
    exact rfirst_nil A c w
  · exact rfirst_some A n c L e w hn hR hl hs he hm
def DueR (L : List It) (now : Int) (k : Int) (x : Nat) (a : Int) (b : Bool) (L' : List It) : Prop := (b = false ∧ k = 0 ∧ x = 0 ∧ a = 0 ∧ L' = L ∧ ∀ e ∈ L, now < e.2.2.2.1) ∨ (b = true ∧ ∃ e ∈ L, (∀ y ∈ L, lt y e = false) ∧ e.2.2.2.1 ≤ now ∧ k = e.2.1 ∧ x = e.2.2.1 ∧ a = e.2.2.2.1 ∧ L' = offN e.2.1 e.2.2.1 L)
theorem DueR.len {L L' : List It} {now k a : Int} {x : Nat} {b : Bool} (h : DueR L now k x a b L') : L'.length ≤ L.length := by
  rcases h with ⟨_, _, _, _, rfl, _⟩ | ⟨_, e, _, _, _, _, _, _, rfl⟩
  · exact Nat.le_refl _
  · exact off_len _ _ _
theorem pdue_any {B0 Q M tn : Nat} {L : List It} (now : Int) (w : World) (h : IsT w B0 Q M tn L) (hl : L.length ≤ 1000) :
    Calls Try.prog 17 #[.pointer (some ⟨Q, 0, none⟩), .int .i64 now] w fun r w' => ∃ k x a b L', r = .returned (.tuple #[tV k x a, .bool b]) ∧ DueR L now k x a b L' ∧ IsT w' B0 Q M tn L' ∧ Ch 2 B0 w w' :=
  (due_any now w h hl).mono fun r w' ⟨t, b, L', h1, h2, h3, h4⟩ => by
    rcases h2 with ⟨rfl, rfl, rfl, hl⟩ | ⟨rfl, e, he, hm, hn, rfl, rfl⟩
    · exact ⟨0, 0, 0, false, _, h1, .inl ⟨rfl, rfl, rfl, rfl, rfl, hl⟩, h3, h4⟩
    · exact ⟨_, _, _, true, _, h1, .inr ⟨rfl, e, he, hm, hn, rfl, rfl, rfl, rfl⟩, h3, h4⟩
theorem rdue_any (base : Nat) (A : Option Addr) (n c : Nat) (L L' : List It) (now k a : Int) (x : Nat) (b : Bool) (w : World) (hn : n = L.length) (hown : w.ownsRow base 38 3 (.slice A n c) n (tr L)) (hbase : base ≤ w.heap.size) (hl : n ≤ 900) (hs : Ris L) (hD : DueR L now k x a b L') :
    Calls Try.prog 18 #[.slice A n c, .int .i64 now] w fun r w' => ∃ B m c', r = .returned (.tuple #[tV k x a, .slice B m c', .bool b]) ∧ m = L'.length ∧ w'.ownsRow base 38 3 (.slice B m c') m (tr L') ∧ Below w.heap.size w w' := by
  rcases hD with ⟨rfl, rfl, rfl, rfl, rfl, hlate⟩ | ⟨rfl, e, he, hm, hnow, rfl, rfl, rfl, rfl⟩
  · exact (rdue_none A n c L' now w hn (Rt.of_own hown) hl hs hlate).mono fun r w' ⟨h1, h2⟩ => ⟨A, n, c, h1, hn, own3_after hown fun g hg => h2.block g (hown.lt g hg).2, h2⟩
  · exact (rdue_some A n c L e now w hn (Rt.of_own hown) hl hs he hm hnow).mono fun r w' ⟨B, m, c', h1, h2, h3, h4⟩ => ⟨B, m, c', h1, h2, own3_base hbase h3, h4⟩

/-- How things stand in the law's loop. -/
structure Su (w wX : World) (Q tn : Nat) (L Lr : List It) (A : Option Addr) (n c : Nat) (act : Option (Nat × Ac)) : Prop where
  it : IsT wX w.heap.size Q w.heap.size tn L
  ow : wX.ownsRow w.heap.size 38 3 (.slice A n c) n (tr Lr)
  ln : n = Lr.length
  ch : Ch 2 w.heap.size w wX
  bd : L.length ≤ tn ∧ Lr.length ≤ tn + 1
  ac : ∀ (G : Nat) (e : Ac), act = some (G, e) → wX.heap[G]? = some (.cells #[.int .u8 e.1, .int .i64 e.2.1, .int .u32 (e.2.2.1 : Int), .int .i64 e.2.2.2] 28 (0, 0))
theorem Su.after {w wX wY : World} {Q tn : Nat} {L Lr : List It} {A : Option Addr} {n c : Nat} {act : Option (Nat × Ac)} (h : Su w wX Q tn L Lr A n c act) (hb : Below wX.heap.size wX wY) : Su w wY Q tn L Lr A n c act :=
  ⟨h.it.after hb, own3_after h.ow fun g hg => hb.block g (h.ow.lt g hg).2, h.ln, h.ch.trans (Ch.of_below h.it.lo hb), h.bd, fun G e he => (hb.block G (lt_of_block (h.ac G e he))).trans (h.ac G e he)⟩
theorem Su.noact {w wX : World} {Q tn : Nat} {L Lr : List It} {A : Option Addr} {n c : Nat} {act : Option (Nat × Ac)} (h : Su w wX Q tn L Lr A n c act) : Su w wX Q tn L Lr A n c none := ⟨h.it, h.ow, h.ln, h.ch, h.bd, fun G e he => by cases he⟩
theorem Su.withact {w wX : World} {Q tn : Nat} {L Lr : List It} {A : Option Addr} {n c : Nat} {act : Option (Nat × Ac)} (h : Su w wX Q tn L Lr A n c act) (e : Ac) : Su w (wX.alloc (.cells #[.int .u8 e.1, .int .i64 e.2.1, .int .u32 (e.2.2.1 : Int), .int .i64 e.2.2.2] 28)) Q tn L Lr A n c (some (wX.heap.size, e)) := by
  have h' := h.after ((Below.refl _ _).alloc (Nat.le_refl _) (.cells #[.int .u8 e.1, .int .i64 e.2.1, .int .u32 (e.2.2.1 : Int), .int .i64 e.2.2.2] 28))
  refine ⟨h'.it, h'.ow, h'.ln, h'.ch, h'.bd, fun G e' he => ?_⟩
  injection he with he
  injection he with h1 h2
  subst h1 h2
  exact heap_alloc_new wX _
theorem Su.prog {w wX wY : World} {Q tn tn' : Nat} {L L' Lr : List It} {A : Option Addr} {n c : Nat} {act : Option (Nat × Ac)} (h : Su w wX Q tn L Lr A n c act) (hi : IsT wY w.heap.size Q w.heap.size tn' L') (hc : Ch 2 w.heap.size wX wY) (hb : L'.length ≤ tn' ∧ Lr.length ≤ tn' + 1) : Su w wY Q tn' L' Lr A n c act :=
  ⟨hi, own3_after h.ow fun g hg => by
    obtain ⟨cur, hcur⟩ := own3_type h.ow hg
    rw [hcur]
    exact hc.kept g _ hcur (by simp [okT]), h.ln, h.ch.trans hc, hb, fun G e he => hc.kept G _ (h.ac G e he) (by simp [okT])⟩
theorem Su.refd {w wX wY : World} {Q tn : Nat} {L Lr Lq : List It} {A B : Option Addr} {n c m c' : Nat} {act : Option (Nat × Ac)} (h : Su w wX Q tn L Lr A n c act) (hb : Below wX.heap.size wX wY) (ho : wY.ownsRow w.heap.size 38 3 (.slice B m c') m (tr Lq)) (hm : m = Lq.length) (hl : Lq.length ≤ tn + 1) : Su w wY Q tn L Lq B m c' act :=
  ⟨(h.after hb).it, ho, hm, (h.after hb).ch, ⟨h.bd.1, hl⟩, (h.after hb).ac⟩
end Go.Proofs.Ytaoejkbockcneaa
