/- Penal: how things stand in PenalRuns' loop; what came in as acts. -/
import Derived.Test.YtfcogjdnnnpmdaaDoorRO
import Derived.Test.YtfcogjdnnnpmdaaDoorRM
import Derived.Deep.Strs
namespace Go.Proofs.YtfcogjdnnnpmdaaDoor
open Go.RowKit Go.ChangeShapes
set_option maxRecDepth 20000

abbrev Ac := Int × Nat × Int
/-- The acts l are read from A on. -/
def As (w : World) (B : Nat) (A : Option Addr) (l : List Ac) : Prop :=
  0 < l.length → ∃ b o, A = some ⟨b, o, none⟩ ∧ b < B ∧ ∀ i e, l[i]? = some e → w.cell? ⟨b, o + i * 3, none⟩ = some (.int .u8 e.1) ∧ w.cell? ⟨b, o + i * 3 + 1, none⟩ = some (.int .u32 (e.2.1 : Int)) ∧ w.cell? ⟨b, o + i * 3 + 2, none⟩ = some (.int .i64 e.2.2)
theorem open_acts {H : Type} {enc : TypeId × Value → H} {W : World} {r : Reach} {b0 : Nat} {v : Value} {d : DataW H} {q : List MemPlace} (hv : Value.okWide Tryd.prog W r b0 32 v) (h : DataW.Trod enc Tryd.prog W 0 (fun _ => true) true 32 v d q) :
    ∃ (u : Option Addr × Nat) (l : List Ac), v = .slice u.1 l.length u.2 ∧ As W W.heap.size u.1 l ∧ l.length ≤ 9223372036854775807 ∧ ∀ e ∈ l, inI e.2.2 := by
  obtain ⟨A, n, c, rfl⟩ := WideShapes.okWide_slice Tryd.underlying32 hv
  obtain ⟨fuel, hf⟩ := h
  have c4 : Tryd.prog.cellsOf 38 = 3 := by kernel_rfl
  have k5 : Tryd.prog.cellsOf 5 = 1 := by kernel_rfl
  have k28 : Tryd.prog.cellsOf 36 = 1 := by kernel_rfl
  have k3 : Tryd.prog.cellsOf 2 = 1 := by kernel_rfl
  rcases Deep.open_slice Tryd.underlying32 hf with ⟨hcs, _⟩ | ⟨a, len, cap, m, k, D, Pl, hcs, _, hl, hm, hmm, _, hx⟩
  · simp [Value.cells] at hcs
    obtain ⟨rfl, rfl, rfl⟩ := hcs
    exact ⟨(none, 0), [], rfl, fun h => by simp at h, by simp, fun e he => by simp at he⟩
  · simp [Value.cells] at hcs
    obtain ⟨rfl, rfl, rfl⟩ := hcs
    rw [c4] at hx
    have each : ∀ i, i < n → ∃ e : Ac, inI e.2.2 ∧ W.cell? (a.add (i * 3)) = some (.int .u8 e.1) ∧ W.cell? (a.add (i * 3 + 1)) = some (.int .u32 (e.2.1 : Int)) ∧ W.cell? (a.add (i * 3 + 2)) = some (.int .i64 e.2.2) := fun i hi => by
      obtain ⟨cs', h1, h2⟩ := hx i (by rw [hmm]; simp; omega)
      obtain ⟨_, hlen, hcell⟩ := World.cells?_some h1
      match cs', hlen with
      | [c0, c1, c2], _ =>
        obtain ⟨y0, y1, y2, m', _, _, g0, g1, g2⟩ := Deep.trod_struct3 Tryd.underlying38 h2
        have g0 : DataW.trod enc Tryd.prog W 0 (fun _ => true) true m' 5 [c0] = some y0 := by simpa [k5] using g0
        have g1 : DataW.trod enc Tryd.prog W 0 (fun _ => true) true m' 36 [c1] = some y1 := by simpa [k28] using g1
        have g2 : DataW.trod enc Tryd.prog W 0 (fun _ => true) true m' 2 [c2] = some y2 := by simpa [k3] using g2
        obtain ⟨x0, e0, _, w0⟩ := DataW.trod_int Tryd.underlying5 g0
        obtain ⟨x1, e1, _, w1⟩ := DataW.trod_int Tryd.underlying36 g1
        obtain ⟨x2, e2, _, w2⟩ := DataW.trod_int Tryd.underlying2 g2
        simp only [List.cons.injEq, and_true] at e0 e1 e2
        subst e0 e1 e2
        have b1 := bounds_u32 w1
        have q0 := hcell 0 (by omega)
        have q1 := hcell 1 (by omega)
        have q2 := hcell 2 (by omega)
        rw [Deep.add_add] at q0 q1 q2
        have b2 := bounds_i64 w2
        refine ⟨(x0, x1.toNat, x2), (show inI x2 from ⟨by omega, by omega⟩), ?_, ?_, ?_⟩
        · simpa using q0
        · simpa [show (x1.toNat : Int) = x1 by omega] using q1
        · simpa using q2
    obtain ⟨f, hf⟩ := Deep.choose_lt each
    refine ⟨(some a, c), (List.range n).map f, by simp, fun h0 => ?_, by unfold maxLen at hm; simp; omega, fun e he => by
      obtain ⟨i, hi, rfl⟩ := List.mem_map.1 he
      exact (hf i (List.mem_range.1 hi)).1⟩
    simp at h0
    have hc0 := (hf 0 h0).2.1
    obtain ⟨b, off, spot⟩ := a
    have hspot : spot = none := by simpa [Addr.add] using World.cell?_spot hc0
    subst hspot
    refine ⟨b, off, rfl, World.block_lt_of_cell? W ⟨b, off + 0 * 3, none⟩ (by rw [← Go.WideShapes.add_plain]; exact hc0), fun i e he => ?_⟩
    rw [List.getElem?_map] at he
    obtain ⟨i', hi', rfl⟩ := Option.map_eq_some_iff.1 he
    obtain ⟨hin, rfl⟩ := List.getElem?_eq_some_iff.1 hi'
    simp at hin
    simp only [List.getElem_range]
    have hq := (hf i hin).2
    rw [Go.WideShapes.add_plain, Go.WideShapes.add_plain, Go.WideShapes.add_plain] at hq
    exact ⟨hq.1, by rw [Nat.add_assoc]; exact hq.2.1, by rw [Nat.add_assoc]; exact hq.2.2⟩


theorem pl_unique {ids : List Nat} {x p q : Nat} (hp : Pl ids x p) (hq : Pl ids x q) : p = q := by
  have half : ∀ p q, Pl ids x p → Pl ids x q → ¬ p < q := fun p q hp hq h => by
    obtain ⟨y, hy⟩ : ∃ y, ids[p]? = some y := ⟨ids[p]'(by have := hq.1; omega), List.getElem?_eq_getElem _⟩
    have h1 := hq.2.1 p y h hy
    have h2 := hp.2.2 p y (Nat.le_refl _) hy
    omega
  have h1 := half p q hp hq
  have h2 := half q p hq hp
  omega
theorem pl_exists {ids : List Nat} (hu : Up ids) (x : Nat) : ∃ p, Pl ids x p := by
  have step : ∀ k, k ≤ ids.length → (∀ j y, j < k → ids[j]? = some y → y < x) ∨ ∃ p z, p < ids.length ∧ (∀ j y, j < p → ids[j]? = some y → y < x) ∧ ids[p]? = some z ∧ x ≤ z := fun k => by
    induction k with
    | zero => exact fun _ => .inl fun j y hj => absurd hj (Nat.not_lt_zero j)
    | succ k ih =>
      intro hk
      rcases ih (by omega) with h | h
      · obtain ⟨y, hy⟩ : ∃ y, ids[k]? = some y := ⟨ids[k]'(by omega), List.getElem?_eq_getElem _⟩
        by_cases hx : y < x
        · exact .inl fun j z hj hz => by
            rcases Nat.lt_or_ge j k with h1 | h1
            · exact h j z h1 hz
            · have e : j = k := by omega
              rw [e, hy] at hz
              injection hz with hz
              omega
        · exact .inr ⟨k, y, by omega, h, hy, by omega⟩
      · exact .inr h
  rcases step ids.length (Nat.le_refl _) with h | ⟨p, z, h1, h2, h3, h4⟩
  · exact ⟨ids.length, Nat.le_refl _, h, fun j y hj hy => by have := (List.getElem?_eq_some_iff.1 hy).1; omega⟩
  · refine ⟨p, by omega, h2, fun j y hj hy => ?_⟩
    rcases Nat.lt_or_ge p j with h5 | h5
    · have := hu p j z y h5 h3 hy
      omega
    · have e : j = p := by omega
      rw [e, h3] at hy
      injection hy with hy
      omega
/-- A row that may be. -/
def Good (e : D.Rw) : Prop := inI e.2.1 ∧ inI e.2.2.1 ∧ inI e.2.2.2 ∧ 0 ≤ e.2.2.2
/-- How things stand in the law's loop: the book has the pairs lp, the document the rows ld. -/
structure St (w wX : World) (B R : Nat) (M : Int) (lp ld : List D.Rw) (A : Option Addr) (n c : Nat) (act : Option (Nat × Int × Nat × Int)) : Prop where
  ir : ∃ vi vt, IsR wX R M vi vt (lp.map (·.1)) (lp.map (·.2))
  bk : BkRow wX B R
  ow : wX.ownsRow w.heap.size 73 4 (.slice A n c) n (D.rr ld)
  ln : n = ld.length
  lm : (lp.length : Int) ≤ M
  lq : (ld.length : Int) ≤ M
  m20 : M ≤ 20
  gp : ∀ e ∈ lp, Good e
  gd : ∀ e ∈ ld, Good e
  bl : Below w.heap.size w wX
  rt : w.heap.size ≤ R ∧ w.heap.size ≤ B
  ac : ∀ G d x z, act = some (G, d, x, z) → wX.heap[G]? = some (.cells #[.int .u8 d, .int .u32 ((x : Nat) : Int), .int .i64 z] 38 (0, 0))
section
variable {w wX wY : World} {B R : Nat} {M : Int} {lp ld : List D.Rw} {A : Option Addr} {n c : Nat} {act : Option (Nat × Int × Nat × Int)}
theorem type_ne {w : World} {g k T T' : Nat} {c c' : Array Value} (h : w.heap[g]? = some (.cells c T (0, 0))) (h' : w.heap[k]? = some (.cells c' T' (0, 0))) (hT : T ≠ T') : g ≠ k := fun e => by
  subst e
  rw [h] at h'
  injection h' with h'
  injection h' with _ h'
  exact hT h'
theorem St.after (h : St w wX B R M lp ld A n c act) (hb : Below wX.heap.size wX wY) : St w wY B R M lp ld A n c act := by
  obtain ⟨vi, vt, h3⟩ := h.ir
  exact ⟨⟨vi, vt, h3.after hb⟩, (hb.block B (lt_of_block h.bk)).trans h.bk, own_after h.ow fun g hg => hb.block g (ownlt h.ow g hg).2, h.ln, h.lm, h.lq, h.m20, h.gp, h.gd, h.bl.trans (hb.mono h.bl.size), h.rt, fun G d x z e => (hb.block _ (lt_of_block (h.ac G d x z e))).trans (h.ac G d x z e)⟩
theorem St.noact (h : St w wX B R M lp ld A n c act) : St w wX B R M lp ld A n c none :=
  ⟨h.ir, h.bk, h.ow, h.ln, h.lm, h.lq, h.m20, h.gp, h.gd, h.bl, h.rt, fun G d x z e => (by cases e)⟩
theorem St.withact (h : St w wX B R M lp ld A n c act) (d : Int) (x : Nat) (z : Int) : St w (wX.alloc (.cells #[.int .u8 d, .int .u32 (x : Int), .int .i64 z] 38)) B R M lp ld A n c (some (wX.heap.size, d, x, z)) := by
  have h' := h.after ((Below.refl _ _).alloc (Nat.le_refl _) (.cells #[.int .u8 d, .int .u32 (x : Int), .int .i64 z] 38))
  refine ⟨h'.ir, h'.bk, h'.ow, h'.ln, h'.lm, h'.lq, h'.m20, h'.gp, h'.gd, h'.bl, h'.rt, fun G d x z e => ?_⟩
  injection e with e
  injection e with e1 e
  injection e with e2 e
  injection e with e3 e4
  subst e1 e2 e3 e4
  exact heap_alloc_new wX _
/-- The book went on, the document not yet. -/
theorem St.prog {vi vt vi' vt' : Value} {lq : List D.Rw} (h : St w wX B R M lp ld A n c act) (h3 : IsR wX R M vi vt (lp.map (·.1)) (lp.map (·.2))) (hc : ChR R vi vt wX wY) (hi : IsR wY R M vi' vt' (lq.map (·.1)) (lq.map (·.2))) (hq : (lq.length : Int) ≤ M) (hg : ∀ e ∈ lq, Good e) : St w wY B R M lq ld A n c act := by
  have keep : ∀ (g : Nat) (cc : Array Value) (TT : Nat), wX.heap[g]? = some (.cells cc TT (0, 0)) → TT ≠ 76 → TT ≠ 36 → TT ≠ 24 → wY.heap[g]? = wX.heap[g]? := fun g cc TT hg h1 h2 h4 => by
    refine hc.2.2 g (lt_of_block hg) (type_ne hg h3.row h1) (fun e => ?_) (fun e => ?_)
    · obtain ⟨cur, hcur⟩ := own_type h3.rio e.symm
      exact type_ne hg hcur h2 rfl
    · obtain ⟨cur, hcur⟩ := own_type h3.rto e.symm
      exact type_ne hg hcur h4 rfl
  refine ⟨⟨vi', vt', hi⟩, (keep B _ 67 h.bk (by decide) (by decide) (by decide)).trans h.bk, own_after h.ow fun g hg => ?_, h.ln, hq, h.lq, h.m20, hg, h.gd, h.bl.trans (hc.1.mono h.rt.1), h.rt, fun G d x z e => (keep G _ 38 (h.ac G d x z e) (by decide) (by decide) (by decide)).trans (h.ac G d x z e)⟩
  obtain ⟨cur, hcur⟩ := own_type h.ow hg
  exact keep g cur 73 hcur (by decide) (by decide) (by decide)
/-- The document went on. -/
theorem St.refd {B' : Option Addr} {m c' : Nat} {l' : List D.Rw} (h : St w wX B R M lp ld A n c act) (hb : Below wX.heap.size wX wY) (ho : wY.ownsRow wX.heap.size 73 4 (.slice B' m c') m (D.rr l')) (hq : (l'.length : Int) ≤ M) (hg : ∀ e ∈ l', Good e) : St w wY B R M lp l' B' m c' act := by
  have h' := h.after hb
  have hm : m = l'.length := by
    have h1 := ho.1
    rw [D.rr_len] at h1
    omega
  exact ⟨h'.ir, h'.bk, D.own_base h.bl.size ho, hm, h'.lm, hq, h'.m20, h'.gp, hg, h'.bl, h'.rt, h'.ac⟩
end
end Go.Proofs.YtfcogjdnnnpmdaaDoor
