/- Ledger: acts that came in; how things stand. -/
import Derived.Test.YticegnbdpihdpaaLN
import Derived.Deep.Strs
namespace Go.Proofs.Yticegnbdpihdpaa
open Go.RowKit Go.ChangeShapes Go.Maps
open Go.Joins
set_option maxRecDepth 20000
set_option linter.unusedVariables false

abbrev Ac := Nat × Ent × Int
def Ra (e : Ac) : Prop := e.1 < 256 ∧ BE e.2.1 ∧ -9223372036854775808 ≤ e.2.2 ∧ e.2.2 ≤ 9223372036854775807
def At6 (w : World) (b p : Nat) (e : Ac) : Prop := w.cell? ⟨b, p, none⟩ = some (.int .u8 (e.1 : Int)) ∧ w.cell? ⟨b, p + 1, none⟩ = some (.int .u64 (e.2.1.1 : Int)) ∧ w.cell? ⟨b, p + 2, none⟩ = some (.int .u32 (e.2.1.2.1 : Int)) ∧ w.cell? ⟨b, p + 3, none⟩ = some (.int .u32 (e.2.1.2.2.1 : Int)) ∧ w.cell? ⟨b, p + 4, none⟩ = some (.int .i64 e.2.1.2.2.2) ∧ w.cell? ⟨b, p + 5, none⟩ = some (.int .i64 e.2.2)
/-- The acts l lie from A on. -/
def As (w : World) (B : Nat) (A : Option Addr) (l : List Ac) : Prop :=
  0 < l.length → ∃ b o, A = some ⟨b, o, none⟩ ∧ b < B ∧ ∀ i e, l[i]? = some e → At6 w b (o + i * 6) e
theorem open_acts {H : Type} {enc : TypeId × Value → H} {W : World} {r : Reach} {b0 : Nat} {v : Value} {d : DataW H} {q : List MemPlace} (hv : Value.okWide Try.prog W r b0 22 v) (h : DataW.Trod enc Try.prog W 0 (fun _ => true) true 22 v d q) :
    ∃ (A : Option Addr) (c : Nat) (l : List Ac), v = .slice A l.length c ∧ As W W.heap.size A l ∧ l.length ≤ 9223372036854775807 ∧ ∀ e ∈ l, Ra e := by
  obtain ⟨A, n, c, rfl⟩ := WideShapes.okWide_slice Try.underlying22 hv
  obtain ⟨fuel, hf⟩ := h
  have c6 : Try.prog.cellsOf 31 = 6 := by kernel_rfl
  have k29 : Try.prog.cellsOf 29 = 4 := by kernel_rfl
  have k5 : Try.prog.cellsOf 5 = 1 := by kernel_rfl
  have k2 : Try.prog.cellsOf 2 = 1 := by kernel_rfl
  have k26 : Try.prog.cellsOf 26 = 1 := by kernel_rfl
  have k27 : Try.prog.cellsOf 27 = 1 := by kernel_rfl
  rcases Deep.open_slice Try.underlying22 hf with ⟨hcs, _⟩ | ⟨a, len, cap, m, k, D, Pl, hcs, _, hl, hm, hmm, _, hx⟩
  · simp [Value.cells] at hcs
    obtain ⟨rfl, rfl, rfl⟩ := hcs
    exact ⟨none, 0, [], rfl, fun h => by simp at h, by simp, fun e he => by cases he⟩
  · simp [Value.cells] at hcs
    obtain ⟨rfl, rfl, rfl⟩ := hcs
    rw [c6] at hx
    have each : ∀ i, i < n → ∃ e : Ac, Ra e ∧ W.cell? (a.add (i * 6)) = some (.int .u8 (e.1 : Int)) ∧ W.cell? (a.add (i * 6 + 1)) = some (.int .u64 (e.2.1.1 : Int)) ∧ W.cell? (a.add (i * 6 + 2)) = some (.int .u32 (e.2.1.2.1 : Int)) ∧ W.cell? (a.add (i * 6 + 3)) = some (.int .u32 (e.2.1.2.2.1 : Int)) ∧ W.cell? (a.add (i * 6 + 4)) = some (.int .i64 e.2.1.2.2.2) ∧ W.cell? (a.add (i * 6 + 5)) = some (.int .i64 e.2.2) := fun i hi => by
      obtain ⟨cs', h1, h2⟩ := hx i (by rw [hmm]; simp; omega)
      obtain ⟨_, hlen, hcell⟩ := World.cells?_some h1
      match cs', hlen with
      | [c0, c1, c2, c3, c4, c5], _ =>
        obtain ⟨z0, z1, z2, m', _, _, f0, f1, f2⟩ := Deep.trod_struct3 Try.underlying31 h2
        have f0 : DataW.trod enc Try.prog W 0 (fun _ => true) true m' 5 [c0] = some z0 := by simpa [k5] using f0
        have f1 : DataW.trod enc Try.prog W 0 (fun _ => true) true m' 29 [c1, c2, c3, c4] = some z1 := by simpa [k29] using f1
        have f2 : DataW.trod enc Try.prog W 0 (fun _ => true) true m' 2 [c5] = some z2 := by simpa [k2] using f2
        obtain ⟨y0, y1, y2, y3, m'', _, _, g0, g1, g2, g3⟩ := trod_struct4 Try.underlying29 f1
        have g0 : DataW.trod enc Try.prog W 0 (fun _ => true) true m'' 26 [c1] = some y0 := by simpa [k26] using g0
        have g1 : DataW.trod enc Try.prog W 0 (fun _ => true) true m'' 27 [c2] = some y1 := by simpa [k27] using g1
        have g2 : DataW.trod enc Try.prog W 0 (fun _ => true) true m'' 27 [c3] = some y2 := by simpa [k27] using g2
        have g3 : DataW.trod enc Try.prog W 0 (fun _ => true) true m'' 2 [c4] = some y3 := by simpa [k2] using g3
        obtain ⟨x0, e0, _, w0⟩ := DataW.trod_int Try.underlying5 f0
        obtain ⟨x1, e1, _, w1⟩ := DataW.trod_int Try.underlying26 g0
        obtain ⟨x2, e2, _, w2⟩ := DataW.trod_int Try.underlying27 g1
        obtain ⟨x3, e3, _, w3⟩ := DataW.trod_int Try.underlying27 g2
        obtain ⟨x4, e4, _, w4⟩ := DataW.trod_int Try.underlying2 g3
        obtain ⟨x5, e5, _, w5⟩ := DataW.trod_int Try.underlying2 f2
        simp only [List.cons.injEq, and_true] at e0 e1 e2 e3 e4 e5
        subst e0 e1 e2 e3 e4 e5
        have b0 := bounds_u8 w0
        have b1 := bounds_u64 w1
        have b2 := bounds_u32 w2
        have b3 := bounds_u32 w3
        have b4 := bounds_i64 w4
        have b5 := bounds_i64 w5
        have q0 := hcell 0 (by omega)
        have q1 := hcell 1 (by omega)
        have q2 := hcell 2 (by omega)
        have q3 := hcell 3 (by omega)
        have q4 := hcell 4 (by omega)
        have q5 := hcell 5 (by omega)
        rw [Deep.add_add] at q0 q1 q2 q3 q4 q5
        refine ⟨(x0.toNat, (x1.toNat, x2.toNat, x3.toNat, x4), x5), ⟨by show x0.toNat < _; omega, ⟨by show x1.toNat < _; omega, by show x2.toNat < _; omega, by show x3.toNat < _; omega, b4.1, b4.2⟩, b5.1, b5.2⟩, ?_, ?_, ?_, ?_, ?_, ?_⟩
        · simpa [show (x0.toNat : Int) = x0 by omega] using q0
        · simpa [show (x1.toNat : Int) = x1 by omega] using q1
        · simpa [show (x2.toNat : Int) = x2 by omega] using q2
        · simpa [show (x3.toNat : Int) = x3 by omega] using q3
        · simpa using q4
        · simpa using q5
    obtain ⟨f, hf⟩ := Deep.choose_lt each
    refine ⟨some a, c, (List.range n).map f, by simp, fun h0 => ?_, by unfold maxLen at hm; simp; omega, fun e he => ?_⟩
    · simp at h0
      have hc0 := (hf 0 h0).2.1
      obtain ⟨b, off, spot⟩ := a
      have hspot : spot = none := by simpa [Addr.add] using World.cell?_spot hc0
      subst hspot
      refine ⟨b, off, rfl, World.block_lt_of_cell? W ⟨b, off + 0 * 6, none⟩ (by rw [← Go.WideShapes.add_plain]; exact hc0), fun i e he => ?_⟩
      rw [List.getElem?_map] at he
      obtain ⟨i', hi', rfl⟩ := Option.map_eq_some_iff.1 he
      obtain ⟨hin, rfl⟩ := List.getElem?_eq_some_iff.1 hi'
      simp at hin
      simp only [List.getElem_range]
      obtain ⟨_, r0, r1, r2, r3, r4, r5⟩ := hf i hin
      rw [Go.WideShapes.add_plain] at r0 r1 r2 r3 r4 r5
      exact ⟨r0, r1, r2, r3, r4, r5⟩
    · obtain ⟨i, hi, rfl⟩ := List.mem_map.1 he
      exact (hf i (List.mem_range.1 hi)).1
/-- How things stand: the ledger and the document's rows. -/
structure St (w : World) (L M : Nat) (most : Int) (E : List Ent) (A : Option Addr) (m : Nat) (wr : World) : Prop where
  ls : Ls wr L M most E
  srt : Srt E
  len : m = E.length
  le : (m : Int) ≤ 30
  bd : ∀ e ∈ E, e.1 < 18446744073709551616
  ds : Ds wr A E
  M : w.heap.size ≤ M
  bel : Below w.heap.size w wr
theorem St.below {w W W' : World} {L M m : Nat} {most : Int} {E : List Ent} {A : Option Addr} (h : St w L M most E A m W) (hb : Below W.heap.size W W') : St w L M most E A m W' :=
  ⟨h.ls.below hb, h.srt, h.len, h.le, h.bd, h.ds.below hb, h.M, h.bel.trans (hb.mono h.bel.size)⟩
theorem Ls.map {w : World} {L M : Nat} {most : Int} {E : List Ent} (h : Ls w L M most E) : ∃ (es : Array MapEntry) (cl : Nat), w.heap[M]? = some (Obj.map es cl) := by
  obtain ⟨D, ⟨h1, es, clock, hb, _⟩, _⟩ := h
  exact ⟨es, clock, hb⟩
/-- An act: the ledger's part, then the document's. -/
theorem St.act {w W W1 W2 : World} {L M m m' : Nat} {most : Int} {E E' : List Ent} {A A' : Option Addr} (h : St w L M most E A m W) (h1 : Ls W1 L M most E') (hc : ChM M W W1) (h2 : Ds W2 A' E') (hb : Below W1.heap.size W1 W2) (hm : m' = E'.length) (hs : Srt E') (hl : (m' : Int) ≤ 30) (hbd : ∀ e ∈ E', e.1 < 18446744073709551616) : St w L M most E' A' m' W2 :=
  have b1 : Below w.heap.size w W1 := h.bel.trans (hc.1 _ h.M h.bel.size)
  ⟨h1.below hb, hs, hm, hl, hbd, h2, h.M, b1.trans (hb.mono b1.size)⟩
theorem St.mid {w W W1 : World} {L M m : Nat} {most : Int} {E : List Ent} {A : Option Addr} (h : St w L M most E A m W) (hc : ChM M W W1) : Ds W1 A E := h.ds.chm h.ls.map hc
theorem iss_srt {most : Int} {E : List Ent} {e : Ent} {now : Int} (h : Srt E) : Srt (issE most E e now).1 := by
  unfold issE
  split
  · exact h
  · split
    · exact h
    · split
      · exact h
      · exact insE_srt h (by simpa using ‹¬ anyN E e.1 = true›)
theorem iss_le {most : Int} {E : List Ent} {e : Ent} {now : Int} (hm : most ≤ 30) (h : (E.length : Int) ≤ 30) : ((issE most E e now).1.length : Int) ≤ 30 := by
  unfold issE
  split
  · exact h
  · split
    · exact h
    · split
      · exact h
      · rw [insE_len]; omega
theorem iss_bd {most : Int} {E : List Ent} {e : Ent} {now : Int} (h : ∀ y ∈ E, y.1 < 18446744073709551616) (he : e.1 < 18446744073709551616) : ∀ y ∈ (issE most E e now).1, y.1 < 18446744073709551616 := by
  unfold issE
  split
  · exact h
  · split
    · exact h
    · split
      · exact h
      · intro y hy
        rcases insE_mem.1 hy with hy | rfl
        · exact h y hy
        · exact he
theorem del_mem {n : Nat} {E : List Ent} {y : Ent} (h : y ∈ delE n E) : y ∈ E := (List.mem_filter.1 h).1
theorem sw_mem {now : Int} {E : List Ent} {y : Ent} (h : y ∈ swE now E) : y ∈ E := (List.mem_filter.1 h).1
theorem spe_of {E : List Ent} {n o a : Nat} {now : Int} (P : List Ent → Prop) (h1 : P E) (h2 : P (delE n E)) : P (speE E n o a now).1 := by
  unfold speE
  split
  · exact h1
  · split
    · exact h1
    · split
      · exact h1
      · exact h2
end Go.Proofs.Yticegnbdpihdpaa
