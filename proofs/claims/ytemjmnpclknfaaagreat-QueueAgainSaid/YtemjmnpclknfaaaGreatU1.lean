/- Queue: a queue in memory; waiting, Len; tickets in a row of one's own. -/
import Derived.Test.YtemjmnpclknfaaaGreatTA
import Derived.Test.YtemjmnpclknfaaaGreatQ5
import Derived.Test.YtemjmnpclknfaaaGreatRB
import Derived.Test.YtemjmnpclknfaaaGreatQ3
namespace Go.Proofs.YtemjmnpclknfaaaGreat.T
open Go.RowKit
open Go.Proofs.YtemjmnpclknfaaaGreat.P (Sl un)
set_option maxRecDepth 20000
set_option linter.unusedVariables false
set_option linter.unusedSimpArgs false

/-- A ticket: its id, mode, players, rating, since when. -/
structure Tk where
  id : Nat
  md : Int
  mem : List Nat
  rt : Int
  sn : Int
def tk (e : Sl × Tk) : Mk := (e.2.id, e.2.md, e.1, e.2.rt, e.2.sn)
/-- A queue in memory: its block, its rack, what waits there. -/
structure Bq (w : World) (B R : Nat) (mo : Int) (vi : Value) (ms : Sl) (L : List Tk) : Prop where
  blk : ∃ cur, w.heap[B]? = some (.cells cur 68 (0, 0)) ∧ cur[13]? = some (.slice ms.a ms.n ms.c) ∧ cur[14]? = some (.pointer (some ⟨R, 0, none⟩))
  ex : ∃ vt ths, IsR w R mo vi vt (L.map (·.id)) ths ∧ ∀ (i : Nat) (p : Tk), L[i]? = some p → ∃ s : Sl, ths[i]? = some (tk (s, p)) ∧ P.Fl w R vi s p.mem
theorem Bq.after {w w' : World} {B R : Nat} {mo : Int} {vi : Value} {ms : Sl} {L : List Tk} (h : Bq w B R mo vi ms L) (hb : Below w.heap.size w w') : Bq w' B R mo vi ms L := by
  obtain ⟨⟨cur, h1, h2, h3⟩, vt, ths, h4, h5⟩ := h
  exact ⟨⟨cur, (hb.block B (lt_of_block h1)).trans h1, h2, h3⟩, vt, ths, h4.after hb, fun i p hp => by
    obtain ⟨s, e1, e2⟩ := h5 i p hp
    exact ⟨s, e1, e2.after hb⟩⟩
theorem Bq.ptr {w : World} {B R : Nat} {mo : Int} {vi : Value} {ms : Sl} {L : List Tk} (h : Bq w B R mo vi ms L) : w.cell? ⟨B, 14, none⟩ = some (.pointer (some ⟨R, 0, none⟩)) := by
  obtain ⟨⟨cur, h1, h2, h3⟩, _⟩ := h
  rw [cell_of_row w B 14 _ _ _ h1]
  exact h3
abbrev qp (B : Nat) : Value := .pointer (some ⟨B, 0, none⟩)
theorem waiting_any (B R : Nat) (mo : Int) (vi : Value) (ms : Sl) (L : List Tk) (w : World) (h : Bq w B R mo vi ms L) :
    Calls Tryz.prog 25 #[qp B] w fun r w' => r = .returned (qp R) ∧ w' = w := by
  have c := h.ptr
  clear h
  go_enter Tryz.func25, Tryz.ntmps25
  go_wp2
  go_ret
  exact ⟨rfl, by first | rfl | trivial⟩
theorem qlen_any (B R : Nat) (mo : Int) (vi : Value) (ms : Sl) (L : List Tk) (w : World) (h : Bq w B R mo vi ms L) :
    Calls Tryz.prog 22 #[qp B] w fun r w' => r = .returned (.int .i64 (L.length : Int)) ∧ w' = w := by
  have HW := Lib.hid (waiting_any B R mo vi ms L w h)
  obtain ⟨vt, ths, h4, _⟩ := h.ex
  have HL := Lib.hid (len_any R mo vi vt _ ths w h4)
  rw [List.length_map] at HL
  clear h h4
  go_enter Tryz.func22, Tryz.ntmps22
  go_wp2_with fail
  refine HW.out.mono ?_
  rintro r w1 ⟨rfl, hw⟩
  have hw := hw.symm
  subst hw
  go_wp2_with fail
  refine HL.out.mono ?_
  rintro r w1 ⟨rfl, hw⟩
  have hw := hw.symm
  subst hw
  go_wp2
  go_ret
  exact ⟨rfl, by first | rfl | trivial⟩
/-- What stands at the k-th id. -/
theorem get_at {B R : Nat} {mo : Int} {vi : Value} {ms : Sl} {L : List Tk} {w : World} (h : Bq w B R mo vi ms L) (hl : L.length ≤ 1000) {k : Nat} {e : Tk} (hk : L[k]? = some e) :
    Calls Tryz.prog 40 #[qp R, .int .u32 (e.id : Int)] w fun r w' => ∃ s : Sl, r = .returned (.tuple #[.agg (mC e.id e.md s e.rt e.sn), .bool true]) ∧ P.Fl w' R vi s e.mem ∧ Below w.heap.size w w' := by
  obtain ⟨vt, ths, h4, h5⟩ := h.ex
  have hid : (L.map (·.id))[k]? = some e.id := by rw [List.getElem?_map, hk]; rfl
  refine (get_there R mo vi vt _ ths e.id w h4 (by rw [List.length_map]; exact hl) (List.mem_of_getElem? hid)).mono ?_
  rintro r w' ⟨⟨p, y1, y2, y3, y4, y5, hp, ht, rfl⟩, hb⟩
  have hpk : p = k := by
    rcases Nat.lt_trichotomy p k with hh | hh | hh
    · have := h4.up p k _ _ hh hp hid; omega
    · exact hh
    · have := h4.up k p _ _ hh hid hp; omega
  subst hpk
  obtain ⟨s, e1, e2⟩ := h5 p e hk
  rw [ht] at e1
  injection e1 with e1
  simp only [tk, Prod.mk.injEq] at e1
  obtain ⟨rfl, rfl, rfl, rfl, rfl⟩ := e1
  exact ⟨_, rfl, e2.after hb, hb⟩
/-- Tickets in a row of one's own. -/
def Pw (w : World) (R : Nat) (vi : Value) (base : Nat) (A : Option Addr) (n c : Nat) (L : List Tk) : Prop := ∃ lf : List (Sl × Tk), lf.map (·.2) = L ∧ w.ownsRow base 39 5 (.slice A n c) n (mz (lf.map tk)) ∧ ∀ e ∈ lf, P.Fl w R vi e.1 e.2.mem
theorem Pw.nil {w : World} {R : Nat} {vi : Value} {base : Nat} : Pw w R vi base none 0 0 [] := ⟨[], rfl, World.ownsRow_nil w _ 39 5, fun _ h => by cases h⟩
theorem Pw.len {w : World} {R : Nat} {vi : Value} {base n c : Nat} {A : Option Addr} {L : List Tk} (h : Pw w R vi base A n c L) : n = L.length := by
  obtain ⟨lf, rfl, h2, _⟩ := h
  have := h2.1
  rw [mz_length, List.length_map] at this
  rw [List.length_map]
  omega
theorem Pw.after {w w' : World} {R : Nat} {vi : Value} {base n c : Nat} {A : Option Addr} {L : List Tk} (h : Pw w R vi base A n c L) (hb : Below w.heap.size w w') : Pw w' R vi base A n c L := by
  obtain ⟨lf, h1, h2, h3⟩ := h
  exact ⟨lf, h1, P.own_blk h2 hb, fun e he => (h3 e he).after hb⟩
theorem Pw.base {w : World} {R : Nat} {vi : Value} {b b' n c : Nat} {A : Option Addr} {L : List Tk} (h : Pw w R vi b A n c L) (hb : b' ≤ b) : Pw w R vi b' A n c L := by
  obtain ⟨lf, h1, h2, h3⟩ := h
  exact ⟨lf, h1, P.own_base' h2 hb, h3⟩
theorem wpList_append_tk {w : World} {ops : Array Oper} {rest : List Oper} {op : Oper} {a : Act} {Q : Exit → Act → World → Prop} (hgd : op.guard = none) (s x : Operand)
    (ho : op.op = .call { callee := .builtin .append, args := #[s, x], argTypes := #[59, 59] }) (R : Nat) (vi : Value) (base G : Nat) (B : Option Addr) (m c : Nat) (L : List Tk) (p : Tk) (ps : Sl) (hs : a.eval s = .slice B m c) (hx : a.eval x = .slice (some ⟨G, 0, none⟩) 1 1)
    (hP : Pw w R vi base B m c L) (hG : w.heap[G]? = some (.cells (mC p.id p.md ps p.rt p.sn) 39 (0, 0))) (hm : m ≤ 1000) (hbase : base ≤ w.heap.size) (f1 : P.Fl w R vi ps p.mem)
    (h : ∀ B' c' w', Pw w' R vi base B' (m + 1) c' (L ++ [p]) → w.grownBy w' (Value.slice B m c).ownBlock → (∀ g, (Value.slice B m c).ownBlock = some g → base ≤ g) → wpList Tryz.prog ops Q rest (a.put op.dst (.slice B' (m + 1) c')) w') : wpList Tryz.prog ops Q (op :: rest) a w := by
  refine wpList_plain hgd fun K hK => ?_
  obtain ⟨lf, rfl, hown, hfl⟩ := hP
  obtain ⟨i0, hi, hz0, hz1, hz2⟩ := info_parts info72
  obtain ⟨v', w', hr, h2, h3, _⟩ := run_append_own (P := Tryz.prog) w base 59 op.type 39 i0 _ 5 _ Tryz.underlying59 hi hz0 hz1 hz2 rfl (by decide) (.slice B m c) m (mz (lf.map tk)) hown ⟨G, 0, none⟩ 1 1 (mz [tk (ps, p)]) (by rw [mz_length]; rfl) (fun j x hx => by
    have := cell_of_row w G j _ _ _ hG
    rw [show (mC p.id p.md ps p.rt p.sn : Array Value) = (mz [tk (ps, p)]).toArray from rfl, List.getElem?_toArray, hx] at this
    rw [← this, Go.WideShapes.add_plain, Nat.zero_add]) (mz_one _) (by unfold maxLen; omega) (by omega) hbase
  obtain ⟨B', c', rfl⟩ := own_form1 h2
  have hnn : ∀ g, (Value.slice B m c).ownBlock = some g → ∀ cur, w.heap[g]? ≠ some (.cells cur 33 (0, 0)) := fun g hg cur e => by
    obtain ⟨cur', e'⟩ := own_type hown hg
    rw [e] at e'
    injection e' with e'
    injection e' with _ e'
    exact absurd e' (by decide)
  unfold Oper.wp execOp
  simp only [ho, resolve, invoke, builtin, Sem.run_bind, Sem.run_pure, Result.andThen_ok, List.map_toArray, List.map_cons, List.map_nil, hs, hx, hr]
  refine hK _ _ (h B' c' w' ⟨lf ++ [(ps, p)], by simp, by rw [List.map_append, mz_app]; exact h2, fun e he => ?_⟩ h3 (fun g hg => (ownlt hown g hg).1))
  rcases List.mem_append.1 he with he | he
  · exact (hfl e he).grown h3 hnn
  · simp at he
    subst he
    exact f1.grown h3 hnn
end Go.Proofs.YtemjmnpclknfaaaGreat.T
