/- SHA-256: a hash in memory; a contract for take. -/
import Derived.Test.YtaefgieodehceaaDoorS4
import Derived.Deep.RegionLaw
import Derived.Deep.RegionHeld3
import Derived.Laws.AppendOwn
namespace Go.Proofs.YtaefgieodehceaaDoor.Sha
set_option maxRecDepth 4000
open Go.RowKit

/-- A hash's cells: its words, its block, how many are held, how many there were. -/
def hcells (ws : List W32) (bl : List UInt8) (held many : Nat) : List Value := wv ws ++ (bv bl ++ [.int .i64 (held : Int), .int .u64 (many : Int)])

/-- In block H lies the hash of the bytes l, its count being M. -/
def IsHM (w : World) (H : Nat) (l : List UInt8) (M : Nat) : Prop :=
  ∃ bl : List UInt8, bl.length = 64 ∧ bl.take (l.length % 64) = l.drop (64 * (l.length / 64)) ∧ w.heap[H]? = some (.cells (hcells (chain l (l.length / 64)) bl (l.length % 64) M).toArray 96 (0, 0))
def IsH (w : World) (H : Nat) (l : List UInt8) : Prop := IsHM w H l l.length

/-- The bytes p, at v, in a block other than H. -/
def Px (w : World) (H : Nat) (v : Value) (p : List UInt8) : Prop :=
  ∃ A c, v = .slice A p.length c ∧ p.length ≤ c ∧ (0 < p.length → ∃ b o, A = some ⟨b, o, none⟩ ∧ b ≠ H ∧ b < w.heap.size ∧ ∀ j u, (bv p)[j]? = some u → w.cell? ⟨b, o + j, none⟩ = some u)

theorem Px.grown {w w' : World} {H : Nat} {v : Value} {p : List UInt8} (h : Px w H v p) (hg : w.grownBy w' (some H)) : Px w' H v p := by
  obtain ⟨A, c, e, hc, hr⟩ := h
  refine ⟨A, c, e, hc, fun hp => ?_⟩
  obtain ⟨b, o, ha, hb, hl, hcell⟩ := hr hp
  refine ⟨b, o, ha, hb, Nat.lt_of_lt_of_le hl hg.size, fun j u hu => ?_⟩
  have hbk := hg.block b hl (fun e => hb (by injection e with e))
  have := hcell j u hu
  unfold World.cell? at this ⊢
  rw [hbk]
  exact this

theorem hcells_length (ws : List W32) (bl : List UInt8) (held many : Nat) (h1 : ws.length = 8) (h2 : bl.length = 64) : (hcells ws bl held many).length = 74 := by
  simp [hcells, wv, bv, h1, h2]
theorem hcells_many (ws : List W32) (bl : List UInt8) (held many m : Nat) (h1 : ws.length = 8) (h2 : bl.length = 64) : (hcells ws bl held many).set 73 (.int .u64 (m : Int)) = hcells ws bl held m := by
  unfold hcells
  rw [List.set_append_right _ _ (by simp [wv, h1]), List.set_append_right _ _ (by simp [wv, bv, h1, h2])]
  simp [wv, bv, h1, h2]
theorem hcells_held (ws : List W32) (bl : List UInt8) (held many m : Nat) (h1 : ws.length = 8) (h2 : bl.length = 64) : (hcells ws bl held many).set 72 (.int .i64 (m : Int)) = hcells ws bl m many := by
  unfold hcells
  rw [List.set_append_right _ _ (by simp [wv, h1]), List.set_append_right _ _ (by simp [wv, bv, h1, h2])]
  simp [wv, bv, h1, h2]
theorem hcells_get72 (ws : List W32) (bl : List UInt8) (held many : Nat) (h1 : ws.length = 8) (h2 : bl.length = 64) : (hcells ws bl held many)[72]? = some (.int .i64 (held : Int)) := by
  unfold hcells
  rw [List.getElem?_append_right (by simp [wv, h1]), List.getElem?_append_right (by simp [wv, bv, h1, h2])]
  simp [wv, bv, h1, h2]
theorem hcells_get73 (ws : List W32) (bl : List UInt8) (held many : Nat) (h1 : ws.length = 8) (h2 : bl.length = 64) : (hcells ws bl held many)[73]? = some (.int .u64 (many : Int)) := by
  unfold hcells
  rw [List.getElem?_append_right (by simp [wv, h1]), List.getElem?_append_right (by simp [wv, bv, h1, h2])]
  simp [wv, bv, h1, h2]
theorem hcells_splice (ws : List W32) (bl x : List UInt8) (held many : Nat) (h1 : ws.length = 8) (h2 : bl.length = 64) (h3 : held + x.length ≤ 64) :
    splice (hcells ws bl held many) (8 + held) (bv x) = hcells ws (splice bl held x) held many := by
  have hw : (wv ws).length = 8 := by simp [wv, h1]
  have hb : (bv bl).length = 64 := by simp [bv, h2]
  have hx : (bv x).length = x.length := by simp [bv]
  have e1 : (hcells ws bl held many).take (8 + held) = wv ws ++ (bv bl).take held := by
    unfold hcells
    rw [List.take_append, hw, List.take_of_length_le (by omega), show 8 + held - 8 = held by omega, List.take_append_of_le_length (by omega)]
  have e2 : (hcells ws bl held many).drop (8 + held + (bv x).length) = (bv bl).drop (held + x.length) ++ [.int .i64 (held : Int), .int .u64 (many : Int)] := by
    unfold hcells
    rw [List.drop_append, hw, List.drop_of_length_le (by omega), List.nil_append, hx, show 8 + held + x.length - 8 = held + x.length by omega, List.drop_append_of_le_length (by omega)]
  unfold splice
  rw [e1, e2]
  simp [hcells, bv]

/-- A copy into a row, as one step of a region that draws its order: the row is known, all else stays. -/
theorem step_copy_row {ops : Array Oper} {o : Oper} {a : Act} {w : World} {K : Act → World → Prop} {Q : Exit → Act → World → Prop} {E : Prop} (hgd : o.guard = none) (d s : Operand) (dT sT : TypeId)
    (ho : o.op = .call { callee := .builtin .copy, args := #[d, s], argTypes := #[dT, sT] }) (elem : TypeId) (hu : Tryd.prog.underlying dT = some (.slice elem)) (hsz : (Tryd.prog.info? elem).map (·.size) = some 1)
    (sp : Addr) (dLen dCap sLen sCap g off : Nat) (hd : a.eval d = .slice (some ⟨g, off, none⟩) dLen dCap) (hs : a.eval s = .slice (some sp) sLen sCap)
    (cur : List Value) (t : TypeId) (hg : w.heap[g]? = some (.cells cur.toArray t (0, 0))) (cs : List Value) (hn : cs.length = Nat.min sLen dLen)
    (hsrc : ∀ j v, cs[j]? = some v → w.cell? (sp.add j) = some v)
    (hfit : off + cs.length ≤ cur.length) (h1 : ∀ v ∈ cs, v.oneCell' = true)
    (h : ∀ w', Hid (w'.heap[g]? = some (.cells (splice cur off cs).toArray t (0, 0))) → w.grownBy w' (some g) → w'.heap.size = w.heap.size → K (a.put o.dst (goInt cs.length)) w') :
    if Region.wanted o (yielded ops a.tmps) = true then Oper.wp Tryd.prog o a w K Q else E := by
  have hw : Region.wanted o (yielded ops a.tmps) = true := by simp [Region.wanted, hgd]
  rw [if_pos hw]
  have hrun := run_copy_row (P := Tryd.prog) w dT sT o.type elem g off dLen dCap sp sLen sCap cur.toArray t cs hu hsz hg hn hsrc (by simpa using hfit) h1
  unfold Oper.wp
  simp [execOp, ho, resolve, invoke, builtin, hd, hs, hrun, Result.andThen]
  exact h _ (show _ = _ by simpa [splice] using setRow_heap w g _ _ t _ hg) ⟨rfl, rfl, rfl, by simp, fun k hk hr => setRow_other w g k _ (fun e => hr (by rw [e]))⟩ (by simp)

/-- A whole row out of the middle of a block, as one step of a region that draws its order. -/
theorem step_load_mid {ops : Array Oper} {op : Oper} {a : Act} {w : World} {K : Act → World → Prop} {Q : Exit → Act → World → Prop} {E : Prop} (hgd : op.guard = none) (ty : TypeId) (x : Operand) (ho : op.op = .load ty x)
    (b o : Nat) (hx : a.eval x = .pointer (some ⟨b, o, none⟩)) (cs : List Value) (d : TypeDesc) (hc : w.rangeAt b o cs)
    (hu : Tryd.prog.underlying ty = some d) (hd : d.isRow = true) (hi : (Tryd.prog.info? ty).map (·.size) = some cs.length)
    (h : K (a.put op.dst (.agg cs.toArray)) w) : if Region.wanted op (yielded ops a.tmps) = true then Oper.wp Tryd.prog op a w K Q else E := by
  have hw : Region.wanted op (yielded ops a.tmps) = true := by simp [Region.wanted, hgd]
  rw [if_pos hw]
  exact wp_load_mid ty x ho b o hx cs d hc hu hd hi h
/-- A whole row into the front of a block that is known whole. -/
theorem step_store_front {ops : Array Oper} {op : Oper} {a : Act} {w : World} {K : Act → World → Prop} {Q : Exit → Act → World → Prop} {E : Prop} (hgd : op.guard = none) (ty : TypeId) (x y : Operand) (ho : op.op = .store ty x y)
    (b : Nat) (cs : List Value) (hx : a.eval x = .pointer (some ⟨b, 0, none⟩)) (hy : a.eval y = .agg cs.toArray) (old rest : List Value) (t : TypeId) (hg : w.heap[b]? = some (.cells (old ++ rest).toArray t (0, 0)))
    (hl : old.length = cs.length) (hi : (Tryd.prog.info? ty).map (·.size) = some cs.length) (h1 : ∀ v ∈ cs, v.oneCell' = true)
    (h : ∀ w', Hid (w'.heap[b]? = some (.cells (cs ++ rest).toArray t (0, 0))) → w.grownBy w' (some b) → w'.heap.size = w.heap.size → K (a.put op.dst undef) w') : if Region.wanted op (yielded ops a.tmps) = true then Oper.wp Tryd.prog op a w K Q else E := by
  have hw : Region.wanted op (yielded ops a.tmps) = true := by simp [Region.wanted, hgd]
  rw [if_pos hw]
  have hst := run_storeCells_at Tryd.prog b 0 t cs 0 (old ++ rest).toArray w hg (by simp; omega) h1
  cases hq : Tryd.prog.info? ty with
  | none => simp [hq] at hi
  | some i =>
    have hs : i.size = cs.length := by simpa [hq] using hi
    unfold Oper.wp execOp
    have hsv : (storeVar ty ⟨b, 0, none⟩ (.agg cs.toArray)).run Tryd.prog w = .ok () (w.setRow b ((old ++ rest).toArray.toList.take (0 + 0) ++ cs ++ (old ++ rest).toArray.toList.drop (0 + 0 + cs.length)).toArray) := by
      simp [storeVar, Value.cells, sizeOf, typeInfo, hq, hs] at hst ⊢
      exact hst
    simp only [ho, hx, hy, Instr.storeAt, Instr.sureAddr, Sem.run_bind, Sem.run_pure, Result.andThen_ok, hsv]
    refine h _ ?_ ⟨rfl, rfl, rfl, by simp, fun k hk hr => setRow_other w b k _ (fun e => hr (by rw [e]))⟩ (by simp)
    show _ = _
    rw [setRow_heap w b _ _ t _ hg]
    simp [← hl]

theorem grownBy_trans {a b c : World} {row : Option Nat} (h : a.grownBy b row) (k : b.grownBy c row) : a.grownBy c row :=
  ⟨k.os.trans h.os, k.tape.trans h.tape, k.output.trans h.output, Nat.le_trans h.size k.size, fun i hi hr => (k.block i (Nat.lt_of_lt_of_le hi h.size) hr).trans (h.block i hi hr)⟩
theorem grownBy_set (w : World) (G i : Nat) (u : Value) : w.grownBy (w.setCell ⟨G, i, none⟩ u) (some G) :=
  ⟨rfl, rfl, rfl, by simp [World.setCell], fun k hk hr => heap_setCell_other w _ k u (fun e => hr (by rw [e]))⟩

theorem run_sliceAt_block (w : World) (H m : Nat) (hm : m < 64) :
    (Instr.sliceAt 63 (.pointer (some ⟨H, 8, none⟩)) (some (.int .i64 (m : Int))) Option.none Option.none).run Tryd.prog w = .ok (.slice (some ⟨H, 8 + m, none⟩) (64 - m) (64 - m)) w := by
  cases hq : Tryd.prog.info? 5 with
  | none => exact absurd Tryd.size5 (by simp [hq])
  | some i =>
    have h1 : i.size = 1 := by simpa [hq] using Tryd.size5
    have h2 : ¬ (64 < (m : Int)) := by omega
    have h3 : (m : Int) ≤ 64 := by omega
    simp [Instr.sliceAt, Instr.sureAddr, Sem.run_bind, run_underlying Tryd.underlying63, Instr.sliceBounds, run_sliceBound, sizeOf, typeInfo, hq, h1, h3, show ¬ (64 = m) by omega, Addr.add_mid]

def TakePost (w : World) (H : Nat) (l : List UInt8) (e : Ending) (w' : World) : Prop := e = .returned (.tuple #[]) ∧ IsH w' H l ∧ w.grownBy w' (some H)

/-- How long a slice is. -/
def lenOf : Value → Nat
  | .slice _ n _ => n
  | _ => 0

theorem take_splice {bl x : List UInt8} {m : Nat} (h : m ≤ bl.length) : (splice bl m x).take (m + x.length) = bl.take m ++ x := by
  have e : (bl.take m).length = m := by simp; omega
  unfold splice
  rw [List.take_append, e, List.take_of_length_le (by omega), show m + x.length - m = x.length by omega, List.take_append_of_le_length (Nat.le_refl _), List.take_length]
theorem chain_more {L x bl : List UInt8} {m : Nat} (hb : bl.length = 64) (hm : m = L.length % 64) (h2 : bl.take m = L.drop (64 * (L.length / 64))) (hx : m + x.length < 64) :
    (L ++ x).length % 64 = m + x.length ∧ (L ++ x).length / 64 = L.length / 64 ∧ (splice bl m x).take (m + x.length) = (L ++ x).drop (64 * (L.length / 64)) ∧ chain (L ++ x) (L.length / 64) = chain L (L.length / 64) := by
  refine ⟨by rw [List.length_append]; omega, by rw [List.length_append]; omega, ?_, chain_append _ _ _ (by omega)⟩
  rw [take_splice (by omega), h2, List.drop_append_of_le_length (by omega)]
theorem chain_full {L x bl : List UInt8} {m : Nat} (hb : bl.length = 64) (hm : m = L.length % 64) (h2 : bl.take m = L.drop (64 * (L.length / 64))) (hx : m + x.length = 64) :
    (L ++ x).length % 64 = 0 ∧ (L ++ x).length / 64 = L.length / 64 + 1 ∧ chain (L ++ x) (L.length / 64 + 1) = stepP (chain L (L.length / 64)) (splice bl m x) := by
  refine ⟨by rw [List.length_append]; omega, by rw [List.length_append]; omega, ?_⟩
  have e : ((L ++ x).drop (64 * (L.length / 64))).take 64 = splice bl m x := by
    rw [List.drop_append_of_le_length (by omega), ← h2]
    have h3 := take_splice (x := x) (m := m) (bl := bl) (by omega)
    rw [hx, List.take_of_length_le (by rw [length_splice _ _ _ (by omega)]; omega)] at h3
    rw [h3, List.take_of_length_le (by rw [List.length_append, List.length_take]; omega)]
  simp only [chain, e]
  rw [chain_append _ _ _ (by omega)]
theorem mk_more {w : World} {H M m : Nat} {L x bl bl2 : List UInt8} {ws : List W32} (hb : bl.length = 64) (hm : m = L.length % 64) (h2 : bl.take m = L.drop (64 * (L.length / 64))) (hx : m + x.length < 64)
    (hws : ws = chain L (L.length / 64)) (hbl : bl2 = splice bl m x) (hr : w.heap[H]? = some (.cells (hcells ws bl2 (m + x.length) M).toArray 96 (0, 0))) : IsHM w H (L ++ x) M := by
  obtain ⟨e1, e2, e3, e4⟩ := chain_more (x := x) hb hm h2 hx
  refine ⟨bl2, by rw [hbl, length_splice _ _ _ (by omega), hb], ?_, ?_⟩
  · rw [e1, e2, hbl, e3]
  · rw [e1, e2, e4, ← hws]
    exact hr
theorem mk_full {w : World} {H M m : Nat} {L x bl bl2 : List UInt8} {ws : List W32} (hb : bl.length = 64) (hm : m = L.length % 64) (h2 : bl.take m = L.drop (64 * (L.length / 64))) (hx : m + x.length = 64)
    (hws : ws = chain L (L.length / 64)) (hbl : bl2 = splice bl m x) (hr : w.heap[H]? = some (.cells (hcells (stepP ws bl2) bl2 0 M).toArray 96 (0, 0))) : IsHM w H (L ++ x) M := by
  obtain ⟨e1, e2, e3⟩ := chain_full (x := x) hb hm h2 hx
  refine ⟨bl2, by rw [hbl, length_splice _ _ _ (by omega), hb], ?_, ?_⟩
  · rw [e1, e2, List.take_zero, List.drop_of_length_le (by rw [List.length_append]; omega)]
  · rw [e1, e2, e3, ← hws, ← hbl]
    exact hr
theorem px_next {wr w' : World} {H b o n c3 : Nat} {q : List UInt8} {A1 : Option Addr} (hc : ∀ (j : Nat) (u : Value), (bv q)[j]? = some u → wr.cell? ⟨b, o + j, none⟩ = some u) (hb : b ≠ H) (hlt : b < wr.heap.size)
    (hA : A1 = if c3 = 0 then some ⟨b, o, none⟩ else some ⟨b, o + n, none⟩) (hn : n ≤ q.length) (hq : q.length ≤ n + c3) (hg : wr.grownBy w' (some H)) : Px w' H (.slice A1 (q.length - n) c3) (q.drop n) := by
  refine ⟨A1, c3, by rw [List.length_drop], by rw [List.length_drop]; omega, fun h0 => ?_⟩
  rw [List.length_drop] at h0
  rw [if_neg (by omega)] at hA
  refine ⟨b, o + n, hA, hb, Nat.lt_of_lt_of_le hlt hg.size, fun j u hu => ?_⟩
  have hbk := hg.block b hlt (fun e => hb (by injection e with e))
  have h1 := hc (n + j) u (by
    rw [← hu]
    simp [bv])
  unfold World.cell? at h1 ⊢
  rw [hbk, Nat.add_assoc]
  exact h1

set_option linter.unusedSimpArgs false
set_option maxHeartbeats 4000000 in
set_option maxRecDepth 4000 in
theorem take_any (H : Nat) (l p : List UInt8) (v : Value) (w : World) (hh : IsH w H l) (hp : Px w H v p) (hk : Kt w) (hH : 1 < H) (hlen : l.length + p.length ≤ 1000000) :
    Calls Tryd.prog 42 #[.pointer (some ⟨H, 0, none⟩), v] w (TakePost w H (l ++ p)) := by
  obtain ⟨A, c, rfl, hc, hr⟩ := hp
  obtain ⟨bl, hb1, hb2, hrow⟩ := hh
  have hcl := chain_length l (l.length / 64)
  have c73 : w.cell? ⟨H, 73, none⟩ = some (.int .u64 (l.length : Int)) := by
    rw [cell_of_row w H 73 _ _ _ hrow]
    simpa using hcells_get73 _ _ _ _ hcl hb1
  have f0 : ∀ i, w.frozen? ⟨H, i, none⟩ = false := fun i => frozen_of_row w H i _ _ hrow
  go_enter Tryd.func42, Tryd.ntmps42
  go_wp2_with fail
  have hrow2 := heap_setCell_same w H 73 _ 96 (.int .u64 ((l.length : Int) + (p.length : Int))) hrow
  have hst : IsHM (w.setCell ⟨H, 73, none⟩ (.int .u64 ((l.length : Int) + (p.length : Int)))) H (l ++ p.take 0) (l.length + p.length) := by
    rw [List.take_zero, List.append_nil]
    refine ⟨bl, hb1, hb2, ?_⟩
    rw [hrow2]
    congr 2
    have := hcells_many (chain l (l.length / 64)) bl (l.length % 64) l.length (l.length + p.length) hcl hb1
    rw [← this]
    simp
  have hpx : Px (w.setCell ⟨H, 73, none⟩ (.int .u64 ((l.length : Int) + (p.length : Int)))) H (.slice A p.length c) (p.drop 0) := Px.grown (w := w) ⟨A, c, rfl, hc, hr⟩ (grownBy_set _ _ _ _)
  have HST := Lib.hid hst
  have HPX := Lib.hid hpx
  have HK := Lib.hid hk
  clear hrow2 hst hpx hrow hb1 hb2 hr c73 f0 hcl hk
  go_loopw [1] (fun v wr => ∃ i : Nat, i ≤ p.length ∧ Hid (Px wr H v (p.drop i)) ∧ Hid (IsHM wr H (l ++ p.take i) (l.length + p.length)) ∧ w.grownBy wr (some H)) (fun v _ => lenOf v)
  case atStart => exact ⟨0, by omega, HPX, HST, grownBy_set _ _ _ _⟩
  case round =>
    clear HST HPX
    obtain ⟨i, hi, hpx, hst, hg⟩ := hrel
    obtain ⟨A, c2, rfl, hc2, hr⟩ := hpx.out
    obtain ⟨q, hq⟩ : ∃ q, q = p.drop i := ⟨_, rfl⟩
    rw [← hq] at hc2 hr ⊢
    have hql : q.length = p.length - i := by rw [hq]; simp
    have HQ := Lib.hid hq
    clear hq hpx
    by_cases hlt : 0 < q.length
    · obtain ⟨b, o, rfl, hbH, hbw, hcells⟩ := hr hlt
      obtain ⟨L, hL⟩ : ∃ L, L = l ++ p.take i := ⟨_, rfl⟩
      rw [← hL] at hst
      have hLl : L.length = l.length + i := by rw [hL]; simp; omega
      obtain ⟨M, hM⟩ : ∃ M, M = l.length + p.length := ⟨_, rfl⟩
      rw [← hM] at hst ⊢
      obtain ⟨bl, hb1, hb2, hrow⟩ := hst.out
      have hcl := chain_length L (L.length / 64)
      obtain ⟨ws, hws⟩ : ∃ ws, ws = chain L (L.length / 64) := ⟨_, rfl⟩
      rw [← hws] at hrow hcl
      obtain ⟨m, hm⟩ : ∃ m, m = L.length % 64 := ⟨_, rfl⟩
      rw [← hm] at hrow hb2
      have hm64 : m < 64 := by omega
      obtain ⟨n, hn⟩ : ∃ n, n = Nat.min q.length (64 - m) := ⟨_, rfl⟩
      have hn1 : 1 ≤ n ∧ n ≤ q.length ∧ m + n ≤ 64 ∧ (n = q.length ∨ m + n = 64) := by
        have e : n = min q.length (64 - m) := hn
        omega
      have hxl : (bv (q.take n)).length = n := by simp [bv]; omega
      have c72 : wr.cell? ⟨H, 72, none⟩ = some (.int .i64 (m : Int)) := by
        rw [cell_of_row wr H 72 _ _ _ hrow]
        simpa using hcells_get72 _ _ _ _ hcl hb1
      have f0 : ∀ i, wr.frozen? ⟨H, i, none⟩ = false := fun i => frozen_of_row wr H i _ _ hrow
      have h72 : ¬ (m : Int) = 64 := by omega
      have HROW := Lib.hid hrow
      have HCELLS := Lib.hid hcells
      have HXL := Lib.hid hxl
      have HN := Lib.hid hn
      have HB1 := Lib.hid hb1
      have HB2 := Lib.hid hb2
      have HCL := Lib.hid hcl
      have HWS := Lib.hid hws
      have HM2 := Lib.hid hm
      have HLL := Lib.hid hL
      have HMM := Lib.hid hM
      have HQL := Lib.hid hql
      clear hrow hcells hxl hn hb1 hb2 hcl hws hm hL hM hst hr hql
      go_wp2_with fail
      have hsrc : ∀ j u, (bv (q.take n))[j]? = some u → wr.drew.cell? ((⟨b, o, none⟩ : Addr).add j) = some u := fun j u hu => by
        rw [Addr.add_mid]
        refine HCELLS.out j u ?_
        have hj := (List.getElem?_eq_some_iff.1 hu).1
        rw [← hu]
        simp only [bv, List.map_take, List.getElem?_take]
        rw [HXL.out] at hj
        rw [if_pos hj]
      have HSRC := Lib.hid hsrc
      have hfit : 8 + m + (bv (q.take n)).length ≤ (hcells ws bl m M).length := by
        rw [HXL.out, hcells_length _ _ _ _ HCL.out HB1.out]
        omega
      have HFIT := Lib.hid hfit
      have HNN := Lib.hid (show (bv (q.take n)).length = Nat.min q.length (64 - m) by rw [HXL.out]; exact HN.out)
      have HONE := Lib.hid (show ∀ v ∈ bv (q.take n), v.oneCell' = true by
        intro v hv
        simp only [bv, List.mem_map] at hv
        obtain ⟨_, _, rfl⟩ := hv
        rfl)
      have HROWD := Lib.hid (show wr.drew.heap[H]? = some (.cells (hcells ws bl m M).toArray 96 (0, 0)) from HROW.out)
      clear hsrc hfit
      have hsl := fun W => run_sliceAt_block W H m hm64
      go_region_law (first
        | (refine step_copy_row rfl (.tmp 25) (.tmp 26) 22 22 rfl 5 Tryd.underlying22 Tryd.size5 ⟨b, o, none⟩ (64 - m) (64 - m) q.length c2 H (8 + m) rfl rfl (hcells ws bl m M) 96 HROWD.out (bv (q.take n)) HNN.out HSRC.out HFIT.out HONE.out ?_; intro w2 hrow2 hg2 hz2)
        | fail)
      rw [HXL.out]
      obtain ⟨bl2, hbl2⟩ : ∃ bl2, bl2 = splice bl m (q.take n) := ⟨_, rfl⟩
      have hbl64 : bl2.length = 64 := by
        rw [hbl2, length_splice _ _ _ (by rw [HB1.out, List.length_take]; omega), HB1.out]
      have hr2 := hrow2.out
      rw [hcells_splice _ _ _ _ _ HCL.out HB1.out (by simp; omega), ← hbl2] at hr2
      have c72 : w2.cell? ⟨H, 72, none⟩ = some (.int .i64 (m : Int)) := by
        rw [cell_of_row w2 H 72 _ _ _ hr2]
        simpa using hcells_get72 _ _ _ _ HCL.out hbl64
      have f2 : ∀ i, w2.frozen? ⟨H, i, none⟩ = false := fun i => frozen_of_row w2 H i _ _ hr2
      have hr3 := heap_setCell_same w2 H 72 _ 96 (.int .i64 ((m + n : Nat) : Int)) hr2
      rw [show (hcells ws bl2 m M).toArray.setIfInBounds 72 (.int .i64 ((m + n : Nat) : Int)) = (hcells ws bl2 (m + n) M).toArray by
        rw [← hcells_held ws bl2 m M (m + n) HCL.out hbl64]
        simp] at hr3
      have HR3 := Lib.hid hr3
      have HBL2 := Lib.hid hbl2
      have HBL64 := Lib.hid hbl64
      clear hr2 hr3 hbl2 hbl64 hrow2 hsl HSRC HFIT HNN HONE HROWD
      obtain ⟨c3, hc3⟩ : ∃ c3, c2 = n + c3 := ⟨c2 - n, by omega⟩
      subst hc3
      go_upto_region 5 with (fail)
      obtain ⟨A1, hA1⟩ : ∃ A1, A1 = (if c3 = 0 then some (⟨b, o, none⟩ : Addr) else some ⟨b, o + n, none⟩) := ⟨_, rfl⟩
      rw [← hA1]
      obtain ⟨w3, hw3⟩ : ∃ w3, w3 = w2.setCell ⟨H, 72, none⟩ (.int .i64 ((m : Int) + (n : Int))) := ⟨_, rfl⟩
      rw [← hw3]
      have hr3 := HR3.out
      rw [show ((m + n : Nat) : Int) = (m : Int) + (n : Int) by omega, ← hw3] at hr3
      have hg3 : wr.grownBy w3 (some H) := by
        rw [hw3]
        exact grownBy_trans (b := w2) ⟨hg2.os, hg2.tape, hg2.output, hg2.size, hg2.block⟩ (grownBy_set _ _ _ _)
      have hz3 : w3.heap.size = wr.heap.size := by
        rw [hw3]
        simpa [World.setCell] using hz2
      have HA1 := Lib.hid hA1
      have HG3 := Lib.hid hg3
      have HR3' := Lib.hid hr3
      have c72 : w3.cell? ⟨H, 72, none⟩ = some (.int .i64 ((m : Int) + (n : Int))) := by
        rw [cell_of_row w3 H 72 _ _ _ hr3]
        have := hcells_get72 ws bl2 (m + n) M HCL.out HBL64.out
        rw [show ((m + n : Nat) : Int) = (m : Int) + (n : Int) by omega] at this
        simpa using this
      have f3 : ∀ i, w3.frozen? ⟨H, i, none⟩ = false := fun i => frozen_of_row w3 H i _ _ hr3
      clear hA1 hw3 hr3 f2 f0 HR3 HG3 hg2 hz2
      have HG3 := Lib.hid hg3
      clear hg3
      by_cases hful : m + n = 64
      · have t1 : (((m : Int) + (n : Int)) == 64) = true := by rw [beq_iff_eq]; omega
        go_upto_region 6 with (fail)
        have hra : w3.drew.rangeAt H 0 (wv ws) := fun j u hu => by
          have hj := (List.getElem?_eq_some_iff.1 hu).1
          rw [cell_of_row w3.drew H (0 + j) _ _ _ HR3'.out, Nat.zero_add, List.getElem?_toArray]
          unfold hcells
          rw [List.getElem?_append_left hj, hu]
        have hrb : w3.drew.rangeAt H 8 (bv bl2) := fun j u hu => by
          have hj := (List.getElem?_eq_some_iff.1 hu).1
          have hwl : (wv ws).length = 8 := by simp [wv, HCL.out]
          rw [cell_of_row w3.drew H (8 + j) _ _ _ HR3'.out, List.getElem?_toArray]
          unfold hcells
          rw [List.getElem?_append_right (by omega), hwl, show 8 + j - 8 = j by omega, List.getElem?_append_left hj, hu]
        have HRA := Lib.hid hra
        have HRB := Lib.hid hrb
        have J1 := Lib.hid (show (Tryd.prog.info? 92).map (·.size) = some (wv ws).length by rw [Tryd.size92]; simp [wv, HCL.out])
        have J2 := Lib.hid (show (Tryd.prog.info? 63).map (·.size) = some (bv bl2).length by rw [Tryd.size63]; simp [bv, HBL64.out])
        have hkt : Kt w3.drew := fun k hk => by
          have h1 := HK.out k hk
          have hlt := World.block_lt_of_cell? w _ h1
          have h2 := hg.block 1 hlt (fun e => by injection e with e; omega)
          have h3 := HG3.out.block 1 (Nat.lt_of_lt_of_le hlt hg.size) (fun e => by injection e with e; omega)
          have h4 : w3.drew.heap[1]? = w.heap[1]? := h3.trans h2
          unfold World.cell? at h1 ⊢
          rw [h4]
          exact h1
        have hsp := step_any ws HCL.out bl2 HBL64.out w3.drew hkt (by have := lt_of_block' HR3'.out; simp; omega)
        have HSP := Lib.hid hsp
        clear hra hrb hkt hsp
        have SLEN := Lib.hid (show (wv ws).length = (wv (stepP ws bl2)).length by simp [wv, HCL.out, stepP_length _ _ HCL.out])
        have SINF := Lib.hid (show (Tryd.prog.info? 92).map (·.size) = some (wv (stepP ws bl2)).length by rw [Tryd.size92]; simp [wv, stepP_length _ _ HCL.out])
        have SONE := Lib.hid (show ∀ v ∈ wv (stepP ws bl2), v.oneCell' = true by
          intro v hv
          simp only [wv, List.mem_map] at hv
          obtain ⟨_, _, rfl⟩ := hv
          rfl)
        refine wp_region_any (by kernel_rfl) ?_
        change wpAny _ _ _ _ _ _ _ (World.drew _)
        obtain ⟨W0, hW0⟩ : ∃ W0, W0 = w3.drew := ⟨_, rfl⟩
        have hra0 := HRA.out
        have hrb0 := HRB.out
        have hsp := HSP.out
        rw [← hW0] at hra0 hrb0 hsp ⊢
        have hrow0 : W0.heap[H]? = some (.cells (hcells ws bl2 (m + n) M).toArray 96 (0, 0)) := by rw [hW0]; exact HR3'.out
        have hg0 : wr.grownBy W0 (some H) := by rw [hW0]; exact ⟨HG3.out.os, HG3.out.tape, HG3.out.output, HG3.out.size, HG3.out.block⟩
        have HRA0 := Lib.hid hra0
        have HRB0 := Lib.hid hrb0
        have HSP0 := Lib.hid hsp
        have HROW0 := Lib.hid hrow0
        have HG0 := Lib.hid hg0
        clear hW0 hra0 hrb0 hsp hrow0 hg0 HRA HRB HSP HR3' HG3
        refine wpAny_take (i := 0) (oi := ?oi0) (v := ?v0) ?hi0 ?hs0 ?hf0 ?hr0 ?hQ0 ?hy0 ?h0
        case hi0 => exact (by simp only [List.getElem?_toArray, List.getElem?_cons_zero]; rfl)
        case hs0 => kernel_rfl
        case hf0 => kernel_rfl
        case hr0 => kernel_rfl
        case hQ0 => exact fun _ _ _ h => h
        case hy0 =>
          refine Or.inl ⟨rfl, ?_⟩
          intro W
          go_simp
          try with_reducible rfl
        try simp only [Act.put, List.setIfInBounds_toArray, List.set_cons_zero, List.set_cons_succ]
        refine wpAny_take (i := 1) (oi := ?oi1) (v := ?v1) ?hi1 ?hs1 ?hf1 ?hr1 ?hQ1 ?hy1 ?h1
        case hi1 => exact (by simp only [List.getElem?_toArray, List.getElem?_cons_succ, List.getElem?_cons_zero]; rfl)
        case hs1 => kernel_rfl
        case hf1 => kernel_rfl
        case hr1 => kernel_rfl
        case hQ1 => exact fun _ _ _ h => h
        case hy1 =>
          refine Or.inl ⟨rfl, ?_⟩
          intro W
          go_simp
          try with_reducible rfl
        try simp only [Act.put, List.setIfInBounds_toArray, List.set_cons_zero, List.set_cons_succ]
        refine wpAny_take (i := 2) (oi := ?oi2) (v := ?v2) ?hi2 ?hs2 ?hf2 ?hr2 ?hQ2 ?hy2 ?h2
        case hi2 => exact (by simp only [List.getElem?_toArray, List.getElem?_cons_succ, List.getElem?_cons_zero]; rfl)
        case hs2 => kernel_rfl
        case hf2 => kernel_rfl
        case hr2 => kernel_rfl
        case hQ2 => exact fun _ _ _ h => h
        case hy2 =>
          refine Or.inl ⟨rfl, ?_⟩
          intro W
          go_simp
          try with_reducible rfl
        try simp only [Act.put, List.setIfInBounds_toArray, List.set_cons_zero, List.set_cons_succ]
        refine wpAny_take (i := 3) (oi := ?oi3) (v := ?v3) ?hi3 ?hs3 ?hf3 ?hr3 ?hQ3 ?hy3 ?h3
        case hi3 => exact (by simp only [List.getElem?_toArray, List.getElem?_cons_succ, List.getElem?_cons_zero]; rfl)
        case hs3 => kernel_rfl
        case hf3 => kernel_rfl
        case hr3 => kernel_rfl
        case hQ3 => exact fun _ _ _ h => h
        case hy3 =>
          refine Or.inl ⟨rfl, ?_⟩
          intro W
          go_simp
          try with_reducible rfl
        try simp only [Act.put, List.setIfInBounds_toArray, List.set_cons_zero, List.set_cons_succ]
        refine wpAny_take (i := 5) (oi := ?oi5) (v := ?v5) ?hi5 ?hs5 ?hf5 ?hr5 ?hQ5 ?hy5 ?h5
        case hi5 => exact (by simp only [List.getElem?_toArray, List.getElem?_cons_succ, List.getElem?_cons_zero]; rfl)
        case hs5 => kernel_rfl
        case hf5 => kernel_rfl
        case hr5 => kernel_rfl
        case hQ5 => exact fun _ _ _ h => h
        case hy5 =>
          refine Or.inl ⟨rfl, ?_⟩
          intro W
          go_simp
          try with_reducible rfl
        try simp only [Act.put, List.setIfInBounds_toArray, List.set_cons_zero, List.set_cons_succ]
        refine wpAny_take (i := 6) (oi := ?oi6) (v := ?v6) ?hi6 ?hs6 ?hf6 ?hr6 ?hQ6 ?hy6 ?h6
        case hi6 => exact (by simp only [List.getElem?_toArray, List.getElem?_cons_succ, List.getElem?_cons_zero]; rfl)
        case hs6 => kernel_rfl
        case hf6 => kernel_rfl
        case hr6 => kernel_rfl
        case hQ6 => exact fun _ _ _ h => h
        case hy6 =>
          refine Or.inl ⟨rfl, ?_⟩
          intro W
          go_simp
          try with_reducible rfl
        try simp only [Act.put, List.setIfInBounds_toArray, List.set_cons_zero, List.set_cons_succ]
        refine wpAny_take (i := 7) (oi := ?oi7) (v := ?v7) ?hi7 ?hs7 ?hf7 ?hr7 ?hQ7 ?hy7 ?h7
        case hi7 => exact (by simp only [List.getElem?_toArray, List.getElem?_cons_succ, List.getElem?_cons_zero]; rfl)
        case hs7 => kernel_rfl
        case hf7 => kernel_rfl
        case hr7 => kernel_rfl
        case hQ7 => exact fun _ _ _ h => h
        case hy7 =>
          refine Or.inl ⟨rfl, ?_⟩
          intro W
          go_simp
          try with_reducible rfl
        try simp only [Act.put, List.setIfInBounds_toArray, List.set_cons_zero, List.set_cons_succ]
        refine wpAny_ready (rs := [4, 8]) (by kernel_rfl) (by simp) ?_
        refine AllReady.cons (o := _) rfl (fun K hK => ?_) (AllReady.cons (o := _) rfl (fun K hK => ?_) AllReady.nil)
        · refine step_load_mid rfl 92 (.tmp 47) rfl H 0 rfl (wv ws) _ HRA0.out Tryd.underlying92 rfl J1.out ?_
          refine hK _ _ ?_
          clear hK K
          try simp only [Act.put, List.setIfInBounds_toArray, List.set_cons_zero, List.set_cons_succ]
          refine wpAny_ready (rs := [8]) (by kernel_rfl) (by simp) ?_
          refine AllReady.cons (o := _) rfl (fun K hK => ?_) AllReady.nil
          refine step_load_mid rfl 63 (.tmp 51) rfl H 8 rfl (bv bl2) _ HRB0.out Tryd.underlying63 rfl J2.out ?_
          refine hK _ _ ?_
          clear hK K
          try simp only [Act.put, List.setIfInBounds_toArray, List.set_cons_zero, List.set_cons_succ]
          refine wpAny_ready (rs := [9]) (by kernel_rfl) (by simp) ?_
          refine AllReady.cons (o := _) rfl (fun K hK => ?_) AllReady.nil
          go_simp
          refine HSP0.out.mono ?_
          intro e w4 hp
          obtain ⟨rfl, hb4⟩ := hp
          have hrow4 := (hb4.block H (lt_of_block' HROW0.out)).trans HROW0.out
          have hg4 : wr.grownBy w4 (some H) := grownBy_trans (b := W0) HG0.out ⟨hb4.os, hb4.tape, hb4.output, hb4.size, fun k hk _ => hb4.block k hk⟩
          have HROW4 := Lib.hid hrow4
          have HG4 := Lib.hid hg4
          clear hrow4 hg4 hb4
          refine hK _ _ ?_
          clear hK K
          try simp only [Act.put, List.setIfInBounds_toArray, List.set_cons_zero, List.set_cons_succ]
          refine wpAny_take (i := 10) (oi := ?oi10a) (v := ?v10a) ?hi10a ?hs10a ?hf10a ?hr10a ?hQ10a ?hy10a ?h10a
          case hi10a => exact (by simp only [List.getElem?_toArray, List.getElem?_cons_succ, List.getElem?_cons_zero]; rfl)
          case hs10a => kernel_rfl
          case hf10a => kernel_rfl
          case hr10a => kernel_rfl
          case hQ10a => exact fun _ _ _ h => h
          case hy10a =>
            refine Or.inl ⟨rfl, ?_⟩
            intro W
            go_simp
            try with_reducible rfl
          try simp only [Act.put, List.setIfInBounds_toArray, List.set_cons_zero, List.set_cons_succ]
          refine wpAny_take (i := 11) (oi := ?oi11a) (v := ?v11a) ?hi11a ?hs11a ?hf11a ?hr11a ?hQ11a ?hy11a ?h11a
          case hi11a => exact (by simp only [List.getElem?_toArray, List.getElem?_cons_succ, List.getElem?_cons_zero]; rfl)
          case hs11a => kernel_rfl
          case hf11a => kernel_rfl
          case hr11a => kernel_rfl
          case hQ11a => exact fun _ _ _ h => h
          case hy11a =>
            refine Or.inl ⟨rfl, ?_⟩
            intro W
            go_simp
            try with_reducible rfl
          try simp only [Act.put, List.setIfInBounds_toArray, List.set_cons_zero, List.set_cons_succ]
          refine wpAny_ready (rs := [12]) (by kernel_rfl) (by simp) ?_
          refine AllReady.cons (o := _) rfl (fun K hK => ?_) AllReady.nil
          refine step_store_front rfl 92 (.tmp 55) (.tmp 53) rfl H (wv (stepP ws bl2)) rfl rfl (wv ws) _ 96 HROW4.out SLEN.out SINF.out SONE.out ?_
          intro w5 hrow5 hg5 hz5
          refine hK _ _ ?_
          clear hK K
          try simp only [Act.put, List.setIfInBounds_toArray, List.set_cons_zero, List.set_cons_succ]
          refine wpAny_done (by kernel_rfl) ?_ _
          have hrow6 : w5.heap[H]? = some (.cells (hcells (stepP ws bl2) bl2 (m + n) M).toArray 96 (0, 0)) := hrow5.out
          have hg6 := grownBy_trans HG4.out hg5
          have hsl := stepP_length ws bl2 HCL.out
          have c72' : w5.cell? ⟨H, 72, none⟩ = some (.int .i64 ((m + n : Nat) : Int)) := by
            rw [cell_of_row w5 H 72 _ _ _ hrow6]
            have := hcells_get72 (stepP ws bl2) bl2 (m + n) M hsl HBL64.out
            simpa using this
          have f5 : ∀ i, w5.frozen? ⟨H, i, none⟩ = false := fun i => frozen_of_row w5 H i _ _ hrow6
          have hr7 := heap_setCell_same w5 H 72 _ 96 (.int .i64 ((0 : Nat) : Int)) hrow6
          rw [show (hcells (stepP ws bl2) bl2 (m + n) M).toArray.setIfInBounds 72 (.int .i64 ((0 : Nat) : Int)) = (hcells (stepP ws bl2) bl2 0 M).toArray by
            rw [← hcells_held (stepP ws bl2) bl2 (m + n) M 0 hsl HBL64.out]
            simp] at hr7
          have hpn := px_next HCELLS.out hbH hbw HA1.out hn1.2.1 hc2 (grownBy_trans hg6 (grownBy_set w5 H 72 (.int .i64 ((0 : Nat) : Int))))
          have hsn := mk_full (x := q.take n) HB1.out HM2.out HB2.out (by rw [List.length_take]; omega) HWS.out HBL2.out hr7
          have HPN := Lib.hid hpn
          have HSN := Lib.hid hsn
          have HG7 := Lib.hid (grownBy_trans hg (grownBy_trans hg6 (grownBy_set w5 H 72 (.int .i64 ((0 : Nat) : Int)))))
          have e1 : p.drop (i + n) = q.drop n := by rw [HQ.out, List.drop_drop]
          have e2 : l ++ p.take (i + n) = L ++ q.take n := by rw [HLL.out, HQ.out, List.append_assoc, List.take_add]
          have HE1 := Lib.hid e1
          have HE2 := Lib.hid e2
          have HLN := Lib.hid (show i + n ≤ p.length by have := HQL.out; omega)
          clear hrow5 hrow6 hg5 hg6 hsl hr7 hpn hsn e1 e2
          go_wp2_with fail
          go_roundw
          case rel =>
            refine ⟨i + n, HLN.out, ?_, ?_, HG7.out⟩
            · rw [HE1.out]
              exact HPN
            · rw [HE2.out]
              exact HSN
          case measure => simp only [lenOf]; omega
        · refine step_load_mid rfl 63 (.tmp 51) rfl H 8 rfl (bv bl2) _ HRB0.out Tryd.underlying63 rfl J2.out ?_
          refine hK _ _ ?_
          clear hK K
          try simp only [Act.put, List.setIfInBounds_toArray, List.set_cons_zero, List.set_cons_succ]
          refine wpAny_ready (rs := [4]) (by kernel_rfl) (by simp) ?_
          refine AllReady.cons (o := _) rfl (fun K hK => ?_) AllReady.nil
          refine step_load_mid rfl 92 (.tmp 47) rfl H 0 rfl (wv ws) _ HRA0.out Tryd.underlying92 rfl J1.out ?_
          refine hK _ _ ?_
          clear hK K
          try simp only [Act.put, List.setIfInBounds_toArray, List.set_cons_zero, List.set_cons_succ]
          refine wpAny_ready (rs := [9]) (by kernel_rfl) (by simp) ?_
          refine AllReady.cons (o := _) rfl (fun K hK => ?_) AllReady.nil
          go_simp
          refine HSP0.out.mono ?_
          intro e w4 hp
          obtain ⟨rfl, hb4⟩ := hp
          have hrow4 := (hb4.block H (lt_of_block' HROW0.out)).trans HROW0.out
          have hg4 : wr.grownBy w4 (some H) := grownBy_trans (b := W0) HG0.out ⟨hb4.os, hb4.tape, hb4.output, hb4.size, fun k hk _ => hb4.block k hk⟩
          have HROW4 := Lib.hid hrow4
          have HG4 := Lib.hid hg4
          clear hrow4 hg4 hb4
          refine hK _ _ ?_
          clear hK K
          try simp only [Act.put, List.setIfInBounds_toArray, List.set_cons_zero, List.set_cons_succ]
          refine wpAny_take (i := 10) (oi := ?oi10b) (v := ?v10b) ?hi10b ?hs10b ?hf10b ?hr10b ?hQ10b ?hy10b ?h10b
          case hi10b => exact (by simp only [List.getElem?_toArray, List.getElem?_cons_succ, List.getElem?_cons_zero]; rfl)
          case hs10b => kernel_rfl
          case hf10b => kernel_rfl
          case hr10b => kernel_rfl
          case hQ10b => exact fun _ _ _ h => h
          case hy10b =>
            refine Or.inl ⟨rfl, ?_⟩
            intro W
            go_simp
            try with_reducible rfl
          try simp only [Act.put, List.setIfInBounds_toArray, List.set_cons_zero, List.set_cons_succ]
          refine wpAny_take (i := 11) (oi := ?oi11b) (v := ?v11b) ?hi11b ?hs11b ?hf11b ?hr11b ?hQ11b ?hy11b ?h11b
          case hi11b => exact (by simp only [List.getElem?_toArray, List.getElem?_cons_succ, List.getElem?_cons_zero]; rfl)
          case hs11b => kernel_rfl
          case hf11b => kernel_rfl
          case hr11b => kernel_rfl
          case hQ11b => exact fun _ _ _ h => h
          case hy11b =>
            refine Or.inl ⟨rfl, ?_⟩
            intro W
            go_simp
            try with_reducible rfl
          try simp only [Act.put, List.setIfInBounds_toArray, List.set_cons_zero, List.set_cons_succ]
          refine wpAny_ready (rs := [12]) (by kernel_rfl) (by simp) ?_
          refine AllReady.cons (o := _) rfl (fun K hK => ?_) AllReady.nil
          refine step_store_front rfl 92 (.tmp 55) (.tmp 53) rfl H (wv (stepP ws bl2)) rfl rfl (wv ws) _ 96 HROW4.out SLEN.out SINF.out SONE.out ?_
          intro w5 hrow5 hg5 hz5
          refine hK _ _ ?_
          clear hK K
          try simp only [Act.put, List.setIfInBounds_toArray, List.set_cons_zero, List.set_cons_succ]
          refine wpAny_done (by kernel_rfl) ?_ _
          have hrow6 : w5.heap[H]? = some (.cells (hcells (stepP ws bl2) bl2 (m + n) M).toArray 96 (0, 0)) := hrow5.out
          have hg6 := grownBy_trans HG4.out hg5
          have hsl := stepP_length ws bl2 HCL.out
          have c72' : w5.cell? ⟨H, 72, none⟩ = some (.int .i64 ((m + n : Nat) : Int)) := by
            rw [cell_of_row w5 H 72 _ _ _ hrow6]
            have := hcells_get72 (stepP ws bl2) bl2 (m + n) M hsl HBL64.out
            simpa using this
          have f5 : ∀ i, w5.frozen? ⟨H, i, none⟩ = false := fun i => frozen_of_row w5 H i _ _ hrow6
          have hr7 := heap_setCell_same w5 H 72 _ 96 (.int .i64 ((0 : Nat) : Int)) hrow6
          rw [show (hcells (stepP ws bl2) bl2 (m + n) M).toArray.setIfInBounds 72 (.int .i64 ((0 : Nat) : Int)) = (hcells (stepP ws bl2) bl2 0 M).toArray by
            rw [← hcells_held (stepP ws bl2) bl2 (m + n) M 0 hsl HBL64.out]
            simp] at hr7
          have hpn := px_next HCELLS.out hbH hbw HA1.out hn1.2.1 hc2 (grownBy_trans hg6 (grownBy_set w5 H 72 (.int .i64 ((0 : Nat) : Int))))
          have hsn := mk_full (x := q.take n) HB1.out HM2.out HB2.out (by rw [List.length_take]; omega) HWS.out HBL2.out hr7
          have HPN := Lib.hid hpn
          have HSN := Lib.hid hsn
          have HG7 := Lib.hid (grownBy_trans hg (grownBy_trans hg6 (grownBy_set w5 H 72 (.int .i64 ((0 : Nat) : Int)))))
          have e1 : p.drop (i + n) = q.drop n := by rw [HQ.out, List.drop_drop]
          have e2 : l ++ p.take (i + n) = L ++ q.take n := by rw [HLL.out, HQ.out, List.append_assoc, List.take_add]
          have HE1 := Lib.hid e1
          have HE2 := Lib.hid e2
          have HLN := Lib.hid (show i + n ≤ p.length by have := HQL.out; omega)
          clear hrow5 hrow6 hg5 hg6 hsl hr7 hpn hsn e1 e2
          go_wp2_with fail
          go_roundw
          case rel =>
            refine ⟨i + n, HLN.out, ?_, ?_, HG7.out⟩
            · rw [HE1.out]
              exact HPN
            · rw [HE2.out]
              exact HSN
          case measure => simp only [lenOf]; omega
      · have t1 : (((m : Int) + (n : Int)) == 64) = false := by rw [beq_eq_false_iff_ne]; omega
        go_wp2_with fail
        have hpn := px_next HCELLS.out hbH hbw HA1.out hn1.2.1 hc2 HG3.out
        have hr8 := HR3'.out
        have hsn := mk_more (x := q.take n) HB1.out HM2.out HB2.out (by rw [List.length_take]; omega) HWS.out HBL2.out (by rw [List.length_take, show min n q.length = n by omega]; exact hr8)
        have e1 : p.drop (i + n) = q.drop n := by rw [HQ.out, List.drop_drop]
        have e2 : l ++ p.take (i + n) = L ++ q.take n := by rw [HLL.out, HQ.out, List.append_assoc, List.take_add]
        have hin : i + n ≤ p.length := by have := HQL.out; omega
        go_roundw
        case rel =>
          refine ⟨i + n, hin, ?_, ?_, grownBy_trans hg HG3.out⟩
          · rw [e1]
            exact Lib.hid hpn
          · rw [e2]
            exact Lib.hid hsn
        case measure => simp only [lenOf]; omega
    · have hil : i = p.length := by omega
      have hst2 := hst.out
      rw [hil, List.take_length] at hst2
      have HST2 := Lib.hid hst2
      have hq0 : ¬ 0 < q.length := hlt
      clear hst hst2 hr hql
      go_wp2_with fail
      go_end0
      refine ⟨rfl, ?_, hg⟩
      have := HST2.out
      unfold IsH
      rw [List.length_append]
      exact this
end Go.Proofs.YtaefgieodehceaaDoor.Sha
