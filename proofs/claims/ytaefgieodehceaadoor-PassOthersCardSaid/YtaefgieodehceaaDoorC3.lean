/- Steps of a region that draws its order: bytes of the call's own, and what is put behind bytes. -/
import Derived.Test.YtaefgieodehceaaDoorC1
import Derived.Lib.ConvBytes
namespace Go.Proofs.YtaefgieodehceaaDoor
set_option maxRecDepth 4000
open Go.RowKit

theorem grown_conv (w : World) (s : ByteArray) : w.grownBy (Lib.bytesWorld w 5 s) none :=
  ⟨rfl, rfl, rfl, by rw [Lib.bytesWorld_size]; omega, fun k hk _ => Lib.bytesWorld_at_old w 5 s k hk⟩

/-- The bytes l in a block of their own, at G0 or behind it. -/
def Bk (w : World) (G0 : Nat) (y : Value) (l : List UInt8) : Prop :=
  ∃ (G c : Nat) (cs : Array Value) (fr : Nat × Nat), y = .slice (some ⟨G, 0, none⟩) l.length c ∧ l.length ≤ c ∧ G0 ≤ G ∧ w.heap[G]? = some (.cells cs 5 fr) ∧ ∀ (j : Nat) (u : Value), (bv l)[j]? = some u → cs[j]? = some u

theorem Bk.bs {w : World} {G0 : Nat} {y : Value} {l : List UInt8} (h : Bk w G0 y l) : Bs w w.heap.size y l := by
  obtain ⟨G, c, cs, fr, rfl, hc, _, hG, hcs⟩ := h
  exact ⟨_, c, rfl, hc, fun _ => ⟨G, 0, rfl, lt_of_block hG, fun j u hu => by rw [Nat.zero_add, cell_of_row w G j cs 5 fr hG]; exact hcs j u hu⟩⟩

theorem Bk.kept {w w' : World} {G0 : Nat} {row : Option Nat} {y : Value} {l : List UInt8} (h : Bk w G0 y l) (hg : w.grownBy w' row) (hr : ∀ k, row = some k → k < G0) : Bk w' G0 y l := by
  obtain ⟨G, c, cs, fr, rfl, hc, h0, hG, hcs⟩ := h
  exact ⟨G, c, cs, fr, rfl, hc, h0, (hg.block G (lt_of_block hG) (fun e => by have := hr G e.symm; omega)).trans hG, hcs⟩

theorem bk_build {w : World} {G0 : Nat} (h : G0 ≤ w.heap.size) (n : Nat) (hn : n ≤ 255) : Bk (w.alloc (.cells #[.int .u8 (n : Int)] 5)) G0 (.slice (some ⟨w.heap.size, 0, none⟩) 1 1) (be 1 n) :=
  ⟨w.heap.size, 1, _, _, by rw [be_length], by rw [be_length]; omega, h, heap_alloc_new w _, fun j u hu => by
    have e : be 1 n = [UInt8.ofNat n] := by simp [be, beT, beAt]
    rw [e] at hu
    rcases j with _ | j
    · simp [bv] at hu
      subst hu
      simp
      omega
    · simp [bv] at hu⟩

theorem bk_conv {w : World} {G0 : Nat} (h : G0 ≤ w.heap.size) (s : ByteArray) (c : Nat) (hc : s.size ≤ c) : Bk (Lib.bytesWorld w 5 s) G0 (.slice (some ⟨w.heap.size, 0, none⟩) s.size c) s.data.toList :=
  ⟨w.heap.size, c, _, _, by simp, by simpa using hc, h, Lib.bytesWorld_at_new w 5 s, fun j u hu => by
    unfold bv at hu
    unfold Lib.bytesCells
    obtain ⟨hj, hju⟩ := List.getElem?_eq_some_iff.1 hu
    simp at hj hju
    rw [Array.getElem?_append_left (by simpa using hj), ← hju]
    simp [hj]⟩

theorem step_conv {w : World} {ops : Array Oper} {o : Oper} {a : Act} {K : Act → World → Prop} {Q : Exit → Act → World → Prop} {E : Prop} (hgd : o.guard = none) (x : Operand)
    (ho : o.op = .convert 9 22 x) (G0 : Nat) (h0 : G0 ≤ w.heap.size) (s : ByteArray) (hx : a.eval x = .string s)
    (h : ∀ v' w', Bk w' G0 v' s.data.toList → w.grownBy w' none → K (a.put o.dst v') w') :
    if Region.wanted o (yielded ops a.tmps) = true then Oper.wp Tryd.prog o a w K Q else E := by
  have hw : Region.wanted o (yielded ops a.tmps) = true := by simp [Region.wanted, hgd]
  rw [if_pos hw]
  unfold Oper.wp execOp
  simp only [ho, hx, Sem.run_bind]
  rw [Lib.run_convert_string_bytes w 9 22 5 s Tryd.underlying9 Tryd.underlying22 Tryd.underlying5]
  simp only [Result.andThen_ok, Sem.run_pure]
  exact h _ _ (bk_conv h0 s _ (grownCap_ge _ _ _ _)) (grown_conv w s)

theorem step_append_bytes {w : World} {ops : Array Oper} {o : Oper} {a : Act} {K : Act → World → Prop} {Q : Exit → Act → World → Prop} {E : Prop} (hgd : o.guard = none) (s x : Operand)
    (ho : o.op = .call { callee := .builtin .append, args := #[s, x], argTypes := #[22, 22] })
    (base B : Nat) (v y : Value) (xs l : List UInt8) (hs : a.eval s = v) (hx : a.eval x = y)
    (hown : w.ownsRow base 5 1 v xs.length (bv xs)) (hy : Bs w B y l) (hlen : xs.length + l.length ≤ 1000000) (hbase : base ≤ w.heap.size)
    (h : ∀ v' w', w'.ownsRow base 5 1 v' (xs ++ l).length (bv (xs ++ l)) → w.grownBy w' v.ownBlock → K (a.put o.dst v') w') :
    if Region.wanted o (yielded ops a.tmps) = true then Oper.wp Tryd.prog o a w K Q else E := by
  have hw : Region.wanted o (yielded ops a.tmps) = true := by simp [Region.wanted, hgd]
  rw [if_pos hw]
  obtain ⟨i0, hi, hz0, hz1, hz2⟩ := info_parts Tryd.info5
  obtain ⟨v', w', hr, h2, h3⟩ := run_append_bytes w base B o.type v y xs l i0 hi hz0 hz1 hz2 hown hy hlen hbase
  unfold Oper.wp execOp
  simp only [ho, resolve, invoke, builtin, Sem.run_bind, Sem.run_pure, Result.andThen_ok, List.map_toArray, List.map_cons, List.map_nil, hs, hx, hr]
  exact h v' w' h2 h3
end Go.Proofs.YtaefgieodehceaaDoor
