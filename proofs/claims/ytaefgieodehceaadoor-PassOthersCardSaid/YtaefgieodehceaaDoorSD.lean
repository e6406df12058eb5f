/- Bytes put behind bytes of the call's own; a contract for few. -/
import Derived.Test.YtaefgieodehceaaDoorSC
import Derived.Laws.BytesArg
namespace Go.Proofs.YtaefgieodehceaaDoor.Sha
set_option maxRecDepth 4000
open Go.RowKit

theorem Tryd.info5 : (Tryd.prog.info? 5).map (fun i => (i.zero, i.size, i.bytes)) = some (some (.int .u8 0), 1, 1) := by kernel_rfl
theorem bv_each (l : List UInt8) : ∀ u ∈ bv l, u.oneCell' = true := by
  intro u hu
  simp only [bv, List.mem_map] at hu
  obtain ⟨_, _, rfl⟩ := hu
  rfl
theorem own_below {w w' : World} {base size n : Nat} {e : TypeId} {v : Value} {xs : List Value} (h : w.ownsRow base e size v n xs) (hb : Below w.heap.size w w') : w'.ownsRow base e size v n xs := by
  refine ⟨h.1, ?_⟩
  rcases h.2 with hn | ⟨g, cap, cur, hv, hb0, hg, r⟩
  · exact .inl hn
  · exact .inr ⟨g, cap, cur, hv, hb0, (hb.block g (lt_of_block' hg)).trans hg, r⟩
theorem own_pb {w : World} {base : Nat} {v : Value} {l : List UInt8} (h : w.ownsRow base 5 1 v l.length (bv l)) : Pb w v l := by
  have hcells := fun g => h.cells (g := g)
  have hlt := h.lt
  rcases h.2 with ⟨rfl, h2⟩ | ⟨g, cap, cur, rfl, hg, hh, hnc, _⟩
  · have hl0 : l = [] := by
      have := h2
      simp at this
      exact this
    subst hl0
    exact ⟨Option.none, 0, rfl, Nat.le_refl _, fun hx => absurd hx (by simp)⟩
  · refine ⟨_, cap, rfl, hnc, fun _ => ⟨g, 0, rfl, (hlt g rfl).2, fun j u hu => ?_⟩⟩
    have := hcells g rfl j u hu
    rw [← this, Addr.add_mid]
theorem pb_byte {w : World} {v : Value} {c : UInt8} (hv : v = .int .u8 (c.toNat : Int)) : Pb (w.alloc (.cells #[v] 5)) (.slice (some ⟨w.heap.size, 0, none⟩) 1 1) [c] :=
  ⟨_, 1, rfl, by simp, fun _ => ⟨w.heap.size, 0, rfl, by simp, fun j u hu => by
    rw [cell_of_row _ _ _ _ _ _ (heap_alloc_new w _), hv]
    rcases j with _ | j
    · simpa [bv] using hu
    · simp [bv] at hu⟩⟩

theorem run_append_bytes (w : World) (base ty : Nat) (v y : Value) (xs l : List UInt8) (i : TypeInfo) (hi : Tryd.prog.info? 5 = some i) (hz0 : i.zero = some (.int .u8 0)) (hz1 : i.size = 1) (hz2 : i.bytes = 1)
    (hown : w.ownsRow base 5 1 v xs.length (bv xs)) (hy : Pb w y l) (hlen : xs.length + l.length ≤ 1000000) (hbase : base ≤ w.heap.size) :
    ∃ v' w', (Builtin.append_ #[22, 22] ty #[v, y]).run Tryd.prog w = .ok v' w' ∧ w'.ownsRow base 5 1 v' (xs ++ l).length (bv (xs ++ l)) ∧ w.grownBy w' v.ownBlock := by
  obtain ⟨A, c, rfl, hlc, hr⟩ := hy
  rcases A with _ | ad
  · have hl0 : l = [] := by
      rcases l with _ | ⟨y, l⟩
      · rfl
      · obtain ⟨b, o, hA, _⟩ := hr (by simp)
        cases hA
    subst hl0
    refine ⟨v, w, ?_, by simpa using hown, World.grownBy.refl w _⟩
    rcases hown.2 with ⟨rfl, _⟩ | ⟨g, cap, cur, rfl, _, _, hnc, _⟩
    · simp [Builtin.append_, run_underlying Tryd.underlying22, sizeOf, typeInfo, hi, Builtin.lenOf, Builtin.firstCells]
    · simp [Builtin.append_, run_underlying Tryd.underlying22, sizeOf, typeInfo, hi, Builtin.lenOf, Builtin.firstCells, hnc, storeCells]
  · have hcell : ∀ j u, (bv l)[j]? = some u → w.cell? (ad.add j) = some u := fun j u hu => by
      have hj := (List.getElem?_eq_some_iff.1 hu).1
      obtain ⟨b, o, hA, _, hc⟩ := hr (by simp [bv] at hj; omega)
      injection hA with hA
      subst hA
      rw [Addr.add_mid]
      exact hc j u hu
    obtain ⟨v', w', hrun, h2, h3, _⟩ := run_append_own (P := Tryd.prog) w base 22 ty 5 i (.int .u8 0) 1 1 Tryd.underlying22 hi hz0 hz1 hz2 rfl (by decide) v xs.length (bv xs) hown ad l.length c (bv l) (by simp [bv]) hcell (bv_each l)
      (by unfold maxLen; omega) (by omega) hbase
    exact ⟨v', w', hrun, by simpa [bv] using h2, h3⟩
theorem wpList_append_bytes {w : World} {ops : Array Oper} {rest : List Oper} {o : Oper} {a : Act} {Q : Exit → Act → World → Prop} (hgd : o.guard = none) (s x : Operand)
    (ho : o.op = .call { callee := .builtin .append, args := #[s, x], argTypes := #[22, 22] })
    (base : Nat) (v y : Value) (xs l : List UInt8) (hs : a.eval s = v) (hx : a.eval x = y)
    (hown : w.ownsRow base 5 1 v xs.length (bv xs)) (hy : Pb w y l) (hlen : xs.length + l.length ≤ 1000000) (hbase : base ≤ w.heap.size)
    (h : ∀ v' w', w'.ownsRow base 5 1 v' (xs ++ l).length (bv (xs ++ l)) → w.grownBy w' v.ownBlock → wpList Tryd.prog ops Q rest (a.put o.dst v') w') : wpList Tryd.prog ops Q (o :: rest) a w := by
  refine wpList_plain hgd fun K hK => ?_
  obtain ⟨i0, hi, hz0, hz1, hz2⟩ := info_parts Tryd.info5
  obtain ⟨v', w', hr, h2, h3⟩ := run_append_bytes w base o.type v y xs l i0 hi hz0 hz1 hz2 hown hy hlen hbase
  unfold Oper.wp execOp
  simp only [ho, resolve, invoke, builtin, Sem.run_bind, Sem.run_pure, Result.andThen_ok, List.map_toArray, List.map_cons, List.map_nil, hs, hx, hr]
  exact hK _ _ (h v' w' h2 h3)

/-- The j-th part. -/
theorem Pbs.get {w : World} {v : Value} {ps : List (List UInt8)} (h : Pbs w v ps) {j : Nat} (hj : j < ps.length) : ∃ b o c u, v = .slice (some ⟨b, o, none⟩) ps.length c ∧ b < w.heap.size ∧ w.cell? ⟨b, o + j, none⟩ = some u ∧ Pb w u ps[j] := by
  obtain ⟨A, c, rfl, _, hr⟩ := h
  obtain ⟨b, o, rfl, hb, hc⟩ := hr (by omega)
  obtain ⟨u, h1, h2⟩ := hc j hj
  exact ⟨b, o, c, u, rfl, hb, h1, h2⟩

def fewB (ps : List (List UInt8)) : Bool := decide ((∀ p ∈ ps, p.length ≤ 200) ∧ ps.length ≤ 20)

end Go.Proofs.YtaefgieodehceaaDoor.Sha
