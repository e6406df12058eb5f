/- Numbers put and taken: contracts for field.Put and field.Take. -/
import Derived.Test.YtaefgieodehceaaDoorB1
import Derived.Deep.RegionHeld3
import Derived.OpenShut
namespace Go.Proofs.YtaefgieodehceaaDoor
set_option maxRecDepth 4000
open Go.RowKit

theorem Bs.nil (w : World) (B : Nat) : Bs w B (.slice none 0 0) [] := ⟨none, 0, rfl, by simp, Rd.nil⟩

theorem Bs.of_own {w : World} {base : Nat} {v : Value} {l : List UInt8} (h : w.ownsRow base 5 1 v l.length (bv l)) : Bs w w.heap.size v l := by
  obtain ⟨A, c, rfl, hr, hc, _⟩ := own_rd h
  exact ⟨A, c, rfl, hc, hr⟩

/-- Bytes put behind bytes of the call's own, whatever the slice that they come in. -/
theorem run_append_bytes (w : World) (base B ty : Nat) (v y : Value) (xs l : List UInt8) (i : TypeInfo) (hi : Tryd.prog.info? 5 = some i) (hz0 : i.zero = some (.int .u8 0)) (hz1 : i.size = 1) (hz2 : i.bytes = 1)
    (hown : w.ownsRow base 5 1 v xs.length (bv xs)) (hy : Bs w B y l) (hlen : xs.length + l.length ≤ 1000000) (hbase : base ≤ w.heap.size) :
    ∃ v' w', (Builtin.append_ #[22, 22] ty #[v, y]).run Tryd.prog w = .ok v' w' ∧ w'.ownsRow base 5 1 v' (xs ++ l).length (bv (xs ++ l)) ∧ w.grownBy w' v.ownBlock := by
  obtain ⟨A, c, rfl, hlc, hr⟩ := hy
  rcases A with _ | ad
  · have hl0 : l = [] := by
      rcases l with _ | ⟨y, l⟩
      · rfl
      · obtain ⟨b, o, hA, _⟩ := hr (by simp [bv])
        cases hA
    subst hl0
    refine ⟨v, w, ?_, by simpa using hown, World.grownBy.refl w _⟩
    rcases hown.2 with ⟨rfl, _⟩ | ⟨g, cap, cur, rfl, _, _, hnc, _⟩
    · simp [Builtin.append_, run_underlying Tryd.underlying22, sizeOf, typeInfo, hi, Builtin.lenOf, Builtin.firstCells]
    · simp [Builtin.append_, run_underlying Tryd.underlying22, sizeOf, typeInfo, hi, Builtin.lenOf, Builtin.firstCells, hnc, storeCells]
  · obtain ⟨v', w', hrun, h2, h3, _⟩ := run_append_own (P := Tryd.prog) w base 22 ty 5 i (.int .u8 0) 1 1 Tryd.underlying22 hi hz0 hz1 hz2 rfl (by decide) v xs.length (bv xs) hown ad l.length c (bv l) (by simp [bv]) hr.add (bv_one l)
      (by unfold maxLen; omega) (by omega) hbase
    exact ⟨v', w', hrun, by simpa [bv] using h2, h3⟩

theorem wpList_append_bytes {w : World} {ops : Array Oper} {rest : List Oper} {o : Oper} {a : Act} {Q : Exit → Act → World → Prop} (hgd : o.guard = none) (s x : Operand)
    (ho : o.op = .call { callee := .builtin .append, args := #[s, x], argTypes := #[22, 22] })
    (base B : Nat) (v y : Value) (xs l : List UInt8) (hs : a.eval s = v) (hx : a.eval x = y)
    (hown : w.ownsRow base 5 1 v xs.length (bv xs)) (hy : Bs w B y l) (hlen : xs.length + l.length ≤ 1000000) (hbase : base ≤ w.heap.size)
    (h : ∀ v' w', w'.ownsRow base 5 1 v' (xs ++ l).length (bv (xs ++ l)) → w.grownBy w' v.ownBlock → wpList Tryd.prog ops Q rest (a.put o.dst v') w') : wpList Tryd.prog ops Q (o :: rest) a w := by
  refine wpList_plain hgd fun K hK => ?_
  obtain ⟨i0, hi, hz0, hz1, hz2⟩ := info_parts Tryd.info5
  obtain ⟨v', w', hr, h2, h3⟩ := run_append_bytes w base B o.type v y xs l i0 hi hz0 hz1 hz2 hown hy hlen hbase
  unfold Oper.wp execOp
  simp only [ho, resolve, invoke, builtin, Sem.run_bind, Sem.run_pure, Result.andThen_ok, List.map_toArray, List.map_cons, List.map_nil, hs, hx, hr]
  exact hK _ _ (h v' w' h2 h3)

theorem num_be (m n : Nat) : num (be m n) = n % 256 ^ m := by
  have key : ∀ t, t ≤ m → num (beT m n t) = n / 256 ^ (m - t) % 256 ^ t := by
    intro t
    induction t with
    | zero => intro _; simp [beT, num, Nat.mod_one]
    | succ t ih =>
      intro ht
      rw [beT_succ, num_snoc, ih (by omega)]
      have e : (beAt m n t).toNat = n / 256 ^ (m - (t + 1)) % 256 := by
        unfold beAt
        rw [show m - 1 - t = m - (t + 1) by omega, Nat.pow_mul]
        simp
      rw [e]
      have e2 : n / 256 ^ (m - t) = n / 256 ^ (m - (t + 1)) / 256 := by
        rw [Nat.div_div_eq_div_mul, ← Nat.pow_succ, show (m - (t + 1)).succ = m - t by omega]
      rw [e2, Nat.pow_succ, Nat.mul_comm (256 ^ t) 256, Nat.mod_mul]
      omega
  have := key m (Nat.le_refl _)
  simpa [be] using this

theorem be_split (n : Nat) : be 8 n = be 4 (n / 4294967296 % 4294967296) ++ be 4 (n % 4294967296) := by
  have h : ∀ j, j < 8 → beAt 8 n j = if j < 4 then beAt 4 (n / 4294967296 % 4294967296) j else beAt 4 (n % 4294967296) (j - 4) := by
    intro j hj
    unfold beAt
    have h8 : j = 0 ∨ j = 1 ∨ j = 2 ∨ j = 3 ∨ j = 4 ∨ j = 5 ∨ j = 6 ∨ j = 7 := by omega
    rcases h8 with rfl | rfl | rfl | rfl | rfl | rfl | rfl | rfl <;>
    · rw [← UInt8.toNat_inj]
      simp <;> omega
  simp [be, beT, List.range_succ, h]

theorem row_bs {k0 : Nat} {w : World} {a : Option Addr} {len cap : Nat} {zs : List Int} (hk0 : k0 = w.heap.size)
    (h : (a = none ∧ len = 0 ∧ cap = 0 ∧ zs = []) ∨
      ∃ x, a = some x ∧ len ≤ cap ∧ cap ≤ maxLen ∧ zs.length = cap ∧ (∀ i, i < zs.length → w.cell? (x.add i) = some (.int .u8 (zs.getD i 0))) ∧ ∀ n ∈ zs, (Lit.int .u8 n).wf = true) :
    ∃ l : List UInt8, l.length = len ∧ Bs w k0 (.slice a len cap) l := by
  subst hk0
  rcases h with ⟨rfl, rfl, rfl, rfl⟩ | ⟨x, rfl, hlc, _, hz, hc, hw⟩
  · exact ⟨[], rfl, Bs.nil _ _⟩
  · refine ⟨(zs.take len).map fun z => UInt8.ofNat z.toNat, by simp; omega, _, cap, by simp [Nat.min_eq_left (show len ≤ zs.length by omega)]; rfl, by simp; omega, fun hx => ?_⟩
    simp [bv] at hx
    obtain ⟨b, off, rfl, hcell⟩ := ints_at hc (by omega)
    refine ⟨b, off, rfl, World.block_lt_of_cell? w ⟨b, off + 0, none⟩ (hcell 0 (by omega)), fun j u hu => ?_⟩
    simp only [bv, List.map_map, List.map_take, List.getElem?_take] at hu
    split at hu
    · have hj : j < zs.length := by omega
      rw [hcell j hj, ← hu]
      have hwf := hw zs[j] (List.getElem_mem hj)
      simp [List.getElem?_map, List.getElem?_eq_getElem hj]
      have hb := bounds_u8 hwf
      omega
    · cases hu
end Go.Proofs.YtaefgieodehceaaDoor
