/- Outbox: acts that came in; great. -/
import Derived.Test.YtbahifbhjdnacaaO9
import Derived.Test.YtbahifbhjdnacaaO4
import Derived.Lib.SmallJoins
import Derived.Deep.Slices
namespace Go.Proofs.Ytbahifbhjdnacaa
open Go.RowKit Go.ChangeShapes
open Go.Joins
set_option maxRecDepth 20000
set_option linter.unusedVariables false
set_option linter.unusedSimpArgs false

structure Ac where
  d : Int
  n : Int
  fs : List (List UInt8)
  p : Option Addr
  c : Nat
instance : Inhabited Ac := ⟨⟨0, 0, [], none, 0⟩⟩
abbrev aC (e : Ac) : Array Value := #[.int .u8 e.d, .int .i64 e.n, .slice e.p e.fs.length e.c]
def Ra (w : World) (e : Ac) : Prop := 0 ≤ e.d ∧ (-9223372036854775808 ≤ e.n ∧ e.n < 9223372036854775808) ∧ Pbs w (.slice e.p e.fs.length e.c) e.fs ∧ e.fs.length ≤ 9223372036854775807 ∧ ∀ q ∈ e.fs, q.length ≤ 9223372036854775807
/-- The acts l are read from A on. -/
def As (w : World) (B : Nat) (A : Option Addr) (l : List Ac) : Prop :=
  0 < l.length → ∃ b o, A = some ⟨b, o, none⟩ ∧ b < B ∧ ∀ i e, l[i]? = some e → w.cell? ⟨b, o + i * 3, none⟩ = some (.int .u8 e.d) ∧ w.cell? ⟨b, o + i * 3 + 1, none⟩ = some (.int .i64 e.n) ∧ w.cell? ⟨b, o + i * 3 + 2, none⟩ = some (.slice e.p e.fs.length e.c)
theorem open_acts {H : Type} {enc : TypeId × Value → H} {W : World} {r : Reach} {b0 : Nat} {v : Value} {d : DataW H} {q : List MemPlace} (hv : Value.okWide Try.prog W r b0 22 v) (h : DataW.Trod enc Try.prog W 0 (fun _ => true) true 22 v d q) :
    ∃ (p : Option Addr × Nat) (l : List Ac), v = .slice p.1 l.length p.2 ∧ As W W.heap.size p.1 l ∧ l.length ≤ 9223372036854775807 ∧ ∀ e ∈ l, Ra W e := by
  obtain ⟨A, n, c, rfl⟩ := WideShapes.okWide_slice Try.underlying22 hv
  obtain ⟨fuel, hf⟩ := h
  have c4 : Try.prog.cellsOf 31 = 3 := by kernel_rfl
  have k5 : Try.prog.cellsOf 5 = 1 := by kernel_rfl
  have k3 : Try.prog.cellsOf 3 = 1 := by kernel_rfl
  have k29 : Try.prog.cellsOf 29 = 1 := by kernel_rfl
  rcases Deep.open_slice Try.underlying22 hf with ⟨hcs, _⟩ | ⟨a, len, cap, m, k, D, Pl, hcs, _, hl, hm, hmm, _, hx⟩
  · simp [Value.cells] at hcs
    obtain ⟨rfl, rfl, rfl⟩ := hcs
    exact ⟨(none, 0), [], rfl, fun h => by simp at h, by simp, fun e he => by simp at he⟩
  · simp [Value.cells] at hcs
    obtain ⟨rfl, rfl, rfl⟩ := hcs
    rw [c4] at hx
    have each : ∀ i, i < n → ∃ e : Ac, Ra W e ∧ W.cell? (a.add (i * 3)) = some (.int .u8 e.d) ∧ W.cell? (a.add (i * 3 + 1)) = some (.int .i64 e.n) ∧ W.cell? (a.add (i * 3 + 2)) = some (.slice e.p e.fs.length e.c) := fun i hi => by
      obtain ⟨cs', h1, h2⟩ := hx i (by rw [hmm]; simp; omega)
      obtain ⟨_, hlen, hcell⟩ := World.cells?_some h1
      match cs', hlen with
      | [c0, c1, c2], _ =>
        obtain ⟨xs, m', _, _, _, hlen', hx'⟩ := DataW.trod_struct Try.underlying31 h2
        match xs, hlen' with
        | [y0, y1, y2], _ =>
        have g0 : DataW.trod enc Try.prog W 0 (fun _ => true) true m' 5 [c0] = some y0 := by simpa [Value.cells, k5] using hx' 0 _ rfl
        have g1 : DataW.trod enc Try.prog W 0 (fun _ => true) true m' 3 [c1] = some y1 := by simpa [Value.cells, k5, k3] using hx' 1 _ rfl
        have g2 : DataW.trod enc Try.prog W 0 (fun _ => true) true m' 29 [c2] = some y2 := by simpa [Value.cells, k5, k3, k29] using hx' 2 _ rfl
        obtain ⟨x0, e0, _, w0⟩ := DataW.trod_int Try.underlying5 g0
        obtain ⟨x1, e1, _, w1⟩ := DataW.trod_int Try.underlying3 g1
        simp only [List.cons.injEq, and_true] at e0 e1
        subst e0 e1
        obtain ⟨ps, hps, hpl, hql⟩ := open_pbs g2
        obtain ⟨A2, n2, rfl, hn2, hr2⟩ := id hps
        have b0 := bounds_u8 w0
        have b1 := bounds_i64 w1
        have q0 := hcell 0 (by omega)
        have q1 := hcell 1 (by omega)
        have q2 := hcell 2 (by omega)
        rw [Deep.add_add] at q0 q1 q2
        refine ⟨⟨x0, x1, ps, A2, n2⟩, ⟨b0.1, ⟨by show _ ≤ x1; omega, by show x1 < _; omega⟩, hps, hpl, hql⟩, ?_, ?_, ?_⟩
        · simpa using q0
        · simpa using q1
        · simpa using q2
    obtain ⟨f, hf⟩ := Deep.choose_lt each
    refine ⟨(some a, c), (List.range n).map f, by simp, fun h0 => ?_, by unfold maxLen at hm; simp; omega, fun e he => by
      obtain ⟨i, hi, rfl⟩ := List.mem_map.1 he
      exact (hf i (List.mem_range.1 hi)).1⟩
    simp at h0
    have hc0 := (hf 0 h0).2.1
    obtain ⟨b, off, spot⟩ := a
    have hspot : spot = none := by simpa [Addr.add] using World.cell?_spot hc0
    subst hspot
    refine ⟨b, off, rfl, World.block_lt_of_cell? W ⟨b, off + 0 * 3, none⟩ (by rw [← Go.WideShapes.add_plain]; exact hc0), fun i e he => ?_⟩
    rw [List.getElem?_map] at he
    obtain ⟨i', hi', rfl⟩ := Option.map_eq_some_iff.1 he
    obtain ⟨hin, rfl⟩ := List.getElem?_eq_some_iff.1 hi'
    simp at hin
    simp only [List.getElem_range]
    have hq := (hf i hin).2
    rw [Go.WideShapes.add_plain, Go.WideShapes.add_plain, Go.WideShapes.add_plain] at hq
    exact ⟨hq.1, by rw [Nat.add_assoc]; exact hq.2.1, by rw [Nat.add_assoc]; exact hq.2.2⟩

def Sm (e : Ac) : Prop := e.fs.length ≤ 8 ∧ ∀ q ∈ e.fs, q.length ≤ 1100
instance decSm (e : Ac) : Decidable (Sm e) := by unfold Sm; infer_instance
def greatB (l : List Ac) : Bool := decide (¬ (l.length ≤ 60 ∧ ∀ e ∈ l, Sm e))
set_option maxHeartbeats 4000000 in
theorem great_any (P : Option Addr) (c : Nat) (acts : List Ac) (w : World) (hA : As w w.heap.size P acts) (hl : acts.length ≤ 9223372036854775807) (hR : ∀ e ∈ acts, Ra w e) :
    Calls Try.prog 5 #[.slice P acts.length c] w fun r w' => r = .returned (.bool (greatB acts)) ∧ w = w' := by
  obtain ⟨res, hres⟩ : ∃ res, res = greatB acts := ⟨_, rfl⟩
  rw [← hres]
  have HRES := Lib.hid hres
  clear hres
  obtain ⟨n0, hn⟩ : ∃ n, n = acts.length := ⟨_, rfl⟩
  rw [← hn] at hl ⊢
  have HA := Lib.hid hA
  have HR := Lib.hid hR
  have HN := Lib.hid hn
  clear hA hR hn
  by_cases h60 : 60 < n0
  · have HRE : Hid (res = true) := HRES.out.trans (by
      unfold greatB
      rw [decide_eq_true_iff]
      rintro ⟨h, _⟩
      have := HN.out
      omega)
    go_enter Try.func5, Try.ntmps5
    go_wp2
    go_ret
    exact ⟨by rw [HRE.out]; rfl, rfl⟩
  go_enter Try.func5, Try.ntmps5
  go_wp2_with fail
  go_loop [3] (fun i => ∃ k : Nat, k ≤ n0 ∧ i = .int .i64 k ∧ Hid (∀ e ∈ acts.take k, Sm e)) (fun i => n0 - (intOf i).toNat)
  case atStart => exact ⟨0, by omega, rfl, by simp [Hid]⟩
  case round =>
    obtain ⟨k, hk, rfl, hs⟩ := hrel
    by_cases hlt : k < n0
    · obtain ⟨e, hy⟩ : ∃ e, acts[k]? = some e := ⟨acts[k]'(by rw [← HN.out]; exact hlt), List.getElem?_eq_getElem _⟩
      have hra := HR.out _ (List.mem_of_getElem? hy)
      obtain ⟨b1, o1, rfl, hb1, ha1⟩ := HA.out (by have := HN.out; omega)
      obtain ⟨e0, e1, e2⟩ := ha1 k _ hy
      obtain ⟨d, nn, fs, fp, fc⟩ := e
      simp only at e0 e1 e2
      obtain ⟨m, hm⟩ : ∃ m, m = fs.length := ⟨_, rfl⟩
      have HP : Hid (Pbs w (.slice fp m fc) fs) := by rw [hm]; exact hra.2.2.1
      have HQ : Hid (∀ q ∈ fs, q.length ≤ 9223372036854775807) := hra.2.2.2.2
      have hm63 : m ≤ 9223372036854775807 := by rw [hm]; exact hra.2.2.2.1
      rw [← hm] at e2
      have HM := Lib.hid hm
      have HY := Lib.hid hy
      have htk : Hid ((∀ q ∈ fs, q.length ≤ 1100) → m ≤ 8 → ∀ e ∈ acts.take (k + 1), Sm e) := fun h1 h2 => by
        intro e he
        rw [List.take_add_one, hy] at he
        simp at he
        rcases he with he | rfl
        · exact hs.out e he
        · exact ⟨by rw [← hm]; exact h2, h1⟩
      clear hy hra ha1 hm e0 e1
      by_cases h8 : 8 < m
      · have HRE : Hid (res = true) := HRES.out.trans (by
          unfold greatB
          rw [decide_eq_true_iff]
          rintro ⟨_, h⟩
          have := (h _ (List.mem_of_getElem? HY.out)).1
          have h9 := HM.out
          simp only at this
          omega)
        go_wp2_with fail
        go_ret
        exact ⟨by rw [HRE.out]; rfl, rfl⟩
      · go_wp2_with fail
        go_loop [4] (fun i => ∃ j : Nat, j ≤ m ∧ i = .int .i64 j ∧ Hid (∀ q ∈ fs.take j, q.length ≤ 1100)) (fun i => m - (intOf i).toNat)
        case atStart => exact ⟨0, by omega, rfl, by simp [Hid]⟩
        case round =>
          obtain ⟨j, hj, rfl, hs2⟩ := hrel
          by_cases hlt2 : j < m
          · obtain ⟨b, o, c2, u, e3, hb, h1, A3, c3, rfl, _, _⟩ := HP.out.get (by rw [← HM.out]; exact hlt2)
            injection e3 with e3 _ e4
            subst e3 e4
            have hn63 := HQ.out fs[j] (List.getElem_mem (by rw [← HM.out]; exact hlt2))
            obtain ⟨z, hz⟩ : ∃ z, z = (fs[j]'(by rw [← HM.out]; exact hlt2)).length := ⟨_, rfl⟩
            rw [← hz] at h1 hn63
            have HZ := Lib.hid hz
            clear hz
            by_cases hbig : 1100 < z
            · have HRE : Hid (res = true) := HRES.out.trans (by
                unfold greatB
                rw [decide_eq_true_iff]
                rintro ⟨_, h⟩
                have := (h _ (List.mem_of_getElem? HY.out)).2 _ (List.getElem_mem (by rw [← HM.out]; exact hlt2 : j < fs.length))
                have := HZ.out
                omega)
              go_wp2_with fail
              go_ret
              exact ⟨by rw [HRE.out]; rfl, rfl⟩
            · go_wp2_with fail
              go_round
              case rel =>
                refine ⟨j + 1, by omega, by go_num, ?_⟩
                intro q hq
                rw [List.take_succ_eq_append_getElem (by rw [← HM.out]; exact hlt2), List.mem_append] at hq
                rcases hq with hq | hq
                · exact hs2.out q hq
                · simp at hq
                  rw [hq, ← HZ.out]
                  omega
              case measure => simp [intOf] <;> omega
          · have hj2 : j = m := by omega
            have hall : ∀ q ∈ fs, q.length ≤ 1100 := by
              have := hs2.out
              rw [hj2, HM.out, List.take_length] at this
              exact this
            have HT := Lib.hid (htk.out hall (by omega))
            clear hs2 hall
            go_wp2_with fail
            go_round
            case rel => exact ⟨k + 1, by omega, by go_num, HT.out⟩
            case measure => simp [intOf] <;> omega
    · have hk2 : k = n0 := by omega
      have hs2 := hs.out
      rw [hk2, HN.out, List.take_length] at hs2
      have HRE : Hid (res = false) := HRES.out.trans (by
        unfold greatB
        rw [decide_eq_false_iff_not]
        intro h
        exact h ⟨by have := HN.out; omega, hs2⟩)
      clear hs hs2
      go_wp2_with fail
      go_ret
      exact ⟨by rw [HRE.out]; rfl, rfl⟩
end Go.Proofs.Ytbahifbhjdnacaa
