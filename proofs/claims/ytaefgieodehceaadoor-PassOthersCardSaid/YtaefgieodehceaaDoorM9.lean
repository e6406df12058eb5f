/- HMAC: whether bytes are a tag. -/
import Derived.Test.YtaefgieodehceaaDoorM4
namespace Go.Proofs.YtaefgieodehceaaDoor.Sha
set_option maxRecDepth 4000
open Go.RowKit

theorem or_bytes (x c : UInt8) : bits .or .u8 (x.toNat : Int) (c.toNat : Int) = ((x ||| c).toNat : Int) := by
  rw [u8_or_nat _ _ (by have := x.toNat_lt; omega) (by have := c.toNat_lt; omega), UInt8.toNat_or]
theorem diff_next (D c y : UInt8) (S T : List UInt8) (k : Nat) (hS : k < S.length) (hT : k < T.length) (hc : T[k] = c) (hy : S[k] = y) (h : D = 0 ↔ S.take k = T.take k) : (D ||| (c ^^^ y)) = 0 ↔ S.take (k + 1) = T.take (k + 1) := by
  rw [UInt8.or_eq_zero_iff, UInt8.xor_eq_zero_iff, h, List.take_succ_eq_append_getElem hS, List.take_succ_eq_append_getElem hT, hc, hy]
  constructor
  · rintro ⟨e, rfl⟩
    rw [e]
  · intro e
    have hl : (S.take k).length = (T.take k).length := by simp; omega
    have := List.append_inj e hl
    exact ⟨this.1, by have h2 := this.2; injection h2 with h2 _; exact h2.symm⟩
theorem u8_zero (D : UInt8) : ((D.toNat : Int) == 0) = decide (D = 0) := by
  by_cases h : D = 0
  · subst h
    rfl
  · rw [decide_eq_false h, beq_eq_false_iff_ne]
    intro e
    exact h (UInt8.toNat_inj.1 (by simpa using e))

theorem fits_nil (v u : Value) (w : World) : Calls Tryd.prog 38 #[.pointer Option.none, v, u] w fun e w' => e = .returned (.bool false) ∧ w = w' := by
  go_enter Tryd.func38, Tryd.ntmps38
  go_wp2_with fail
  go_ret
  exact ⟨rfl, rfl⟩

set_option maxHeartbeats 2000000 in
set_option maxRecDepth 4000 in
theorem fits_any (K : Nat) (bl : List UInt8) (v u : Value) (tag : List UInt8) (ps : List (List UInt8)) (w : World) (hkey : IsK w K bl) (ht : Pb w v tag) (hp : Pbs w u ps) (hk : Kt w) (hf : Ft w) (h1 : 1 < w.heap.size) (htl : tag.length ≤ 9223372036854775807) (hlen : ps.flatten.length ≤ 800000) (hpl : ps.length ≤ 9223372036854775807) :
    Calls Tryd.prog 38 #[.pointer (some ⟨K, 0, none⟩), v, u] w fun e w' => e = .returned (.bool (decide (tag = sumP (mixP 92 bl ++ sumP (mixP 54 bl ++ ps.flatten))))) ∧ Below w.heap.size w w' := by
  obtain ⟨A, c, rfl, _, _⟩ := id ht
  obtain ⟨A2, c2, rfl, _, _⟩ := id hp
  have hkt := ktag_any K bl _ ps w hkey hp hk hf h1 hlen hpl
  obtain ⟨T, hT⟩ : ∃ T, T = sumP (mixP 92 bl ++ sumP (mixP 54 bl ++ ps.flatten)) := ⟨_, rfl⟩
  have hTl : T.length = 32 := by rw [hT, sumP_length]
  rw [← hT] at hkt ⊢
  obtain ⟨res, hres⟩ : ∃ res, res = decide (tag = T) := ⟨_, rfl⟩
  rw [← hres]
  obtain ⟨n, hn⟩ : ∃ n, n = tag.length := ⟨_, rfl⟩
  rw [← hn] at ht htl ⊢
  have HN := Lib.hid hn
  have HT := Lib.hid ht
  have HTL := Lib.hid hTl
  have HKT := Lib.hid hkt
  have HRES := Lib.hid hres
  clear hkt ht hTl hT hn hres hkey hp hk hf h1 hlen hpl
  go_enter Tryd.func38, Tryd.ntmps38
  by_cases h32 : n = 32
  · subst h32
    go_wp2_with fail
    refine HKT.out.mono ?_
    rintro e w1 ⟨rfl, hb1⟩
    have HP1 := Lib.hid (HT.out.below hb1)
    have HB1 := Lib.hid hb1
    clear HKT HT hb1
    go_wp2_with fail
    go_loop [7, 20] (fun d i => ∃ (k : Nat) (D : UInt8), k ≤ 32 ∧ i = .int .i64 k ∧ d = .int .u8 (D.toNat : Int) ∧ Hid (D = 0 ↔ tag.take k = T.take k)) (fun _ i => 32 - (intOf i).toNat)
    case atStart => exact ⟨0, 0, by omega, rfl, rfl, Lib.hid (by simp)⟩
    case round =>
      obtain ⟨k, D, hk, rfl, rfl, hd⟩ := hrel
      by_cases hlt : k < 32
      · have hkT : k < T.length := by rw [HTL.out]; exact hlt
        have hkS : k < tag.length := by rw [← HN.out]; exact hlt
        obtain ⟨b, o, hA, _, hcl⟩ : ∃ b o, A = some ⟨b, o, none⟩ ∧ b < w1.heap.size ∧ ∀ j u, (bv tag)[j]? = some u → w1.cell? ⟨b, o + j, none⟩ = some u := by
          obtain ⟨A', c', e, _, hr⟩ := HP1.out
          injection e with e1 _ _
          subst e1
          obtain ⟨b, o, e3, e4, e5⟩ := hr (by omega)
          exact ⟨b, o, e3, e4, e5⟩
        subst hA
        obtain ⟨x, hx⟩ : ∃ x : UInt8, x = T[k] := ⟨_, rfl⟩
        obtain ⟨y, hy⟩ : ∃ y : UInt8, y = tag[k] := ⟨_, rfl⟩
        have hcell := hcl k (.int .u8 (y.toNat : Int)) (by rw [hy]; simp [bv, hkS])
        have hxx := fun W => run_index_row W 57 5 32 (bv T).toArray k (.int .u8 (x.toNat : Int)) Tryd.underlying57 Tryd.size5 Tryd.plain5 hlt (by simp [bv, hx, hkT])
        have HX := Lib.hid hx
        have HY := Lib.hid hy
        have HKT := Lib.hid hkT
        have HKS := Lib.hid hkS
        clear hx hy hcl
        go_wp2_with fail
        go_round
        case rel => exact ⟨k + 1, D ||| (x ^^^ y), by omega, by go_num, by rw [xor_bytes, or_bytes], Lib.hid (diff_next D x y tag T k HKS.out HKT.out HX.out.symm HY.out.symm hd.out)⟩
        case measure => simp [intOf] <;> omega
      · obtain rfl : k = 32 := by omega
        have hD : ((D.toNat : Int) == 0) = res := by
          rw [u8_zero, HRES.out, decide_eq_decide, hd.out, List.take_of_length_le (by rw [← HN.out]; omega), List.take_of_length_le (by rw [HTL.out]; omega)]
        go_wp2_with fail
        go_ret
        exact ⟨rfl, HB1.out⟩
  · have t : ((n : Int) != 32) = true := by rw [bne_iff_ne]; omega
    have HRE : Hid (res = false) := HRES.out.trans (by
      rw [decide_eq_false_iff_not]
      intro e
      have := HN.out
      rw [e, HTL.out] at this
      exact h32 this)
    go_wp2_with fail
    go_ret
    exact ⟨by rw [HRE.out]; rfl, Below.refl _ _⟩
end Go.Proofs.YtaefgieodehceaaDoor.Sha
