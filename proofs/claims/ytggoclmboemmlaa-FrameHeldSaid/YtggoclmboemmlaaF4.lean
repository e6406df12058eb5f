/- Frames: a reader's length, put, take and settle. -/
import Derived.Test.YtggoclmboemmlaaF3
namespace Go.Proofs.Ytggoclmboemmlaa
open Go.RowKit

theorem row_cell {w : World} {H : Nat} {v : Value} {d : Bool} (hr : w.heap[H]? = some (.cells #[v, .bool d] 50 (0, 0))) : w.cell? ⟨H, 0, none⟩ = some v := by
  rw [cell_of_row w H 0 _ _ _ hr]
  rfl
theorem row_set {w : World} {H : Nat} {v u : Value} {d : Bool} (hr : w.heap[H]? = some (.cells #[v, .bool d] 50 (0, 0))) : (w.setCell ⟨H, 0, none⟩ u).heap[H]? = some (.cells #[u, .bool d] 50 (0, 0)) := by
  rw [heap_setCell_same w H 0 _ 50 _ hr]
  rfl

theorem or_len (x y : Nat) (hx : x < 256) (hy : y < 256) : bits .or .i64 ((x : Int) * 256) (y : Int) = ((256 * x + y : Nat) : Int) := by
  have e : ((x : Int) * 256) = ((256 * x : Nat) : Int) := by omega
  have e2 : 256 * x ||| y = 256 * x + y := (Nat.two_pow_add_eq_or_of_lt (i := 8) (by omega) x).symm
  rw [e]
  show IntKind.i64.wrap ((BitVec.ofInt 64 ((256 * x : Nat) : Int) ||| BitVec.ofInt 64 (y : Int)).toNat : Int) = _
  rw [BitVec.toNat_or, BitVec.ofInt_natCast, BitVec.ofInt_natCast, BitVec.toNat_ofNat, BitVec.toNat_ofNat, Nat.mod_eq_of_lt (by omega), Nat.mod_eq_of_lt (by omega), e2, IntKind.wrap_i64]
  omega
/-- What the reader's first two bytes tell. -/
def lenE (h : List UInt8) : Ending := .returned (.tuple #[.int .i64 (if h.length < 2 then 0 else (hd2 h : Int)), .bool (decide (2 ≤ h.length))])
set_option maxHeartbeats 1000000 in
theorem length_any (H : Nat) (v : Value) (h : List UInt8) (d : Bool) (w : World) (hr : w.heap[H]? = some (.cells #[v, .bool d] 50 (0, 0))) (hp : Pb w v h) :
    Calls Try.prog 24 #[.pointer (some ⟨H, 0, none⟩)] w fun e w' => e = lenE h ∧ Below w.heap.size w w' := by
  obtain ⟨A, c, rfl, hlc, hcl⟩ := hp
  have c0 := row_cell hr
  by_cases h2 : h.length < 2
  · have e : lenE h = .returned (.tuple #[.int .i64 0, .bool false]) := by
      unfold lenE
      rw [if_pos h2, decide_eq_false (by omega)]
    rw [e]
    clear hr e hcl
    go_enter Try.func24, Try.ntmps24
    go_wp2_with fail
    go_ret2
    exact ⟨rfl, Below.refl _ _⟩
  · have e : lenE h = .returned (.tuple #[.int .i64 (hd2 h : Int), .bool true]) := by
      unfold lenE
      rw [if_neg h2, decide_eq_true (by omega)]
    rw [e]
    obtain ⟨b, o, rfl, hb, hc⟩ := hcl (by omega)
    obtain ⟨x, y, hx, hy, hxy⟩ : ∃ x y : UInt8, (bv h)[0]? = some (.int .u8 (x.toNat : Int)) ∧ (bv h)[1]? = some (.int .u8 (y.toNat : Int)) ∧ hd2 h = 256 * x.toNat + y.toNat := by
      rcases h with _ | ⟨x, _ | ⟨y, h⟩⟩
      · simp at h2
      · simp at h2
      · exact ⟨x, y, rfl, rfl, rfl⟩
    have c1 := hc 0 _ hx
    have c2 := hc 1 _ hy
    rw [Nat.add_zero] at c1
    have hxl := x.toNat_lt
    have hyl := y.toNat_lt
    have HXY := Lib.hid hxy
    obtain ⟨l, hl⟩ : ∃ l, l = h.length := ⟨_, rfl⟩
    rw [← hl] at c0 h2 hlc
    clear hr e hcl hc hx hy hxy hl
    go_enter Try.func24, Try.ntmps24
    go_upto_region 3 with fail
    go_quiet (fail)
    go_wp2_with fail
    go_ret2
    exact ⟨by rw [or_len _ _ (by omega) (by omega), HXY.out]; rfl, below_drewN (Below.refl _ _) _⟩

set_option maxHeartbeats 1000000 in
theorem put_any (H : Nat) (v y : Value) (h b : List UInt8) (d : Bool) (w : World) (hr : IsR w H v h d) (hp : Pb w y b) (hlen : h.length + b.length ≤ 1000000) :
    Calls Try.prog 23 #[.pointer (some ⟨H, 0, none⟩), y] w fun e w' => e = .returned (.tuple #[]) ∧ ∃ v', IsR w' H v' (h ++ b) d ∧ (v'.ownBlock = v.ownBlock ∨ v'.ownBlock = some w.heap.size) ∧ Kp (fun k => k = H ∨ v.ownBlock = some k) w w' := by
  obtain ⟨A, c, rfl, _, _⟩ := id hp
  have c0 := row_cell hr.1
  have hfr : w.frozen? ⟨H, 0, none⟩ = false := frozen_of_row w _ _ _ _ hr.1
  obtain ⟨A2, n2, c2, rfl⟩ := own_form hr.2
  have hH := lt_of_block' hr.1
  have HR := Lib.hid hr
  have HP := Lib.hid hp
  clear hr hp
  go_enter Try.func23, Try.ntmps23
  go_wp2_with (at_builtin; refine wpList_append_bytes rfl (.tmp 8) (.tmp 9) rfl (H + 1) (.slice A2 n2 c2) (.slice A b.length c) h b rfl rfl HR.out.2 HP.out hlen hH ?_; intro v1 w1 hown1 hg1 hat1; have HW1 : Hid (w1.ownsRow (H + 1) 5 1 v1 (h ++ b).length (bv (h ++ b)) ∧ w.grownBy w1 (Value.slice A2 n2 c2).ownBlock ∧ (v1.ownBlock = (Value.slice A2 n2 c2).ownBlock ∨ v1.ownBlock = some w.heap.size) ∧ w1.heap[H]? = some (.cells #[.slice A2 n2 c2, .bool d] 50 (0, 0))) := ⟨hown1, hg1, hat1, by rw [hg1.block H hH (fun e => by have := (HR.out.2.lt H e.symm).1; omega)]; exact HR.out.1⟩; clear hown1 hg1 hat1; have hfr1 : w1.frozen? ⟨H, 0, none⟩ = false := frozen_of_row w1 _ _ _ _ HW1.out.2.2.2; have c1 := row_cell HW1.out.2.2.2; obtain ⟨A1, n1, c1', rfl⟩ := own_form HW1.out.1)
  go_end0
  have hk1 : Kp (fun k => k = H ∨ (Value.slice A2 n2 c2).ownBlock = some k) w w1 := (Kp.of_grown HW1.out.2.1).weaken (fun i _ e => .inr e)
  refine ⟨rfl, .slice A1 n1 c1', ⟨row_set HW1.out.2.2.2, (Kp.setCell w1 ⟨H, 0, none⟩ _).own HW1.out.1 (fun k hk e => ?_)⟩, HW1.out.2.2.1, hk1.trans (Kp.setCell w1 ⟨H, 0, none⟩ _) (fun i _ e => .inl e)⟩
  have e' : k = H := e
  have := (HW1.out.1.lt k hk).1
  omega

set_option maxHeartbeats 1000000 in
theorem settle_any (H g : Nat) (v : Value) (h : List UInt8) (d : Bool) (w : World) (hr : w.heap[H]? = some (.cells #[v, .bool d] 50 (0, 0))) (hp : Pg w g v h) (hlen : h.length ≤ 1000000) :
    Calls Try.prog 27 #[.pointer (some ⟨H, 0, none⟩)] w fun e w' => e = .returned (.tuple #[]) ∧ ∃ v', IsR w' H v' h d ∧ (∀ k, v'.ownBlock = some k → w.heap.size ≤ k) ∧ Kp (fun k => k = H) w w' := by
  obtain ⟨A, c, rfl, _, _⟩ := id hp
  have c0 := row_cell hr
  have hfr := fresh_any _ h w hp.pb hlen
  have HFR := Lib.hid hfr
  have HR := Lib.hid hr
  clear hfr hr hp
  go_enter Try.func27, Try.ntmps27
  go_wp2_with fail
  refine HFR.out.mono ?_
  rintro e w1 ⟨A1, n1, c1, rfl, hown1, hb1⟩
  have HR1 := Lib.hid ((hb1.block H (lt_of_block' HR.out)).trans HR.out)
  have hf1 : w1.frozen? ⟨H, 0, none⟩ = false := frozen_of_row w1 _ _ _ _ HR1.out
  have c1' := row_cell HR1.out
  have HO := Lib.hid hown1
  have HB := Lib.hid hb1
  have HLT := Lib.hid (lt_of_block' HR.out)
  clear hown1 hb1 HFR c0
  go_wp2_with fail
  go_end0
  have hbase : w1.ownsRow (H + 1) 5 1 (.slice A1 n1 c1) h.length (bv h) := by
    refine ⟨HO.out.1, ?_⟩
    rcases HO.out.2 with hn | ⟨g, cap, cur, hv, hb0, hr⟩
    · exact .inl hn
    · exact .inr ⟨g, cap, cur, hv, by have := HLT.out; omega, hr⟩
  refine ⟨rfl, .slice A1 n1 c1, ⟨row_set HR1.out, (Kp.setCell w1 ⟨H, 0, none⟩ _).own hbase (fun k hk e => ?_)⟩, fun k hk => (HO.out.lt k hk).1, (Kp.of_below _ HB.out).trans (Kp.setCell w1 ⟨H, 0, none⟩ _) (fun i _ e => e)⟩
  have e' : k = H := e
  have := (HO.out.lt k hk).1
  have := HLT.out
  omega

theorem pg_drop {w : World} {g o len c : Nat} {h : List UInt8} (hp : Pg w g (.slice (some ⟨g, o, none⟩) len c) h) {m : Nat} (hm : m ≤ h.length) {A : Option Addr} (hA : m < h.length → A = some ⟨g, o + m, none⟩) : Pg w g (.slice A (len - m) (c - m)) (h.drop m) := by
  obtain ⟨A', c', e, hc, hr⟩ := hp
  injection e with e1 e2 e3
  subst e2 e3
  refine ⟨A, c - m, by simp, by simp; omega, fun hx => ?_⟩
  simp at hx
  obtain ⟨o', h1, h2, h3⟩ := hr (by omega)
  rw [h1] at e1
  injection e1 with e1
  injection e1 with _ e1
  subst e1
  refine ⟨o + m, hA (by omega), h2, fun j u hu => ?_⟩
  rw [Nat.add_assoc]
  refine h3 (m + j) u ?_
  simp only [bv, List.map_drop, List.getElem?_drop] at hu ⊢
  exact hu
theorem pb_mid {w : World} {b o len c : Nat} {h : List UInt8} (hp : Pb w (.slice (some ⟨b, o, none⟩) len c) h) {m n : Nat} (hm : m + n ≤ h.length) (c2 : Nat) (hc2 : n ≤ c2) : Pb w (.slice (some ⟨b, o + m, none⟩) n c2) ((h.drop m).take n) := by
  obtain ⟨A', c', e, hc, hr⟩ := hp
  injection e with e1 e2 e3
  have hl : ((h.drop m).take n).length = n := by simp; omega
  refine ⟨_, c2, by rw [hl], by rw [hl]; exact hc2, fun hx => ?_⟩
  rw [hl] at hx
  obtain ⟨b', o', h1, h2, h3⟩ := hr (by omega)
  rw [h1] at e1
  injection e1 with e1
  injection e1 with e1 e4
  subst e1 e4
  refine ⟨b, o + m, rfl, h2, fun j u hu => ?_⟩
  rw [Nat.add_assoc]
  refine h3 (m + j) u ?_
  simp only [bv, List.map_drop, List.map_take, List.getElem?_take, List.getElem?_drop] at hu ⊢
  split at hu
  · exact hu
  · cases hu

set_option maxHeartbeats 1000000 in
theorem take_any (H g n : Nat) (v : Value) (h : List UInt8) (d : Bool) (w : World) (hr : w.heap[H]? = some (.cells #[v, .bool d] 50 (0, 0))) (hp : Pg w g v h) (hg : g ≠ H) (hlen : h.length ≤ 1000000) (hn1 : 1 ≤ n) (hn : 2 + n ≤ h.length) :
    Calls Try.prog 26 #[.pointer (some ⟨H, 0, none⟩), .int .i64 (n : Int)] w fun e w' => ∃ A1 n1 c1, e = .returned (.slice A1 n1 c1) ∧ ∃ v', w'.heap[H]? = some (.cells #[v', .bool d] 50 (0, 0)) ∧ Pg w' g v' (h.drop (2 + n)) ∧ w'.ownsRow w.heap.size 5 1 (.slice A1 n1 c1) n (bv ((h.drop 2).take n)) ∧ Kp (fun k => k = H) w w' := by
  obtain ⟨A, c, rfl, hcc, hcl⟩ := id hp
  obtain ⟨o, rfl, hgl, _⟩ := hcl (by omega)
  have c0 := row_cell hr
  have hcut : ((h.drop 2).take n).length = n := by simp; omega
  have hfr := fun c2 hc2 => fresh_any (.slice (some ⟨g, o + 2, none⟩) n c2) ((h.drop 2).take n) w (pb_mid hp.pb (by omega) c2 hc2) (by rw [hcut]; omega)
  rw [hcut] at hfr
  obtain ⟨l, hl⟩ : ∃ l, l = h.length := ⟨_, rfl⟩
  rw [← hl] at c0 hr hcc hlen hn hp
  have e1 : (2 + (n : Int)) = ((2 + n : Nat) : Int) := by omega
  obtain ⟨m, hm⟩ : ∃ m, m = 2 + n := ⟨_, rfl⟩
  rw [← hm] at e1
  have HFR := Lib.hid hfr
  have HR := Lib.hid hr
  have HP := Lib.hid hp
  have HL := Lib.hid hl
  have HM := Lib.hid hm
  have hml : m ≤ l := by omega
  have hm2 : 2 ≤ m := by omega
  clear hfr hr hp hl hcl hcut hn hm
  go_enter Try.func26, Try.ntmps26
  go_wp2_with fail
  have hmn : m - 2 = n := by have := HM.out; omega
  rw [hmn]
  refine (HFR.out (c - 2) (by omega)).mono ?_
  rintro e w1 ⟨A1, n1, c1, rfl, hown1, hb1⟩
  have HR1 := Lib.hid ((hb1.block H (lt_of_block' HR.out)).trans HR.out)
  have hf1 : w1.frozen? ⟨H, 0, none⟩ = false := frozen_of_row w1 _ _ _ _ HR1.out
  have c1' := row_cell HR1.out
  have HP1 := Lib.hid (HP.out.kept (Kp.of_below (fun _ => False) hb1) (fun e => e))
  have HO := Lib.hid hown1
  have HB := Lib.hid hb1
  have HLT := Lib.hid (lt_of_block' HR.out)
  have fin : ∀ A', (m < h.length → A' = some ⟨g, o + m, none⟩) → ∀ (w2 : World), w2 = w1.setCell ⟨H, 0, none⟩ (.slice A' (l - m) (c - m)) →
      (∃ v', w2.heap[H]? = some (.cells #[v', .bool d] 50 (0, 0)) ∧ Pg w2 g v' (h.drop (2 + n)) ∧ w2.ownsRow w.heap.size 5 1 (.slice A1 n1 c1) n (bv ((h.drop 2).take n)) ∧ Kp (fun k => k = H) w w2) := by
    rintro A' hA w2 rfl
    refine ⟨_, row_set HR1.out, ?_, (Kp.setCell w1 ⟨H, 0, none⟩ _).own HO.out (fun k hk e => ?_), (Kp.of_below _ HB.out).trans (Kp.setCell w1 ⟨H, 0, none⟩ _) (fun i _ e => e)⟩
    · rw [← HM.out]
      exact (pg_drop HP1.out (by rw [← HL.out]; exact hml) hA).kept (Kp.setCell w1 ⟨H, 0, none⟩ _) (fun e => hg e)
    · have e' : k = H := e
      have := (HO.out.lt k hk).1
      have := HLT.out
      omega
  have FIN := Lib.hid fin
  clear fin hown1 hb1 HFR c0 hmn
  by_cases hcm : c = m
  · have hlm : ¬ m < h.length := by rw [← HL.out]; omega
    have HLM := Lib.hid hlm
    clear hlm
    subst hcm
    go_wp2_with fail
    go_ret
    exact ⟨A1, n1, c1, rfl, FIN.out (some ⟨g, o, none⟩) (fun e => absurd e HLM.out) _ (by rw [show l - c = 0 by omega, Nat.sub_self])⟩
  · go_wp2_with fail
    go_ret
    exact ⟨A1, n1, c1, rfl, FIN.out _ (fun _ => rfl) _ rfl⟩
end Go.Proofs.Ytggoclmboemmlaa
