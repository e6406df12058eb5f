/- Timer: the line behind an interface; a heap, plain; up. -/
import Derived.Test.YtaoejkbockcneaaT2
namespace Go.Proofs.Ytaoejkbockcneaa
open Go.RowKit
set_option maxRecDepth 20000

theorem nc (Q : Nat) (W : World) (s : String) : (Builtin.ssaWrapNilChk_ #[110] 110 #[.pointer (some ⟨Q, 0, none⟩), strVal "", strVal s]).run Try.prog W = .ok (.pointer (some ⟨Q, 0, none⟩)) W := by rfl
theorem m3 (Q : Nat) (v : Value) (W : World) (h : W.cell? ⟨Q, 0, none⟩ = some v) (s : String) : (receiverAt 110 (Place.val (.pointer (some ⟨Q, 0, none⟩))) false (some s)).run Try.prog W = .ok v W := by
  simp [receiverAt, go_sem, run_underlying Try.underlying110, Place.get, nc, asAddr, h]
theorem mLen (Q : Nat) (v : Value) (W : World) (h : W.cell? ⟨Q, 0, none⟩ = some v) : (method 297 110 (.pointer (some ⟨Q, 0, none⟩)) "Len").run Try.prog W = .ok (118, v) W := by
  rw [show (method 297 110 (.pointer (some ⟨Q, 0, none⟩)) "Len").run Try.prog W = ((receiverAt 110 (Place.val (.pointer (some ⟨Q, 0, none⟩))) false (some "Len")) >>= fun r => pure (118, r)).run Try.prog W by kernel_rfl]
  simp [go_sem, m3 Q v W h]
theorem mLess (Q : Nat) (v : Value) (W : World) (h : W.cell? ⟨Q, 0, none⟩ = some v) : (method 297 110 (.pointer (some ⟨Q, 0, none⟩)) "Less").run Try.prog W = .ok (119, v) W := by
  rw [show (method 297 110 (.pointer (some ⟨Q, 0, none⟩)) "Less").run Try.prog W = ((receiverAt 110 (Place.val (.pointer (some ⟨Q, 0, none⟩))) false (some "Less")) >>= fun r => pure (119, r)).run Try.prog W by kernel_rfl]
  simp [go_sem, m3 Q v W h]
theorem mSwap (Q : Nat) (v : Value) (W : World) (h : W.cell? ⟨Q, 0, none⟩ = some v) : (method 297 110 (.pointer (some ⟨Q, 0, none⟩)) "Swap").run Try.prog W = .ok (120, v) W := by
  rw [show (method 297 110 (.pointer (some ⟨Q, 0, none⟩)) "Swap").run Try.prog W = ((receiverAt 110 (Place.val (.pointer (some ⟨Q, 0, none⟩))) false (some "Swap")) >>= fun r => pure (120, r)).run Try.prog W by kernel_rfl]
  simp [go_sem, m3 Q v W h]

/-- The queue in block Q: its line at v, its map in block M, its next turn. -/
structure InQ (w : World) (B0 Q M tn : Nat) (v : Value) (hp : List It) : Prop where
  row : w.heap[Q]? = some (.cells #[v, .map (some M), .int .u64 (tn : Int)] 103 (0, 0))
  ln : InL w B0 v hp
  lo : B0 ≤ Q
theorem InQ.after {w w' : World} {B0 Q M tn : Nat} {v : Value} {hp : List It} (h : InQ w B0 Q M tn v hp) (hb : Below w.heap.size w w') : InQ w' B0 Q M tn v hp := ⟨(hb.block Q (lt_of_block h.row)).trans h.row, h.ln.after hb, h.lo⟩
theorem InQ.c0 {w : World} {B0 Q M tn : Nat} {v : Value} {hp : List It} (h : InQ w B0 Q M tn v hp) : w.cell? ⟨Q, 0, none⟩ = some v := by simpa using cell_of_row w Q 0 _ _ _ h.row
theorem InQ.swapped {w w' : World} {B0 Q M tn : Nat} {v : Value} {hp hp' : List It} (h : InQ w B0 Q M tn v hp) (hl : InL w' B0 v hp') (hc : Ch 0 B0 w w') : InQ w' B0 Q M tn v hp' := ⟨hc.kept Q _ h.row (by simp [okT]), hl, h.lo⟩

theorem lt_iff (a b : It) : lt a b = true ↔ (a.2.2.2.1 < b.2.2.2.1 ∨ (a.2.2.2.1 = b.2.2.2.1 ∧ a.2.2.2.2 < b.2.2.2.2)) := by simp [lt]
theorem lt_iff' (a b : It) : lt a b = false ↔ ¬(a.2.2.2.1 < b.2.2.2.1 ∨ (a.2.2.2.1 = b.2.2.2.1 ∧ a.2.2.2.2 < b.2.2.2.2)) := by rw [← lt_iff]; simp
theorem lt_asym {a b : It} (h : lt a b = true) : lt b a = false := by rw [lt_iff] at h; rw [lt_iff']; omega
theorem ge_trans {a b c : It} (h : lt a b = false) (h' : lt b c = false) : lt a c = false := by rw [lt_iff'] at *; omega
theorem ge_lt {a b c : It} (h : lt a b = false) (h' : lt c b = true) : lt a c = false := by rw [lt_iff'] at *; rw [lt_iff] at h'; omega
/-- Of the first n no one stands ahead of the one above it. -/
def HeapN (n : Nat) (hp : List It) : Prop := ∀ (i : Nat) (a b : It), 0 < i → i < n → hp[i]? = some a → hp[(i - 1) / 2]? = some b → lt a b = false
def UpI (n : Nat) (hp : List It) (j : Nat) : Prop :=
  (∀ (i : Nat) (a b : It), 0 < i → i < n → i ≠ j → hp[i]? = some a → hp[(i - 1) / 2]? = some b → lt a b = false) ∧
  (∀ (c : Nat) (a b : It), 0 < j → (c - 1) / 2 = j → 0 < c → c < n → hp[c]? = some a → hp[(j - 1) / 2]? = some b → lt a b = false)
theorem up_step {n j : Nat} {hp : List It} {a b : It} (h : UpI n hp j) (hj0 : 0 < j) (hjn : j < n) (ha : hp[j]? = some a) (hb : hp[(j - 1) / 2]? = some b) (hl : lt a b = true) : UpI n ((hp.set ((j - 1) / 2) a).set j b) ((j - 1) / 2) := by
  obtain ⟨p, hp0⟩ : ∃ p, p = (j - 1) / 2 := ⟨_, rfl⟩
  rw [← hp0] at hb ⊢
  have hpj : p ≠ j := by omega
  have get := swap_get hp p j b a hb ha hpj
  constructor
  · intro i x y hi0 hin hip hx hy
    rw [get] at hx hy
    by_cases hij : i = j
    · subst hij
      rw [if_pos rfl] at hx
      injection hx with hx
      rw [if_neg (by omega), if_pos hp0.symm] at hy
      injection hy with hy
      rw [← hx, ← hy]
      exact lt_asym hl
    · rw [if_neg hij, if_neg hip] at hx
      by_cases hq : (i - 1) / 2 = j
      · rw [if_pos hq] at hy
        injection hy with hy
        rw [← hy]
        exact h.2 i x b hj0 hq hi0 hin hx (by rw [← hp0]; exact hb)
      · rw [if_neg hq] at hy
        by_cases hqp : (i - 1) / 2 = p
        · rw [if_pos hqp] at hy
          injection hy with hy
          rw [← hy]
          exact ge_lt (h.1 i x b hi0 hin hij hx (by rw [hqp]; exact hb)) hl
        · rw [if_neg hqp] at hy
          exact h.1 i x y hi0 hin hij hx hy
  · intro c x y hp00 hc hc0 hcn hx hy
    rw [get] at hx hy
    rw [if_neg (by omega), if_neg (by omega)] at hy
    have hby := h.1 p b y hp00 (by omega) hpj hb hy
    by_cases hcj : c = j
    · rw [if_pos hcj] at hx
      injection hx with hx
      rw [← hx]
      exact hby
    · rw [if_neg hcj, if_neg (by omega)] at hx
      exact ge_trans (h.1 c x b hc0 hcn hcj hx (by rw [hc]; exact hb)) hby
theorem up_done {n j : Nat} {hp : List It} (h : UpI n hp j) (hj : 0 < j → ∀ (a b : It), hp[j]? = some a → hp[(j - 1) / 2]? = some b → lt a b = false) : HeapN n hp := fun i a b hi hin ha hb => by
  by_cases hij : i = j
  · subst hij
    exact hj hi a b ha hb
  · exact h.1 i a b hi hin hij ha hb
theorem swap_perm {hp : List It} {i j : Nat} {a b : It} (hi : hp[i]? = some a) (hj : hp[j]? = some b) (_hij : i ≠ j) : ((hp.set i b).set j a).Perm hp := by
  obtain ⟨hil, hia⟩ := List.getElem?_eq_some_iff.1 hi
  obtain ⟨hjl, hjb⟩ := List.getElem?_eq_some_iff.1 hj
  have h := List.set_set_perm hil hjl
  rw [hia, hjb] at h
  exact h

set_option linter.unusedSimpArgs false in
set_option maxHeartbeats 8000000 in
theorem up_any {B0 Q M tn : Nat} (v : Value) (hp : List It) (n j : Nat) (w : World) (h : InQ w B0 Q M tn v hp) (hjn : j < n) (hn : n ≤ hp.length) (hl : hp.length ≤ 1000) (hu : UpI n hp j) :
    Calls Try.prog 65 #[.iface 110 (.pointer (some ⟨Q, 0, none⟩)), .int .i64 (j : Int)] w fun r w' => r = .returned (.tuple #[]) ∧ ∃ hp', InQ w' B0 Q M tn v hp' ∧ hp'.Perm hp ∧ (∀ k, n ≤ k → hp'[k]? = hp[k]?) ∧ HeapN n hp' ∧ Ch 0 B0 w w' := by
  have HH := Lib.hid h
  have HU := Lib.hid hu
  have HC : Hid (Ch 0 B0 w w) := Ch.refl _ _ _
  clear h hu
  go_enter Try.func65, Try.ntmps65
  go_wp2_with fail
  go_loopw [1] (fun u wr => ∃ (k : Nat) (hq : List It), k ≤ j ∧ u = .int .i64 (k : Int) ∧ Hid (InQ wr B0 Q M tn v hq) ∧ Hid (hq.Perm hp ∧ ∀ k, n ≤ k → hq[k]? = hp[k]?) ∧ Hid (UpI n hq k) ∧ Hid (Ch 0 B0 w wr)) (fun u _ => (intOf u).toNat)
  case atStart => exact ⟨j, hp, by omega, rfl, HH, ⟨List.Perm.refl _, fun _ _ => rfl⟩, HU, HC⟩
  case round =>
    obtain ⟨k, hq, hkj, rfl, HI, HP, HUk, HCk⟩ := hrel
    have hlq : hq.length = hp.length := HP.out.1.length_eq
    obtain ⟨a, ha⟩ : ∃ a, hq[k]? = some a := ⟨hq[k]'(by omega), List.getElem?_eq_getElem _⟩
    by_cases hk0 : k = 0
    · subst hk0
      have HD : Hid (HeapN n hq) := up_done HUk.out (fun h => absurd h (Nat.lt_irrefl 0))
      have e0 : Int.tdiv (-1) 2 = 0 := by decide
      go_wp2
      go_end0
      exact ⟨rfl, hq, HI.out, HP.out.1, HP.out.2, HD.out, HCk.out⟩
    · obtain ⟨p, hp0⟩ : ∃ p, p = (k - 1) / 2 := ⟨_, rfl⟩
      have hpk : p < k := by omega
      obtain ⟨b, hb⟩ : ∃ b, hq[p]? = some b := ⟨hq[p]'(by omega), List.getElem?_eq_getElem _⟩
      have hqd : Int.tdiv ((k : Int) - 1) 2 = (p : Int) := by rw [hp0]; rw [show (k : Int) - 1 = ((k - 1 : Nat) : Int) by omega]; rfl
      have hpk' : ¬ (p : Int) = (k : Int) := by omega
      have HLS := Lib.hid (less_any v hq k p a b wr HI.out.ln ha hb)
      have mL := mLess Q v wr HI.out.c0
      have HA := Lib.hid ha
      have HB := Lib.hid hb
      have HP0 := Lib.hid hp0
      clear ha hb hp0 hlq
      go_wp2_with fail
      refine HLS.out.mono ?_
      rintro r w1 ⟨rfl, hb1⟩
      have HI1 := Lib.hid (HI.out.after hb1)
      have HC1 : Hid (Ch 0 B0 w w1) := HCk.out.trans (Ch.of_below (Nat.le_trans HI.out.lo (Nat.le_of_lt (lt_of_block HI.out.row))) hb1)
      obtain ⟨q, hq0⟩ : ∃ q, q = lt a b := ⟨_, rfl⟩
      rw [← hq0]
      have HQ0 := Lib.hid hq0
      clear hb1 hq0 mL
      have hpk2 : ((p : Int) == (k : Int)) = false := by simp; omega
      cases q with
      | false =>
        have HD : Hid (HeapN n hq) := up_done HUk.out (fun _ x y hx hy => by
          rw [HA.out] at hx
          rw [← HP0.out, HB.out] at hy
          injection hx with hx
          injection hy with hy
          rw [← hx, ← hy]
          exact HQ0.out.symm)
        go_wp2
        go_end0
        exact ⟨rfl, hq, HI1.out, HP.out.1, HP.out.2, HD.out, HC1.out⟩
      | true =>
        have mS := mSwap Q v w1 HI1.out.c0
        have hpne : p ≠ k := by omega
        have HSW := Lib.hid (swap_any v hq p k b a w1 HI1.out.ln HB.out HA.out hpne (by have := HP.out.1.length_eq; omega))
        go_wp2_with fail
        refine HSW.out.mono ?_
        rintro r w2 ⟨rfl, hln, hch⟩
        have HI2 := Lib.hid (HI1.out.swapped hln hch)
        have HC2 := Lib.hid (HC1.out.trans hch)
        have HU2 : Hid (UpI n ((hq.set p a).set k b) p) := by
          have := up_step HUk.out (by omega) (by omega) HA.out (by rw [← HP0.out]; exact HB.out) HQ0.out.symm
          rw [← HP0.out] at this
          exact this
        have HP2 : Hid (((hq.set p a).set k b).Perm hp ∧ ∀ k', n ≤ k' → ((hq.set p a).set k b)[k']? = hp[k']?) := ⟨(swap_perm HB.out HA.out hpne).trans HP.out.1, fun k' hk' => by rw [swap_get hq p k b a HB.out HA.out hpne, if_neg (by omega), if_neg (by omega)]; exact HP.out.2 k' hk'⟩
        clear hln hch mS
        go_wp2
        go_roundw
        case rel => exact ⟨p, _, by omega, rfl, HI2, HP2, HU2, HC2⟩
        case measure => simp [intOf] <;> omega
end Go.Proofs.Ytaoejkbockcneaa
