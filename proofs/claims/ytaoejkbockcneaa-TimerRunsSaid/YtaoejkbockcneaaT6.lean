/- Timer: heap.Push, heap.Remove. -/
import Derived.Test.YtaoejkbockcneaaT5
namespace Go.Proofs.Ytaoejkbockcneaa
open Go.RowKit
set_option maxRecDepth 20000

theorem mPush (Q : Nat) (W : World) : (method 297 110 (.pointer (some ⟨Q, 0, none⟩)) "Push").run Try.prog W = .ok (122, .pointer (some ⟨Q, 0, none⟩)) W := by kernel_rfl
theorem mPop (Q : Nat) (W : World) : (method 297 110 (.pointer (some ⟨Q, 0, none⟩)) "Pop").run Try.prog W = .ok (121, .pointer (some ⟨Q, 0, none⟩)) W := by kernel_rfl
theorem up_new {hp : List It} {e : It} (h : HeapN hp.length hp) : UpI (hp.length + 1) (hp ++ [e]) hp.length := by
  refine ⟨fun i a b hi0 hin hne ha hb => ?_, fun c a b h0 hc hc0 hcn ha hb => by omega⟩
  have hil : i < hp.length := by omega
  rw [List.getElem?_append_left hil] at ha
  rw [List.getElem?_append_left (by omega)] at hb
  exact h i a b hi0 hil ha hb
set_option linter.unusedSimpArgs false in
set_option maxHeartbeats 4000000 in
theorem hpush_any {B0 Q M tn pl : Nat} (v : Value) (hp : List It) (e : It) (w : World) (h : InQ w B0 Q M tn v hp) (hn : hp.length < 1000) (he : w.heap[e.1]? = some (.cells (ic e pl) 106 (0, 0))) (hne : ∀ x ∈ hp, x.1 ≠ e.1) (hlo : B0 ≤ e.1) (hh : HeapN hp.length hp) :
    Calls Try.prog 46 #[.iface 110 (.pointer (some ⟨Q, 0, none⟩)), .iface 104 (.pointer (some ⟨e.1, 0, none⟩))] w fun r w' => r = .returned (.tuple #[]) ∧ ∃ v' hp', InQ w' B0 Q M tn v' hp' ∧ hp'.Perm (hp ++ [e]) ∧ HeapN hp'.length hp' ∧ Ch 1 B0 w w' := by
  have HP := Lib.hid (lpush_any v hp e w h (by omega) he hne hlo)
  have HU := Lib.hid (up_new (e := e) hh)
  have m1 := mPush Q w
  clear h he hne hh
  go_enter Try.func46, Try.ntmps46
  go_wp2_with fail
  refine HP.out.mono ?_
  rintro r w1 ⟨rfl, v1, hI, hC⟩
  have HI := Lib.hid hI
  have HC := Lib.hid hC
  obtain ⟨n, hnn⟩ : ∃ n, n = hp.length := ⟨_, rfl⟩
  have HNN := Lib.hid hnn
  have HL := Lib.hid (llen_any v1 (hp ++ [e]) w1 HI.out.ln)
  have hle : (hp ++ [e]).length = n + 1 := by rw [hnn]; simp
  rw [hle] at HL
  have m2 := mLen Q v1 w1 HI.out.c0
  have HUP := Lib.hid (up_any v1 (hp ++ [e]) (n + 1) n w1 HI.out (by omega) (by rw [hle]; exact Nat.le_refl _) (by rw [hle]; omega) (by rw [hnn]; exact HU.out))
  have e1 : ((n + 1 : Nat) : Int) - 1 = (n : Int) := by omega
  have hnb : n < 1000 := by omega
  clear hI hC hle hnn m1
  go_wp2_with fail
  refine HL.out.mono ?_
  rintro r w2 ⟨rfl, hw2⟩
  subst hw2
  go_wp2_with fail
  refine HUP.out.mono ?_
  rintro r w3 ⟨rfl, hp', hI3, hp3, _, hH3, hC3⟩
  have HF : Hid (InQ w3 B0 Q M tn v1 hp' ∧ hp'.Perm (hp ++ [e]) ∧ HeapN hp'.length hp' ∧ Ch 1 B0 w w3) := ⟨hI3, hp3, by
    rw [hp3.length_eq, List.length_append, ← HNN.out]
    exact hH3, HC.out.trans (hC3.up (by omega))⟩
  clear hI3 hp3 hH3 hC3
  go_wp2
  first | go_end0 | skip
  exact ⟨rfl, v1, hp', HF.out⟩

theorem heap_take {n : Nat} {hp : List It} (h : HeapN n hp) : HeapN (hp.take n).length (hp.take n) := fun i a b hi0 hin ha hb => by
  rw [List.length_take] at hin
  rw [List.getElem?_take, if_pos (by omega)] at ha hb
  exact h i a b hi0 (by omega) ha hb
theorem take_last {hp : List It} {n : Nat} {e : It} (hn : hp.length = n + 1) (he : hp[n]? = some e) : hp.take n ++ [e] = hp := by
  have h1 := List.take_add_one (l := hp) (i := n)
  rw [he] at h1
  have h2 : hp.take (n + 1) = hp := List.take_of_length_le (by omega)
  rw [h2] at h1
  exact h1.symm
theorem dn_start {hp : List It} {n i : Nat} {e l : It} (h : HeapN (n + 1) hp) (hin : i < n) (hi : hp[i]? = some e) (hl : hp[n]? = some l) : DnI n ((hp.set i l).set n e) i := by
  have get := swap_get hp i n e l hi hl (by omega)
  refine ⟨fun c x y hc0 hcn hci hne hx hy => ?_, fun c x y hi0 hci hc0 hcn hx hy => ?_⟩
  · rw [get, if_neg (by omega), if_neg hne] at hx
    rw [get, if_neg (by omega), if_neg hci] at hy
    exact h c x y hc0 (by omega) hx hy
  · rw [get, if_neg (by omega), if_neg (by omega)] at hx
    rw [get, if_neg (by omega), if_neg (by omega)] at hy
    have h1 := h c x e hc0 (by omega) hx (by rw [hci]; exact hi)
    have h2 := h i e y hi0 (by omega) hi hy
    exact ge_trans h1 h2

def RmPost (B0 Q M tn : Nat) (hp : List It) (e : It) (w : World) (r : Ending) (w' : World) : Prop :=
  ∃ x v' hp', r = .returned x ∧ InQ w' B0 Q M tn v' hp' ∧ (hp' ++ [e]).Perm hp ∧ HeapN hp'.length hp' ∧ Ch 1 B0 w w'
def PopPost (B0 Q M tn : Nat) (hp : List It) (w : World) (r : Ending) (w' : World) : Prop :=
  ∃ x v', r = .returned x ∧ InQ w' B0 Q M tn v' hp ∧ Ch 1 B0 w w'
set_option linter.unusedSimpArgs false in
set_option maxHeartbeats 8000000 in
theorem hremove_any {B0 Q M tn : Nat} (v : Value) (hp : List It) (i : Nat) (e : It) (w : World) (h : InQ w B0 Q M tn v hp) (hn : hp.length ≤ 1000) (hi : hp[i]? = some e) (hh : HeapN hp.length hp) :
    Calls Try.prog 48 #[.iface 110 (.pointer (some ⟨Q, 0, none⟩)), .int .i64 (i : Int)] w (RmPost B0 Q M tn hp e w) := by
  have hil := (List.getElem?_eq_some_iff.1 hi).1
  obtain ⟨n, hnn⟩ : ∃ n, hp.length = n + 1 := ⟨hp.length - 1, by omega⟩
  have HH := Lib.hid h
  have HI := Lib.hid hi
  have HHP := Lib.hid hh
  have HNN := Lib.hid hnn
  have HL := Lib.hid (llen_any v hp w h.ln)
  rw [hnn] at HL hil hn
  have m1 := mLen Q v w h.c0
  have e1 : ((n + 1 : Nat) : Int) - 1 = (n : Int) := by omega
  have HPOP : Hid (∀ (W : World) (hq : List It), InQ W B0 Q M tn v hq → hq.Perm hp → hq[n]? = some e → HeapN n hq → Ch 1 B0 w W → Calls Try.prog 121 #[.pointer (some ⟨Q, 0, none⟩)] W (RmPost B0 Q M tn hp e w)) := fun W hq h1 h2 h3 h4 h5 => by
    have hl : hq.length = n + 1 := by rw [h2.length_eq]; exact HNN.out
    have ht := take_last hl h3
    have h6 : InQ W B0 Q M tn v (hq.take n ++ [e]) := by rw [ht]; exact h1
    refine (lpop_any v (hq.take n) e W h6 (by rw [List.length_take]; omega)).mono fun r w' ⟨x, v', k1, k2, k3⟩ => ⟨x, v', hq.take n, k1, k2, by rw [ht]; exact h2, heap_take h4, h5.trans k3⟩
  clear h hi hh hnn
  by_cases hni : n = i
  · have HP1 := Lib.hid (HPOP.out w hp HH.out (List.Perm.refl _) (by rw [hni]; exact HI.out) (fun k a b k0 kn ka kb => HHP.out k a b k0 (by have := HNN.out; omega) ka kb) (Ch.refl _ _ _))
    have m2 := mPop Q w
    have hni' : (n : Int) = (i : Int) := by omega
    go_enter Try.func48, Try.ntmps48
    go_wp2_with fail
    refine HL.out.mono ?_
    rintro r w2 ⟨rfl, hw2⟩
    subst hw2
    go_wp2_with fail
    refine HP1.out.mono ?_
    rintro r w3 hr
    obtain ⟨x, hx⟩ : ∃ x, r = .returned x := by obtain ⟨x, _, _, h, _⟩ := hr; exact ⟨x, h⟩
    subst hx
    have HR := Lib.hid hr
    clear hr
    go_wp2
    go_ret
    exact HR.out
  · have hni' : ¬ (n : Int) = (i : Int) := by omega
    obtain ⟨l, hl⟩ : ∃ l, hp[n]? = some l := ⟨hp[n]'(by have := HNN.out; omega), List.getElem?_eq_getElem _⟩
    have HSW := Lib.hid (swap_any v hp i n e l w HH.out.ln HI.out hl (by omega) (by have := HNN.out; omega))
    have HD : Hid (DnI n ((hp.set i l).set n e) i) := dn_start (by rw [← HNN.out]; exact HHP.out) (by omega) HI.out hl
    have HPM : Hid (((hp.set i l).set n e).Perm hp) := swap_perm HI.out hl (by omega)
    have HQN : Hid (((hp.set i l).set n e)[n]? = some e) := by simp only [Hid]; rw [swap_get hp i n e l HI.out hl (by omega), if_pos rfl]
    obtain ⟨hq, hhq⟩ : ∃ hq, hq = (hp.set i l).set n e := ⟨_, rfl⟩
    rw [← hhq] at HSW HD HPM HQN
    have m2 := mSwap Q v w HH.out.c0
    clear hl hhq
    go_enter Try.func48, Try.ntmps48
    go_wp2_with fail
    refine HL.out.mono ?_
    rintro r w2 ⟨rfl, hw2⟩
    subst hw2
    go_wp2_with fail
    refine HSW.out.mono ?_
    rintro r w3 ⟨rfl, hln, hch⟩
    have HI3 := Lib.hid (HH.out.swapped hln hch)
    have HC3 := Lib.hid (hch.up (m' := 1) (by omega))
    clear hln hch m1 m2
    have hlq : hq.length = n + 1 := by rw [HPM.out.length_eq]; exact HNN.out
    have HDN := Lib.hid (down_any v hq n i w3 HI3.out (by omega) (by omega) (by omega) HD.out)
    go_wp2_with fail
    refine HDN.out.mono ?_
    rintro r w4 ⟨b, h4, rfl, hI4, hp4, hk4, hres, hC4⟩
    have HI4 := Lib.hid hI4
    have HP4 := Lib.hid hp4
    have HK4 := Lib.hid hk4
    have HC4 : Hid (Ch 1 B0 w2 w4) := HC3.out.trans (hC4.up (by omega))
    clear hI4 hp4 hk4 hC4
    rcases hres with ⟨rfl, hH⟩ | ⟨rfl, hU⟩
    · have HP1 := Lib.hid (HPOP.out w4 h4 HI4.out (HP4.out.trans HPM.out) (by rw [HK4.out n (Nat.le_refl _)]; exact HQN.out) hH HC4.out)
      have m2 := mPop Q w4
      clear hH
      go_wp2_with fail
      refine HP1.out.mono ?_
      rintro r w5 hr
      obtain ⟨x, hx⟩ : ∃ x, r = .returned x := by obtain ⟨x, _, _, h, _⟩ := hr; exact ⟨x, h⟩
      subst hx
      have HR := Lib.hid hr
      clear hr
      go_wp2
      go_ret
      exact HR.out
    · have HUP := Lib.hid (up_any v h4 n i w4 HI4.out (by omega) (by rw [HP4.out.length_eq]; omega) (by rw [HP4.out.length_eq]; omega) hU)
      clear hU
      go_wp2_with fail
      refine HUP.out.mono ?_
      rintro r w5 ⟨rfl, h5, hI5, hp5, hk5, hH5, hC5⟩
      have HP1 := Lib.hid (HPOP.out w5 h5 hI5 (hp5.trans (HP4.out.trans HPM.out)) (by rw [hk5 n (Nat.le_refl _), HK4.out n (Nat.le_refl _)]; exact HQN.out) hH5 (HC4.out.trans (hC5.up (by omega))))
      have m2 := mPop Q w5
      clear hI5 hp5 hk5 hH5 hC5
      go_wp2_with fail
      refine HP1.out.mono ?_
      rintro r w6 hr
      obtain ⟨x, hx⟩ : ∃ x, r = .returned x := by obtain ⟨x, _, _, h, _⟩ := hr; exact ⟨x, h⟩
      subst hx
      have HR := Lib.hid hr
      clear hr
      go_wp2
      go_ret
      exact HR.out
end Go.Proofs.Ytaoejkbockcneaa
