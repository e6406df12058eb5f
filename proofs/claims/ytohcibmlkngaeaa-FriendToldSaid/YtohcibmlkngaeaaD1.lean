/- Friend: the document's rows in memory; has, Are, Asks, Blocks, wrong. -/
import Derived.Test.YtohcibmlkngaeaaG9
import Derived.Laws.AppendOwn
namespace Go.Proofs.Ytohcibmlkngaeaa
open Go.RowKit Go.Maps
set_option maxRecDepth 20000
set_option linter.unusedVariables false
set_option linter.unusedSimpArgs false

def rwC (e : Rw) : List Value := [.int .i64 (e.1 : Int), u e.2.1, u e.2.2]
def rw3 (l : List Rw) : List Value := l.flatMap rwC
theorem rw3_len (l : List Rw) : (rw3 l).length = l.length * 3 := by
  induction l with
  | nil => rfl
  | cons e l ih =>
    unfold rw3 at ih ⊢
    rw [List.flatMap_cons, List.length_append, ih, List.length_cons]
    simp [rwC]
    omega
theorem rw3_get : ∀ (l : List Rw) (i : Nat) (e : Rw) (j : Nat), l[i]? = some e → j < 3 → (rw3 l)[i * 3 + j]? = (rwC e)[j]?
  | [], i, e, j, h, _ => by simp at h
  | x :: l, 0, e, j, h, hj => by
    simp at h
    subst h
    unfold rw3
    rw [List.flatMap_cons, List.getElem?_append_left (by simp [rwC]; omega)]
    simp
  | x :: l, i + 1, e, j, h, hj => by
    have ih := rw3_get l i e j (by simpa using h) hj
    unfold rw3 at ih ⊢
    rw [List.flatMap_cons, List.getElem?_append_right (by simp [rwC]; omega)]
    simp only [show (rwC x).length = 3 from rfl, show (i + 1) * 3 + j - 3 = i * 3 + j by omega]
    exact ih
theorem rw3_snoc (l : List Rw) (e : Rw) : rw3 (l ++ [e]) = rw3 l ++ rwC e := by simp [rw3]
/-- The rows l are read from A on. -/
def Rr (w : World) (A : Option Addr) (l : List Rw) : Prop :=
  0 < l.length → ∃ b o cc, A = some ⟨b, o, none⟩ ∧ w.heap[b]? = some (.cells cc 70 (0, 0)) ∧ ∀ i e, l[i]? = some e → w.cell? ⟨b, o + i * 3, none⟩ = some (.int .i64 (e.1 : Int)) ∧ w.cell? ⟨b, o + i * 3 + 1, none⟩ = some (u e.2.1) ∧ w.cell? ⟨b, o + i * 3 + 2, none⟩ = some (u e.2.2)
theorem Rr.keep {w W : World} {A : Option Addr} {l : List Rw} (h : Rr w A l) (hb : ∀ (b : Nat) (cc : Array Value), w.heap[b]? = some (Obj.cells cc 70 (0, 0)) → W.heap[b]? = w.heap[b]?) : Rr W A l := fun hl => by
  obtain ⟨b, o, cc, h1, h2, h3⟩ := h hl
  have e := hb b cc h2
  refine ⟨b, o, cc, h1, e.trans h2, fun i x hx => ?_⟩
  obtain ⟨q1, q2, q3⟩ := h3 i x hx
  exact ⟨(World.cell?_of_block e).trans q1, (World.cell?_of_block e).trans q2, (World.cell?_of_block e).trans q3⟩
theorem Rr.below {w W : World} {A : Option Addr} {l : List Rw} (h : Rr w A l) (hb : Below w.heap.size w W) : Rr W A l := h.keep fun b cc hc => hb.block b (lt_of_block hc)
theorem Rr.chm {w W : World} {M : Nat} {A : Option Addr} {l : List Rw} (h : Rr w A l) (hM : ∃ (es : Array MapEntry) (cl : Nat), w.heap[M]? = some (Obj.map es cl)) (hb : ChM M w W) : Rr W A l := h.keep fun b cc hc => hb.2.1 b (lt_of_block hc) (fun e => by
  obtain ⟨es, cl, hm⟩ := hM
  rw [e, hm] at hc
  cases hc)
theorem Rr.nil (w : World) : Rr w none [] := fun h => by simp at h
theorem own3_form {w : World} {base m : Nat} {v : Value} {xs : List Value} (h : w.ownsRow base 70 3 v m xs) : ∃ A c, v = .slice A m c := by
  rcases h.2 with ⟨rfl, rfl⟩ | ⟨g, cap, cur, rfl, _⟩
  · exact ⟨none, 0, rfl⟩
  · exact ⟨_, cap, rfl⟩
theorem Rr.of_own {w : World} {base m c : Nat} {A : Option Addr} {l : List Rw} (h : w.ownsRow base 70 3 (.slice A m c) m (rw3 l)) : Rr w A l := fun hl => by
  have hcells := fun g => h.cells (g := g)
  have hlen := h.1
  rw [rw3_len] at hlen
  rcases h.2 with ⟨_, h0⟩ | ⟨g, cap, cur, e1, hg, hb, _, _, _⟩
  · omega
  · injection e1 with e1 _ _
    subst e1
    refine ⟨g, 0, cur, rfl, hb, fun i e he => ?_⟩
    have hc : ∀ j, j < 3 → w.cell? ⟨g, 0 + i * 3 + j, none⟩ = (rwC e)[j]? := fun j hj => by
      obtain ⟨x, hx⟩ : ∃ x, (rwC e)[j]? = some x := ⟨(rwC e)[j]'(by simpa [rwC] using hj), List.getElem?_eq_getElem _⟩
      have := hcells g rfl (i * 3 + j) x (by rw [rw3_get l i e j he hj, hx])
      rw [Go.WideShapes.add_plain, ← Nat.add_assoc] at this
      rw [hx, ← this]
    exact ⟨by simpa [rwC] using hc 0 (by omega), by simpa [rwC] using hc 1 (by omega), by simpa [rwC] using hc 2 (by omega)⟩
theorem own3_len {w : World} {base m : Nat} {v : Value} {l : List Rw} (h : w.ownsRow base 70 3 v m (rw3 l)) : m = l.length := by
  have := h.1
  rw [rw3_len] at this
  omega
theorem info70 : (Try.prog.info? 70).map (fun i => (i.zero, i.size, i.bytes)) = some (some (.agg #[.int .i64 0, .int .u32 0, .int .u32 0]), 3, 16) := by kernel_rfl

set_option maxHeartbeats 2000000 in
theorem has_any (A : Option Addr) (n c t a b : Nat) (l : List Rw) (w : World) (hn : n = l.length) (hR : Rr w A l) (hl : n ≤ 500) :
    Calls Try.prog 32 #[.slice A n c, .int .i64 (t : Int), u a, u b] w fun r w' => r = .returned (.bool (decide ((t, a, b) ∈ l))) ∧ w' = w := by
  obtain ⟨res, hres⟩ : ∃ res, res = decide ((t, a, b) ∈ l) := ⟨_, rfl⟩
  rw [← hres]
  have HRES := Lib.hid hres
  have HR := Lib.hid hR
  have HN := Lib.hid hn
  clear hres hR hn
  go_enter Try.func32, Try.ntmps32
  go_wp2_with fail
  go_loopw [9] (fun x wr => ∃ k : Nat, k ≤ n ∧ x = .int .i64 (k : Int) ∧ Hid (∀ (j : Nat) e, j < k → l[j]? = some e → e ≠ (t, a, b)) ∧ wr = w) (fun x _ => n - (intOf x).toNat)
  case atStart => exact ⟨0, by omega, rfl, fun j e hj => absurd hj (Nat.not_lt_zero j), by first | rfl | trivial⟩
  case round =>
    obtain ⟨k, hk, rfl, HK, rfl⟩ := hrel
    by_cases hlt : k < n
    · obtain ⟨⟨s, p, q⟩, hy⟩ : ∃ e, l[k]? = some e := ⟨l[k]'(by rw [← HN.out]; exact hlt), List.getElem?_eq_getElem _⟩
      obtain ⟨b1, o1, cc, rfl, hb1, ha1⟩ := HR.out (by have := HN.out; omega)
      obtain ⟨d0, d1, d2⟩ := ha1 k _ hy
      simp only at d0 d1 d2
      have HY := Lib.hid hy
      have HNX : Hid ((s, p, q) ≠ (t, a, b) → ∀ (j : Nat) e, j < k + 1 → l[j]? = some e → e ≠ (t, a, b)) := fun hne j e hj hje => by
        by_cases hjk : j < k
        · exact HK.out j e hjk hje
        · have : j = k := by omega
          subst this
          rw [HY.out] at hje
          injection hje with hje
          rw [← hje]
          exact hne
      clear hy ha1 hb1
      by_cases hs : s = t
      · subst hs
        by_cases hp : p = a
        · subst hp
          by_cases hq : q = b
          · subst hq
            have ht : res = true := by rw [HRES.out, decide_eq_true_iff]; exact List.mem_of_getElem? HY.out
            subst ht
            go_wp2
            go_ret
            exact ⟨rfl, rfl⟩
          · have hqz : ¬ (q : Int) = (b : Int) := by omega
            go_wp2
            go_roundw
            case rel => exact ⟨k + 1, by omega, by go_num, HNX.out (fun e => hq (by injection e with _ e; injection e)), by first | rfl | trivial⟩
            case measure => simp [intOf] <;> omega
        · have hpz : ¬ (p : Int) = (a : Int) := by omega
          go_wp2
          go_roundw
          case rel => exact ⟨k + 1, by omega, by go_num, HNX.out (fun e => hp (by injection e with _ e; injection e)), by first | rfl | trivial⟩
          case measure => simp [intOf] <;> omega
      · have hsz : ¬ (s : Int) = (t : Int) := by omega
        go_wp2
        go_roundw
        case rel => exact ⟨k + 1, by omega, by go_num, HNX.out (fun e => hs (by injection e)), by first | rfl | trivial⟩
        case measure => simp [intOf] <;> omega
    · have hkn : k = n := by omega
      subst hkn
      have hf : res = false := by
        rw [HRES.out, decide_eq_false_iff_not]
        intro he
        obtain ⟨j, hj⟩ := List.getElem?_of_mem he
        exact HK.out j _ (by have := (List.getElem?_eq_some_iff.1 hj).1; have := HN.out; omega) hj rfl
      subst hf
      go_wp2
      go_ret
      exact ⟨rfl, rfl⟩
section
variable (A : Option Addr) (n c a b : Nat) (l : List Rw) (w : World) (hn : n = l.length) (hR : Rr w A l) (hl : n ≤ 500)
include hn hR hl
theorem rasks_any : Calls Try.prog 43 #[.slice A n c, u a, u b] w fun r w' => r = .returned (.bool (decide ((1, a, b) ∈ l))) ∧ w' = w := by
  have H1 := Lib.hid (has_any A n c 1 a b l w hn hR hl)
  clear hR hn
  go_enter Try.func43, Try.ntmps43
  go_wp2_with fail
  refine H1.out.mono ?_
  rintro r w' ⟨rfl, rfl⟩
  go_wp2
  go_ret
  exact ⟨rfl, rfl⟩
theorem rblocks_any : Calls Try.prog 42 #[.slice A n c, u a, u b] w fun r w' => r = .returned (.bool (decide ((3, a, b) ∈ l))) ∧ w' = w := by
  have H1 := Lib.hid (has_any A n c 3 a b l w hn hR hl)
  clear hR hn
  go_enter Try.func42, Try.ntmps42
  go_wp2_with fail
  refine H1.out.mono ?_
  rintro r w' ⟨rfl, rfl⟩
  go_wp2
  go_ret
  exact ⟨rfl, rfl⟩
theorem rare_any : Calls Try.prog 11 #[.slice A n c, u a, u b] w fun r w' => r = .returned (.bool (areB l a b)) ∧ w' = w := by
  have H1 := Lib.hid (has_any A n c 2 a b l w hn hR hl)
  have H2 := Lib.hid (has_any A n c 2 b a l w hn hR hl)
  clear hR hn
  by_cases e : (2, a, b) ∈ l
  · have e1 : decide ((2, a, b) ∈ l) = true := by simp [e]
    have e2 : areB l a b = true := by simp [areB, e]
    rw [e2]
    go_enter Try.func11, Try.ntmps11
    go_wp2_with fail
    refine H1.out.mono ?_
    rintro r w' ⟨rfl, rfl⟩
    rw [e1]
    go_wp2
    go_ret
    exact ⟨rfl, rfl⟩
  · have e1 : decide ((2, a, b) ∈ l) = false := by simp [e]
    have e2 : areB l a b = decide ((2, b, a) ∈ l) := by simp [areB, e]
    rw [e2]
    go_enter Try.func11, Try.ntmps11
    go_wp2_with fail
    refine H1.out.mono ?_
    rintro r w' ⟨rfl, rfl⟩
    rw [e1]
    go_wp2_with fail
    refine H2.out.mono ?_
    rintro r w' ⟨rfl, rfl⟩
    go_wp2
    go_ret
    exact ⟨rfl, rfl⟩
end
set_option maxHeartbeats 2000000 in
theorem rwrong_any (a b : Nat) (w : World) : Calls Try.prog 41 #[u a, u b] w fun r w' => r = .returned (.int .i64 (wrongC a b)) ∧ w' = w := by
  have H1 : Hid (Calls Try.prog 50 #[u a] w fun r w' => r = .returned (.bool (decide (okN a))) ∧ w' = w) := V.rright_any a w
  have H2 : Hid (Calls Try.prog 50 #[u b] w fun r w' => r = .returned (.bool (decide (okN b))) ∧ w' = w) := V.rright_any b w
  by_cases ha : okN a
  · have e1 : decide (okN a) = true := by simp [ha]
    by_cases hb : okN b
    · have e2 : decide (okN b) = true := by simp [hb]
      by_cases hab : a = b
      · subst hab
        have hw : wrongC a a = 16 := by simp [wrongC, hb]
        rw [hw]
        clear hw
        go_enter Try.func41, Try.ntmps41
        go_wp2_with fail
        refine H1.out.mono ?_
        rintro r w' ⟨rfl, rfl⟩
        rw [e1]
        go_wp2_with fail
        refine H2.out.mono ?_
        rintro r w' ⟨rfl, rfl⟩
        rw [e2]
        go_wp2
        go_ret
        exact ⟨rfl, rfl⟩
      · have hw : wrongC a b = 0 := by simp [wrongC, hab, ha, hb]
        have e3 : ¬ (a : Int) = (b : Int) := by omega
        rw [hw]
        clear hw
        go_enter Try.func41, Try.ntmps41
        go_wp2_with fail
        refine H1.out.mono ?_
        rintro r w' ⟨rfl, rfl⟩
        rw [e1]
        go_wp2_with fail
        refine H2.out.mono ?_
        rintro r w' ⟨rfl, rfl⟩
        rw [e2]
        go_wp2
        go_ret
        exact ⟨rfl, rfl⟩
    · have e2 : decide (okN b) = false := by simp [hb]
      have hw : wrongC a b = 14 := by simp [wrongC, hb]
      rw [hw]
      clear hw
      go_enter Try.func41, Try.ntmps41
      go_wp2_with fail
      refine H1.out.mono ?_
      rintro r w' ⟨rfl, rfl⟩
      rw [e1]
      go_wp2_with fail
      refine H2.out.mono ?_
      rintro r w' ⟨rfl, rfl⟩
      rw [e2]
      go_wp2
      go_ret
      exact ⟨rfl, rfl⟩
  · have e1 : decide (okN a) = false := by simp [ha]
    have hw : wrongC a b = 14 := by simp [wrongC, ha]
    rw [hw]
    clear hw
    go_enter Try.func41, Try.ntmps41
    go_wp2_with fail
    refine H1.out.mono ?_
    rintro r w' ⟨rfl, rfl⟩
    rw [e1]
    go_wp2
    go_ret
    exact ⟨rfl, rfl⟩
end Go.Proofs.Ytohcibmlkngaeaa
