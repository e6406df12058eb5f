/- Queue: does a ticket share a player with some; own. -/
import Derived.Test.YtemjmnpclknfaaaGreatU3
import Derived.Test.YtemjmnpclknfaaaGreatQA
namespace Go.Proofs.YtemjmnpclknfaaaGreat.T
open Go.RowKit
open Go.Proofs.YtemjmnpclknfaaaGreat.P (Sl un)
set_option maxRecDepth 20000
set_option linter.unusedVariables false
set_option linter.unusedSimpArgs false

/-- Numbers that do not fall. -/
def Upw (l : List Nat) : Prop := ∀ (i j x y : Nat), i < j → l[i]? = some x → l[j]? = some y → x ≤ y
set_option linter.unusedSimpArgs false in
set_option maxHeartbeats 4000000 in
theorem search_w (b o c n : Nat) (l : List Nat) (x : Nat) (w : World) (hn : n = l.length) (hl : n ≤ 1000) (hu : Upw l) (hA : At32 w b o l) :
    Calls Tryz.prog 58 #[.slice (some ⟨b, o, none⟩) n c, .int .u32 (x : Int)] w fun r w' => w' = w ∧ ∃ p : Nat, p ≤ n ∧ (∀ j y, j < p → l[j]? = some y → y < x) ∧ (∀ j y, p ≤ j → l[j]? = some y → x ≤ y) ∧ r = .returned (.tuple #[.int .i64 (p : Int), .bool (decide (l[p]? = some x))]) := by
  have HN := Lib.hid hn
  have HU := Lib.hid hu
  have HA := Lib.hid hA
  clear hn hu hA
  go_enter Tryz.func58, Tryz.ntmps58
  go_wp2_with fail
  go_loopw [7, 8] (fun u v wr => ∃ i j : Nat, i ≤ j ∧ j ≤ n ∧ u = .int .i64 (i : Int) ∧ v = .int .i64 (j : Int) ∧ Hid ((∀ k y, k < i → l[k]? = some y → y < x) ∧ (∀ k y, j ≤ k → l[k]? = some y → x ≤ y)) ∧ wr = w) (fun u v _ => (intOf v).toNat - (intOf u).toNat)
  case atStart => exact ⟨0, n, by omega, by omega, rfl, rfl, ⟨fun k y h => absurd h (Nat.not_lt_zero k), fun k y h hy => absurd (List.getElem?_eq_some_iff.1 hy).1 (by have := HN.out; omega)⟩, by first | rfl | trivial⟩
  case round =>
    obtain ⟨i, j, hij, hj, rfl, rfl, HI, rfl⟩ := hrel
    by_cases hlt : i < j
    · have hm1 : i ≤ (i + j) / 2 ∧ (i + j) / 2 < j := by omega
      obtain ⟨y, hy⟩ : ∃ y, l[(i + j) / 2]? = some y := ⟨l[(i + j) / 2]'(by have := HN.out; omega), List.getElem?_eq_getElem _⟩
      have hc := HA.out _ y hy
      have HY := Lib.hid hy
      have HLS : Hid (∀ W, Calls Tryz.prog 72 #[.int .u32 (y : Int), .int .u32 (x : Int)] W fun r w' => r = .returned (.bool (decide (y < x))) ∧ w' = W) := fun W => less_any y x W
      clear hy
      go_wp2_with fail
      refine (HLS.out wr).mono ?_
      rintro r w1 ⟨rfl, rfl⟩
      by_cases hyx : y < x
      · have hd : decide (y < x) = true := by simpa using hyx
        rw [hd]
        go_wp2
        go_roundw
        case rel =>
          refine ⟨(i + j) / 2 + 1, j, by omega, hj, by go_num, rfl, ⟨fun k z hk hz => ?_, HI.out.2⟩, by first | rfl | trivial⟩
          by_cases hke : k = (i + j) / 2
          · subst hke
            rw [HY.out] at hz
            injection hz with hz
            omega
          · have := HU.out k _ z y (by omega) hz HY.out
            omega
        case measure => simp [intOf]; omega
      · have hd : decide (y < x) = false := by simpa using hyx
        rw [hd]
        go_wp2
        go_roundw
        case rel =>
          refine ⟨i, (i + j) / 2, by omega, by omega, rfl, by go_num, ⟨HI.out.1, fun k z hk hz => ?_⟩, by first | rfl | trivial⟩
          by_cases hke : k = (i + j) / 2
          · subst hke
            rw [HY.out] at hz
            injection hz with hz
            omega
          · have := HU.out _ k y z (by omega) HY.out hz
            omega
        case measure => simp [intOf]; omega
    · have hij' : i = j := by omega
      subst hij'
      by_cases hin : i < n
      · obtain ⟨y, hy⟩ : ∃ y, l[i]? = some y := ⟨l[i]'(by have := HN.out; omega), List.getElem?_eq_getElem _⟩
        have hc := HA.out _ y hy
        have HY := Lib.hid hy
        clear hy
        by_cases hyx : y = x
        · subst hyx
          go_wp2
          exact bodyPost_ret (v := .tuple #[.int .i64 (i : Int), .bool true]) (by simp [results, Tryz.results58, go_sem]) rfl ⟨rfl, i, hj, HI.out.1, HI.out.2, by rw [HY.out]; simp⟩
        · have hne : ¬((y : Int) = (x : Int)) := by omega
          go_wp2_with fail
          refine (snan_any y wr).mono ?_
          rintro r w1 ⟨rfl, rfl⟩
          go_wp2
          exact bodyPost_ret (v := .tuple #[.int .i64 (i : Int), .bool false]) (by simp [results, Tryz.results58, go_sem]; omega) rfl ⟨rfl, i, hj, HI.out.1, HI.out.2, by rw [HY.out]; simp [hyx]⟩
      · have hnone : l[i]? = none := List.getElem?_eq_none (by have := HN.out; omega)
        have HNO := Lib.hid hnone
        clear hnone
        go_wp2
        exact bodyPost_ret (v := .tuple #[.int .i64 (i : Int), .bool false]) (by simp [results, Tryz.results58, go_sem]) rfl ⟨rfl, i, hj, HI.out.1, HI.out.2, by rw [HNO.out]; rfl⟩

theorem mem_w {ys : List Nat} {x p : Nat} (hu : Upw ys) (h1 : ∀ j y, j < p → ys[j]? = some y → y < x) (h2 : ∀ j y, p ≤ j → ys[j]? = some y → x ≤ y) : x ∈ ys ↔ ys[p]? = some x := by
  constructor
  · intro h
    obtain ⟨k, hk⟩ := List.mem_iff_getElem?.1 h
    rcases Nat.lt_trichotomy k p with h' | h' | h'
    · have := h1 k x h' hk; omega
    · rw [← h']; exact hk
    · have hkl := (List.getElem?_eq_some_iff.1 hk).1
      have hp : ys[p]? = some ys[p] := List.getElem?_eq_getElem (by omega)
      have := hu p k _ _ h' hp hk
      have := h2 p _ (Nat.le_refl _) hp
      rw [hp, show ys[p] = x by omega]
  · exact fun h => List.mem_of_getElem? h
open Go.Proofs.YtemjmnpclknfaaaGreat.P (search_nil) in
theorem said93 {s : Value} {ys : List Nat} (hu : Upw ys) (hl : ys.length ≤ 1000) (x K : Nat) (W : World) (hK : W.cell? ⟨K, 0, none⟩ = some s) (hS : P.Srt W s ys) :
    Calls Tryz.prog 57 #[.int .u32 (x : Int), .pointer (some ⟨K, 0, none⟩)] W fun r w' => r = .returned (.bool (decide (x ∈ ys))) ∧ w' = W := by
  rcases hS with ⟨rfl, rfl⟩ | ⟨Y, c, rfl, hA⟩
  · have HS := Lib.hid (search_nil x W)
    go_enter Tryz.func57, Tryz.ntmps57
    go_wp2_with fail
    refine HS.out.mono ?_
    rintro r w1 ⟨rfl, rfl⟩
    go_wp2
    go_ret
    exact ⟨by simp, by first | rfl | trivial⟩
  · have HS := Lib.hid (search_w Y 0 c ys.length ys x W rfl hl hu hA)
    obtain ⟨t, ht⟩ : ∃ t, t = decide (x ∈ ys) := ⟨_, rfl⟩
    have HT := Lib.hid ht
    have HU := Lib.hid hu
    rw [← ht]
    clear ht hA hu
    go_enter Tryz.func57, Tryz.ntmps57
    go_wp2_with fail
    refine HS.out.mono ?_
    rintro r w1 ⟨rfl, p, hp, h1, h2, rfl⟩
    have e : decide (ys[p]? = some x) = t := by
      rw [HT.out, decide_eq_decide]
      exact (mem_w HU.out h1 h2).symm
    rw [e]
    clear e h1 h2
    go_wp2
    go_ret
    exact ⟨rfl, by first | rfl | trivial⟩
set_option maxHeartbeats 2000000 in
theorem idxS_any (A : Option Addr) (n c : Nat) (l : List Nat) (ys : List Nat) (s : Value) (K : Nat) (w : World) (hu : Upw ys) (hyl : ys.length ≤ 1000) (hKl : K < w.heap.size) (hK : w.cell? ⟨K, 0, none⟩ = some s) (hS : P.Srt w s ys) (hsb : ∀ g, s.ownBlock = some g → g < w.heap.size) (hn : n = l.length) (hE : P.Rn w A l) (hl : n ≤ 1000) :
    Calls Tryz.prog 53 #[.slice A n c, .func (.func 57) #[] #[.pointer (some ⟨K, 0, none⟩)]] w fun r w' => (∃ i : Int, r = .returned (.int .i64 i) ∧ ((i = -1 ∧ ∀ x ∈ l, x ∉ ys) ∨ (0 ≤ i ∧ ∃ x ∈ l, ¬ x ∉ ys))) ∧ Below w.heap.size w w' := by
  have HE := Lib.hid hE
  have HN := Lib.hid hn
  have HBr : Hid (Below w.heap.size w w) := Below.refl _ _
  have HCA : Hid (∀ (x : Nat) (W : World), Below w.heap.size w W → Calls Tryz.prog 57 #[.int .u32 (x : Int), .pointer (some ⟨K, 0, none⟩)] W fun r w' => r = .returned (.bool (decide (¬ x ∉ ys))) ∧ w' = W) := fun x W hW => by
    have := said93 (s := s) (ys := ys) hu hyl x K W ((hW.cell (p := ⟨K, 0, none⟩) hKl).trans hK) (by
      rcases hS with hS | ⟨Y, c, rfl, hA⟩
      · exact .inl hS
      · exact .inr ⟨Y, c, rfl, fun j x hj => (hW.cell (p := ⟨Y, _, none⟩) (hsb Y rfl)).trans (hA j x hj)⟩)
    rw [show decide (¬ x ∉ ys) = decide (x ∈ ys) from by rw [decide_eq_decide]; exact Classical.not_not]
    exact this
  clear hE hn hu hyl hKl hK hS hsb
  go_enter Tryz.func53, Tryz.ntmps53
  go_wp2_with fail
  go_loopw [8] (fun u wr => ∃ k : Nat, k ≤ n ∧ u = .int .i64 (k : Int) ∧ Hid ((∀ x ∈ l.take k, x ∉ ys) ∧ Below w.heap.size w wr)) (fun u _ => n - (intOf u).toNat)
  case atStart => exact ⟨0, by omega, rfl, (by intro x hx; simp at hx), HBr.out⟩
  case round =>
    obtain ⟨k, hk, rfl, HV⟩ := hrel
    by_cases hlt : k < n
    · obtain ⟨e, hy⟩ : ∃ e, l[k]? = some e := ⟨l[k]'(by rw [← HN.out]; exact hlt), List.getElem?_eq_getElem _⟩
      obtain ⟨b1, o1, rfl, hb1, ha1⟩ := (HE.out) (by have := HN.out; omega)
      have d0 := (HV.out.2.cell (p := ⟨b1, _, none⟩) hb1).trans (ha1 k _ hy)
      have HY := Lib.hid hy
      have HC := Lib.hid (HCA.out e wr HV.out.2)
      obtain ⟨t, ht⟩ : ∃ t, t = decide (¬ e ∉ ys) := ⟨_, rfl⟩
      rw [← ht] at HC
      have HT := Lib.hid ht
      clear ha1 hy hb1 ht
      go_wp2_with fail
      refine HC.out.mono ?_
      rintro r w1 ⟨rfl, rfl⟩
      cases t
      · have hok : e ∉ ys := by have := HT.out.symm; simpa using this
        have HNM : Hid (∀ x ∈ l.take (k + 1), x ∉ ys) := by
          intro x hx
          rw [List.take_add_one, HY.out] at hx
          rcases List.mem_append.1 hx with h | h
          · exact HV.out.1 x h
          · simp at h
            subst h
            exact hok
        clear hok
        go_wp2
        go_roundw
        case rel => exact ⟨k + 1, by omega, by go_num, HNM.out, HV.out.2⟩
        case measure => simp [intOf] <;> omega
      · have HX : Hid (∃ x ∈ l, ¬ x ∉ ys) := ⟨e, List.mem_of_getElem? HY.out, of_decide_eq_true HT.out.symm⟩
        go_wp2
        go_ret
        exact ⟨⟨(k : Int), rfl, .inr ⟨by omega, HX.out⟩⟩, HV.out.2⟩
    · have hkn : k = n := by omega
      subst hkn
      have HA : Hid (∀ x ∈ l, x ∉ ys) := by
        have h := HV.out.1
        rw [List.take_of_length_le (by rw [← HN.out]; omega)] at h
        exact h
      go_wp2
      go_ret
      exact ⟨⟨-1, rfl, .inl ⟨rfl, HA.out⟩⟩, HV.out.2⟩
set_option maxHeartbeats 2000000 in
theorem anyS_any (A : Option Addr) (n c : Nat) (l : List Nat) (ys : List Nat) (s : Value) (K : Nat) (w : World) (hu : Upw ys) (hyl : ys.length ≤ 1000) (hKl : K < w.heap.size) (hK : w.cell? ⟨K, 0, none⟩ = some s) (hS : P.Srt w s ys) (hsb : ∀ g, s.ownBlock = some g → g < w.heap.size) (hn : n = l.length) (hE : P.Rn w A l) (hl : n ≤ 1000) :
    Calls Tryz.prog 30 #[.slice A n c, .func (.func 57) #[] #[.pointer (some ⟨K, 0, none⟩)]] w fun r w' => r = .returned (.bool (decide (¬ ∀ x ∈ l, x ∉ ys))) ∧ Below w.heap.size w w' := by
  obtain ⟨t, ht⟩ : ∃ t, t = decide (¬ ∀ x ∈ l, x ∉ ys) := ⟨_, rfl⟩
  have HC := Lib.hid (idxS_any A n c l ys s K w hu hyl hKl hK hS hsb hn hE hl)
  have HT := Lib.hid ht
  rw [← ht]
  clear ht hE hn hu hyl hKl hK hS hsb
  go_enter Tryz.func30, Tryz.ntmps30
  go_wp2_with fail
  refine HC.out.mono ?_
  rintro r w1 ⟨⟨i, rfl, hi⟩, hb⟩
  have HB := Lib.hid hb
  clear hb
  rcases hi with ⟨rfl, hm⟩ | ⟨h0, hm⟩
  · have e : t = false := by rw [HT.out, decide_eq_false_iff_not]; exact fun h => h hm
    subst e
    clear hm
    go_wp2
    go_ret
    exact ⟨rfl, HB.out⟩
  · have e : t = true := by
      rw [HT.out, decide_eq_true_iff]
      obtain ⟨x, hx, hn⟩ := hm
      exact fun h => hn (h x hx)
    subst e
    clear hm
    go_wp2
    go_ret
    exact ⟨by simp <;> omega, HB.out⟩
set_option maxHeartbeats 2000000 in
theorem share_cl (R : Nat) (vi : Value) (ys : List Nat) (sv : Value) (id : Nat) (md rt sn : Int) (s : Sl) (l : List Nat) (K : Nat) (w : World) (hu : Upw ys) (hyl : ys.length ≤ 1000) (hKl : K < w.heap.size) (hK : w.cell? ⟨K, 0, none⟩ = some sv) (hS : P.Srt w sv ys) (hsb : ∀ g, sv.ownBlock = some g → g < w.heap.size) (hf : P.Fl w R vi s l) (hl : l.length ≤ 1000) :
    Calls Tryz.prog 56 #[.agg (mC id md s rt sn), .pointer (some ⟨K, 0, none⟩)] w fun r w' => r = .returned (.bool (decide (¬ ∀ x ∈ l, x ∉ ys))) ∧ Below w.heap.size w w' := by
  obtain ⟨G, hG⟩ : ∃ G, G = w.heap.size := ⟨_, rfl⟩
  obtain ⟨w0, hw0⟩ : ∃ W, W = w.alloc (.cells (mC id md s rt sn) 39) := ⟨_, rfl⟩
  have hq0 : w0.heap[G]? = some (.cells (mC id md s rt sn) 39 (0, 0)) := by rw [hw0, hG]; exact heap_alloc_new w _
  have hb0 : Below w.heap.size w w0 := by rw [hw0]; exact (Below.refl _ _).alloc (Nat.le_refl _) _
  have k0 := (hb0.cell (p := ⟨K, 0, none⟩) hKl).trans hK
  have z0 := cell_of_row w0 G 0 _ _ _ hq0
  have z1 := cell_of_row w0 G 1 _ _ _ hq0
  have z2 := cell_of_row w0 G 2 _ _ _ hq0
  have z3 := cell_of_row w0 G 3 _ _ _ hq0
  have z4 := cell_of_row w0 G 4 _ _ _ hq0
  simp at z0 z1 z2 z3 z4
  have HC := Lib.hid (anyS_any s.a s.n s.c l ys sv K w0 hu hyl (Nat.lt_of_lt_of_le hKl hb0.size) k0 (by
    rcases hS with hS | ⟨Y, c, rfl, hA⟩
    · exact .inl hS
    · exact .inr ⟨Y, c, rfl, fun j x hj => (hb0.cell (p := ⟨Y, _, none⟩) (hsb Y rfl)).trans (hA j x hj)⟩) (fun g hg => Nat.lt_of_lt_of_le (hsb g hg) hb0.size) hf.1 (hf.after hb0).rn (by have := hf.1; omega))
  have H0 := Lib.hid hw0
  have HB0 := Lib.hid hb0
  have HG := Lib.hid hG
  clear hw0 hq0 hb0 hG hf hl hu hyl hKl hK hS hsb k0
  obtain ⟨t, ht⟩ : ∃ t, t = decide (¬ ∀ x ∈ l, x ∉ ys) := ⟨_, rfl⟩
  rw [← ht] at HC ⊢
  clear ht
  go_enter Tryz.func56, Tryz.ntmps56
  go_upto_region 1 with (fail)
  rw [← H0.out, ← HG.out]
  go_wp2_with fail
  refine HC.out.mono ?_
  rintro r w1 ⟨rfl, hb1⟩
  go_wp2
  go_ret
  exact ⟨rfl, HB0.out.trans (hb1.mono HB0.out.size)⟩
end Go.Proofs.YtemjmnpclknfaaaGreat.T
