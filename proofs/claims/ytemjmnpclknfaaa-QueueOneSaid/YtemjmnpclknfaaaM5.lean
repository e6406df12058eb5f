/- Queue: what holds of a queue's tickets; awake; QueueOne's walk. -/
import Derived.Test.YtemjmnpclknfaaaM3
import Derived.Test.YtemjmnpclknfaaaM4
import Derived.Deep.CutBlock

/- Queue: plain: what holds of a queue's tickets. -/
namespace Go.Proofs.Ytemjmnpclknfaaa.T
open Go.RowKit
open Go.Proofs.Ytemjmnpclknfaaa.P (Sl un)
set_option maxRecDepth 20000
set_option linter.unusedVariables false
set_option linter.unusedSimpArgs false

/-- What holds of the tickets that wait. -/
structure QI (ml : List M5) (L : List Tk) : Prop where
  md : ∀ e ∈ L, 0 ≤ e.md ∧ e.md < (ml.length : Int)
  ok : ∀ e ∈ L, ∀ x ∈ e.mem, P.okN x
  nd : ∀ e ∈ L, e.mem.Nodup
  sz : ∀ e ∈ L, 0 < e.mem.length ∧ (e.mem.length : Int) ≤ (eM ml e.md).1
  dis : ∀ e ∈ L, ∀ e' ∈ L, e.id ≠ e'.id → ∀ x ∈ e.mem, x ∉ e'.mem
  cnt : ∀ m, cntM L m ≤ 16
  ids : (L.map (·.id)).Nodup
theorem QI.nil (ml : List M5) : QI ml [] := ⟨fun e h => by simp at h, fun e h => by simp at h, fun e h => by simp at h, fun e h => by simp at h, fun e h => by simp at h, fun m => by simp [cntM], by simp⟩
open Classical in
theorem errQ_ok {ml : List M5} {L : List Tk} {t : Tk} (h : errQ ml L t = 0) : P.okN t.id ∧ (∀ x ∈ t.mem, P.okN x) ∧ (0 ≤ t.md ∧ t.md < (ml.length : Int)) ∧ (0 < t.mem.length ∧ (t.mem.length : Int) ≤ (eM ml t.md).1) ∧ (0 ≤ t.rt ∧ t.rt ≤ 10000) ∧ ¬ clashP L t.id t.mem ∧ cntM L t.md < 16 := by
  unfold errQ at h
  by_cases h1 : ¬ P.okN t.id ∨ ¬ (∀ x ∈ t.mem, P.okN x)
  · rw [if_pos h1] at h; exact absurd h (by decide)
  rw [if_neg h1] at h
  by_cases h2 : ¬ (0 ≤ t.md ∧ t.md < (ml.length : Int))
  · rw [if_pos h2] at h; exact absurd h (by decide)
  rw [if_neg h2] at h
  by_cases h3 : t.mem.length = 0 ∨ (eM ml t.md).1 < (t.mem.length : Int)
  · rw [if_pos h3] at h; exact absurd h (by decide)
  rw [if_neg h3] at h
  by_cases h4 : t.rt < 0 ∨ 10000 < t.rt
  · rw [if_pos h4] at h; exact absurd h (by decide)
  rw [if_neg h4] at h
  by_cases h5 : clashP L t.id t.mem
  · rw [if_pos h5] at h; exact absurd h (by decide)
  rw [if_neg h5] at h
  by_cases h6 : 16 ≤ cntM L t.md
  · rw [if_pos h6] at h; exact absurd h (by decide)
  have h1' : P.okN t.id ∧ ∀ x ∈ t.mem, P.okN x := ⟨Classical.byContradiction fun hh => h1 (.inl hh), Classical.byContradiction fun hh => h1 (.inr hh)⟩
  exact ⟨h1'.1, h1'.2, Classical.byContradiction h2, by omega, by omega, h5, by omega⟩
open Classical in
theorem errQ_zero {ml : List M5} {L : List Tk} {t : Tk} (h1 : P.okN t.id) (h2 : ∀ x ∈ t.mem, P.okN x) (h3 : 0 ≤ t.md ∧ t.md < (ml.length : Int)) (h4 : 0 < t.mem.length ∧ (t.mem.length : Int) ≤ (eM ml t.md).1) (h5 : 0 ≤ t.rt ∧ t.rt ≤ 10000) (h6 : ¬ clashP L t.id t.mem) (h7 : cntM L t.md < 16) : errQ ml L t = 0 := by
  unfold errQ
  rw [if_neg (by rintro (h | h); exact h h1; exact h h2), if_neg (fun h => h h3), if_neg (by omega), if_neg (by omega), if_neg h6, if_neg (by omega)]
theorem cnt_perm {L L' : List Tk} (h : L.Perm L') (m : Int) : cntM L m = cntM L' m := (h.filter _).length_eq
theorem cnt_cons (t : Tk) (L : List Tk) (m : Int) : cntM (t :: L) m = (if t.md = m then 1 else 0) + cntM L m := by
  unfold cntM
  rw [List.filter_cons]
  by_cases h : t.md = m
  · rw [if_pos (by simpa using h), if_pos h, List.length_cons]; omega
  · rw [if_neg (by simpa using h), if_neg h]; omega
theorem no_ids {L : List Tk} {t : Tk} (h : ¬ clashP L t.id t.mem) : ∀ e ∈ L, e.id ≠ t.id := fun e he hi => h (.inl (List.mem_map.2 ⟨e, he, hi⟩))
theorem QI.put {ml : List M5} {L : List Tk} {t : Tk} (h : QI ml L) (he : errQ ml L t = 0) : QI ml (insT L t) := by
  obtain ⟨h1, h2, h3, h4, h5, h6, h7⟩ := errQ_ok he
  have hn := no_ids h6
  have hp := insT_perm hn
  have hm : ∀ e, e ∈ insT L t ↔ e = t ∨ e ∈ L := fun e => mem_insT hn
  have hsh : ∀ e ∈ L, ∀ x ∈ e.mem, x ∉ t.mem := fun e he x hx hxt => h6 (.inr (.inl ⟨e, he, fun hh => hh x hx hxt⟩))
  refine ⟨fun e he => ?_, fun e he => ?_, fun e he => ?_, fun e he => ?_, fun e he e' he' hne x hx => ?_, fun m => ?_, ?_⟩
  · rcases (hm e).1 he with rfl | he
    · exact h3
    · exact h.md e he
  · rcases (hm e).1 he with rfl | he
    · exact h2
    · exact h.ok e he
  · rcases (hm e).1 he with rfl | he
    · exact Classical.byContradiction fun hh => h6 (.inr (.inr hh))
    · exact h.nd e he
  · rcases (hm e).1 he with rfl | he
    · exact h4
    · exact h.sz e he
  · rcases (hm e).1 he with hA | hA
    · rcases (hm e').1 he' with hB | hB
      · exact absurd (by rw [hA, hB]) hne
      · rw [hA] at hx
        exact fun hx' => hsh e' hB x hx' hx
    · rcases (hm e').1 he' with hB | hB
      · rw [hB]
        exact hsh e hA x hx
      · exact h.dis e hA e' hB hne x hx
  · rw [cnt_perm hp, cnt_cons]
    have := h.cnt m
    by_cases hmd : t.md = m
    · subst hmd; rw [if_pos rfl]; omega
    · rw [if_neg hmd]; omega
  · rw [(hp.map _).nodup_iff, List.map_cons, List.nodup_cons]
    exact ⟨fun hh => h6 (.inl hh), h.ids⟩
theorem len_le : ∀ (n : Nat) (L : List Tk), (∀ e ∈ L, 0 ≤ e.md ∧ e.md < (n : Int)) → (∀ m, cntM L m ≤ 16) → L.length ≤ 16 * n
  | 0, L, h, _ => by
    cases L with
    | nil => simp
    | cons e L => have := h e (by simp); omega
  | n + 1, L, h, hc => by
    have h1 := len_le n (L.filter fun e => !decide (e.md = (n : Int))) (fun e he => by
      obtain ⟨a, b⟩ := List.mem_filter.1 he
      have := h e a
      have hb : ¬ e.md = (n : Int) := by simpa using b
      omega) (fun m => Nat.le_trans ((List.filter_sublist (l := L)).filter _).length_le (hc m))
    have h2 := (List.filter_append_perm (fun e : Tk => decide (e.md = (n : Int))) L).length_eq
    rw [List.length_append] at h2
    have h3 := hc (n : Int)
    unfold cntM at h3
    omega
theorem QI.len {ml : List M5} {L : List Tk} (h : QI ml L) : L.length ≤ 16 * ml.length := len_le _ _ h.md h.cnt
theorem QI.room {ml : List M5} {L : List Tk} (h : QI ml L) (hml : ml.length ≤ 100) (m : Int) (h0 : 0 ≤ m) (h1 : m < (ml.length : Int)) (h2 : cntM L m < 16) : (L.length : Int) < min (16 * (ml.length : Int)) 2147483647 := by
  have := len_le ml.length (⟨0, m, [], 0, 0⟩ :: L) (fun e he => by
    rcases List.mem_cons.1 he with rfl | he
    · exact ⟨h0, h1⟩
    · exact h.md e he) (fun k => by
    rw [cnt_cons]
    have := h.cnt k
    by_cases hk : m = k
    · subst hk; rw [if_pos rfl]; omega
    · rw [if_neg hk]; omega)
  rw [List.length_cons] at this
  omega
theorem nodup_at {α : Type} {l : List α} (h : l.Nodup) {i j : Nat} {x : α} (hi : l[i]? = some x) (hj : l[j]? = some x) : i = j := by
  rw [List.nodup_iff_pairwise_ne, List.pairwise_iff_getElem] at h
  obtain ⟨a, e1⟩ := List.getElem?_eq_some_iff.1 hi
  obtain ⟨b, e2⟩ := List.getElem?_eq_some_iff.1 hj
  rcases Nat.lt_trichotomy i j with hh | hh | hh
  · exact absurd (by rw [e1, e2]) (h i j a b hh)
  · exact hh
  · exact absurd (by rw [e1, e2]) (h j i b a hh)
theorem QI.inj {ml : List M5} {L : List Tk} (h : QI ml L) {e e' : Tk} (he : e ∈ L) (he' : e' ∈ L) (hi : e.id = e'.id) : e = e' := by
  obtain ⟨i, hi1⟩ := List.mem_iff_getElem?.1 he
  obtain ⟨j, hj1⟩ := List.mem_iff_getElem?.1 he'
  have h1 : (L.map (·.id))[i]? = some e.id := by rw [List.getElem?_map, hi1]; rfl
  have h2 : (L.map (·.id))[j]? = some e.id := by rw [List.getElem?_map, hj1, hi]; rfl
  have hij : i = j := nodup_at h.ids h1 h2
  subst hij
  rw [hi1] at hj1
  exact Option.some.inj hj1
theorem QI.of {ml : List M5} {L : List Tk} (h : QI ml L) {e : Tk} (he : e ∈ L) {x : Nat} (hx : x ∈ e.mem) : ofT L x = e.id := by
  unfold ofT
  have hin : e ∈ L.filter (fun e => decide (x ∈ e.mem)) := List.mem_filter.2 ⟨he, by simpa using hx⟩
  cases hf : L.filter (fun e => decide (x ∈ e.mem)) with
  | nil => rw [hf] at hin; cases hin
  | cons f l =>
    have hfm : f ∈ L.filter (fun e => decide (x ∈ e.mem)) := by rw [hf]; simp
    obtain ⟨a, b⟩ := List.mem_filter.1 hfm
    have hb : x ∈ f.mem := by simpa using b
    show f.id = e.id
    exact Classical.byContradiction fun hne => h.dis f a e he hne x hb hx
theorem QI.nodup {ml : List M5} {L : List Tk} (h : QI ml L) : L.Nodup := by
  have := h.ids
  rw [List.nodup_iff_pairwise_ne, List.pairwise_map] at this
  rw [List.nodup_iff_pairwise_ne]
  exact this.imp fun hne e => hne (by rw [e])
/-- Whoever is still to come has not come. -/
theorem QI.fresh {ml : List M5} {L D LS : List Tk} (h : QI ml L) {m : Int} {i k x : Nat} {e : Tk} (hD : ∀ e' ∈ D, e' ∈ L ∧ e'.md ≠ m) (hLS : LS.Perm (L.filter fun e => decide (e.md = m))) (hi : LS[i]? = some e) (hk : e.mem[k]? = some x) : x ∉ (D ++ LS.take i).flatMap (·.mem) ++ e.mem.take k := by
  have heL := List.mem_filter.1 (hLS.mem_iff.1 (List.mem_of_getElem? hi))
  have hemd : e.md = m := by simpa using heL.2
  have hxe := List.mem_of_getElem? hk
  have key : ∀ e' ∈ L, e' ≠ e → x ∉ e'.mem := fun e' he' hne hx => h.dis e' he' e heL.1 (fun hid => hne (h.inj he' heL.1 hid)) x hx hxe
  intro hx
  rcases List.mem_append.1 hx with hx | hx
  · obtain ⟨e', he', hx'⟩ := List.mem_flatMap.1 hx
    rcases List.mem_append.1 he' with h1 | h1
    · exact key e' (hD e' h1).1 (fun hh => (hD e' h1).2 (by rw [hh]; exact hemd)) hx'
    · have hnd : LS.Nodup := hLS.nodup_iff.2 (h.nodup.filter _)
      obtain ⟨j, hj⟩ := List.mem_iff_getElem?.1 h1
      rw [List.getElem?_take] at hj
      split at hj
      · rename_i hji
        refine key e' (List.mem_filter.1 (hLS.mem_iff.1 (List.mem_of_getElem? hj))).1 (fun hh => ?_) hx'
        subst hh
        have := nodup_at hnd hj hi
        omega
      · cases hj
  · have hnd := h.nd e heL.1
    obtain ⟨j, hj⟩ := List.mem_iff_getElem?.1 hx
    rw [List.getElem?_take] at hj
    split at hj
    · rename_i hjk
      have := nodup_at hnd hj hk
      omega
    · cases hj
theorem flat_len (k : Nat) : ∀ (D : List Tk), (∀ e ∈ D, e.mem.length ≤ k) → (D.flatMap (·.mem)).length ≤ k * D.length
  | [], _ => by simp
  | e :: D, h => by
    have h1 := flat_len k D (fun x hx => h x (by simp [hx]))
    have h2 := h e (by simp)
    rw [List.flatMap_cons, List.length_append, List.length_cons, Nat.mul_add]
    omega
theorem flat_snoc (D : List Tk) (LS : List Tk) (i : Nat) (e : Tk) (hi : LS[i]? = some e) : (D ++ LS.take (i + 1)).flatMap (·.mem) = (D ++ LS.take i).flatMap (·.mem) ++ e.mem := by
  rw [List.take_add_one, hi, ← List.append_assoc, List.flatMap_append]
  simp
end Go.Proofs.Ytemjmnpclknfaaa.T

/- Queue: awake. -/
namespace Go.Proofs.Ytemjmnpclknfaaa.T
open Go.RowKit
open Go.Proofs.Ytemjmnpclknfaaa.P (Sl un)
set_option maxRecDepth 20000
set_option linter.unusedVariables false
set_option linter.unusedSimpArgs false

/-- A queue that stands for the tickets L, made behind w0. -/
def Qs (w0 W : World) (B R : Nat) (mo : Int) (ms : Sl) (ml : List M5) (L : List Tk) : Prop := (∃ vi, Bq W B R mo vi ms L) ∧ Rm W ms.a ml ∧ ms.n = ml.length ∧ Below w0.heap.size w0 W ∧ w0.heap.size ≤ R ∧ ∀ e ∈ L, e.mem.length ≤ 8
theorem Qs.after {w0 W W' : World} {B R : Nat} {mo : Int} {ms : Sl} {ml : List M5} {L : List Tk} (h : Qs w0 W B R mo ms ml L) (hb : Below W.heap.size W W') : Qs w0 W' B R mo ms ml L := by
  obtain ⟨⟨vi, h1⟩, h2, h3, h4, h5, h6⟩ := h
  exact ⟨⟨vi, h1.after hb⟩, h2.after hb, h3, h4.trans (hb.mono h4.size), h5, h6⟩
open Classical in
noncomputable def nextQ (ml : List M5) (L : List Tk) (t : Tk) : List Tk := if errQ ml L t = 0 then insT L t else L
theorem qs_put {w0 W : World} {B R : Nat} {mo : Int} {ms : Sl} {ml : List M5} {L : List Tk} (h : Qs w0 W B R mo ms ml L) (hi : QI ml L) (hmo : mo = 16 * (ml.length : Int)) (hml : ml.length ≤ 6) (t : Tk) (s : Sl) (h1 : s.n = t.mem.length) (hR : P.Rn W s.a t.mem) (hl : t.mem.length ≤ 8) :
    Calls Try.prog 26 #[qp B, .agg (mC t.id t.md s t.rt t.sn)] W fun r w' => r = .returned (.int .i64 (errQ ml L t)) ∧ Qs w0 w' B R mo ms ml (nextQ ml L t) ∧ QI ml (nextQ ml L t) := by
  obtain ⟨⟨vi, a1⟩, a2, a3, a4, a5, a6⟩ := h
  have hL := hi.len
  refine (qput_any B R mo vi ms ml L t s W a1 a3 (by omega) a2 (by omega) (fun e he => by have := a6 e he; omega) h1 hR (by omega) (fun b0 b1 b2 => by rw [hmo]; exact hi.room (by omega) _ b0 b1 b2)).mono ?_
  rintro r w' ⟨e, vi', k1, k2⟩
  unfold nextQ
  refine ⟨e, ⟨⟨vi', k1⟩, a2.stp k2, a3, a4.trans (k2.below.mono a5), a5, fun e he => ?_⟩, ?_⟩
  · by_cases hz : errQ ml L t = 0
    · rw [if_pos hz] at he
      rcases (mem_insT (no_ids (errQ_ok hz).2.2.2.2.2.1)).1 he with rfl | he
      · exact hl
      · exact a6 e he
    · rw [if_neg hz] at he
      exact a6 e he
  · by_cases hz : errQ ml L t = 0
    · rw [if_pos hz]; exact hi.put hz
    · rw [if_neg hz]; exact hi
theorem qs_mode {w0 W : World} {B R : Nat} {mo : Int} {ms : Sl} {ml : List M5} {L : List Tk} (h : Qs w0 W B R mo ms ml L) (hl : L.length ≤ 1000) (m : Int) : ∃ vi, Calls Try.prog 28 #[qp B, .int .i64 m] W fun r w' => QModeP R vi L m W r w' := by
  obtain ⟨⟨vi, a1⟩, _, _, _, _, a6⟩ := h
  exact ⟨vi, qmode_any B R mo vi ms L m W a1 hl (fun e he => by have := a6 e he; omega)⟩
theorem qs_new (cs : Array Value) (A : Option Addr) (n c : Nat) (l : List M5) (w0 w : World) (hw : Below w0.heap.size w0 w) (hc : cs[13]? = some (.slice A n c)) (hn : n = l.length) (hR : Rm w A l) (hl : n ≤ 100) :
    Calls Try.prog 24 #[.agg cs] w fun r w' => ∃ B R ms, r = .returned (qp B) ∧ Qs w0 w' B R (16 * (n : Int)) ms l [] := by
  refine (qnew_any cs A n c l w hc hn hR hl).mono ?_
  rintro r w' ⟨B, R, ms, rfl, h1, h2, h3, h4, h5, h6⟩
  exact ⟨B, R, ms, rfl, ⟨_, h1⟩, h3, by omega, hw.trans (h6.mono hw.size), Nat.le_trans hw.size h4, fun e he => by simp at he⟩
def aw1 : List Tk := [⟨5, 0, [1], 0, 9⟩]
def aw2 : List Tk := [⟨3, 0, [2], 0, 9⟩, ⟨5, 0, [1], 0, 9⟩]
def aw3 : List Tk := [⟨3, 0, [2], 0, 9⟩, ⟨4, 0, [3, 4], 0, 7⟩, ⟨5, 0, [1], 0, 9⟩]
theorem aw1_ok : errQ [(2, 0, 0, 0, 1)] [] ⟨5, 0, [1], 0, 9⟩ = 0 := by
  refine errQ_zero (by unfold P.okN; decide) (by unfold P.okN; decide) (by decide) (by decide) (by decide) ?_ (by decide)
  rintro (h | ⟨e, he, hh⟩ | h)
  · simp [aw1] at h
  · apply hh
    simp [aw1] at he
    skip
  · exact h (by decide)

theorem aw1_eq : insT [] ⟨5, 0, [1], 0, 9⟩ = aw1 := rfl
theorem aw2_ok : errQ [(2, 0, 0, 0, 1)] aw1 ⟨3, 0, [2], 0, 9⟩ = 0 := by
  refine errQ_zero (by unfold P.okN; decide) (by unfold P.okN; decide) (by decide) (by decide) (by decide) ?_ (by decide)
  rintro (h | ⟨e, he, hh⟩ | h)
  · simp [aw1] at h
  · apply hh
    simp [aw1] at he
    subst he; simp
  · exact h (by decide)

theorem aw2_eq : insT aw1 ⟨3, 0, [2], 0, 9⟩ = aw2 := rfl
theorem aw3_ok : errQ [(2, 0, 0, 0, 1)] aw2 ⟨4, 0, [3, 4], 0, 7⟩ = 0 := by
  refine errQ_zero (by unfold P.okN; decide) (by unfold P.okN; decide) (by decide) (by decide) (by decide) ?_ (by decide)
  rintro (h | ⟨e, he, hh⟩ | h)
  · simp [aw2] at h
  · apply hh
    simp [aw2] at he
    rcases he with rfl | rfl <;> simp
  · exact h (by decide)

theorem aw3_eq : insT aw2 ⟨4, 0, [3, 4], 0, 7⟩ = aw3 := rfl
theorem aw_mode {LS : List Tk} (h : LS.Perm (aw3.filter fun e => decide (e.md = 0))) (hs : LS.Pairwise leT) : LS = [⟨4, 0, [3, 4], 0, 7⟩, ⟨3, 0, [2], 0, 9⟩, ⟨5, 0, [1], 0, 9⟩] := by
  refine List.Perm.eq_of_pairwise (le := leT) (fun a b ha hb h1 h2 => ?_) hs ?_ (h.trans ?_)
  · have ha := h.mem_iff.1 ha
    simp [aw3] at ha hb
    unfold leT at h1 h2
    rcases ha with rfl | rfl | rfl <;> rcases hb with rfl | rfl | rfl <;> simp at h1 h2 ⊢
  · simp [leT]
  · show (([⟨3, 0, [2], 0, 9⟩, ⟨4, 0, [3, 4], 0, 7⟩, ⟨5, 0, [1], 0, 9⟩] : List Tk)).Perm _
    exact List.Perm.swap _ _ _
set_option maxHeartbeats 4000000 in
theorem qawake (w : World) : Calls Try.prog 32 #[] w fun r w' => r = .returned (.bool true) ∧ Below w.heap.size w w' := by
  obtain ⟨H0, hH0⟩ : ∃ k, k = w.heap.size := ⟨_, rfl⟩
  obtain ⟨w1, hw1⟩ : ∃ W, W = w.alloc (.cells #[.int .i64 2, .int .i64 0, .int .i64 0, .int .i64 0, .int .i64 1] 68) := ⟨_, rfl⟩
  have hb1 : Below w.heap.size w w1 := by rw [hw1]; exact (Below.refl _ _).alloc (Nat.le_refl _) _
  have hq1 : w1.heap[H0]? = some (.cells #[.int .i64 2, .int .i64 0, .int .i64 0, .int .i64 0, .int .i64 1] 68 (0, 0)) := by rw [hw1, hH0]; exact heap_alloc_new w _
  have hR1 : Rm w1 (some ⟨H0, 0, none⟩) [(2, 0, 0, 0, 1)] := fun _ => ⟨H0, 0, rfl, ⟨_, hq1⟩, fun j v hj => by
    rw [cell_of_row w1 H0 _ _ _ _ hq1, Nat.zero_add, ← hj]
    simp [m5]⟩
  have HUS := Lib.hid (usual_any (some ⟨H0, 0, none⟩) 1 1 [(2, 0, 0, 0, 1)] w1 rfl hR1 (by decide))
  have HB1 := Lib.hid hb1
  have H1 := Lib.hid hw1
  have HH0 := Lib.hid hH0
  clear hw1 hb1 hq1 hR1 hH0
  go_enter Try.func32, Try.ntmps32
  go_wp2_with fail
  rw [← H1.out, ← HH0.out]
  refine HUS.out.mono ?_
  rintro r w2 ⟨cs, A2, c2, rfl, hcs, hR2, hb2⟩
  have HNW := Lib.hid (qs_new cs A2 1 c2 [(2, 0, 0, 0, 1)] w w2 (HB1.out.trans (hb2.mono HB1.out.size)) hcs rfl hR2 (by decide))
  clear hcs hR2 hb2
  go_wp2_with fail
  refine HNW.out.mono ?_
  rintro r w3 ⟨B, R, ms, rfl, hqs0⟩
  have HS0 : Hid (Qs w w3 B R (16 * ((1 : Nat) : Int)) ms [(2, 0, 0, 0, 1)] [] ∧ QI [(2, 0, 0, 0, 1)] []) := ⟨hqs0, QI.nil _⟩
  clear hqs0
  obtain ⟨H1, hH1⟩ : ∃ k, k = w3.heap.size := ⟨_, rfl⟩
  obtain ⟨v1, hv1⟩ : ∃ W, W = w3.alloc (.cells #[.int .u32 1] 26) := ⟨_, rfl⟩
  have hb1 : Below w3.heap.size w3 v1 := by rw [hv1]; exact (Below.refl _ _).alloc (Nat.le_refl _) _
  have hq1 : v1.heap[H1]? = some (.cells #[.int .u32 1] 26 (0, 0)) := by rw [hv1, hH1]; exact heap_alloc_new _ _
  have HP1 : Hid (Calls Try.prog 26 #[qp B, .agg #[.int .u32 5, .int .i64 0, .slice (some ⟨H1, 0, none⟩) 1 1, .int .i64 0, .int .i64 9]] v1 fun r w' => r = .returned (.int .i64 0) ∧ Qs w w' B R (16 * ((1 : Nat) : Int)) ms [(2, 0, 0, 0, 1)] aw1 ∧ QI [(2, 0, 0, 0, 1)] aw1) := by
    have h := qs_put (HS0.out.1.after hb1) HS0.out.2 rfl (by decide) ⟨5, 0, [1], 0, 9⟩ ⟨some ⟨H1, 0, none⟩, 1, 1⟩ rfl (fun _ => ⟨H1, 0, rfl, lt_of_block hq1, fun j x hj => by
      rw [cell_of_row _ H1 _ _ _ _ hq1]
      have : (j = 0 ∧ x = 1) := by
        rcases j with _ | j <;> simp at hj <;> omega
      rcases this with ⟨rfl, rfl⟩ <;> rfl⟩) (by simp)
    refine h.mono fun r w' ⟨h1, h2⟩ => ?_
    unfold nextQ at h2
    rw [aw1_ok] at h1
    rw [if_pos aw1_ok, aw1_eq] at h2
    exact ⟨h1, h2⟩
  have HV1 := Lib.hid hv1
  have HH1 := Lib.hid hH1
  clear hv1 hH1 hb1 hq1
  go_wp2_with fail
  rw [← HV1.out, ← HH1.out]
  refine HP1.out.mono ?_
  rintro r w4 ⟨rfl, hqs1⟩
  have HS1 := Lib.hid hqs1
  clear hqs1
  obtain ⟨H2, hH2⟩ : ∃ k, k = w4.heap.size := ⟨_, rfl⟩
  obtain ⟨v2, hv2⟩ : ∃ W, W = w4.alloc (.cells #[.int .u32 2] 26) := ⟨_, rfl⟩
  have hb2 : Below w4.heap.size w4 v2 := by rw [hv2]; exact (Below.refl _ _).alloc (Nat.le_refl _) _
  have hq2 : v2.heap[H2]? = some (.cells #[.int .u32 2] 26 (0, 0)) := by rw [hv2, hH2]; exact heap_alloc_new _ _
  have HP2 : Hid (Calls Try.prog 26 #[qp B, .agg #[.int .u32 3, .int .i64 0, .slice (some ⟨H2, 0, none⟩) 1 1, .int .i64 0, .int .i64 9]] v2 fun r w' => r = .returned (.int .i64 0) ∧ Qs w w' B R (16 * ((1 : Nat) : Int)) ms [(2, 0, 0, 0, 1)] aw2 ∧ QI [(2, 0, 0, 0, 1)] aw2) := by
    have h := qs_put (HS1.out.1.after hb2) HS1.out.2 rfl (by decide) ⟨3, 0, [2], 0, 9⟩ ⟨some ⟨H2, 0, none⟩, 1, 1⟩ rfl (fun _ => ⟨H2, 0, rfl, lt_of_block hq2, fun j x hj => by
      rw [cell_of_row _ H2 _ _ _ _ hq2]
      have : (j = 0 ∧ x = 2) := by
        rcases j with _ | j <;> simp at hj <;> omega
      rcases this with ⟨rfl, rfl⟩ <;> rfl⟩) (by simp)
    refine h.mono fun r w' ⟨h1, h2⟩ => ?_
    unfold nextQ at h2
    rw [aw2_ok] at h1
    rw [if_pos aw2_ok, aw2_eq] at h2
    exact ⟨h1, h2⟩
  have HV2 := Lib.hid hv2
  have HH2 := Lib.hid hH2
  clear hv2 hH2 hb2 hq2
  go_wp2_with fail
  rw [← HV2.out, ← HH2.out]
  refine HP2.out.mono ?_
  rintro r w5 ⟨rfl, hqs2⟩
  have HS2 := Lib.hid hqs2
  clear hqs2
  obtain ⟨H3, hH3⟩ : ∃ k, k = w5.heap.size := ⟨_, rfl⟩
  obtain ⟨v3, hv3⟩ : ∃ W, W = w5.alloc (.cells #[.int .u32 3, .int .u32 4] 26) := ⟨_, rfl⟩
  have hb3 : Below w5.heap.size w5 v3 := by rw [hv3]; exact (Below.refl _ _).alloc (Nat.le_refl _) _
  have hq3 : v3.heap[H3]? = some (.cells #[.int .u32 3, .int .u32 4] 26 (0, 0)) := by rw [hv3, hH3]; exact heap_alloc_new _ _
  have HP3 : Hid (Calls Try.prog 26 #[qp B, .agg #[.int .u32 4, .int .i64 0, .slice (some ⟨H3, 0, none⟩) 2 2, .int .i64 0, .int .i64 7]] v3 fun r w' => r = .returned (.int .i64 0) ∧ Qs w w' B R (16 * ((1 : Nat) : Int)) ms [(2, 0, 0, 0, 1)] aw3 ∧ QI [(2, 0, 0, 0, 1)] aw3) := by
    have h := qs_put (HS2.out.1.after hb3) HS2.out.2 rfl (by decide) ⟨4, 0, [3, 4], 0, 7⟩ ⟨some ⟨H3, 0, none⟩, 2, 2⟩ rfl (fun _ => ⟨H3, 0, rfl, lt_of_block hq3, fun j x hj => by
      rw [cell_of_row _ H3 _ _ _ _ hq3]
      have : (j = 0 ∧ x = 3) ∨ (j = 1 ∧ x = 4) := by
        rcases j with _ | _ | j <;> simp at hj <;> omega
      rcases this with ⟨rfl, rfl⟩ | ⟨rfl, rfl⟩ <;> rfl⟩) (by simp)
    refine h.mono fun r w' ⟨h1, h2⟩ => ?_
    unfold nextQ at h2
    rw [aw3_ok] at h1
    rw [if_pos aw3_ok, aw3_eq] at h2
    exact ⟨h1, h2⟩
  have HV3 := Lib.hid hv3
  have HH3 := Lib.hid hH3
  clear hv3 hH3 hb3 hq3
  go_wp2_with fail
  rw [← HV3.out, ← HH3.out]
  refine HP3.out.mono ?_
  rintro r w6 ⟨rfl, hqs3⟩
  have HS3 := Lib.hid hqs3
  clear hqs3
  obtain ⟨vi, hmo⟩ := qs_mode HS3.out.1 (by decide) 0
  have HMO := Lib.hid hmo
  clear hmo
  go_wp2_with fail
  refine HMO.out.mono ?_
  rintro r w7 ⟨A, n, c, lf, rfl, hn, hp, hs, hfl, hrt, hb7⟩
  have hmap := aw_mode hp hs
  have hl3 : lf.length = 3 := by have := congrArg List.length hmap; simpa using this
  obtain rfl : n = 3 := by omega
  obtain ⟨g, rfl, hg, hr⟩ := hrt (by decide)
  match lf, hl3, hmap, hr with
  | [e0, e1, e2], _, hmap, hr =>
    simp at hmap
    obtain ⟨m0, m1, m2⟩ := hmap
    obtain ⟨x0, _⟩ := hr.cells (i := 0) rfl
    obtain ⟨x1, _⟩ := hr.cells (i := 1) rfl
    obtain ⟨x2, _⟩ := hr.cells (i := 2) rfl
    rw [m0] at x0
    rw [m1] at x1
    rw [m2] at x2
    simp at x0 x1 x2
    have HB7 : Hid (Below w.heap.size w w7) := HS3.out.1.2.2.2.1.trans (hb7.mono HS3.out.1.2.2.2.1.size)
    clear hn hp hs hfl hrt hb7 hr m0 m1 m2 hg
    go_wp2
    go_ret
    exact ⟨by first | rfl | simp, HB7.out⟩
end Go.Proofs.Ytemjmnpclknfaaa.T

/- Queue: QueueOne's walk. -/
namespace Go.Proofs.Ytemjmnpclknfaaa.T
open Go.RowKit
open Go.Proofs.Ytemjmnpclknfaaa.P (Sl un)
set_option maxRecDepth 20000
set_option linter.unusedVariables false
set_option linter.unusedSimpArgs false

theorem pl_exists (x : Nat) (ids : List Nat) (hu : Up ids) : ∃ p, P.Pl ids x p := by
  have key : ∀ n, n ≤ ids.length → ∃ p, p ≤ n ∧ (∀ j y, j < p → ids[j]? = some y → y < x) ∧ (∀ j y, p ≤ j → j < n → ids[j]? = some y → x ≤ y) := by
    intro n
    induction n with
    | zero => exact fun _ => ⟨0, Nat.le_refl _, fun j y hj => absurd hj (Nat.not_lt_zero j), fun j y _ hj => absurd hj (Nat.not_lt_zero j)⟩
    | succ n ih =>
      intro hn
      obtain ⟨p, h1, h2, h3⟩ := ih (by omega)
      have hz : ids[n]? = some (ids[n]'(by omega)) := List.getElem?_eq_getElem _
      by_cases hlt : ids[n]'(by omega) < x
      · refine ⟨n + 1, Nat.le_refl _, fun j y hj hy => ?_, fun j y hj hj' => by omega⟩
        by_cases hjn : j = n
        · subst hjn
          rw [hz] at hy
          injection hy with hy
          omega
        · have := hu j n y _ (by omega) hy hz
          omega
      · refine ⟨p, by omega, h2, fun j y hj hj' hy => ?_⟩
        by_cases hjn : j = n
        · subst hjn
          rw [hz] at hy
          injection hy with hy
          omega
        · exact h3 j y hj (by omega) hy
  obtain ⟨p, h1, h2, h3⟩ := key ids.length (Nat.le_refl _)
  exact ⟨p, h1, h2, fun j y hj hy => h3 j y hj (List.getElem?_eq_some_iff.1 hy).1 hy⟩
/-- The document's rack, in a block: its ids are acc. -/
def Rq (W : World) (K : Nat) (acc : List Nat) : Prop := ∃ (PA : Option Addr) (pm pc : Nat) (rows ps : V.Ps), W.heap[K]? = some (.cells #[.slice PA pm pc, .int .i64 200] 76 (0, 0)) ∧ W.ownsRow (K + 1) 132 2 (.slice PA pm pc) pm (V.rr rows) ∧ pm = rows.length ∧ rows.Perm ps ∧ Up (ps.map (·.1)) ∧ (∀ y ∈ ps.map (·.1), V.okN y) ∧ (ps.map (·.1)).Perm acc
theorem Rq.after {W W' : World} {K : Nat} {acc : List Nat} (h : Rq W K acc) (hb : Below W.heap.size W W') : Rq W' K acc := by
  obtain ⟨PA, pm, pc, rows, ps, h1, h2, h3⟩ := h
  exact ⟨PA, pm, pc, rows, ps, (hb.block K (lt_of_block h1)).trans h1, P.own_blk h2 hb, h3⟩
/-- What a put into it leaves. -/
def RqP (K : Nat) (acc : List Nat) (W : World) (r : Ending) (w' : World) : Prop := ∃ (PB : Option Addr) (m c' : Nat), r = .returned (.tuple #[.agg #[.slice PB m c', .int .i64 200], .int .i64 0]) ∧ Below W.heap.size W w' ∧ Rq ((w'.setCell ⟨K, 0, none⟩ (.slice PB m c')).setCell ⟨K, 1, none⟩ (.int .i64 200)) K acc
theorem rq_put {W : World} {K : Nat} {acc : List Nat} {PA : Option Addr} {pm pc : Nat} {rows ps : V.Ps} (h1 : W.heap[K]? = some (.cells #[.slice PA pm pc, .int .i64 200] 76 (0, 0))) (h2 : W.ownsRow (K + 1) 132 2 (.slice PA pm pc) pm (V.rr rows)) (h3 : pm = rows.length) (h4 : rows.Perm ps) (h5 : Up (ps.map (·.1))) (h6 : ∀ y ∈ ps.map (·.1), V.okN y) (h7 : (ps.map (·.1)).Perm acc) (x : Nat) (hx : x ∉ acc) (hok : P.okN x) (hl : acc.length < 200) :
    Calls Try.prog 29 #[.agg #[.slice PA pm pc, .int .i64 200], .int .u32 (x : Int), .int .i64 0] W fun r w' => RqP K (acc ++ [x]) W r w' := by
  have hxm : x ∉ ps.map (·.1) := fun hh => hx (h7.mem_iff.1 hh)
  have hpl : ps.length < 200 := by have := h7.length_eq; rw [List.length_map] at this; omega
  have hrl := h4.length_eq
  obtain ⟨p, hp⟩ := pl_exists x (ps.map (·.1)) h5
  have hpp : p ≤ ps.length := by have := hp.1; simpa using this
  have hne : (ps.map (·.1))[p]? ≠ some x := fun e => hxm (List.mem_of_getElem? e)
  refine (V.rput_any (K + 1) PA pm pc 200 x 0 0 rows ps (ps.take p ++ [(x, 0)] ++ ps.drop p) W h3 h2 (by have := lt_of_block h1; omega) (by omega) h4 h5 h6 (.inr (.inr (.inr ⟨rfl, hxm, hok, by omega, p, hp, rfl⟩)))).mono ?_
  rintro r w' ⟨B, m, c', l', rfl, hm, hpe, ho, hb⟩
  refine ⟨B, m, c', rfl, hb, B, m, c', l', ps.take p ++ [(x, 0)] ++ ps.drop p, ?_, ?_, hm, hpe, ?_, ?_, ?_⟩
  · have hq := (hb.block K (lt_of_block h1)).trans h1
    have e1 := heap_setCell_same w' K 0 _ 76 (.slice B m c') hq
    exact heap_setCell_same _ K 1 _ 76 (.int .i64 200) e1
  · refine V.own2_after ho fun g hg => ?_
    have hgk : g ≠ K := fun e => by have := (V.own2_lt ho g hg).1; omega
    rw [Below.heap_setCell _ _ _ _ hgk, Below.heap_setCell _ _ _ _ hgk]
  · rw [List.map_append, List.map_append, List.map_take, List.map_drop]
    exact P.pl_up h5 hp hne
  · intro y hy
    rw [List.map_append, List.map_append, List.map_take, List.map_drop] at hy
    rcases List.mem_append.1 hy with hy | hy
    · rcases List.mem_append.1 hy with hy | hy
      · exact h6 y (List.mem_of_mem_take hy)
      · simp at hy
        subst hy
        exact hok
    · exact h6 y (List.mem_of_mem_drop hy)
  · rw [List.map_append, List.map_append, List.map_take, List.map_drop, List.append_assoc]
    show ((ps.map (·.1)).take p ++ x :: (ps.map (·.1)).drop p).Perm (acc ++ [x])
    refine (List.perm_middle (a := x)).trans ?_
    rw [List.take_append_drop]
    exact (h7.cons x).trans (List.perm_append_singleton x acc).symm
theorem set2_below {k K : Nat} {w W : World} {a b : Value} (h : Below k w W) (hk : k ≤ K) : Below k w ((W.setCell ⟨K, 0, none⟩ a).setCell ⟨K, 1, none⟩ b) := (h.setCell hk a).setCell hk b
theorem rt_aside {W : World} {g K T : Nat} {lf : List (Sl × Tk)} {cs : Array Value} {a b : Value} (h : Rt W g lf) (hK : W.heap[K]? = some (.cells cs T (0, 0))) (hT : T ≠ 72) : Rt ((W.setCell ⟨K, 0, none⟩ a).setCell ⟨K, 1, none⟩ b) g lf := by
  obtain ⟨cur, h1, h2⟩ := h
  have hne : g ≠ K := fun e => by subst e; rw [hK] at h1; injection h1 with h1; injection h1 with _ h1; exact hT h1
  exact ⟨cur, by rw [Below.heap_setCell _ _ _ _ hne, Below.heap_setCell _ _ _ _ hne]; exact h1, h2⟩
theorem fl_aside {W : World} {K T R : Nat} {vi : Value} {s : Sl} {l : List Nat} {cs : Array Value} {a b : Value} (h : P.Fl W R vi s l) (hK : W.heap[K]? = some (.cells cs T (0, 0))) (hT : T ≠ 26) : P.Fl ((W.setCell ⟨K, 0, none⟩ a).setCell ⟨K, 1, none⟩ b) R vi s l := fl_keep h fun k cur hk => by
  have hne : k ≠ K := fun e => by subst e; rw [hK] at hk; injection hk with hk; injection hk with _ hk; exact hT hk
  rw [Below.heap_setCell _ _ _ _ hne, Below.heap_setCell _ _ _ _ hne]
theorem filt_next (L : List Tk) (m : Nat) : ((L.filter fun e => decide (e.md < (m : Int))) ++ (L.filter fun e => decide (e.md = (m : Int)))).Perm (L.filter fun e => decide (e.md < ((m + 1 : Nat) : Int))) := by
  have h := List.filter_append_perm (fun e : Tk => decide (e.md < (m : Int))) (L.filter fun e => decide (e.md < ((m + 1 : Nat) : Int)))
  rw [List.filter_filter, List.filter_filter] at h
  have e1 : (L.filter fun e => decide (e.md < (m : Int)) && decide (e.md < ((m + 1 : Nat) : Int))) = L.filter fun e => decide (e.md < (m : Int)) := List.filter_congr fun e _ => by
    by_cases hh : e.md < (m : Int)
    · rw [decide_eq_true hh, decide_eq_true (by omega)]; rfl
    · rw [decide_eq_false hh]; rfl
  have e2 : (L.filter fun e => (!decide (e.md < (m : Int))) && decide (e.md < ((m + 1 : Nat) : Int))) = L.filter fun e => decide (e.md = (m : Int)) := List.filter_congr fun e _ => by
    by_cases hh : e.md = (m : Int)
    · rw [decide_eq_true hh, decide_eq_false (by omega), decide_eq_true (by omega)]; rfl
    · rw [decide_eq_false hh]
      by_cases h2 : e.md < (m : Int)
      · rw [decide_eq_true h2]; rfl
      · rw [decide_eq_false (by omega : ¬ e.md < ((m + 1 : Nat) : Int))]; simp
  rw [e1, e2] at h
  exact h
end Go.Proofs.Ytemjmnpclknfaaa.T

/- Queue: QueueOne's walk. -/
namespace Go.Proofs.Ytemjmnpclknfaaa.T
open Go.RowKit
open Go.Proofs.Ytemjmnpclknfaaa.P (Sl un)
set_option maxRecDepth 20000
set_option linter.unusedVariables false
set_option linter.unusedSimpArgs false

abbrev ml2 : List M5 := [(1, 0, 0, 0, 0), (4, 0, 0, 0, 0)]
theorem eM2 (m : Int) (h : 0 ≤ m ∧ m < ((ml2.length : Nat) : Int)) : (eM ml2 m).1 ≤ 4 := by
  have hh : m = 0 ∨ m = 1 := by have := h.2; simp at this; omega
  rcases hh with rfl | rfl <;> decide
set_option maxHeartbeats 32000000 in
theorem one_all (p : Option Addr × Nat) (l : List Tc) (w : World) (hs : Ts w w.heap.size p.1 l) (hl : l.length ≤ 9223372036854775807) (hb : ∀ e ∈ l, Rk w e) :
    Calls Try.prog 7 #[.slice p.1 l.length p.2] w fun e w' => e = .returned (.bool true) ∧ Below w.heap.size w w' := by
  obtain ⟨A, c⟩ := p
  show Calls Try.prog 7 #[.slice A l.length c] w _
  obtain ⟨n, hn⟩ : ∃ n, n = l.length := ⟨_, rfl⟩
  have HS : Hid (Ts w w.heap.size A l) := hs
  have HBK := Lib.hid hb
  have HN := Lib.hid hn
  rw [← hn] at hl ⊢
  clear hs hb hn
  by_cases h60 : 60 < n
  · have h60i : decide ((60 : Int) < (n : Int)) = true := decide_eq_true (by omega)
    have h60n : decide (60 < n) = true := decide_eq_true h60
    clear h60
    go_enter Try.func7, Try.ntmps7
    go_wp2
    go_ret
    exact ⟨by first | rfl | simp, Below.refl _ _⟩
  have h60i : decide ((60 : Int) < (n : Int)) = false := decide_eq_false (by omega)
  have h60n : decide (60 < n) = false := decide_eq_false h60
  have hn60 : n ≤ 60 := by omega
  obtain ⟨H0, hH0⟩ : ∃ k, k = w.heap.size := ⟨_, rfl⟩
  obtain ⟨w1, hw1⟩ : ∃ W, W = w.alloc (.cells #[.int .i64 1, .int .i64 0, .int .i64 0, .int .i64 0, .int .i64 0, .int .i64 4, .int .i64 0, .int .i64 0, .int .i64 0, .int .i64 0] 68) := ⟨_, rfl⟩
  have hb1 : Below w.heap.size w w1 := by rw [hw1]; exact (Below.refl _ _).alloc (Nat.le_refl _) _
  have hq1 : w1.heap[H0]? = some (.cells #[.int .i64 1, .int .i64 0, .int .i64 0, .int .i64 0, .int .i64 0, .int .i64 4, .int .i64 0, .int .i64 0, .int .i64 0, .int .i64 0] 68 (0, 0)) := by rw [hw1, hH0]; exact heap_alloc_new w _
  have hR1 : Rm w1 (some ⟨H0, 0, none⟩) ml2 := fun _ => ⟨H0, 0, rfl, ⟨_, hq1⟩, fun j v hj => by
    rw [cell_of_row w1 H0 _ _ _ _ hq1, Nat.zero_add, ← hj]
    simp [m5]⟩
  have HUS := Lib.hid (usual_any (some ⟨H0, 0, none⟩) 2 2 ml2 w1 rfl hR1 (by decide))
  have HB1 := Lib.hid hb1
  have H1 := Lib.hid hw1
  have HH0 := Lib.hid hH0
  clear hw1 hb1 hq1 hR1 hH0 h60 hl
  go_enter Try.func7, Try.ntmps7
  go_wp2_with fail
  rw [← H1.out, ← HH0.out]
  refine HUS.out.mono ?_
  rintro r w2 ⟨cs, A2, c2, rfl, hcs, hR2, hb2⟩
  have HNW := Lib.hid (qs_new cs A2 2 c2 ml2 w w2 (HB1.out.trans (hb2.mono HB1.out.size)) hcs rfl hR2 (by decide))
  clear hcs hR2 hb2 HUS
  go_wp2_with fail
  refine HNW.out.mono ?_
  rintro r w3 ⟨B, R, ms, rfl, hqs0⟩
  have HS0 : Hid (Qs w w3 B R (16 * ((2 : Nat) : Int)) ms ml2 [] ∧ QI ml2 []) := ⟨hqs0, QI.nil _⟩
  clear hqs0 HNW h60i h60n
  go_wp2_with fail
  go_loopw [4] (fun u wr => ∃ (k : Nat) (L : List Tk), k ≤ n ∧ u = .int .i64 (k : Int) ∧ Hid (Qs w wr B R (16 * ((2 : Nat) : Int)) ms ml2 L ∧ QI ml2 L)) (fun u _ => n - (intOf u).toNat)
  case atStart => exact ⟨0, [], by omega, rfl, HS0.out⟩
  case round =>
    rename World => wl
    obtain ⟨k, L, hk, rfl, HV⟩ := hrel
    by_cases hlt : k < n
    · obtain ⟨e, he⟩ : ∃ e, l[k]? = some e := ⟨l[k]'(by rw [← HN.out]; exact hlt), List.getElem?_eq_getElem _⟩
      obtain ⟨b, o, rfl, hb, hcc⟩ := HS.out (by rw [← HN.out]; omega)
      have hbw := HV.out.1.2.2.2.1
      obtain ⟨a0, a1, a2, a3, a4⟩ := hcc k e he
      have d0 := (hbw.cell (p := ⟨b, _, none⟩) hb).trans a0
      have d1 := (hbw.cell (p := ⟨b, _, none⟩) hb).trans a1
      have d2 := (hbw.cell (p := ⟨b, _, none⟩) hb).trans a2
      have d3 := (hbw.cell (p := ⟨b, _, none⟩) hb).trans a3
      have d4 := (hbw.cell (p := ⟨b, _, none⟩) hb).trans a4
      have HRK : Hid (P.Rn wl e.a e.t.mem) := (HBK.out e (List.mem_of_getElem? he)).1.after hbw
      obtain ⟨q, hq⟩ : ∃ q, q = e.t.mem.length := ⟨_, rfl⟩
      have HQ := Lib.hid hq
      have HBW := Lib.hid hbw
      rw [← hq] at d2
      clear a0 a1 a2 a3 a4 hbw hcc hb he hq
      by_cases h8 : 8 < q
      · have h8i : decide ((8 : Int) < (q : Int)) = true := decide_eq_true (by omega)
        have h8n : decide (8 < q) = true := decide_eq_true h8
        clear h8
        go_wp2
        go_ret
        exact ⟨by first | rfl | simp, HBW.out⟩
      · have h8i : decide ((8 : Int) < (q : Int)) = false := decide_eq_false (by omega)
        have h8n : decide (8 < q) = false := decide_eq_false h8
        have HQ8 : Hid (q ≤ 8) := by simp only [Hid]; omega
        have HLO := Lib.hid (lown_any e.t ⟨e.a, q, e.c⟩ wl HQ.out HRK.out (by have := HQ.out; omega))
        clear h8
        go_wp2_with fail
        refine HLO.out.mono ?_
        rintro r w5 ⟨A5, c5, rfl, ho, hb5⟩
        have HPT := Lib.hid (qs_put (HV.out.1.after hb5) HV.out.2 rfl (by decide) e.t ⟨A5, q, c5⟩ HQ.out (P.Rn.of_own ho).2 (by have := HQ.out; have := HQ8.out; omega))
        clear ho hb5 d0 d1 d2 d3 d4 h8i h8n
        go_wp2_with fail
        refine HPT.out.mono ?_
        rintro r w6 ⟨rfl, hqs, hqi⟩
        have HV6 : Hid (Qs w w6 B R (16 * ((2 : Nat) : Int)) ms ml2 (nextQ ml2 L e.t) ∧ QI ml2 (nextQ ml2 L e.t)) := ⟨hqs, hqi⟩
        clear hqs hqi
        go_wp2_with fail
        go_roundw
        case rel => exact ⟨k + 1, nextQ ml2 L e.t, by omega, by go_num, HV6.out⟩
        case measure => simp [intOf] <;> omega
    · have hkn : k = n := by omega
      subst hkn
      have HQI := Lib.hid HV.out.2
      have HLL : Hid (L.length ≤ 32) := by have := HQI.out.len; simpa [Hid] using this
      have HM4 : Hid (∀ e ∈ L, e.mem.length ≤ 4) := fun e he => by
        have h1 := HQI.out.sz e he
        have h2 := eM2 e.md (HQI.out.md e he)
        omega
      obtain ⟨K5, hK5⟩ : ∃ k, k = wl.heap.size := ⟨_, rfl⟩
      obtain ⟨w4, hw4⟩ : ∃ W, W = wl.alloc (.cells #[.slice none 0 0, .int .i64 200] 76) := ⟨_, rfl⟩
      have hb4 : Below wl.heap.size wl w4 := by rw [hw4]; exact (Below.refl _ _).alloc (Nat.le_refl _) _
      have hq4 : w4.heap[K5]? = some (.cells #[.slice none 0 0, .int .i64 200] 76 (0, 0)) := by rw [hw4, hK5]; exact heap_alloc_new wl _
      have HB4 := Lib.hid hb4
      have HR4 : Hid (Rq w4 K5 []) := ⟨none, 0, 0, [], [], hq4, World.ownsRow_nil _ _ 132 2, rfl, List.Perm.refl _, fun i j x y _ hx => by simp at hx, fun y hy => by simp at hy, List.Perm.refl _⟩
      have HK5 := Lib.hid hK5
      have H4 := Lib.hid hw4
      clear hb4 hq4 hw4 hK5 hlt
      go_upto_region 11 with (fail)
      rw [← H4.out, ← HK5.out]
      go_wp2_with fail
      go_loopw [6, 7, 8] (fun v6 v7 v8 wx => ∃ (m mn pl : Nat) (TM : List Tk), m ≤ 2 ∧ mn ≤ 1000 ∧ pl ≤ 4000 ∧ v8 = .int .i64 (m : Int) ∧ v7 = .int .i64 (mn : Int) ∧ v6 = .int .i64 (pl : Int) ∧ Hid (mn = TM.length ∧ pl = (TM.flatMap (·.mem)).length ∧ TM.Perm (L.filter fun e => decide (e.md < (m : Int))) ∧ Rq wx K5 (TM.flatMap (·.mem)) ∧ Below wl.heap.size wl wx)) (fun _ _ v8 _ => 2 - (intOf v8).toNat)
      case atStart => exact ⟨0, 0, 0, [], by omega, by omega, by omega, rfl, rfl, rfl, rfl, rfl, by
        rw [List.filter_eq_nil_iff.2 (fun e he => by have := (HQI.out.md e he).1; simp; omega)], HR4.out, HB4.out⟩
      case round =>
        rename World => wx
        obtain ⟨m, mn, pl, TM, hm2, hmn, hpl, rfl, rfl, rfl, HVM⟩ := hrel
        by_cases hm : m < 2
        · have hqx := HV.out.1.after HVM.out.2.2.2.2
          obtain ⟨vi, hmo⟩ := qs_mode hqx (by have := HLL.out; omega) (m : Int)
          have HMO := Lib.hid hmo
          clear hqx hmo
          go_wp2_with fail
          refine HMO.out.mono ?_
          rintro r w5 ⟨A7, n7, c7, lf, rfl, hn7, hp, hso, hfl, hrt, hb5⟩
          obtain ⟨LS, hLS⟩ : ∃ x, x = lf.map (·.2) := ⟨_, rfl⟩
          rw [← hLS] at hp hso
          have HLS := Lib.hid hLS
          have hn16 : n7 ≤ 16 := by
            have h1 := hp.length_eq
            have h2 := HQI.out.cnt (m : Int)
            unfold cntM at h2
            rw [hLS, List.length_map] at h1
            omega
          have HPM := Lib.hid hp
          have HSO := Lib.hid hso
          have HN7 : Hid (n7 = LS.length) := by rw [hLS, Hid, List.length_map]; exact hn7
          have HGA : Hid (0 < n7 → ∃ g, A7 = some ⟨g, 0, none⟩) := fun h0 => by obtain ⟨g, e, _⟩ := hrt h0; exact ⟨g, e⟩
          have HST : Hid (pl = ((TM ++ LS.take 0).flatMap (·.mem)).length ∧ Rq w5 K5 ((TM ++ LS.take 0).flatMap (·.mem)) ∧ (∀ g, A7 = some ⟨g, 0, none⟩ → 0 < n7 → Rt w5 g lf) ∧ (∀ e ∈ lf, P.Fl w5 R vi e.1 e.2.mem) ∧ Below wl.heap.size wl w5) := by
            rw [Hid, List.take_zero, List.append_nil]
            refine ⟨HVM.out.2.1, HVM.out.2.2.2.1.after hb5, fun g hg h0 => ?_, hfl, HVM.out.2.2.2.2.trans (hb5.mono HVM.out.2.2.2.2.size)⟩
            obtain ⟨g', e, _, h⟩ := hrt h0
            rw [e] at hg
            injection hg with hg
            injection hg with hg
            subst hg
            exact h
          have HTL : Hid (TM.length ≤ 32) := by
            have h1 := HVM.out.2.2.1.length_eq
            have h2 : (L.filter fun e => decide (e.md < (m : Int))).length ≤ L.length := List.length_filter_le _ _
            have := HLL.out
            simp only [Hid]
            omega
          have HTM : Hid (∀ e ∈ TM, e ∈ L ∧ e.md ≠ (m : Int)) := fun e he => by
            obtain ⟨h1, h2⟩ := List.mem_filter.1 (HVM.out.2.2.1.mem_iff.1 he)
            have h2 := of_decide_eq_true h2
            exact ⟨h1, by omega⟩
          have HFLN : Hid (∀ i, ((TM ++ LS.take i).flatMap (·.mem)).length ≤ 192) := fun i => by
            have h1 := flat_len 4 (TM ++ LS.take i) (fun e he => by
              rcases List.mem_append.1 he with he | he
              · exact HM4.out e (HTM.out e he).1
              · exact HM4.out e (List.mem_filter.1 (HPM.out.mem_iff.1 (List.mem_of_mem_take he))).1)
            have h2 := HTL.out
            have h3 := HN7.out
            rw [List.length_append, List.length_take] at h1
            have : min i LS.length ≤ LS.length := Nat.min_le_right _ _
            omega
          have hd16i : decide ((16 : Int) < (n7 : Int)) = false := decide_eq_false (by omega)
          have hd16n : decide (16 < n7) = false := decide_eq_false (by omega)
          clear hp hso hfl hrt hb5 hn7 hLS HMO
          go_wp2_with fail
          clear hd16i hd16n
          go_loopw [6, 10] (fun v6 v10 wy => ∃ (i p3 : Nat), i ≤ n7 ∧ p3 ≤ 4000 ∧ v10 = .int .i64 (i : Int) ∧ v6 = .int .i64 (p3 : Int) ∧ Hid (p3 = ((TM ++ LS.take i).flatMap (·.mem)).length ∧ Rq wy K5 ((TM ++ LS.take i).flatMap (·.mem)) ∧ (∀ g, A7 = some ⟨g, 0, none⟩ → 0 < n7 → Rt wy g lf) ∧ (∀ e ∈ lf, P.Fl wy R vi e.1 e.2.mem) ∧ Below wl.heap.size wl wy)) (fun _ v10 _ => n7 - (intOf v10).toNat)
          case atStart => exact ⟨0, pl, by omega, hpl, rfl, rfl, HST.out⟩
          case round =>
            rename World => wy
            obtain ⟨i, p3, hi, hp3, rfl, rfl, HV3⟩ := hrel
            by_cases hin : i < n7
            · obtain ⟨g, rfl⟩ := HGA.out (by omega)
              have hll : lf.length = LS.length := by rw [HLS.out, List.length_map]
              obtain ⟨⟨⟨ea, en, ec⟩, et⟩, he⟩ : ∃ e, lf[i]? = some e := ⟨lf[i]'(by rw [hll, ← HN7.out]; exact hin), List.getElem?_eq_getElem _⟩
              have hrt := HV3.out.2.2.1 g rfl (by omega)
              have HE := Lib.hid he
              have hLi : LS[i]? = some et := by rw [HLS.out, List.getElem?_map, he]; rfl
              have HLI := Lib.hid hLi
              have heL := List.mem_filter.1 (HPM.out.mem_iff.1 (List.mem_of_getElem? hLi))
              have HEL := Lib.hid heL.1
              have HMDM : Hid (et.md = (m : Int)) := by simpa [Hid] using heL.2
              have hfe := HV3.out.2.2.2.1 _ (List.mem_of_getElem? he)
              have HEN : Hid (en = et.mem.length) := hfe.1
              have hen : en ≤ 8 := by have := HEN.out; have := HM4.out _ HEL.out; omega
              have hcl := hrt.cells he
              have HBRY : Hid (Below wy.heap.size wy wy) := Below.refl _ _
              have HRTY := Lib.hid hrt
              clear hll hLi heL hfe hrt he
              go_upto_region 22 with (fail)
              go_cut [113] (fun v wz => v = .bool false ∧ Hid (Below wy.heap.size wy wz))
              case first =>
                by_cases hi0 : i = 0
                · have HI0 : Hid (i = 0) := hi0
                  have HSY : Hid (∀ W, Below wy.heap.size wy W → (fun W : World => W.cell? ⟨g, i * 5, none⟩ = some (.int .u32 (et.id : Int)) ∧ W.cell? ⟨g, i * 5 + 1, none⟩ = some (.int .i64 et.md) ∧ W.cell? ⟨g, i * 5 + 4, none⟩ = some (.int .i64 et.sn)) W) := fun W hW => by
                    obtain ⟨c0, c1, _, _, c4⟩ := (HRTY.out.after hW).cells HE.out
                    exact ⟨c0, c1, c4⟩
                  clear hi0 hcl
                  have HDa : Hid (Below wy.heap.size wy wy.drew) := HBRY.out.drew
                  refine wp_region_held_drew (S := fun W : World => W.cell? ⟨g, i * 5, none⟩ = some (.int .u32 (et.id : Int)) ∧ W.cell? ⟨g, i * 5 + 1, none⟩ = some (.int .i64 et.md) ∧ W.cell? ⟨g, i * 5 + 4, none⟩ = some (.int .i64 et.sn)) (by kernel_rfl) (HSY.out _ (HDa.out)) (fun hHeld => ?_)
                  obtain ⟨Wa0, hW0⟩ : ∃ W0, W0 = wy.drew := ⟨_, rfl⟩
                  rw [← hW0] at hHeld HDa ⊢
                  clear hW0
                  refine wpAnyH_take (i := 0) (oi := ?oi0a) (v := ?v0a) ?hi0a ?hs0a ?hf0a ?hr0a ?hQ0a ?hy0a ?hS0a ?h0a
                  case hi0a => exact (by simp only [List.getElem?_toArray, List.getElem?_cons_zero]; rfl)
                  case hs0a => kernel_rfl
                  case hf0a => kernel_rfl
                  case hr0a => kernel_rfl
                  case hQ0a => exact fun _ _ _ h => h
                  case hy0a =>
                    refine Or.inl ⟨rfl, ?_⟩
                    intro W hSw
                    obtain ⟨q0, q1, q2⟩ := hSw
                    go_simp
                    try with_reducible rfl
                  case hS0a => assumption
                  try simp only [Act.put, List.setIfInBounds_toArray, List.set_cons_zero, List.set_cons_succ]
                  refine wpAnyH_take (i := 1) (oi := ?oi1a) (v := .bool false) ?hi1a ?hs1a ?hf1a ?hr1a ?hQ1a ?hy1a ?hS1a ?h1a
                  case hi1a => exact (by simp only [List.getElem?_toArray, List.getElem?_cons_succ, List.getElem?_cons_zero]; rfl)
                  case hs1a => kernel_rfl
                  case hf1a => kernel_rfl
                  case hr1a => kernel_rfl
                  case hQ1a => exact fun _ _ _ h => h
                  case hy1a =>
                    refine Or.inl ⟨rfl, ?_⟩
                    intro W hSw
                    obtain ⟨q0, q1, q2⟩ := hSw
                    go_simp
                    first | exact HI0.out | (have := HI0.out; omega) | simp [HI0.out]
                  case hS1a => assumption
                  try simp only [Act.put, List.setIfInBounds_toArray, List.set_cons_zero, List.set_cons_succ]
                  refine wpAnyH_take (i := 2) (oi := ?oi2a) (v := ?v2a) ?hi2a ?hs2a ?hf2a ?hr2a ?hQ2a ?hy2a ?hS2a ?h2a
                  case hi2a => exact (by simp only [List.getElem?_toArray, List.getElem?_cons_succ, List.getElem?_cons_zero]; rfl)
                  case hs2a => kernel_rfl
                  case hf2a => kernel_rfl
                  case hr2a => kernel_rfl
                  case hQ2a => exact fun _ _ _ h => h
                  case hy2a =>
                    refine Or.inl ⟨rfl, ?_⟩
                    intro W hSw
                    obtain ⟨q0, q1, q2⟩ := hSw
                    go_simp
                    try with_reducible rfl
                  case hS2a => assumption
                  try simp only [Act.put, List.setIfInBounds_toArray, List.set_cons_zero, List.set_cons_succ]
                  refine wpAnyH_take (i := 3) (oi := ?oi3a) (v := undef) ?hi3a ?hs3a ?hf3a ?hr3a ?hQ3a ?hy3a ?hS3a ?h3a
                  case hi3a => exact (by simp only [List.getElem?_toArray, List.getElem?_cons_succ, List.getElem?_cons_zero]; rfl)
                  case hs3a => kernel_rfl
                  case hf3a => kernel_rfl
                  case hr3a => kernel_rfl
                  case hQ3a => exact fun _ _ _ h => h
                  case hy3a =>
                    exact Or.inr ⟨rfl, rfl⟩
                  case hS3a => assumption
                  try simp only [Act.put, List.setIfInBounds_toArray, List.set_cons_zero, List.set_cons_succ]
                  refine wpAnyH_take (i := 4) (oi := ?oi4a) (v := undef) ?hi4a ?hs4a ?hf4a ?hr4a ?hQ4a ?hy4a ?hS4a ?h4a
                  case hi4a => exact (by simp only [List.getElem?_toArray, List.getElem?_cons_succ, List.getElem?_cons_zero]; rfl)
                  case hs4a => kernel_rfl
                  case hf4a => kernel_rfl
                  case hr4a => kernel_rfl
                  case hQ4a => exact fun _ _ _ h => h
                  case hy4a =>
                    exact Or.inr ⟨rfl, rfl⟩
                  case hS4a => assumption
                  try simp only [Act.put, List.setIfInBounds_toArray, List.set_cons_zero, List.set_cons_succ]
                  refine wpAnyH_take (i := 5) (oi := ?oi5a) (v := undef) ?hi5a ?hs5a ?hf5a ?hr5a ?hQ5a ?hy5a ?hS5a ?h5a
                  case hi5a => exact (by simp only [List.getElem?_toArray, List.getElem?_cons_succ, List.getElem?_cons_zero]; rfl)
                  case hs5a => kernel_rfl
                  case hf5a => kernel_rfl
                  case hr5a => kernel_rfl
                  case hQ5a => exact fun _ _ _ h => h
                  case hy5a =>
                    exact Or.inr ⟨rfl, rfl⟩
                  case hS5a => assumption
                  try simp only [Act.put, List.setIfInBounds_toArray, List.set_cons_zero, List.set_cons_succ]
                  refine wpAnyH_take (i := 6) (oi := ?oi6a) (v := undef) ?hi6a ?hs6a ?hf6a ?hr6a ?hQ6a ?hy6a ?hS6a ?h6a
                  case hi6a => exact (by simp only [List.getElem?_toArray, List.getElem?_cons_succ, List.getElem?_cons_zero]; rfl)
                  case hs6a => kernel_rfl
                  case hf6a => kernel_rfl
                  case hr6a => kernel_rfl
                  case hQ6a => exact fun _ _ _ h => h
                  case hy6a =>
                    exact Or.inr ⟨rfl, rfl⟩
                  case hS6a => assumption
                  try simp only [Act.put, List.setIfInBounds_toArray, List.set_cons_zero, List.set_cons_succ]
                  refine wpAnyH_take (i := 7) (oi := ?oi7a) (v := undef) ?hi7a ?hs7a ?hf7a ?hr7a ?hQ7a ?hy7a ?hS7a ?h7a
                  case hi7a => exact (by simp only [List.getElem?_toArray, List.getElem?_cons_succ, List.getElem?_cons_zero]; rfl)
                  case hs7a => kernel_rfl
                  case hf7a => kernel_rfl
                  case hr7a => kernel_rfl
                  case hQ7a => exact fun _ _ _ h => h
                  case hy7a =>
                    exact Or.inr ⟨rfl, rfl⟩
                  case hS7a => assumption
                  try simp only [Act.put, List.setIfInBounds_toArray, List.set_cons_zero, List.set_cons_succ]
                  refine wpAnyH_take (i := 8) (oi := ?oi8a) (v := undef) ?hi8a ?hs8a ?hf8a ?hr8a ?hQ8a ?hy8a ?hS8a ?h8a
                  case hi8a => exact (by simp only [List.getElem?_toArray, List.getElem?_cons_succ, List.getElem?_cons_zero]; rfl)
                  case hs8a => kernel_rfl
                  case hf8a => kernel_rfl
                  case hr8a => kernel_rfl
                  case hQ8a => exact fun _ _ _ h => h
                  case hy8a =>
                    exact Or.inr ⟨rfl, rfl⟩
                  case hS8a => assumption
                  try simp only [Act.put, List.setIfInBounds_toArray, List.set_cons_zero, List.set_cons_succ]
                  refine wpAnyH_take (i := 9) (oi := ?oi9a) (v := undef) ?hi9a ?hs9a ?hf9a ?hr9a ?hQ9a ?hy9a ?hS9a ?h9a
                  case hi9a => exact (by simp only [List.getElem?_toArray, List.getElem?_cons_succ, List.getElem?_cons_zero]; rfl)
                  case hs9a => kernel_rfl
                  case hf9a => kernel_rfl
                  case hr9a => kernel_rfl
                  case hQ9a => exact fun _ _ _ h => h
                  case hy9a =>
                    exact Or.inr ⟨rfl, rfl⟩
                  case hS9a => assumption
                  try simp only [Act.put, List.setIfInBounds_toArray, List.set_cons_zero, List.set_cons_succ]
                  refine wpAnyH_take (i := 10) (oi := ?oi10a) (v := undef) ?hi10a ?hs10a ?hf10a ?hr10a ?hQ10a ?hy10a ?hS10a ?h10a
                  case hi10a => exact (by simp only [List.getElem?_toArray, List.getElem?_cons_succ, List.getElem?_cons_zero]; rfl)
                  case hs10a => kernel_rfl
                  case hf10a => kernel_rfl
                  case hr10a => kernel_rfl
                  case hQ10a => exact fun _ _ _ h => h
                  case hy10a =>
                    exact Or.inr ⟨rfl, rfl⟩
                  case hS10a => assumption
                  try simp only [Act.put, List.setIfInBounds_toArray, List.set_cons_zero, List.set_cons_succ]
                  refine wpAnyH_take (i := 11) (oi := ?oi11a) (v := undef) ?hi11a ?hs11a ?hf11a ?hr11a ?hQ11a ?hy11a ?hS11a ?h11a
                  case hi11a => exact (by simp only [List.getElem?_toArray, List.getElem?_cons_succ, List.getElem?_cons_zero]; rfl)
                  case hs11a => kernel_rfl
                  case hf11a => kernel_rfl
                  case hr11a => kernel_rfl
                  case hQ11a => exact fun _ _ _ h => h
                  case hy11a =>
                    exact Or.inr ⟨rfl, rfl⟩
                  case hS11a => assumption
                  try simp only [Act.put, List.setIfInBounds_toArray, List.set_cons_zero, List.set_cons_succ]
                  refine wpAnyH_take (i := 12) (oi := ?oi12a) (v := undef) ?hi12a ?hs12a ?hf12a ?hr12a ?hQ12a ?hy12a ?hS12a ?h12a
                  case hi12a => exact (by simp only [List.getElem?_toArray, List.getElem?_cons_succ, List.getElem?_cons_zero]; rfl)
                  case hs12a => kernel_rfl
                  case hf12a => kernel_rfl
                  case hr12a => kernel_rfl
                  case hQ12a => exact fun _ _ _ h => h
                  case hy12a =>
                    exact Or.inr ⟨rfl, rfl⟩
                  case hS12a => assumption
                  try simp only [Act.put, List.setIfInBounds_toArray, List.set_cons_zero, List.set_cons_succ]
                  refine wpAnyH_take (i := 13) (oi := ?oi13a) (v := undef) ?hi13a ?hs13a ?hf13a ?hr13a ?hQ13a ?hy13a ?hS13a ?h13a
                  case hi13a => exact (by simp only [List.getElem?_toArray, List.getElem?_cons_succ, List.getElem?_cons_zero]; rfl)
                  case hs13a => kernel_rfl
                  case hf13a => kernel_rfl
                  case hr13a => kernel_rfl
                  case hQ13a => exact fun _ _ _ h => h
                  case hy13a =>
                    exact Or.inr ⟨rfl, rfl⟩
                  case hS13a => assumption
                  try simp only [Act.put, List.setIfInBounds_toArray, List.set_cons_zero, List.set_cons_succ]
                  refine wpAnyH_take (i := 14) (oi := ?oi14a) (v := undef) ?hi14a ?hs14a ?hf14a ?hr14a ?hQ14a ?hy14a ?hS14a ?h14a
                  case hi14a => exact (by simp only [List.getElem?_toArray, List.getElem?_cons_succ, List.getElem?_cons_zero]; rfl)
                  case hs14a => kernel_rfl
                  case hf14a => kernel_rfl
                  case hr14a => kernel_rfl
                  case hQ14a => exact fun _ _ _ h => h
                  case hy14a =>
                    exact Or.inr ⟨rfl, rfl⟩
                  case hS14a => assumption
                  try simp only [Act.put, List.setIfInBounds_toArray, List.set_cons_zero, List.set_cons_succ]
                  refine wpAnyH_take (i := 15) (oi := ?oi15a) (v := undef) ?hi15a ?hs15a ?hf15a ?hr15a ?hQ15a ?hy15a ?hS15a ?h15a
                  case hi15a => exact (by simp only [List.getElem?_toArray, List.getElem?_cons_succ, List.getElem?_cons_zero]; rfl)
                  case hs15a => kernel_rfl
                  case hf15a => kernel_rfl
                  case hr15a => kernel_rfl
                  case hQ15a => exact fun _ _ _ h => h
                  case hy15a =>
                    exact Or.inr ⟨rfl, rfl⟩
                  case hS15a => assumption
                  try simp only [Act.put, List.setIfInBounds_toArray, List.set_cons_zero, List.set_cons_succ]
                  refine wpAnyH_take (i := 16) (oi := ?oi16a) (v := undef) ?hi16a ?hs16a ?hf16a ?hr16a ?hQ16a ?hy16a ?hS16a ?h16a
                  case hi16a => exact (by simp only [List.getElem?_toArray, List.getElem?_cons_succ, List.getElem?_cons_zero]; rfl)
                  case hs16a => kernel_rfl
                  case hf16a => kernel_rfl
                  case hr16a => kernel_rfl
                  case hQ16a => exact fun _ _ _ h => h
                  case hy16a =>
                    exact Or.inr ⟨rfl, rfl⟩
                  case hS16a => assumption
                  try simp only [Act.put, List.setIfInBounds_toArray, List.set_cons_zero, List.set_cons_succ]
                  refine wpAnyH_take (i := 17) (oi := ?oi17a) (v := undef) ?hi17a ?hs17a ?hf17a ?hr17a ?hQ17a ?hy17a ?hS17a ?h17a
                  case hi17a => exact (by simp only [List.getElem?_toArray, List.getElem?_cons_succ, List.getElem?_cons_zero]; rfl)
                  case hs17a => kernel_rfl
                  case hf17a => kernel_rfl
                  case hr17a => kernel_rfl
                  case hQ17a => exact fun _ _ _ h => h
                  case hy17a =>
                    exact Or.inr ⟨rfl, rfl⟩
                  case hS17a => assumption
                  try simp only [Act.put, List.setIfInBounds_toArray, List.set_cons_zero, List.set_cons_succ]
                  refine wpAnyH_take (i := 18) (oi := ?oi18a) (v := undef) ?hi18a ?hs18a ?hf18a ?hr18a ?hQ18a ?hy18a ?hS18a ?h18a
                  case hi18a => exact (by simp only [List.getElem?_toArray, List.getElem?_cons_succ, List.getElem?_cons_zero]; rfl)
                  case hs18a => kernel_rfl
                  case hf18a => kernel_rfl
                  case hr18a => kernel_rfl
                  case hQ18a => exact fun _ _ _ h => h
                  case hy18a =>
                    exact Or.inr ⟨rfl, rfl⟩
                  case hS18a => assumption
                  try simp only [Act.put, List.setIfInBounds_toArray, List.set_cons_zero, List.set_cons_succ]
                  refine wpAnyH_take (i := 19) (oi := ?oi19a) (v := undef) ?hi19a ?hs19a ?hf19a ?hr19a ?hQ19a ?hy19a ?hS19a ?h19a
                  case hi19a => exact (by simp only [List.getElem?_toArray, List.getElem?_cons_succ, List.getElem?_cons_zero]; rfl)
                  case hs19a => kernel_rfl
                  case hf19a => kernel_rfl
                  case hr19a => kernel_rfl
                  case hQ19a => exact fun _ _ _ h => h
                  case hy19a =>
                    exact Or.inr ⟨rfl, rfl⟩
                  case hS19a => assumption
                  try simp only [Act.put, List.setIfInBounds_toArray, List.set_cons_zero, List.set_cons_succ]
                  refine wpAnyH_take (i := 20) (oi := ?oi20a) (v := undef) ?hi20a ?hs20a ?hf20a ?hr20a ?hQ20a ?hy20a ?hS20a ?h20a
                  case hi20a => exact (by simp only [List.getElem?_toArray, List.getElem?_cons_succ, List.getElem?_cons_zero]; rfl)
                  case hs20a => kernel_rfl
                  case hf20a => kernel_rfl
                  case hr20a => kernel_rfl
                  case hQ20a => exact fun _ _ _ h => h
                  case hy20a =>
                    exact Or.inr ⟨rfl, rfl⟩
                  case hS20a => assumption
                  try simp only [Act.put, List.setIfInBounds_toArray, List.set_cons_zero, List.set_cons_succ]
                  refine wpAnyH_take (i := 21) (oi := ?oi21a) (v := undef) ?hi21a ?hs21a ?hf21a ?hr21a ?hQ21a ?hy21a ?hS21a ?h21a
                  case hi21a => exact (by simp only [List.getElem?_toArray, List.getElem?_cons_succ, List.getElem?_cons_zero]; rfl)
                  case hs21a => kernel_rfl
                  case hf21a => kernel_rfl
                  case hr21a => kernel_rfl
                  case hQ21a => exact fun _ _ _ h => h
                  case hy21a =>
                    exact Or.inr ⟨rfl, rfl⟩
                  case hS21a => assumption
                  try simp only [Act.put, List.setIfInBounds_toArray, List.set_cons_zero, List.set_cons_succ]
                  refine wpAnyH_take (i := 22) (oi := ?oi22a) (v := undef) ?hi22a ?hs22a ?hf22a ?hr22a ?hQ22a ?hy22a ?hS22a ?h22a
                  case hi22a => exact (by simp only [List.getElem?_toArray, List.getElem?_cons_succ, List.getElem?_cons_zero]; rfl)
                  case hs22a => kernel_rfl
                  case hf22a => kernel_rfl
                  case hr22a => kernel_rfl
                  case hQ22a => exact fun _ _ _ h => h
                  case hy22a =>
                    exact Or.inr ⟨rfl, rfl⟩
                  case hS22a => assumption
                  try simp only [Act.put, List.setIfInBounds_toArray, List.set_cons_zero, List.set_cons_succ]
                  refine wpAnyH_take (i := 23) (oi := ?oi23a) (v := undef) ?hi23a ?hs23a ?hf23a ?hr23a ?hQ23a ?hy23a ?hS23a ?h23a
                  case hi23a => exact (by simp only [List.getElem?_toArray, List.getElem?_cons_succ, List.getElem?_cons_zero]; rfl)
                  case hs23a => kernel_rfl
                  case hf23a => kernel_rfl
                  case hr23a => kernel_rfl
                  case hQ23a => exact fun _ _ _ h => h
                  case hy23a =>
                    exact Or.inr ⟨rfl, rfl⟩
                  case hS23a => assumption
                  try simp only [Act.put, List.setIfInBounds_toArray, List.set_cons_zero, List.set_cons_succ]
                  refine wpAnyH_take (i := 24) (oi := ?oi24a) (v := undef) ?hi24a ?hs24a ?hf24a ?hr24a ?hQ24a ?hy24a ?hS24a ?h24a
                  case hi24a => exact (by simp only [List.getElem?_toArray, List.getElem?_cons_succ, List.getElem?_cons_zero]; rfl)
                  case hs24a => kernel_rfl
                  case hf24a => kernel_rfl
                  case hr24a => kernel_rfl
                  case hQ24a => exact fun _ _ _ h => h
                  case hy24a =>
                    exact Or.inr ⟨rfl, rfl⟩
                  case hS24a => assumption
                  try simp only [Act.put, List.setIfInBounds_toArray, List.set_cons_zero, List.set_cons_succ]
                  refine wpAnyH_take (i := 25) (oi := ?oi25a) (v := undef) ?hi25a ?hs25a ?hf25a ?hr25a ?hQ25a ?hy25a ?hS25a ?h25a
                  case hi25a => exact (by simp only [List.getElem?_toArray, List.getElem?_cons_succ, List.getElem?_cons_zero]; rfl)
                  case hs25a => kernel_rfl
                  case hf25a => kernel_rfl
                  case hr25a => kernel_rfl
                  case hQ25a => exact fun _ _ _ h => h
                  case hy25a =>
                    exact Or.inr ⟨rfl, rfl⟩
                  case hS25a => assumption
                  try simp only [Act.put, List.setIfInBounds_toArray, List.set_cons_zero, List.set_cons_succ]
                  refine wpAnyH_take (i := 26) (oi := ?oi26a) (v := undef) ?hi26a ?hs26a ?hf26a ?hr26a ?hQ26a ?hy26a ?hS26a ?h26a
                  case hi26a => exact (by simp only [List.getElem?_toArray, List.getElem?_cons_succ, List.getElem?_cons_zero]; rfl)
                  case hs26a => kernel_rfl
                  case hf26a => kernel_rfl
                  case hr26a => kernel_rfl
                  case hQ26a => exact fun _ _ _ h => h
                  case hy26a =>
                    exact Or.inr ⟨rfl, rfl⟩
                  case hS26a => assumption
                  try simp only [Act.put, List.setIfInBounds_toArray, List.set_cons_zero, List.set_cons_succ]
                  refine wpAnyH_take (i := 27) (oi := ?oi27a) (v := undef) ?hi27a ?hs27a ?hf27a ?hr27a ?hQ27a ?hy27a ?hS27a ?h27a
                  case hi27a => exact (by simp only [List.getElem?_toArray, List.getElem?_cons_succ, List.getElem?_cons_zero]; rfl)
                  case hs27a => kernel_rfl
                  case hf27a => kernel_rfl
                  case hr27a => kernel_rfl
                  case hQ27a => exact fun _ _ _ h => h
                  case hy27a =>
                    exact Or.inr ⟨rfl, rfl⟩
                  case hS27a => assumption
                  try simp only [Act.put, List.setIfInBounds_toArray, List.set_cons_zero, List.set_cons_succ]
                  refine wpAnyH_take (i := 28) (oi := ?oi28a) (v := undef) ?hi28a ?hs28a ?hf28a ?hr28a ?hQ28a ?hy28a ?hS28a ?h28a
                  case hi28a => exact (by simp only [List.getElem?_toArray, List.getElem?_cons_succ, List.getElem?_cons_zero]; rfl)
                  case hs28a => kernel_rfl
                  case hf28a => kernel_rfl
                  case hr28a => kernel_rfl
                  case hQ28a => exact fun _ _ _ h => h
                  case hy28a =>
                    exact Or.inr ⟨rfl, rfl⟩
                  case hS28a => assumption
                  try simp only [Act.put, List.setIfInBounds_toArray, List.set_cons_zero, List.set_cons_succ]
                  refine wpAnyH_take (i := 29) (oi := ?oi29a) (v := undef) ?hi29a ?hs29a ?hf29a ?hr29a ?hQ29a ?hy29a ?hS29a ?h29a
                  case hi29a => exact (by simp only [List.getElem?_toArray, List.getElem?_cons_succ, List.getElem?_cons_zero]; rfl)
                  case hs29a => kernel_rfl
                  case hf29a => kernel_rfl
                  case hr29a => kernel_rfl
                  case hQ29a => exact fun _ _ _ h => h
                  case hy29a =>
                    exact Or.inr ⟨rfl, rfl⟩
                  case hS29a => assumption
                  try simp only [Act.put, List.setIfInBounds_toArray, List.set_cons_zero, List.set_cons_succ]
                  refine wpAnyH_take (i := 30) (oi := ?oi30a) (v := undef) ?hi30a ?hs30a ?hf30a ?hr30a ?hQ30a ?hy30a ?hS30a ?h30a
                  case hi30a => exact (by simp only [List.getElem?_toArray, List.getElem?_cons_succ, List.getElem?_cons_zero]; rfl)
                  case hs30a => kernel_rfl
                  case hf30a => kernel_rfl
                  case hr30a => kernel_rfl
                  case hQ30a => exact fun _ _ _ h => h
                  case hy30a =>
                    exact Or.inr ⟨rfl, rfl⟩
                  case hS30a => assumption
                  try simp only [Act.put, List.setIfInBounds_toArray, List.set_cons_zero, List.set_cons_succ]
                  refine wpAnyH_take (i := 31) (oi := ?oi31a) (v := undef) ?hi31a ?hs31a ?hf31a ?hr31a ?hQ31a ?hy31a ?hS31a ?h31a
                  case hi31a => exact (by simp only [List.getElem?_toArray, List.getElem?_cons_succ, List.getElem?_cons_zero]; rfl)
                  case hs31a => kernel_rfl
                  case hf31a => kernel_rfl
                  case hr31a => kernel_rfl
                  case hQ31a => exact fun _ _ _ h => h
                  case hy31a =>
                    exact Or.inr ⟨rfl, rfl⟩
                  case hS31a => assumption
                  try simp only [Act.put, List.setIfInBounds_toArray, List.set_cons_zero, List.set_cons_succ]
                  refine wpAnyH_take (i := 32) (oi := ?oi32a) (v := undef) ?hi32a ?hs32a ?hf32a ?hr32a ?hQ32a ?hy32a ?hS32a ?h32a
                  case hi32a => exact (by simp only [List.getElem?_toArray, List.getElem?_cons_succ, List.getElem?_cons_zero]; rfl)
                  case hs32a => kernel_rfl
                  case hf32a => kernel_rfl
                  case hr32a => kernel_rfl
                  case hQ32a => exact fun _ _ _ h => h
                  case hy32a =>
                    exact Or.inr ⟨rfl, rfl⟩
                  case hS32a => assumption
                  try simp only [Act.put, List.setIfInBounds_toArray, List.set_cons_zero, List.set_cons_succ]
                  refine wpAnyH_take (i := 33) (oi := ?oi33a) (v := undef) ?hi33a ?hs33a ?hf33a ?hr33a ?hQ33a ?hy33a ?hS33a ?h33a
                  case hi33a => exact (by simp only [List.getElem?_toArray, List.getElem?_cons_succ, List.getElem?_cons_zero]; rfl)
                  case hs33a => kernel_rfl
                  case hf33a => kernel_rfl
                  case hr33a => kernel_rfl
                  case hQ33a => exact fun _ _ _ h => h
                  case hy33a =>
                    exact Or.inr ⟨rfl, rfl⟩
                  case hS33a => assumption
                  try simp only [Act.put, List.setIfInBounds_toArray, List.set_cons_zero, List.set_cons_succ]
                  refine wpAnyH_take (i := 34) (oi := ?oi34a) (v := undef) ?hi34a ?hs34a ?hf34a ?hr34a ?hQ34a ?hy34a ?hS34a ?h34a
                  case hi34a => exact (by simp only [List.getElem?_toArray, List.getElem?_cons_succ, List.getElem?_cons_zero]; rfl)
                  case hs34a => kernel_rfl
                  case hf34a => kernel_rfl
                  case hr34a => kernel_rfl
                  case hQ34a => exact fun _ _ _ h => h
                  case hy34a =>
                    exact Or.inr ⟨rfl, rfl⟩
                  case hS34a => assumption
                  try simp only [Act.put, List.setIfInBounds_toArray, List.set_cons_zero, List.set_cons_succ]
                  refine wpAnyH_take (i := 35) (oi := ?oi35a) (v := undef) ?hi35a ?hs35a ?hf35a ?hr35a ?hQ35a ?hy35a ?hS35a ?h35a
                  case hi35a => exact (by simp only [List.getElem?_toArray, List.getElem?_cons_succ, List.getElem?_cons_zero]; rfl)
                  case hs35a => kernel_rfl
                  case hf35a => kernel_rfl
                  case hr35a => kernel_rfl
                  case hQ35a => exact fun _ _ _ h => h
                  case hy35a =>
                    exact Or.inr ⟨rfl, rfl⟩
                  case hS35a => assumption
                  try simp only [Act.put, List.setIfInBounds_toArray, List.set_cons_zero, List.set_cons_succ]
                  refine wpAnyH_take (i := 36) (oi := ?oi36a) (v := undef) ?hi36a ?hs36a ?hf36a ?hr36a ?hQ36a ?hy36a ?hS36a ?h36a
                  case hi36a => exact (by simp only [List.getElem?_toArray, List.getElem?_cons_succ, List.getElem?_cons_zero]; rfl)
                  case hs36a => kernel_rfl
                  case hf36a => kernel_rfl
                  case hr36a => kernel_rfl
                  case hQ36a => exact fun _ _ _ h => h
                  case hy36a =>
                    exact Or.inr ⟨rfl, rfl⟩
                  case hS36a => assumption
                  try simp only [Act.put, List.setIfInBounds_toArray, List.set_cons_zero, List.set_cons_succ]
                  refine wpAnyH_take (i := 37) (oi := ?oi37a) (v := undef) ?hi37a ?hs37a ?hf37a ?hr37a ?hQ37a ?hy37a ?hS37a ?h37a
                  case hi37a => exact (by simp only [List.getElem?_toArray, List.getElem?_cons_succ, List.getElem?_cons_zero]; rfl)
                  case hs37a => kernel_rfl
                  case hf37a => kernel_rfl
                  case hr37a => kernel_rfl
                  case hQ37a => exact fun _ _ _ h => h
                  case hy37a =>
                    exact Or.inr ⟨rfl, rfl⟩
                  case hS37a => assumption
                  try simp only [Act.put, List.setIfInBounds_toArray, List.set_cons_zero, List.set_cons_succ]
                  refine wpAnyH_take (i := 38) (oi := ?oi38a) (v := undef) ?hi38a ?hs38a ?hf38a ?hr38a ?hQ38a ?hy38a ?hS38a ?h38a
                  case hi38a => exact (by simp only [List.getElem?_toArray, List.getElem?_cons_succ, List.getElem?_cons_zero]; rfl)
                  case hs38a => kernel_rfl
                  case hf38a => kernel_rfl
                  case hr38a => kernel_rfl
                  case hQ38a => exact fun _ _ _ h => h
                  case hy38a =>
                    exact Or.inr ⟨rfl, rfl⟩
                  case hS38a => assumption
                  try simp only [Act.put, List.setIfInBounds_toArray, List.set_cons_zero, List.set_cons_succ]
                  refine wpAnyH_take (i := 39) (oi := ?oi39a) (v := undef) ?hi39a ?hs39a ?hf39a ?hr39a ?hQ39a ?hy39a ?hS39a ?h39a
                  case hi39a => exact (by simp only [List.getElem?_toArray, List.getElem?_cons_succ, List.getElem?_cons_zero]; rfl)
                  case hs39a => kernel_rfl
                  case hf39a => kernel_rfl
                  case hr39a => kernel_rfl
                  case hQ39a => exact fun _ _ _ h => h
                  case hy39a =>
                    exact Or.inr ⟨rfl, rfl⟩
                  case hS39a => assumption
                  try simp only [Act.put, List.setIfInBounds_toArray, List.set_cons_zero, List.set_cons_succ]
                  refine wpAnyH_take (i := 40) (oi := ?oi40a) (v := undef) ?hi40a ?hs40a ?hf40a ?hr40a ?hQ40a ?hy40a ?hS40a ?h40a
                  case hi40a => exact (by simp only [List.getElem?_toArray, List.getElem?_cons_succ, List.getElem?_cons_zero]; rfl)
                  case hs40a => kernel_rfl
                  case hf40a => kernel_rfl
                  case hr40a => kernel_rfl
                  case hQ40a => exact fun _ _ _ h => h
                  case hy40a =>
                    exact Or.inr ⟨rfl, rfl⟩
                  case hS40a => assumption
                  try simp only [Act.put, List.setIfInBounds_toArray, List.set_cons_zero, List.set_cons_succ]
                  refine wpAnyH_take (i := 41) (oi := ?oi41a) (v := undef) ?hi41a ?hs41a ?hf41a ?hr41a ?hQ41a ?hy41a ?hS41a ?h41a
                  case hi41a => exact (by simp only [List.getElem?_toArray, List.getElem?_cons_succ, List.getElem?_cons_zero]; rfl)
                  case hs41a => kernel_rfl
                  case hf41a => kernel_rfl
                  case hr41a => kernel_rfl
                  case hQ41a => exact fun _ _ _ h => h
                  case hy41a =>
                    exact Or.inr ⟨rfl, rfl⟩
                  case hS41a => assumption
                  try simp only [Act.put, List.setIfInBounds_toArray, List.set_cons_zero, List.set_cons_succ]
                  refine wpAnyH_take (i := 42) (oi := ?oi42a) (v := undef) ?hi42a ?hs42a ?hf42a ?hr42a ?hQ42a ?hy42a ?hS42a ?h42a
                  case hi42a => exact (by simp only [List.getElem?_toArray, List.getElem?_cons_succ, List.getElem?_cons_zero]; rfl)
                  case hs42a => kernel_rfl
                  case hf42a => kernel_rfl
                  case hr42a => kernel_rfl
                  case hQ42a => exact fun _ _ _ h => h
                  case hy42a =>
                    exact Or.inr ⟨rfl, rfl⟩
                  case hS42a => assumption
                  try simp only [Act.put, List.setIfInBounds_toArray, List.set_cons_zero, List.set_cons_succ]
                  refine wpAnyH_take (i := 43) (oi := ?oi43a) (v := ?v43a) ?hi43a ?hs43a ?hf43a ?hr43a ?hQ43a ?hy43a ?hS43a ?h43a
                  case hi43a => exact (by simp only [List.getElem?_toArray, List.getElem?_cons_succ, List.getElem?_cons_zero]; rfl)
                  case hs43a => kernel_rfl
                  case hf43a => kernel_rfl
                  case hr43a => kernel_rfl
                  case hQ43a => exact fun _ _ _ h => h
                  case hy43a =>
                    refine Or.inl ⟨rfl, ?_⟩
                    intro W hSw
                    obtain ⟨q0, q1, q2⟩ := hSw
                    go_simp
                    try with_reducible rfl
                  case hS43a => assumption
                  try simp only [Act.put, List.setIfInBounds_toArray, List.set_cons_zero, List.set_cons_succ]
                  refine wpAnyH_take (i := 44) (oi := ?oi44a) (v := ?v44a) ?hi44a ?hs44a ?hf44a ?hr44a ?hQ44a ?hy44a ?hS44a ?h44a
                  case hi44a => exact (by simp only [List.getElem?_toArray, List.getElem?_cons_succ, List.getElem?_cons_zero]; rfl)
                  case hs44a => kernel_rfl
                  case hf44a => kernel_rfl
                  case hr44a => kernel_rfl
                  case hQ44a => exact fun _ _ _ h => h
                  case hy44a =>
                    refine Or.inl ⟨rfl, ?_⟩
                    intro W hSw
                    obtain ⟨q0, q1, q2⟩ := hSw
                    go_simp
                    try with_reducible rfl
                  case hS44a => assumption
                  try simp only [Act.put, List.setIfInBounds_toArray, List.set_cons_zero, List.set_cons_succ]
                  refine wpAnyH_take (i := 45) (oi := ?oi45a) (v := ?v45a) ?hi45a ?hs45a ?hf45a ?hr45a ?hQ45a ?hy45a ?hS45a ?h45a
                  case hi45a => exact (by simp only [List.getElem?_toArray, List.getElem?_cons_succ, List.getElem?_cons_zero]; rfl)
                  case hs45a => kernel_rfl
                  case hf45a => kernel_rfl
                  case hr45a => kernel_rfl
                  case hQ45a => exact fun _ _ _ h => h
                  case hy45a =>
                    refine Or.inl ⟨rfl, ?_⟩
                    intro W hSw
                    obtain ⟨q0, q1, q2⟩ := hSw
                    go_simp
                    try with_reducible rfl
                  case hS45a => assumption
                  try simp only [Act.put, List.setIfInBounds_toArray, List.set_cons_zero, List.set_cons_succ]
                  refine wpAnyH_take (i := 46) (oi := ?oi46a) (v := ?v46a) ?hi46a ?hs46a ?hf46a ?hr46a ?hQ46a ?hy46a ?hS46a ?h46a
                  case hi46a => exact (by simp only [List.getElem?_toArray, List.getElem?_cons_succ, List.getElem?_cons_zero]; rfl)
                  case hs46a => kernel_rfl
                  case hf46a => kernel_rfl
                  case hr46a => kernel_rfl
                  case hQ46a => exact fun _ _ _ h => h
                  case hy46a =>
                    refine Or.inl ⟨rfl, ?_⟩
                    intro W hSw
                    obtain ⟨q0, q1, q2⟩ := hSw
                    go_simp
                    try with_reducible rfl
                  case hS46a => assumption
                  try simp only [Act.put, List.setIfInBounds_toArray, List.set_cons_zero, List.set_cons_succ]
                  refine wpAnyH_take (i := 47) (oi := ?oi47a) (v := ?v47a) ?hi47a ?hs47a ?hf47a ?hr47a ?hQ47a ?hy47a ?hS47a ?h47a
                  case hi47a => exact (by simp only [List.getElem?_toArray, List.getElem?_cons_succ, List.getElem?_cons_zero]; rfl)
                  case hs47a => kernel_rfl
                  case hf47a => kernel_rfl
                  case hr47a => kernel_rfl
                  case hQ47a => exact fun _ _ _ h => h
                  case hy47a =>
                    refine Or.inl ⟨rfl, ?_⟩
                    intro W hSw
                    obtain ⟨q0, q1, q2⟩ := hSw
                    go_simp
                    try with_reducible rfl
                  case hS47a => assumption
                  try simp only [Act.put, List.setIfInBounds_toArray, List.set_cons_zero, List.set_cons_succ]
                  refine wpAnyH_take (i := 48) (oi := ?oi48a) (v := ?v48a) ?hi48a ?hs48a ?hf48a ?hr48a ?hQ48a ?hy48a ?hS48a ?h48a
                  case hi48a => exact (by simp only [List.getElem?_toArray, List.getElem?_cons_succ, List.getElem?_cons_zero]; rfl)
                  case hs48a => kernel_rfl
                  case hf48a => kernel_rfl
                  case hr48a => kernel_rfl
                  case hQ48a => exact fun _ _ _ h => h
                  case hy48a =>
                    refine Or.inl ⟨rfl, ?_⟩
                    intro W hSw
                    obtain ⟨q0, q1, q2⟩ := hSw
                    go_simp
                    try with_reducible rfl
                  case hS48a => assumption
                  try simp only [Act.put, List.setIfInBounds_toArray, List.set_cons_zero, List.set_cons_succ]
                  refine wpAnyH_take (i := 49) (oi := ?oi49a) (v := ?v49a) ?hi49a ?hs49a ?hf49a ?hr49a ?hQ49a ?hy49a ?hS49a ?h49a
                  case hi49a => exact (by simp only [List.getElem?_toArray, List.getElem?_cons_succ, List.getElem?_cons_zero]; rfl)
                  case hs49a => kernel_rfl
                  case hf49a => kernel_rfl
                  case hr49a => kernel_rfl
                  case hQ49a => exact fun _ _ _ h => h
                  case hy49a =>
                    refine Or.inl ⟨rfl, ?_⟩
                    intro W hSw
                    obtain ⟨q0, q1, q2⟩ := hSw
                    go_simp
                    try with_reducible rfl
                  case hS49a => assumption
                  try simp only [Act.put, List.setIfInBounds_toArray, List.set_cons_zero, List.set_cons_succ]
                  refine wpAnyH_take (i := 50) (oi := ?oi50a) (v := ?v50a) ?hi50a ?hs50a ?hf50a ?hr50a ?hQ50a ?hy50a ?hS50a ?h50a
                  case hi50a => exact (by simp only [List.getElem?_toArray, List.getElem?_cons_succ, List.getElem?_cons_zero]; rfl)
                  case hs50a => kernel_rfl
                  case hf50a => kernel_rfl
                  case hr50a => kernel_rfl
                  case hQ50a => exact fun _ _ _ h => h
                  case hy50a =>
                    refine Or.inl ⟨rfl, ?_⟩
                    intro W hSw
                    obtain ⟨q0, q1, q2⟩ := hSw
                    go_simp
                    try with_reducible rfl
                  case hS50a => assumption
                  try simp only [Act.put, List.setIfInBounds_toArray, List.set_cons_zero, List.set_cons_succ]
                  refine wpAnyH_take (i := 51) (oi := ?oi51a) (v := .bool false) ?hi51a ?hs51a ?hf51a ?hr51a ?hQ51a ?hy51a ?hS51a ?h51a
                  case hi51a => exact (by simp only [List.getElem?_toArray, List.getElem?_cons_succ, List.getElem?_cons_zero]; rfl)
                  case hs51a => kernel_rfl
                  case hf51a => kernel_rfl
                  case hr51a => kernel_rfl
                  case hQ51a => exact fun _ _ _ h => h
                  case hy51a =>
                    refine Or.inl ⟨rfl, ?_⟩
                    intro W hSw
                    obtain ⟨q0, q1, q2⟩ := hSw
                    go_simp
                    first | exact HMDM.out | (have := HMDM.out; omega) | simp [HMDM.out]
                  case hS51a => assumption
                  try simp only [Act.put, List.setIfInBounds_toArray, List.set_cons_zero, List.set_cons_succ]
                  refine wpAnyH_take (i := 52) (oi := ?oi52a) (v := ?v52a) ?hi52a ?hs52a ?hf52a ?hr52a ?hQ52a ?hy52a ?hS52a ?h52a
                  case hi52a => exact (by simp only [List.getElem?_toArray, List.getElem?_cons_succ, List.getElem?_cons_zero]; rfl)
                  case hs52a => kernel_rfl
                  case hf52a => kernel_rfl
                  case hr52a => kernel_rfl
                  case hQ52a => exact fun _ _ _ h => h
                  case hy52a =>
                    refine Or.inl ⟨rfl, ?_⟩
                    intro W hSw
                    obtain ⟨q0, q1, q2⟩ := hSw
                    go_simp
                    try with_reducible rfl
                  case hS52a => assumption
                  try simp only [Act.put, List.setIfInBounds_toArray, List.set_cons_zero, List.set_cons_succ]
                  refine wpAnyH_done (by kernel_rfl) ?_ _
                  go_wp2_with fail
                  go_meet
                  case rel => exact ⟨rfl, HDa.out⟩
                · obtain ⟨j, hj⟩ : ∃ j, i = j + 1 := ⟨i - 1, by omega⟩
                  have hll : lf.length = LS.length := by rw [HLS.out, List.length_map]
                  obtain ⟨⟨⟨fa, fn, fc⟩, ft⟩, hf⟩ : ∃ e, lf[j]? = some e := ⟨lf[j]'(by rw [hll, ← HN7.out]; omega), List.getElem?_eq_getElem _⟩
                  have hLj : LS[j]? = some ft := by rw [HLS.out, List.getElem?_map, hf]; rfl
                  have HSY : Hid (∀ W, Below wy.heap.size wy W → (fun W : World => W.cell? ⟨g, i * 5, none⟩ = some (.int .u32 (et.id : Int)) ∧ W.cell? ⟨g, i * 5 + 1, none⟩ = some (.int .i64 et.md) ∧ W.cell? ⟨g, i * 5 + 4, none⟩ = some (.int .i64 et.sn) ∧ W.cell? ⟨g, j * 5, none⟩ = some (.int .u32 (ft.id : Int)) ∧ W.cell? ⟨g, j * 5 + 4, none⟩ = some (.int .i64 ft.sn)) W) := fun W hW => by
                    obtain ⟨c0, c1, _, _, c4⟩ := (HRTY.out.after hW).cells HE.out
                    obtain ⟨f0, _, _, _, f4⟩ := (HRTY.out.after hW).cells hf
                    exact ⟨c0, c1, c4, f0, f4⟩
                  have HI0 : Hid (0 < i) := by simp only [Hid]; omega
                  have hjn : j < n7 := by omega
                  have HWJ : Hid (IntKind.i64.wrap ((i : Int) - 1) = (j : Int)) := by simp only [Hid]; rw [IntKind.wrap_i64]; omega
                  have hle : leT ft et := by
                    obtain ⟨l1, e1⟩ := List.getElem?_eq_some_iff.1 hLj
                    obtain ⟨l2, e2⟩ := List.getElem?_eq_some_iff.1 HLI.out
                    have := List.pairwise_iff_getElem.1 HSO.out j i l1 l2 (by omega)
                    rw [e1, e2] at this
                    exact this
                  have hne : ft.id ≠ et.id := fun hh => by
                    have hfL := (List.mem_filter.1 (HPM.out.mem_iff.1 (List.mem_of_getElem? hLj))).1
                    have := HQI.out.inj hfL HEL.out hh
                    subst this
                    have hnd : LS.Nodup := HPM.out.nodup_iff.2 (HQI.out.nodup.filter _)
                    have := nodup_at hnd hLj HLI.out
                    omega
                  have HL1 : Hid (ft.sn ≤ et.sn) := by unfold leT at hle; simp only [Hid]; omega
                  by_cases hsn : et.sn = ft.sn
                  · have HL2 : Hid (et.sn = ft.sn) := hsn
                    have HL3 : Hid (ft.id < et.id) := by unfold leT at hle; simp only [Hid]; omega
                    clear hi0 hcl hj hll hf hLj hle hne hsn
                    have HDc : Hid (Below wy.heap.size wy wy.drew) := HBRY.out.drew
                    refine wp_region_held_drew (S := fun W : World => W.cell? ⟨g, i * 5, none⟩ = some (.int .u32 (et.id : Int)) ∧ W.cell? ⟨g, i * 5 + 1, none⟩ = some (.int .i64 et.md) ∧ W.cell? ⟨g, i * 5 + 4, none⟩ = some (.int .i64 et.sn) ∧ W.cell? ⟨g, j * 5, none⟩ = some (.int .u32 (ft.id : Int)) ∧ W.cell? ⟨g, j * 5 + 4, none⟩ = some (.int .i64 ft.sn)) (by kernel_rfl) (HSY.out _ (HDc.out)) (fun hHeld => ?_)
                    obtain ⟨Wc0, hW0⟩ : ∃ W0, W0 = wy.drew := ⟨_, rfl⟩
                    rw [← hW0] at hHeld HDc ⊢
                    clear hW0
                    refine wpAnyH_take (i := 0) (oi := ?oi0c) (v := ?v0c) ?hi0c ?hs0c ?hf0c ?hr0c ?hQ0c ?hy0c ?hS0c ?h0c
                    case hi0c => exact (by simp only [List.getElem?_toArray, List.getElem?_cons_zero]; rfl)
                    case hs0c => kernel_rfl
                    case hf0c => kernel_rfl
                    case hr0c => kernel_rfl
                    case hQ0c => exact fun _ _ _ h => h
                    case hy0c =>
                      refine Or.inl ⟨rfl, ?_⟩
                      intro W hSw
                      obtain ⟨q0, q1, q2, q3, q4⟩ := hSw
                      go_simp
                      try with_reducible rfl
                    case hS0c => assumption
                    try simp only [Act.put, List.setIfInBounds_toArray, List.set_cons_zero, List.set_cons_succ]
                    refine wpAnyH_take (i := 1) (oi := ?oi1c) (v := .bool true) ?hi1c ?hs1c ?hf1c ?hr1c ?hQ1c ?hy1c ?hS1c ?h1c
                    case hi1c => exact (by simp only [List.getElem?_toArray, List.getElem?_cons_succ, List.getElem?_cons_zero]; rfl)
                    case hs1c => kernel_rfl
                    case hf1c => kernel_rfl
                    case hr1c => kernel_rfl
                    case hQ1c => exact fun _ _ _ h => h
                    case hy1c =>
                      refine Or.inl ⟨rfl, ?_⟩
                      intro W hSw
                      obtain ⟨q0, q1, q2, q3, q4⟩ := hSw
                      go_simp
                      first | exact HI0.out | (have := HI0.out; omega) | simp [HI0.out]
                    case hS1c => assumption
                    try simp only [Act.put, List.setIfInBounds_toArray, List.set_cons_zero, List.set_cons_succ]
                    refine wpAnyH_take (i := 2) (oi := ?oi2c) (v := ?v2c) ?hi2c ?hs2c ?hf2c ?hr2c ?hQ2c ?hy2c ?hS2c ?h2c
                    case hi2c => exact (by simp only [List.getElem?_toArray, List.getElem?_cons_succ, List.getElem?_cons_zero]; rfl)
                    case hs2c => kernel_rfl
                    case hf2c => kernel_rfl
                    case hr2c => kernel_rfl
                    case hQ2c => exact fun _ _ _ h => h
                    case hy2c =>
                      refine Or.inl ⟨rfl, ?_⟩
                      intro W hSw
                      obtain ⟨q0, q1, q2, q3, q4⟩ := hSw
                      go_simp
                      try with_reducible rfl
                    case hS2c => assumption
                    try simp only [Act.put, List.setIfInBounds_toArray, List.set_cons_zero, List.set_cons_succ]
                    refine wpAnyH_take (i := 3) (oi := ?oi3c) (v := ?v3c) ?hi3c ?hs3c ?hf3c ?hr3c ?hQ3c ?hy3c ?hS3c ?h3c
                    case hi3c => exact (by simp only [List.getElem?_toArray, List.getElem?_cons_succ, List.getElem?_cons_zero]; rfl)
                    case hs3c => kernel_rfl
                    case hf3c => kernel_rfl
                    case hr3c => kernel_rfl
                    case hQ3c => exact fun _ _ _ h => h
                    case hy3c =>
                      refine Or.inl ⟨rfl, ?_⟩
                      intro W hSw
                      obtain ⟨q0, q1, q2, q3, q4⟩ := hSw
                      go_simp
                      try with_reducible rfl
                    case hS3c => assumption
                    try simp only [Act.put, List.setIfInBounds_toArray, List.set_cons_zero, List.set_cons_succ]
                    refine wpAnyH_take (i := 4) (oi := ?oi4c) (v := ?v4c) ?hi4c ?hs4c ?hf4c ?hr4c ?hQ4c ?hy4c ?hS4c ?h4c
                    case hi4c => exact (by simp only [List.getElem?_toArray, List.getElem?_cons_succ, List.getElem?_cons_zero]; rfl)
                    case hs4c => kernel_rfl
                    case hf4c => kernel_rfl
                    case hr4c => kernel_rfl
                    case hQ4c => exact fun _ _ _ h => h
                    case hy4c =>
                      refine Or.inl ⟨rfl, ?_⟩
                      intro W hSw
                      obtain ⟨q0, q1, q2, q3, q4⟩ := hSw
                      go_simp
                      try with_reducible rfl
                    case hS4c => assumption
                    try simp only [Act.put, List.setIfInBounds_toArray, List.set_cons_zero, List.set_cons_succ]
                    refine wpAnyH_take (i := 5) (oi := ?oi5c) (v := ?v5c) ?hi5c ?hs5c ?hf5c ?hr5c ?hQ5c ?hy5c ?hS5c ?h5c
                    case hi5c => exact (by simp only [List.getElem?_toArray, List.getElem?_cons_succ, List.getElem?_cons_zero]; rfl)
                    case hs5c => kernel_rfl
                    case hf5c => kernel_rfl
                    case hr5c => kernel_rfl
                    case hQ5c => exact fun _ _ _ h => h
                    case hy5c =>
                      refine Or.inl ⟨rfl, ?_⟩
                      intro W hSw
                      obtain ⟨q0, q1, q2, q3, q4⟩ := hSw
                      go_simp
                      try with_reducible rfl
                    case hS5c => assumption
                    try simp only [Act.put, List.setIfInBounds_toArray, List.set_cons_zero, List.set_cons_succ]
                    refine wpAnyH_take (i := 6) (oi := ?oi6c) (v := ?v6c) ?hi6c ?hs6c ?hf6c ?hr6c ?hQ6c ?hy6c ?hS6c ?h6c
                    case hi6c => exact (by simp only [List.getElem?_toArray, List.getElem?_cons_succ, List.getElem?_cons_zero]; rfl)
                    case hs6c => kernel_rfl
                    case hf6c => kernel_rfl
                    case hr6c => kernel_rfl
                    case hQ6c => exact fun _ _ _ h => h
                    case hy6c =>
                      refine Or.inl ⟨rfl, ?_⟩
                      intro W hSw
                      obtain ⟨q0, q1, q2, q3, q4⟩ := hSw
                      go_simp
                      try with_reducible rfl
                    case hS6c => assumption
                    try simp only [Act.put, List.setIfInBounds_toArray, List.set_cons_zero, List.set_cons_succ]
                    refine wpAnyH_take (i := 7) (oi := ?oi7c) (v := ?v7c) ?hi7c ?hs7c ?hf7c ?hr7c ?hQ7c ?hy7c ?hS7c ?h7c
                    case hi7c => exact (by simp only [List.getElem?_toArray, List.getElem?_cons_succ, List.getElem?_cons_zero]; rfl)
                    case hs7c => kernel_rfl
                    case hf7c => kernel_rfl
                    case hr7c => kernel_rfl
                    case hQ7c => exact fun _ _ _ h => h
                    case hy7c =>
                      refine Or.inl ⟨rfl, ?_⟩
                      intro W hSw
                      obtain ⟨q0, q1, q2, q3, q4⟩ := hSw
                      go_simp
                      try with_reducible rfl
                    case hS7c => assumption
                    try simp only [Act.put, List.setIfInBounds_toArray, List.set_cons_zero, List.set_cons_succ]
                    refine wpAnyH_take (i := 8) (oi := ?oi8c) (v := ?v8c) ?hi8c ?hs8c ?hf8c ?hr8c ?hQ8c ?hy8c ?hS8c ?h8c
                    case hi8c => exact (by simp only [List.getElem?_toArray, List.getElem?_cons_succ, List.getElem?_cons_zero]; rfl)
                    case hs8c => kernel_rfl
                    case hf8c => kernel_rfl
                    case hr8c => kernel_rfl
                    case hQ8c => exact fun _ _ _ h => h
                    case hy8c =>
                      refine Or.inl ⟨rfl, ?_⟩
                      intro W hSw
                      obtain ⟨q0, q1, q2, q3, q4⟩ := hSw
                      go_simp
                      try with_reducible rfl
                    case hS8c => assumption
                    try simp only [Act.put, List.setIfInBounds_toArray, List.set_cons_zero, List.set_cons_succ]
                    refine wpAnyH_take (i := 9) (oi := ?oi9c) (v := ?v9c) ?hi9c ?hs9c ?hf9c ?hr9c ?hQ9c ?hy9c ?hS9c ?h9c
                    case hi9c => exact (by simp only [List.getElem?_toArray, List.getElem?_cons_succ, List.getElem?_cons_zero]; rfl)
                    case hs9c => kernel_rfl
                    case hf9c => kernel_rfl
                    case hr9c => kernel_rfl
                    case hQ9c => exact fun _ _ _ h => h
                    case hy9c =>
                      refine Or.inl ⟨rfl, ?_⟩
                      intro W hSw
                      obtain ⟨q0, q1, q2, q3, q4⟩ := hSw
                      go_simp
                      try with_reducible rfl
                    case hS9c => assumption
                    try simp only [Act.put, List.setIfInBounds_toArray, List.set_cons_zero, List.set_cons_succ]
                    refine wpAnyH_take (i := 10) (oi := ?oi10c) (v := (.int .i64 (j : Int))) ?hi10c ?hs10c ?hf10c ?hr10c ?hQ10c ?hy10c ?hS10c ?h10c
                    case hi10c => exact (by simp only [List.getElem?_toArray, List.getElem?_cons_succ, List.getElem?_cons_zero]; rfl)
                    case hs10c => kernel_rfl
                    case hf10c => kernel_rfl
                    case hr10c => kernel_rfl
                    case hQ10c => exact fun _ _ _ h => h
                    case hy10c =>
                      refine Or.inl ⟨rfl, ?_⟩
                      intro W hSw
                      obtain ⟨q0, q1, q2, q3, q4⟩ := hSw
                      go_simp
                      first | rw [HWJ.out] | simp [HWJ.out]
                    case hS10c => assumption
                    try simp only [Act.put, List.setIfInBounds_toArray, List.set_cons_zero, List.set_cons_succ]
                    refine wpAnyH_take (i := 11) (oi := ?oi11c) (v := ?v11c) ?hi11c ?hs11c ?hf11c ?hr11c ?hQ11c ?hy11c ?hS11c ?h11c
                    case hi11c => exact (by simp only [List.getElem?_toArray, List.getElem?_cons_succ, List.getElem?_cons_zero]; rfl)
                    case hs11c => kernel_rfl
                    case hf11c => kernel_rfl
                    case hr11c => kernel_rfl
                    case hQ11c => exact fun _ _ _ h => h
                    case hy11c =>
                      refine Or.inl ⟨rfl, ?_⟩
                      intro W hSw
                      obtain ⟨q0, q1, q2, q3, q4⟩ := hSw
                      go_simp
                      try with_reducible rfl
                    case hS11c => assumption
                    try simp only [Act.put, List.setIfInBounds_toArray, List.set_cons_zero, List.set_cons_succ]
                    refine wpAnyH_take (i := 12) (oi := ?oi12c) (v := ?v12c) ?hi12c ?hs12c ?hf12c ?hr12c ?hQ12c ?hy12c ?hS12c ?h12c
                    case hi12c => exact (by simp only [List.getElem?_toArray, List.getElem?_cons_succ, List.getElem?_cons_zero]; rfl)
                    case hs12c => kernel_rfl
                    case hf12c => kernel_rfl
                    case hr12c => kernel_rfl
                    case hQ12c => exact fun _ _ _ h => h
                    case hy12c =>
                      refine Or.inl ⟨rfl, ?_⟩
                      intro W hSw
                      obtain ⟨q0, q1, q2, q3, q4⟩ := hSw
                      go_simp
                      try with_reducible rfl
                    case hS12c => assumption
                    try simp only [Act.put, List.setIfInBounds_toArray, List.set_cons_zero, List.set_cons_succ]
                    refine wpAnyH_take (i := 13) (oi := ?oi13c) (v := ?v13c) ?hi13c ?hs13c ?hf13c ?hr13c ?hQ13c ?hy13c ?hS13c ?h13c
                    case hi13c => exact (by simp only [List.getElem?_toArray, List.getElem?_cons_succ, List.getElem?_cons_zero]; rfl)
                    case hs13c => kernel_rfl
                    case hf13c => kernel_rfl
                    case hr13c => kernel_rfl
                    case hQ13c => exact fun _ _ _ h => h
                    case hy13c =>
                      refine Or.inl ⟨rfl, ?_⟩
                      intro W hSw
                      obtain ⟨q0, q1, q2, q3, q4⟩ := hSw
                      go_simp
                      try with_reducible rfl
                    case hS13c => assumption
                    try simp only [Act.put, List.setIfInBounds_toArray, List.set_cons_zero, List.set_cons_succ]
                    refine wpAnyH_take (i := 14) (oi := ?oi14c) (v := .bool false) ?hi14c ?hs14c ?hf14c ?hr14c ?hQ14c ?hy14c ?hS14c ?h14c
                    case hi14c => exact (by simp only [List.getElem?_toArray, List.getElem?_cons_succ, List.getElem?_cons_zero]; rfl)
                    case hs14c => kernel_rfl
                    case hf14c => kernel_rfl
                    case hr14c => kernel_rfl
                    case hQ14c => exact fun _ _ _ h => h
                    case hy14c =>
                      refine Or.inl ⟨rfl, ?_⟩
                      intro W hSw
                      obtain ⟨q0, q1, q2, q3, q4⟩ := hSw
                      go_simp
                      first | exact HL1.out | (have := HL1.out; omega) | simp [HL1.out]
                    case hS14c => assumption
                    try simp only [Act.put, List.setIfInBounds_toArray, List.set_cons_zero, List.set_cons_succ]
                    refine wpAnyH_take (i := 15) (oi := ?oi15c) (v := ?v15c) ?hi15c ?hs15c ?hf15c ?hr15c ?hQ15c ?hy15c ?hS15c ?h15c
                    case hi15c => exact (by simp only [List.getElem?_toArray, List.getElem?_cons_succ, List.getElem?_cons_zero]; rfl)
                    case hs15c => kernel_rfl
                    case hf15c => kernel_rfl
                    case hr15c => kernel_rfl
                    case hQ15c => exact fun _ _ _ h => h
                    case hy15c =>
                      refine Or.inl ⟨rfl, ?_⟩
                      intro W hSw
                      obtain ⟨q0, q1, q2, q3, q4⟩ := hSw
                      go_simp
                      try with_reducible rfl
                    case hS15c => assumption
                    try simp only [Act.put, List.setIfInBounds_toArray, List.set_cons_zero, List.set_cons_succ]
                    refine wpAnyH_take (i := 16) (oi := ?oi16c) (v := ?v16c) ?hi16c ?hs16c ?hf16c ?hr16c ?hQ16c ?hy16c ?hS16c ?h16c
                    case hi16c => exact (by simp only [List.getElem?_toArray, List.getElem?_cons_succ, List.getElem?_cons_zero]; rfl)
                    case hs16c => kernel_rfl
                    case hf16c => kernel_rfl
                    case hr16c => kernel_rfl
                    case hQ16c => exact fun _ _ _ h => h
                    case hy16c =>
                      refine Or.inl ⟨rfl, ?_⟩
                      intro W hSw
                      obtain ⟨q0, q1, q2, q3, q4⟩ := hSw
                      go_simp
                      try with_reducible rfl
                    case hS16c => assumption
                    try simp only [Act.put, List.setIfInBounds_toArray, List.set_cons_zero, List.set_cons_succ]
                    refine wpAnyH_take (i := 17) (oi := ?oi17c) (v := ?v17c) ?hi17c ?hs17c ?hf17c ?hr17c ?hQ17c ?hy17c ?hS17c ?h17c
                    case hi17c => exact (by simp only [List.getElem?_toArray, List.getElem?_cons_succ, List.getElem?_cons_zero]; rfl)
                    case hs17c => kernel_rfl
                    case hf17c => kernel_rfl
                    case hr17c => kernel_rfl
                    case hQ17c => exact fun _ _ _ h => h
                    case hy17c =>
                      refine Or.inl ⟨rfl, ?_⟩
                      intro W hSw
                      obtain ⟨q0, q1, q2, q3, q4⟩ := hSw
                      go_simp
                      try with_reducible rfl
                    case hS17c => assumption
                    try simp only [Act.put, List.setIfInBounds_toArray, List.set_cons_zero, List.set_cons_succ]
                    refine wpAnyH_take (i := 18) (oi := ?oi18c) (v := ?v18c) ?hi18c ?hs18c ?hf18c ?hr18c ?hQ18c ?hy18c ?hS18c ?h18c
                    case hi18c => exact (by simp only [List.getElem?_toArray, List.getElem?_cons_succ, List.getElem?_cons_zero]; rfl)
                    case hs18c => kernel_rfl
                    case hf18c => kernel_rfl
                    case hr18c => kernel_rfl
                    case hQ18c => exact fun _ _ _ h => h
                    case hy18c =>
                      refine Or.inl ⟨rfl, ?_⟩
                      intro W hSw
                      obtain ⟨q0, q1, q2, q3, q4⟩ := hSw
                      go_simp
                      try with_reducible rfl
                    case hS18c => assumption
                    try simp only [Act.put, List.setIfInBounds_toArray, List.set_cons_zero, List.set_cons_succ]
                    refine wpAnyH_take (i := 19) (oi := ?oi19c) (v := ?v19c) ?hi19c ?hs19c ?hf19c ?hr19c ?hQ19c ?hy19c ?hS19c ?h19c
                    case hi19c => exact (by simp only [List.getElem?_toArray, List.getElem?_cons_succ, List.getElem?_cons_zero]; rfl)
                    case hs19c => kernel_rfl
                    case hf19c => kernel_rfl
                    case hr19c => kernel_rfl
                    case hQ19c => exact fun _ _ _ h => h
                    case hy19c =>
                      refine Or.inl ⟨rfl, ?_⟩
                      intro W hSw
                      obtain ⟨q0, q1, q2, q3, q4⟩ := hSw
                      go_simp
                      try with_reducible rfl
                    case hS19c => assumption
                    try simp only [Act.put, List.setIfInBounds_toArray, List.set_cons_zero, List.set_cons_succ]
                    refine wpAnyH_take (i := 20) (oi := ?oi20c) (v := ?v20c) ?hi20c ?hs20c ?hf20c ?hr20c ?hQ20c ?hy20c ?hS20c ?h20c
                    case hi20c => exact (by simp only [List.getElem?_toArray, List.getElem?_cons_succ, List.getElem?_cons_zero]; rfl)
                    case hs20c => kernel_rfl
                    case hf20c => kernel_rfl
                    case hr20c => kernel_rfl
                    case hQ20c => exact fun _ _ _ h => h
                    case hy20c =>
                      refine Or.inl ⟨rfl, ?_⟩
                      intro W hSw
                      obtain ⟨q0, q1, q2, q3, q4⟩ := hSw
                      go_simp
                      try with_reducible rfl
                    case hS20c => assumption
                    try simp only [Act.put, List.setIfInBounds_toArray, List.set_cons_zero, List.set_cons_succ]
                    refine wpAnyH_take (i := 21) (oi := ?oi21c) (v := ?v21c) ?hi21c ?hs21c ?hf21c ?hr21c ?hQ21c ?hy21c ?hS21c ?h21c
                    case hi21c => exact (by simp only [List.getElem?_toArray, List.getElem?_cons_succ, List.getElem?_cons_zero]; rfl)
                    case hs21c => kernel_rfl
                    case hf21c => kernel_rfl
                    case hr21c => kernel_rfl
                    case hQ21c => exact fun _ _ _ h => h
                    case hy21c =>
                      refine Or.inl ⟨rfl, ?_⟩
                      intro W hSw
                      obtain ⟨q0, q1, q2, q3, q4⟩ := hSw
                      go_simp
                      try with_reducible rfl
                    case hS21c => assumption
                    try simp only [Act.put, List.setIfInBounds_toArray, List.set_cons_zero, List.set_cons_succ]
                    refine wpAnyH_take (i := 22) (oi := ?oi22c) (v := ?v22c) ?hi22c ?hs22c ?hf22c ?hr22c ?hQ22c ?hy22c ?hS22c ?h22c
                    case hi22c => exact (by simp only [List.getElem?_toArray, List.getElem?_cons_succ, List.getElem?_cons_zero]; rfl)
                    case hs22c => kernel_rfl
                    case hf22c => kernel_rfl
                    case hr22c => kernel_rfl
                    case hQ22c => exact fun _ _ _ h => h
                    case hy22c =>
                      refine Or.inl ⟨rfl, ?_⟩
                      intro W hSw
                      obtain ⟨q0, q1, q2, q3, q4⟩ := hSw
                      go_simp
                      try with_reducible rfl
                    case hS22c => assumption
                    try simp only [Act.put, List.setIfInBounds_toArray, List.set_cons_zero, List.set_cons_succ]
                    refine wpAnyH_take (i := 23) (oi := ?oi23c) (v := (.int .i64 (j : Int))) ?hi23c ?hs23c ?hf23c ?hr23c ?hQ23c ?hy23c ?hS23c ?h23c
                    case hi23c => exact (by simp only [List.getElem?_toArray, List.getElem?_cons_succ, List.getElem?_cons_zero]; rfl)
                    case hs23c => kernel_rfl
                    case hf23c => kernel_rfl
                    case hr23c => kernel_rfl
                    case hQ23c => exact fun _ _ _ h => h
                    case hy23c =>
                      refine Or.inl ⟨rfl, ?_⟩
                      intro W hSw
                      obtain ⟨q0, q1, q2, q3, q4⟩ := hSw
                      go_simp
                      first | rw [HWJ.out] | simp [HWJ.out]
                    case hS23c => assumption
                    try simp only [Act.put, List.setIfInBounds_toArray, List.set_cons_zero, List.set_cons_succ]
                    refine wpAnyH_take (i := 24) (oi := ?oi24c) (v := ?v24c) ?hi24c ?hs24c ?hf24c ?hr24c ?hQ24c ?hy24c ?hS24c ?h24c
                    case hi24c => exact (by simp only [List.getElem?_toArray, List.getElem?_cons_succ, List.getElem?_cons_zero]; rfl)
                    case hs24c => kernel_rfl
                    case hf24c => kernel_rfl
                    case hr24c => kernel_rfl
                    case hQ24c => exact fun _ _ _ h => h
                    case hy24c =>
                      refine Or.inl ⟨rfl, ?_⟩
                      intro W hSw
                      obtain ⟨q0, q1, q2, q3, q4⟩ := hSw
                      go_simp
                      try with_reducible rfl
                    case hS24c => assumption
                    try simp only [Act.put, List.setIfInBounds_toArray, List.set_cons_zero, List.set_cons_succ]
                    refine wpAnyH_take (i := 25) (oi := ?oi25c) (v := ?v25c) ?hi25c ?hs25c ?hf25c ?hr25c ?hQ25c ?hy25c ?hS25c ?h25c
                    case hi25c => exact (by simp only [List.getElem?_toArray, List.getElem?_cons_succ, List.getElem?_cons_zero]; rfl)
                    case hs25c => kernel_rfl
                    case hf25c => kernel_rfl
                    case hr25c => kernel_rfl
                    case hQ25c => exact fun _ _ _ h => h
                    case hy25c =>
                      refine Or.inl ⟨rfl, ?_⟩
                      intro W hSw
                      obtain ⟨q0, q1, q2, q3, q4⟩ := hSw
                      go_simp
                      try with_reducible rfl
                    case hS25c => assumption
                    try simp only [Act.put, List.setIfInBounds_toArray, List.set_cons_zero, List.set_cons_succ]
                    refine wpAnyH_take (i := 26) (oi := ?oi26c) (v := ?v26c) ?hi26c ?hs26c ?hf26c ?hr26c ?hQ26c ?hy26c ?hS26c ?h26c
                    case hi26c => exact (by simp only [List.getElem?_toArray, List.getElem?_cons_succ, List.getElem?_cons_zero]; rfl)
                    case hs26c => kernel_rfl
                    case hf26c => kernel_rfl
                    case hr26c => kernel_rfl
                    case hQ26c => exact fun _ _ _ h => h
                    case hy26c =>
                      refine Or.inl ⟨rfl, ?_⟩
                      intro W hSw
                      obtain ⟨q0, q1, q2, q3, q4⟩ := hSw
                      go_simp
                      try with_reducible rfl
                    case hS26c => assumption
                    try simp only [Act.put, List.setIfInBounds_toArray, List.set_cons_zero, List.set_cons_succ]
                    refine wpAnyH_take (i := 27) (oi := ?oi27c) (v := .bool true) ?hi27c ?hs27c ?hf27c ?hr27c ?hQ27c ?hy27c ?hS27c ?h27c
                    case hi27c => exact (by simp only [List.getElem?_toArray, List.getElem?_cons_succ, List.getElem?_cons_zero]; rfl)
                    case hs27c => kernel_rfl
                    case hf27c => kernel_rfl
                    case hr27c => kernel_rfl
                    case hQ27c => exact fun _ _ _ h => h
                    case hy27c =>
                      refine Or.inl ⟨rfl, ?_⟩
                      intro W hSw
                      obtain ⟨q0, q1, q2, q3, q4⟩ := hSw
                      go_simp
                      first | exact HL2.out | (have := HL2.out; omega) | simp [HL2.out]
                    case hS27c => assumption
                    try simp only [Act.put, List.setIfInBounds_toArray, List.set_cons_zero, List.set_cons_succ]
                    refine wpAnyH_take (i := 28) (oi := ?oi28c) (v := ?v28c) ?hi28c ?hs28c ?hf28c ?hr28c ?hQ28c ?hy28c ?hS28c ?h28c
                    case hi28c => exact (by simp only [List.getElem?_toArray, List.getElem?_cons_succ, List.getElem?_cons_zero]; rfl)
                    case hs28c => kernel_rfl
                    case hf28c => kernel_rfl
                    case hr28c => kernel_rfl
                    case hQ28c => exact fun _ _ _ h => h
                    case hy28c =>
                      refine Or.inl ⟨rfl, ?_⟩
                      intro W hSw
                      obtain ⟨q0, q1, q2, q3, q4⟩ := hSw
                      go_simp
                      try with_reducible rfl
                    case hS28c => assumption
                    try simp only [Act.put, List.setIfInBounds_toArray, List.set_cons_zero, List.set_cons_succ]
                    refine wpAnyH_take (i := 29) (oi := ?oi29c) (v := ?v29c) ?hi29c ?hs29c ?hf29c ?hr29c ?hQ29c ?hy29c ?hS29c ?h29c
                    case hi29c => exact (by simp only [List.getElem?_toArray, List.getElem?_cons_succ, List.getElem?_cons_zero]; rfl)
                    case hs29c => kernel_rfl
                    case hf29c => kernel_rfl
                    case hr29c => kernel_rfl
                    case hQ29c => exact fun _ _ _ h => h
                    case hy29c =>
                      refine Or.inl ⟨rfl, ?_⟩
                      intro W hSw
                      obtain ⟨q0, q1, q2, q3, q4⟩ := hSw
                      go_simp
                      try with_reducible rfl
                    case hS29c => assumption
                    try simp only [Act.put, List.setIfInBounds_toArray, List.set_cons_zero, List.set_cons_succ]
                    refine wpAnyH_take (i := 30) (oi := ?oi30c) (v := ?v30c) ?hi30c ?hs30c ?hf30c ?hr30c ?hQ30c ?hy30c ?hS30c ?h30c
                    case hi30c => exact (by simp only [List.getElem?_toArray, List.getElem?_cons_succ, List.getElem?_cons_zero]; rfl)
                    case hs30c => kernel_rfl
                    case hf30c => kernel_rfl
                    case hr30c => kernel_rfl
                    case hQ30c => exact fun _ _ _ h => h
                    case hy30c =>
                      refine Or.inl ⟨rfl, ?_⟩
                      intro W hSw
                      obtain ⟨q0, q1, q2, q3, q4⟩ := hSw
                      go_simp
                      try with_reducible rfl
                    case hS30c => assumption
                    try simp only [Act.put, List.setIfInBounds_toArray, List.set_cons_zero, List.set_cons_succ]
                    refine wpAnyH_take (i := 31) (oi := ?oi31c) (v := ?v31c) ?hi31c ?hs31c ?hf31c ?hr31c ?hQ31c ?hy31c ?hS31c ?h31c
                    case hi31c => exact (by simp only [List.getElem?_toArray, List.getElem?_cons_succ, List.getElem?_cons_zero]; rfl)
                    case hs31c => kernel_rfl
                    case hf31c => kernel_rfl
                    case hr31c => kernel_rfl
                    case hQ31c => exact fun _ _ _ h => h
                    case hy31c =>
                      refine Or.inl ⟨rfl, ?_⟩
                      intro W hSw
                      obtain ⟨q0, q1, q2, q3, q4⟩ := hSw
                      go_simp
                      try with_reducible rfl
                    case hS31c => assumption
                    try simp only [Act.put, List.setIfInBounds_toArray, List.set_cons_zero, List.set_cons_succ]
                    refine wpAnyH_take (i := 32) (oi := ?oi32c) (v := ?v32c) ?hi32c ?hs32c ?hf32c ?hr32c ?hQ32c ?hy32c ?hS32c ?h32c
                    case hi32c => exact (by simp only [List.getElem?_toArray, List.getElem?_cons_succ, List.getElem?_cons_zero]; rfl)
                    case hs32c => kernel_rfl
                    case hf32c => kernel_rfl
                    case hr32c => kernel_rfl
                    case hQ32c => exact fun _ _ _ h => h
                    case hy32c =>
                      refine Or.inl ⟨rfl, ?_⟩
                      intro W hSw
                      obtain ⟨q0, q1, q2, q3, q4⟩ := hSw
                      go_simp
                      try with_reducible rfl
                    case hS32c => assumption
                    try simp only [Act.put, List.setIfInBounds_toArray, List.set_cons_zero, List.set_cons_succ]
                    refine wpAnyH_take (i := 33) (oi := ?oi33c) (v := ?v33c) ?hi33c ?hs33c ?hf33c ?hr33c ?hQ33c ?hy33c ?hS33c ?h33c
                    case hi33c => exact (by simp only [List.getElem?_toArray, List.getElem?_cons_succ, List.getElem?_cons_zero]; rfl)
                    case hs33c => kernel_rfl
                    case hf33c => kernel_rfl
                    case hr33c => kernel_rfl
                    case hQ33c => exact fun _ _ _ h => h
                    case hy33c =>
                      refine Or.inl ⟨rfl, ?_⟩
                      intro W hSw
                      obtain ⟨q0, q1, q2, q3, q4⟩ := hSw
                      go_simp
                      try with_reducible rfl
                    case hS33c => assumption
                    try simp only [Act.put, List.setIfInBounds_toArray, List.set_cons_zero, List.set_cons_succ]
                    refine wpAnyH_take (i := 34) (oi := ?oi34c) (v := ?v34c) ?hi34c ?hs34c ?hf34c ?hr34c ?hQ34c ?hy34c ?hS34c ?h34c
                    case hi34c => exact (by simp only [List.getElem?_toArray, List.getElem?_cons_succ, List.getElem?_cons_zero]; rfl)
                    case hs34c => kernel_rfl
                    case hf34c => kernel_rfl
                    case hr34c => kernel_rfl
                    case hQ34c => exact fun _ _ _ h => h
                    case hy34c =>
                      refine Or.inl ⟨rfl, ?_⟩
                      intro W hSw
                      obtain ⟨q0, q1, q2, q3, q4⟩ := hSw
                      go_simp
                      try with_reducible rfl
                    case hS34c => assumption
                    try simp only [Act.put, List.setIfInBounds_toArray, List.set_cons_zero, List.set_cons_succ]
                    refine wpAnyH_take (i := 35) (oi := ?oi35c) (v := ?v35c) ?hi35c ?hs35c ?hf35c ?hr35c ?hQ35c ?hy35c ?hS35c ?h35c
                    case hi35c => exact (by simp only [List.getElem?_toArray, List.getElem?_cons_succ, List.getElem?_cons_zero]; rfl)
                    case hs35c => kernel_rfl
                    case hf35c => kernel_rfl
                    case hr35c => kernel_rfl
                    case hQ35c => exact fun _ _ _ h => h
                    case hy35c =>
                      refine Or.inl ⟨rfl, ?_⟩
                      intro W hSw
                      obtain ⟨q0, q1, q2, q3, q4⟩ := hSw
                      go_simp
                      try with_reducible rfl
                    case hS35c => assumption
                    try simp only [Act.put, List.setIfInBounds_toArray, List.set_cons_zero, List.set_cons_succ]
                    refine wpAnyH_take (i := 36) (oi := ?oi36c) (v := (.int .i64 (j : Int))) ?hi36c ?hs36c ?hf36c ?hr36c ?hQ36c ?hy36c ?hS36c ?h36c
                    case hi36c => exact (by simp only [List.getElem?_toArray, List.getElem?_cons_succ, List.getElem?_cons_zero]; rfl)
                    case hs36c => kernel_rfl
                    case hf36c => kernel_rfl
                    case hr36c => kernel_rfl
                    case hQ36c => exact fun _ _ _ h => h
                    case hy36c =>
                      refine Or.inl ⟨rfl, ?_⟩
                      intro W hSw
                      obtain ⟨q0, q1, q2, q3, q4⟩ := hSw
                      go_simp
                      first | rw [HWJ.out] | simp [HWJ.out]
                    case hS36c => assumption
                    try simp only [Act.put, List.setIfInBounds_toArray, List.set_cons_zero, List.set_cons_succ]
                    refine wpAnyH_take (i := 37) (oi := ?oi37c) (v := ?v37c) ?hi37c ?hs37c ?hf37c ?hr37c ?hQ37c ?hy37c ?hS37c ?h37c
                    case hi37c => exact (by simp only [List.getElem?_toArray, List.getElem?_cons_succ, List.getElem?_cons_zero]; rfl)
                    case hs37c => kernel_rfl
                    case hf37c => kernel_rfl
                    case hr37c => kernel_rfl
                    case hQ37c => exact fun _ _ _ h => h
                    case hy37c =>
                      refine Or.inl ⟨rfl, ?_⟩
                      intro W hSw
                      obtain ⟨q0, q1, q2, q3, q4⟩ := hSw
                      go_simp
                      try with_reducible rfl
                    case hS37c => assumption
                    try simp only [Act.put, List.setIfInBounds_toArray, List.set_cons_zero, List.set_cons_succ]
                    refine wpAnyH_take (i := 38) (oi := ?oi38c) (v := ?v38c) ?hi38c ?hs38c ?hf38c ?hr38c ?hQ38c ?hy38c ?hS38c ?h38c
                    case hi38c => exact (by simp only [List.getElem?_toArray, List.getElem?_cons_succ, List.getElem?_cons_zero]; rfl)
                    case hs38c => kernel_rfl
                    case hf38c => kernel_rfl
                    case hr38c => kernel_rfl
                    case hQ38c => exact fun _ _ _ h => h
                    case hy38c =>
                      refine Or.inl ⟨rfl, ?_⟩
                      intro W hSw
                      obtain ⟨q0, q1, q2, q3, q4⟩ := hSw
                      go_simp
                      try with_reducible rfl
                    case hS38c => assumption
                    try simp only [Act.put, List.setIfInBounds_toArray, List.set_cons_zero, List.set_cons_succ]
                    refine wpAnyH_take (i := 39) (oi := ?oi39c) (v := ?v39c) ?hi39c ?hs39c ?hf39c ?hr39c ?hQ39c ?hy39c ?hS39c ?h39c
                    case hi39c => exact (by simp only [List.getElem?_toArray, List.getElem?_cons_succ, List.getElem?_cons_zero]; rfl)
                    case hs39c => kernel_rfl
                    case hf39c => kernel_rfl
                    case hr39c => kernel_rfl
                    case hQ39c => exact fun _ _ _ h => h
                    case hy39c =>
                      refine Or.inl ⟨rfl, ?_⟩
                      intro W hSw
                      obtain ⟨q0, q1, q2, q3, q4⟩ := hSw
                      go_simp
                      try with_reducible rfl
                    case hS39c => assumption
                    try simp only [Act.put, List.setIfInBounds_toArray, List.set_cons_zero, List.set_cons_succ]
                    refine wpAnyH_take (i := 40) (oi := ?oi40c) (v := .bool false) ?hi40c ?hs40c ?hf40c ?hr40c ?hQ40c ?hy40c ?hS40c ?h40c
                    case hi40c => exact (by simp only [List.getElem?_toArray, List.getElem?_cons_succ, List.getElem?_cons_zero]; rfl)
                    case hs40c => kernel_rfl
                    case hf40c => kernel_rfl
                    case hr40c => kernel_rfl
                    case hQ40c => exact fun _ _ _ h => h
                    case hy40c =>
                      refine Or.inl ⟨rfl, ?_⟩
                      intro W hSw
                      obtain ⟨q0, q1, q2, q3, q4⟩ := hSw
                      go_simp
                      first | exact HL3.out | (have := HL3.out; omega) | simp [HL3.out]
                    case hS40c => assumption
                    try simp only [Act.put, List.setIfInBounds_toArray, List.set_cons_zero, List.set_cons_succ]
                    refine wpAnyH_take (i := 41) (oi := ?oi41c) (v := ?v41c) ?hi41c ?hs41c ?hf41c ?hr41c ?hQ41c ?hy41c ?hS41c ?h41c
                    case hi41c => exact (by simp only [List.getElem?_toArray, List.getElem?_cons_succ, List.getElem?_cons_zero]; rfl)
                    case hs41c => kernel_rfl
                    case hf41c => kernel_rfl
                    case hr41c => kernel_rfl
                    case hQ41c => exact fun _ _ _ h => h
                    case hy41c =>
                      refine Or.inl ⟨rfl, ?_⟩
                      intro W hSw
                      obtain ⟨q0, q1, q2, q3, q4⟩ := hSw
                      go_simp
                      try with_reducible rfl
                    case hS41c => assumption
                    try simp only [Act.put, List.setIfInBounds_toArray, List.set_cons_zero, List.set_cons_succ]
                    refine wpAnyH_take (i := 42) (oi := ?oi42c) (v := ?v42c) ?hi42c ?hs42c ?hf42c ?hr42c ?hQ42c ?hy42c ?hS42c ?h42c
                    case hi42c => exact (by simp only [List.getElem?_toArray, List.getElem?_cons_succ, List.getElem?_cons_zero]; rfl)
                    case hs42c => kernel_rfl
                    case hf42c => kernel_rfl
                    case hr42c => kernel_rfl
                    case hQ42c => exact fun _ _ _ h => h
                    case hy42c =>
                      refine Or.inl ⟨rfl, ?_⟩
                      intro W hSw
                      obtain ⟨q0, q1, q2, q3, q4⟩ := hSw
                      go_simp
                      try with_reducible rfl
                    case hS42c => assumption
                    try simp only [Act.put, List.setIfInBounds_toArray, List.set_cons_zero, List.set_cons_succ]
                    refine wpAnyH_take (i := 43) (oi := ?oi43c) (v := ?v43c) ?hi43c ?hs43c ?hf43c ?hr43c ?hQ43c ?hy43c ?hS43c ?h43c
                    case hi43c => exact (by simp only [List.getElem?_toArray, List.getElem?_cons_succ, List.getElem?_cons_zero]; rfl)
                    case hs43c => kernel_rfl
                    case hf43c => kernel_rfl
                    case hr43c => kernel_rfl
                    case hQ43c => exact fun _ _ _ h => h
                    case hy43c =>
                      refine Or.inl ⟨rfl, ?_⟩
                      intro W hSw
                      obtain ⟨q0, q1, q2, q3, q4⟩ := hSw
                      go_simp
                      try with_reducible rfl
                    case hS43c => assumption
                    try simp only [Act.put, List.setIfInBounds_toArray, List.set_cons_zero, List.set_cons_succ]
                    refine wpAnyH_take (i := 44) (oi := ?oi44c) (v := ?v44c) ?hi44c ?hs44c ?hf44c ?hr44c ?hQ44c ?hy44c ?hS44c ?h44c
                    case hi44c => exact (by simp only [List.getElem?_toArray, List.getElem?_cons_succ, List.getElem?_cons_zero]; rfl)
                    case hs44c => kernel_rfl
                    case hf44c => kernel_rfl
                    case hr44c => kernel_rfl
                    case hQ44c => exact fun _ _ _ h => h
                    case hy44c =>
                      refine Or.inl ⟨rfl, ?_⟩
                      intro W hSw
                      obtain ⟨q0, q1, q2, q3, q4⟩ := hSw
                      go_simp
                      try with_reducible rfl
                    case hS44c => assumption
                    try simp only [Act.put, List.setIfInBounds_toArray, List.set_cons_zero, List.set_cons_succ]
                    refine wpAnyH_take (i := 45) (oi := ?oi45c) (v := ?v45c) ?hi45c ?hs45c ?hf45c ?hr45c ?hQ45c ?hy45c ?hS45c ?h45c
                    case hi45c => exact (by simp only [List.getElem?_toArray, List.getElem?_cons_succ, List.getElem?_cons_zero]; rfl)
                    case hs45c => kernel_rfl
                    case hf45c => kernel_rfl
                    case hr45c => kernel_rfl
                    case hQ45c => exact fun _ _ _ h => h
                    case hy45c =>
                      refine Or.inl ⟨rfl, ?_⟩
                      intro W hSw
                      obtain ⟨q0, q1, q2, q3, q4⟩ := hSw
                      go_simp
                      try with_reducible rfl
                    case hS45c => assumption
                    try simp only [Act.put, List.setIfInBounds_toArray, List.set_cons_zero, List.set_cons_succ]
                    refine wpAnyH_take (i := 46) (oi := ?oi46c) (v := ?v46c) ?hi46c ?hs46c ?hf46c ?hr46c ?hQ46c ?hy46c ?hS46c ?h46c
                    case hi46c => exact (by simp only [List.getElem?_toArray, List.getElem?_cons_succ, List.getElem?_cons_zero]; rfl)
                    case hs46c => kernel_rfl
                    case hf46c => kernel_rfl
                    case hr46c => kernel_rfl
                    case hQ46c => exact fun _ _ _ h => h
                    case hy46c =>
                      refine Or.inl ⟨rfl, ?_⟩
                      intro W hSw
                      obtain ⟨q0, q1, q2, q3, q4⟩ := hSw
                      go_simp
                      try with_reducible rfl
                    case hS46c => assumption
                    try simp only [Act.put, List.setIfInBounds_toArray, List.set_cons_zero, List.set_cons_succ]
                    refine wpAnyH_take (i := 47) (oi := ?oi47c) (v := ?v47c) ?hi47c ?hs47c ?hf47c ?hr47c ?hQ47c ?hy47c ?hS47c ?h47c
                    case hi47c => exact (by simp only [List.getElem?_toArray, List.getElem?_cons_succ, List.getElem?_cons_zero]; rfl)
                    case hs47c => kernel_rfl
                    case hf47c => kernel_rfl
                    case hr47c => kernel_rfl
                    case hQ47c => exact fun _ _ _ h => h
                    case hy47c =>
                      refine Or.inl ⟨rfl, ?_⟩
                      intro W hSw
                      obtain ⟨q0, q1, q2, q3, q4⟩ := hSw
                      go_simp
                      try with_reducible rfl
                    case hS47c => assumption
                    try simp only [Act.put, List.setIfInBounds_toArray, List.set_cons_zero, List.set_cons_succ]
                    refine wpAnyH_take (i := 48) (oi := ?oi48c) (v := ?v48c) ?hi48c ?hs48c ?hf48c ?hr48c ?hQ48c ?hy48c ?hS48c ?h48c
                    case hi48c => exact (by simp only [List.getElem?_toArray, List.getElem?_cons_succ, List.getElem?_cons_zero]; rfl)
                    case hs48c => kernel_rfl
                    case hf48c => kernel_rfl
                    case hr48c => kernel_rfl
                    case hQ48c => exact fun _ _ _ h => h
                    case hy48c =>
                      refine Or.inl ⟨rfl, ?_⟩
                      intro W hSw
                      obtain ⟨q0, q1, q2, q3, q4⟩ := hSw
                      go_simp
                      try with_reducible rfl
                    case hS48c => assumption
                    try simp only [Act.put, List.setIfInBounds_toArray, List.set_cons_zero, List.set_cons_succ]
                    refine wpAnyH_take (i := 49) (oi := ?oi49c) (v := ?v49c) ?hi49c ?hs49c ?hf49c ?hr49c ?hQ49c ?hy49c ?hS49c ?h49c
                    case hi49c => exact (by simp only [List.getElem?_toArray, List.getElem?_cons_succ, List.getElem?_cons_zero]; rfl)
                    case hs49c => kernel_rfl
                    case hf49c => kernel_rfl
                    case hr49c => kernel_rfl
                    case hQ49c => exact fun _ _ _ h => h
                    case hy49c =>
                      refine Or.inl ⟨rfl, ?_⟩
                      intro W hSw
                      obtain ⟨q0, q1, q2, q3, q4⟩ := hSw
                      go_simp
                      try with_reducible rfl
                    case hS49c => assumption
                    try simp only [Act.put, List.setIfInBounds_toArray, List.set_cons_zero, List.set_cons_succ]
                    refine wpAnyH_take (i := 50) (oi := ?oi50c) (v := ?v50c) ?hi50c ?hs50c ?hf50c ?hr50c ?hQ50c ?hy50c ?hS50c ?h50c
                    case hi50c => exact (by simp only [List.getElem?_toArray, List.getElem?_cons_succ, List.getElem?_cons_zero]; rfl)
                    case hs50c => kernel_rfl
                    case hf50c => kernel_rfl
                    case hr50c => kernel_rfl
                    case hQ50c => exact fun _ _ _ h => h
                    case hy50c =>
                      refine Or.inl ⟨rfl, ?_⟩
                      intro W hSw
                      obtain ⟨q0, q1, q2, q3, q4⟩ := hSw
                      go_simp
                      try with_reducible rfl
                    case hS50c => assumption
                    try simp only [Act.put, List.setIfInBounds_toArray, List.set_cons_zero, List.set_cons_succ]
                    refine wpAnyH_take (i := 51) (oi := ?oi51c) (v := .bool false) ?hi51c ?hs51c ?hf51c ?hr51c ?hQ51c ?hy51c ?hS51c ?h51c
                    case hi51c => exact (by simp only [List.getElem?_toArray, List.getElem?_cons_succ, List.getElem?_cons_zero]; rfl)
                    case hs51c => kernel_rfl
                    case hf51c => kernel_rfl
                    case hr51c => kernel_rfl
                    case hQ51c => exact fun _ _ _ h => h
                    case hy51c =>
                      refine Or.inl ⟨rfl, ?_⟩
                      intro W hSw
                      obtain ⟨q0, q1, q2, q3, q4⟩ := hSw
                      go_simp
                      first | exact HMDM.out | (have := HMDM.out; omega) | simp [HMDM.out]
                    case hS51c => assumption
                    try simp only [Act.put, List.setIfInBounds_toArray, List.set_cons_zero, List.set_cons_succ]
                    refine wpAnyH_take (i := 52) (oi := ?oi52c) (v := ?v52c) ?hi52c ?hs52c ?hf52c ?hr52c ?hQ52c ?hy52c ?hS52c ?h52c
                    case hi52c => exact (by simp only [List.getElem?_toArray, List.getElem?_cons_succ, List.getElem?_cons_zero]; rfl)
                    case hs52c => kernel_rfl
                    case hf52c => kernel_rfl
                    case hr52c => kernel_rfl
                    case hQ52c => exact fun _ _ _ h => h
                    case hy52c =>
                      refine Or.inl ⟨rfl, ?_⟩
                      intro W hSw
                      obtain ⟨q0, q1, q2, q3, q4⟩ := hSw
                      go_simp
                      try with_reducible rfl
                    case hS52c => assumption
                    try simp only [Act.put, List.setIfInBounds_toArray, List.set_cons_zero, List.set_cons_succ]
                    refine wpAnyH_done (by kernel_rfl) ?_ _
                    go_wp2_with fail
                    go_meet
                    case rel => exact ⟨rfl, HDc.out⟩
                  · have HL2 : Hid (¬ et.sn = ft.sn) := hsn
                    clear hi0 hcl hj hll hf hLj hle hne hsn
                    have HDb : Hid (Below wy.heap.size wy wy.drew) := HBRY.out.drew
                    refine wp_region_held_drew (S := fun W : World => W.cell? ⟨g, i * 5, none⟩ = some (.int .u32 (et.id : Int)) ∧ W.cell? ⟨g, i * 5 + 1, none⟩ = some (.int .i64 et.md) ∧ W.cell? ⟨g, i * 5 + 4, none⟩ = some (.int .i64 et.sn) ∧ W.cell? ⟨g, j * 5, none⟩ = some (.int .u32 (ft.id : Int)) ∧ W.cell? ⟨g, j * 5 + 4, none⟩ = some (.int .i64 ft.sn)) (by kernel_rfl) (HSY.out _ (HDb.out)) (fun hHeld => ?_)
                    obtain ⟨Wb0, hW0⟩ : ∃ W0, W0 = wy.drew := ⟨_, rfl⟩
                    rw [← hW0] at hHeld HDb ⊢
                    clear hW0
                    refine wpAnyH_take (i := 0) (oi := ?oi0b) (v := ?v0b) ?hi0b ?hs0b ?hf0b ?hr0b ?hQ0b ?hy0b ?hS0b ?h0b
                    case hi0b => exact (by simp only [List.getElem?_toArray, List.getElem?_cons_zero]; rfl)
                    case hs0b => kernel_rfl
                    case hf0b => kernel_rfl
                    case hr0b => kernel_rfl
                    case hQ0b => exact fun _ _ _ h => h
                    case hy0b =>
                      refine Or.inl ⟨rfl, ?_⟩
                      intro W hSw
                      obtain ⟨q0, q1, q2, q3, q4⟩ := hSw
                      go_simp
                      try with_reducible rfl
                    case hS0b => assumption
                    try simp only [Act.put, List.setIfInBounds_toArray, List.set_cons_zero, List.set_cons_succ]
                    refine wpAnyH_take (i := 1) (oi := ?oi1b) (v := .bool true) ?hi1b ?hs1b ?hf1b ?hr1b ?hQ1b ?hy1b ?hS1b ?h1b
                    case hi1b => exact (by simp only [List.getElem?_toArray, List.getElem?_cons_succ, List.getElem?_cons_zero]; rfl)
                    case hs1b => kernel_rfl
                    case hf1b => kernel_rfl
                    case hr1b => kernel_rfl
                    case hQ1b => exact fun _ _ _ h => h
                    case hy1b =>
                      refine Or.inl ⟨rfl, ?_⟩
                      intro W hSw
                      obtain ⟨q0, q1, q2, q3, q4⟩ := hSw
                      go_simp
                      first | exact HI0.out | (have := HI0.out; omega) | simp [HI0.out]
                    case hS1b => assumption
                    try simp only [Act.put, List.setIfInBounds_toArray, List.set_cons_zero, List.set_cons_succ]
                    refine wpAnyH_take (i := 2) (oi := ?oi2b) (v := ?v2b) ?hi2b ?hs2b ?hf2b ?hr2b ?hQ2b ?hy2b ?hS2b ?h2b
                    case hi2b => exact (by simp only [List.getElem?_toArray, List.getElem?_cons_succ, List.getElem?_cons_zero]; rfl)
                    case hs2b => kernel_rfl
                    case hf2b => kernel_rfl
                    case hr2b => kernel_rfl
                    case hQ2b => exact fun _ _ _ h => h
                    case hy2b =>
                      refine Or.inl ⟨rfl, ?_⟩
                      intro W hSw
                      obtain ⟨q0, q1, q2, q3, q4⟩ := hSw
                      go_simp
                      try with_reducible rfl
                    case hS2b => assumption
                    try simp only [Act.put, List.setIfInBounds_toArray, List.set_cons_zero, List.set_cons_succ]
                    refine wpAnyH_take (i := 3) (oi := ?oi3b) (v := ?v3b) ?hi3b ?hs3b ?hf3b ?hr3b ?hQ3b ?hy3b ?hS3b ?h3b
                    case hi3b => exact (by simp only [List.getElem?_toArray, List.getElem?_cons_succ, List.getElem?_cons_zero]; rfl)
                    case hs3b => kernel_rfl
                    case hf3b => kernel_rfl
                    case hr3b => kernel_rfl
                    case hQ3b => exact fun _ _ _ h => h
                    case hy3b =>
                      refine Or.inl ⟨rfl, ?_⟩
                      intro W hSw
                      obtain ⟨q0, q1, q2, q3, q4⟩ := hSw
                      go_simp
                      try with_reducible rfl
                    case hS3b => assumption
                    try simp only [Act.put, List.setIfInBounds_toArray, List.set_cons_zero, List.set_cons_succ]
                    refine wpAnyH_take (i := 4) (oi := ?oi4b) (v := ?v4b) ?hi4b ?hs4b ?hf4b ?hr4b ?hQ4b ?hy4b ?hS4b ?h4b
                    case hi4b => exact (by simp only [List.getElem?_toArray, List.getElem?_cons_succ, List.getElem?_cons_zero]; rfl)
                    case hs4b => kernel_rfl
                    case hf4b => kernel_rfl
                    case hr4b => kernel_rfl
                    case hQ4b => exact fun _ _ _ h => h
                    case hy4b =>
                      refine Or.inl ⟨rfl, ?_⟩
                      intro W hSw
                      obtain ⟨q0, q1, q2, q3, q4⟩ := hSw
                      go_simp
                      try with_reducible rfl
                    case hS4b => assumption
                    try simp only [Act.put, List.setIfInBounds_toArray, List.set_cons_zero, List.set_cons_succ]
                    refine wpAnyH_take (i := 5) (oi := ?oi5b) (v := ?v5b) ?hi5b ?hs5b ?hf5b ?hr5b ?hQ5b ?hy5b ?hS5b ?h5b
                    case hi5b => exact (by simp only [List.getElem?_toArray, List.getElem?_cons_succ, List.getElem?_cons_zero]; rfl)
                    case hs5b => kernel_rfl
                    case hf5b => kernel_rfl
                    case hr5b => kernel_rfl
                    case hQ5b => exact fun _ _ _ h => h
                    case hy5b =>
                      refine Or.inl ⟨rfl, ?_⟩
                      intro W hSw
                      obtain ⟨q0, q1, q2, q3, q4⟩ := hSw
                      go_simp
                      try with_reducible rfl
                    case hS5b => assumption
                    try simp only [Act.put, List.setIfInBounds_toArray, List.set_cons_zero, List.set_cons_succ]
                    refine wpAnyH_take (i := 6) (oi := ?oi6b) (v := ?v6b) ?hi6b ?hs6b ?hf6b ?hr6b ?hQ6b ?hy6b ?hS6b ?h6b
                    case hi6b => exact (by simp only [List.getElem?_toArray, List.getElem?_cons_succ, List.getElem?_cons_zero]; rfl)
                    case hs6b => kernel_rfl
                    case hf6b => kernel_rfl
                    case hr6b => kernel_rfl
                    case hQ6b => exact fun _ _ _ h => h
                    case hy6b =>
                      refine Or.inl ⟨rfl, ?_⟩
                      intro W hSw
                      obtain ⟨q0, q1, q2, q3, q4⟩ := hSw
                      go_simp
                      try with_reducible rfl
                    case hS6b => assumption
                    try simp only [Act.put, List.setIfInBounds_toArray, List.set_cons_zero, List.set_cons_succ]
                    refine wpAnyH_take (i := 7) (oi := ?oi7b) (v := ?v7b) ?hi7b ?hs7b ?hf7b ?hr7b ?hQ7b ?hy7b ?hS7b ?h7b
                    case hi7b => exact (by simp only [List.getElem?_toArray, List.getElem?_cons_succ, List.getElem?_cons_zero]; rfl)
                    case hs7b => kernel_rfl
                    case hf7b => kernel_rfl
                    case hr7b => kernel_rfl
                    case hQ7b => exact fun _ _ _ h => h
                    case hy7b =>
                      refine Or.inl ⟨rfl, ?_⟩
                      intro W hSw
                      obtain ⟨q0, q1, q2, q3, q4⟩ := hSw
                      go_simp
                      try with_reducible rfl
                    case hS7b => assumption
                    try simp only [Act.put, List.setIfInBounds_toArray, List.set_cons_zero, List.set_cons_succ]
                    refine wpAnyH_take (i := 8) (oi := ?oi8b) (v := ?v8b) ?hi8b ?hs8b ?hf8b ?hr8b ?hQ8b ?hy8b ?hS8b ?h8b
                    case hi8b => exact (by simp only [List.getElem?_toArray, List.getElem?_cons_succ, List.getElem?_cons_zero]; rfl)
                    case hs8b => kernel_rfl
                    case hf8b => kernel_rfl
                    case hr8b => kernel_rfl
                    case hQ8b => exact fun _ _ _ h => h
                    case hy8b =>
                      refine Or.inl ⟨rfl, ?_⟩
                      intro W hSw
                      obtain ⟨q0, q1, q2, q3, q4⟩ := hSw
                      go_simp
                      try with_reducible rfl
                    case hS8b => assumption
                    try simp only [Act.put, List.setIfInBounds_toArray, List.set_cons_zero, List.set_cons_succ]
                    refine wpAnyH_take (i := 9) (oi := ?oi9b) (v := ?v9b) ?hi9b ?hs9b ?hf9b ?hr9b ?hQ9b ?hy9b ?hS9b ?h9b
                    case hi9b => exact (by simp only [List.getElem?_toArray, List.getElem?_cons_succ, List.getElem?_cons_zero]; rfl)
                    case hs9b => kernel_rfl
                    case hf9b => kernel_rfl
                    case hr9b => kernel_rfl
                    case hQ9b => exact fun _ _ _ h => h
                    case hy9b =>
                      refine Or.inl ⟨rfl, ?_⟩
                      intro W hSw
                      obtain ⟨q0, q1, q2, q3, q4⟩ := hSw
                      go_simp
                      try with_reducible rfl
                    case hS9b => assumption
                    try simp only [Act.put, List.setIfInBounds_toArray, List.set_cons_zero, List.set_cons_succ]
                    refine wpAnyH_take (i := 10) (oi := ?oi10b) (v := (.int .i64 (j : Int))) ?hi10b ?hs10b ?hf10b ?hr10b ?hQ10b ?hy10b ?hS10b ?h10b
                    case hi10b => exact (by simp only [List.getElem?_toArray, List.getElem?_cons_succ, List.getElem?_cons_zero]; rfl)
                    case hs10b => kernel_rfl
                    case hf10b => kernel_rfl
                    case hr10b => kernel_rfl
                    case hQ10b => exact fun _ _ _ h => h
                    case hy10b =>
                      refine Or.inl ⟨rfl, ?_⟩
                      intro W hSw
                      obtain ⟨q0, q1, q2, q3, q4⟩ := hSw
                      go_simp
                      first | rw [HWJ.out] | simp [HWJ.out]
                    case hS10b => assumption
                    try simp only [Act.put, List.setIfInBounds_toArray, List.set_cons_zero, List.set_cons_succ]
                    refine wpAnyH_take (i := 11) (oi := ?oi11b) (v := ?v11b) ?hi11b ?hs11b ?hf11b ?hr11b ?hQ11b ?hy11b ?hS11b ?h11b
                    case hi11b => exact (by simp only [List.getElem?_toArray, List.getElem?_cons_succ, List.getElem?_cons_zero]; rfl)
                    case hs11b => kernel_rfl
                    case hf11b => kernel_rfl
                    case hr11b => kernel_rfl
                    case hQ11b => exact fun _ _ _ h => h
                    case hy11b =>
                      refine Or.inl ⟨rfl, ?_⟩
                      intro W hSw
                      obtain ⟨q0, q1, q2, q3, q4⟩ := hSw
                      go_simp
                      try with_reducible rfl
                    case hS11b => assumption
                    try simp only [Act.put, List.setIfInBounds_toArray, List.set_cons_zero, List.set_cons_succ]
                    refine wpAnyH_take (i := 12) (oi := ?oi12b) (v := ?v12b) ?hi12b ?hs12b ?hf12b ?hr12b ?hQ12b ?hy12b ?hS12b ?h12b
                    case hi12b => exact (by simp only [List.getElem?_toArray, List.getElem?_cons_succ, List.getElem?_cons_zero]; rfl)
                    case hs12b => kernel_rfl
                    case hf12b => kernel_rfl
                    case hr12b => kernel_rfl
                    case hQ12b => exact fun _ _ _ h => h
                    case hy12b =>
                      refine Or.inl ⟨rfl, ?_⟩
                      intro W hSw
                      obtain ⟨q0, q1, q2, q3, q4⟩ := hSw
                      go_simp
                      try with_reducible rfl
                    case hS12b => assumption
                    try simp only [Act.put, List.setIfInBounds_toArray, List.set_cons_zero, List.set_cons_succ]
                    refine wpAnyH_take (i := 13) (oi := ?oi13b) (v := ?v13b) ?hi13b ?hs13b ?hf13b ?hr13b ?hQ13b ?hy13b ?hS13b ?h13b
                    case hi13b => exact (by simp only [List.getElem?_toArray, List.getElem?_cons_succ, List.getElem?_cons_zero]; rfl)
                    case hs13b => kernel_rfl
                    case hf13b => kernel_rfl
                    case hr13b => kernel_rfl
                    case hQ13b => exact fun _ _ _ h => h
                    case hy13b =>
                      refine Or.inl ⟨rfl, ?_⟩
                      intro W hSw
                      obtain ⟨q0, q1, q2, q3, q4⟩ := hSw
                      go_simp
                      try with_reducible rfl
                    case hS13b => assumption
                    try simp only [Act.put, List.setIfInBounds_toArray, List.set_cons_zero, List.set_cons_succ]
                    refine wpAnyH_take (i := 14) (oi := ?oi14b) (v := .bool false) ?hi14b ?hs14b ?hf14b ?hr14b ?hQ14b ?hy14b ?hS14b ?h14b
                    case hi14b => exact (by simp only [List.getElem?_toArray, List.getElem?_cons_succ, List.getElem?_cons_zero]; rfl)
                    case hs14b => kernel_rfl
                    case hf14b => kernel_rfl
                    case hr14b => kernel_rfl
                    case hQ14b => exact fun _ _ _ h => h
                    case hy14b =>
                      refine Or.inl ⟨rfl, ?_⟩
                      intro W hSw
                      obtain ⟨q0, q1, q2, q3, q4⟩ := hSw
                      go_simp
                      first | exact HL1.out | (have := HL1.out; omega) | simp [HL1.out]
                    case hS14b => assumption
                    try simp only [Act.put, List.setIfInBounds_toArray, List.set_cons_zero, List.set_cons_succ]
                    refine wpAnyH_take (i := 15) (oi := ?oi15b) (v := ?v15b) ?hi15b ?hs15b ?hf15b ?hr15b ?hQ15b ?hy15b ?hS15b ?h15b
                    case hi15b => exact (by simp only [List.getElem?_toArray, List.getElem?_cons_succ, List.getElem?_cons_zero]; rfl)
                    case hs15b => kernel_rfl
                    case hf15b => kernel_rfl
                    case hr15b => kernel_rfl
                    case hQ15b => exact fun _ _ _ h => h
                    case hy15b =>
                      refine Or.inl ⟨rfl, ?_⟩
                      intro W hSw
                      obtain ⟨q0, q1, q2, q3, q4⟩ := hSw
                      go_simp
                      try with_reducible rfl
                    case hS15b => assumption
                    try simp only [Act.put, List.setIfInBounds_toArray, List.set_cons_zero, List.set_cons_succ]
                    refine wpAnyH_take (i := 16) (oi := ?oi16b) (v := ?v16b) ?hi16b ?hs16b ?hf16b ?hr16b ?hQ16b ?hy16b ?hS16b ?h16b
                    case hi16b => exact (by simp only [List.getElem?_toArray, List.getElem?_cons_succ, List.getElem?_cons_zero]; rfl)
                    case hs16b => kernel_rfl
                    case hf16b => kernel_rfl
                    case hr16b => kernel_rfl
                    case hQ16b => exact fun _ _ _ h => h
                    case hy16b =>
                      refine Or.inl ⟨rfl, ?_⟩
                      intro W hSw
                      obtain ⟨q0, q1, q2, q3, q4⟩ := hSw
                      go_simp
                      try with_reducible rfl
                    case hS16b => assumption
                    try simp only [Act.put, List.setIfInBounds_toArray, List.set_cons_zero, List.set_cons_succ]
                    refine wpAnyH_take (i := 17) (oi := ?oi17b) (v := ?v17b) ?hi17b ?hs17b ?hf17b ?hr17b ?hQ17b ?hy17b ?hS17b ?h17b
                    case hi17b => exact (by simp only [List.getElem?_toArray, List.getElem?_cons_succ, List.getElem?_cons_zero]; rfl)
                    case hs17b => kernel_rfl
                    case hf17b => kernel_rfl
                    case hr17b => kernel_rfl
                    case hQ17b => exact fun _ _ _ h => h
                    case hy17b =>
                      refine Or.inl ⟨rfl, ?_⟩
                      intro W hSw
                      obtain ⟨q0, q1, q2, q3, q4⟩ := hSw
                      go_simp
                      try with_reducible rfl
                    case hS17b => assumption
                    try simp only [Act.put, List.setIfInBounds_toArray, List.set_cons_zero, List.set_cons_succ]
                    refine wpAnyH_take (i := 18) (oi := ?oi18b) (v := ?v18b) ?hi18b ?hs18b ?hf18b ?hr18b ?hQ18b ?hy18b ?hS18b ?h18b
                    case hi18b => exact (by simp only [List.getElem?_toArray, List.getElem?_cons_succ, List.getElem?_cons_zero]; rfl)
                    case hs18b => kernel_rfl
                    case hf18b => kernel_rfl
                    case hr18b => kernel_rfl
                    case hQ18b => exact fun _ _ _ h => h
                    case hy18b =>
                      refine Or.inl ⟨rfl, ?_⟩
                      intro W hSw
                      obtain ⟨q0, q1, q2, q3, q4⟩ := hSw
                      go_simp
                      try with_reducible rfl
                    case hS18b => assumption
                    try simp only [Act.put, List.setIfInBounds_toArray, List.set_cons_zero, List.set_cons_succ]
                    refine wpAnyH_take (i := 19) (oi := ?oi19b) (v := ?v19b) ?hi19b ?hs19b ?hf19b ?hr19b ?hQ19b ?hy19b ?hS19b ?h19b
                    case hi19b => exact (by simp only [List.getElem?_toArray, List.getElem?_cons_succ, List.getElem?_cons_zero]; rfl)
                    case hs19b => kernel_rfl
                    case hf19b => kernel_rfl
                    case hr19b => kernel_rfl
                    case hQ19b => exact fun _ _ _ h => h
                    case hy19b =>
                      refine Or.inl ⟨rfl, ?_⟩
                      intro W hSw
                      obtain ⟨q0, q1, q2, q3, q4⟩ := hSw
                      go_simp
                      try with_reducible rfl
                    case hS19b => assumption
                    try simp only [Act.put, List.setIfInBounds_toArray, List.set_cons_zero, List.set_cons_succ]
                    refine wpAnyH_take (i := 20) (oi := ?oi20b) (v := ?v20b) ?hi20b ?hs20b ?hf20b ?hr20b ?hQ20b ?hy20b ?hS20b ?h20b
                    case hi20b => exact (by simp only [List.getElem?_toArray, List.getElem?_cons_succ, List.getElem?_cons_zero]; rfl)
                    case hs20b => kernel_rfl
                    case hf20b => kernel_rfl
                    case hr20b => kernel_rfl
                    case hQ20b => exact fun _ _ _ h => h
                    case hy20b =>
                      refine Or.inl ⟨rfl, ?_⟩
                      intro W hSw
                      obtain ⟨q0, q1, q2, q3, q4⟩ := hSw
                      go_simp
                      try with_reducible rfl
                    case hS20b => assumption
                    try simp only [Act.put, List.setIfInBounds_toArray, List.set_cons_zero, List.set_cons_succ]
                    refine wpAnyH_take (i := 21) (oi := ?oi21b) (v := ?v21b) ?hi21b ?hs21b ?hf21b ?hr21b ?hQ21b ?hy21b ?hS21b ?h21b
                    case hi21b => exact (by simp only [List.getElem?_toArray, List.getElem?_cons_succ, List.getElem?_cons_zero]; rfl)
                    case hs21b => kernel_rfl
                    case hf21b => kernel_rfl
                    case hr21b => kernel_rfl
                    case hQ21b => exact fun _ _ _ h => h
                    case hy21b =>
                      refine Or.inl ⟨rfl, ?_⟩
                      intro W hSw
                      obtain ⟨q0, q1, q2, q3, q4⟩ := hSw
                      go_simp
                      try with_reducible rfl
                    case hS21b => assumption
                    try simp only [Act.put, List.setIfInBounds_toArray, List.set_cons_zero, List.set_cons_succ]
                    refine wpAnyH_take (i := 22) (oi := ?oi22b) (v := ?v22b) ?hi22b ?hs22b ?hf22b ?hr22b ?hQ22b ?hy22b ?hS22b ?h22b
                    case hi22b => exact (by simp only [List.getElem?_toArray, List.getElem?_cons_succ, List.getElem?_cons_zero]; rfl)
                    case hs22b => kernel_rfl
                    case hf22b => kernel_rfl
                    case hr22b => kernel_rfl
                    case hQ22b => exact fun _ _ _ h => h
                    case hy22b =>
                      refine Or.inl ⟨rfl, ?_⟩
                      intro W hSw
                      obtain ⟨q0, q1, q2, q3, q4⟩ := hSw
                      go_simp
                      try with_reducible rfl
                    case hS22b => assumption
                    try simp only [Act.put, List.setIfInBounds_toArray, List.set_cons_zero, List.set_cons_succ]
                    refine wpAnyH_take (i := 23) (oi := ?oi23b) (v := (.int .i64 (j : Int))) ?hi23b ?hs23b ?hf23b ?hr23b ?hQ23b ?hy23b ?hS23b ?h23b
                    case hi23b => exact (by simp only [List.getElem?_toArray, List.getElem?_cons_succ, List.getElem?_cons_zero]; rfl)
                    case hs23b => kernel_rfl
                    case hf23b => kernel_rfl
                    case hr23b => kernel_rfl
                    case hQ23b => exact fun _ _ _ h => h
                    case hy23b =>
                      refine Or.inl ⟨rfl, ?_⟩
                      intro W hSw
                      obtain ⟨q0, q1, q2, q3, q4⟩ := hSw
                      go_simp
                      first | rw [HWJ.out] | simp [HWJ.out]
                    case hS23b => assumption
                    try simp only [Act.put, List.setIfInBounds_toArray, List.set_cons_zero, List.set_cons_succ]
                    refine wpAnyH_take (i := 24) (oi := ?oi24b) (v := ?v24b) ?hi24b ?hs24b ?hf24b ?hr24b ?hQ24b ?hy24b ?hS24b ?h24b
                    case hi24b => exact (by simp only [List.getElem?_toArray, List.getElem?_cons_succ, List.getElem?_cons_zero]; rfl)
                    case hs24b => kernel_rfl
                    case hf24b => kernel_rfl
                    case hr24b => kernel_rfl
                    case hQ24b => exact fun _ _ _ h => h
                    case hy24b =>
                      refine Or.inl ⟨rfl, ?_⟩
                      intro W hSw
                      obtain ⟨q0, q1, q2, q3, q4⟩ := hSw
                      go_simp
                      try with_reducible rfl
                    case hS24b => assumption
                    try simp only [Act.put, List.setIfInBounds_toArray, List.set_cons_zero, List.set_cons_succ]
                    refine wpAnyH_take (i := 25) (oi := ?oi25b) (v := ?v25b) ?hi25b ?hs25b ?hf25b ?hr25b ?hQ25b ?hy25b ?hS25b ?h25b
                    case hi25b => exact (by simp only [List.getElem?_toArray, List.getElem?_cons_succ, List.getElem?_cons_zero]; rfl)
                    case hs25b => kernel_rfl
                    case hf25b => kernel_rfl
                    case hr25b => kernel_rfl
                    case hQ25b => exact fun _ _ _ h => h
                    case hy25b =>
                      refine Or.inl ⟨rfl, ?_⟩
                      intro W hSw
                      obtain ⟨q0, q1, q2, q3, q4⟩ := hSw
                      go_simp
                      try with_reducible rfl
                    case hS25b => assumption
                    try simp only [Act.put, List.setIfInBounds_toArray, List.set_cons_zero, List.set_cons_succ]
                    refine wpAnyH_take (i := 26) (oi := ?oi26b) (v := ?v26b) ?hi26b ?hs26b ?hf26b ?hr26b ?hQ26b ?hy26b ?hS26b ?h26b
                    case hi26b => exact (by simp only [List.getElem?_toArray, List.getElem?_cons_succ, List.getElem?_cons_zero]; rfl)
                    case hs26b => kernel_rfl
                    case hf26b => kernel_rfl
                    case hr26b => kernel_rfl
                    case hQ26b => exact fun _ _ _ h => h
                    case hy26b =>
                      refine Or.inl ⟨rfl, ?_⟩
                      intro W hSw
                      obtain ⟨q0, q1, q2, q3, q4⟩ := hSw
                      go_simp
                      try with_reducible rfl
                    case hS26b => assumption
                    try simp only [Act.put, List.setIfInBounds_toArray, List.set_cons_zero, List.set_cons_succ]
                    refine wpAnyH_take (i := 27) (oi := ?oi27b) (v := .bool false) ?hi27b ?hs27b ?hf27b ?hr27b ?hQ27b ?hy27b ?hS27b ?h27b
                    case hi27b => exact (by simp only [List.getElem?_toArray, List.getElem?_cons_succ, List.getElem?_cons_zero]; rfl)
                    case hs27b => kernel_rfl
                    case hf27b => kernel_rfl
                    case hr27b => kernel_rfl
                    case hQ27b => exact fun _ _ _ h => h
                    case hy27b =>
                      refine Or.inl ⟨rfl, ?_⟩
                      intro W hSw
                      obtain ⟨q0, q1, q2, q3, q4⟩ := hSw
                      go_simp
                      first | exact HL2.out | (have := HL2.out; omega) | simp [HL2.out]
                    case hS27b => assumption
                    try simp only [Act.put, List.setIfInBounds_toArray, List.set_cons_zero, List.set_cons_succ]
                    refine wpAnyH_take (i := 28) (oi := ?oi28b) (v := ?v28b) ?hi28b ?hs28b ?hf28b ?hr28b ?hQ28b ?hy28b ?hS28b ?h28b
                    case hi28b => exact (by simp only [List.getElem?_toArray, List.getElem?_cons_succ, List.getElem?_cons_zero]; rfl)
                    case hs28b => kernel_rfl
                    case hf28b => kernel_rfl
                    case hr28b => kernel_rfl
                    case hQ28b => exact fun _ _ _ h => h
                    case hy28b =>
                      refine Or.inl ⟨rfl, ?_⟩
                      intro W hSw
                      obtain ⟨q0, q1, q2, q3, q4⟩ := hSw
                      go_simp
                      try with_reducible rfl
                    case hS28b => assumption
                    try simp only [Act.put, List.setIfInBounds_toArray, List.set_cons_zero, List.set_cons_succ]
                    refine wpAnyH_take (i := 29) (oi := ?oi29b) (v := undef) ?hi29b ?hs29b ?hf29b ?hr29b ?hQ29b ?hy29b ?hS29b ?h29b
                    case hi29b => exact (by simp only [List.getElem?_toArray, List.getElem?_cons_succ, List.getElem?_cons_zero]; rfl)
                    case hs29b => kernel_rfl
                    case hf29b => kernel_rfl
                    case hr29b => kernel_rfl
                    case hQ29b => exact fun _ _ _ h => h
                    case hy29b =>
                      exact Or.inr ⟨rfl, rfl⟩
                    case hS29b => assumption
                    try simp only [Act.put, List.setIfInBounds_toArray, List.set_cons_zero, List.set_cons_succ]
                    refine wpAnyH_take (i := 30) (oi := ?oi30b) (v := undef) ?hi30b ?hs30b ?hf30b ?hr30b ?hQ30b ?hy30b ?hS30b ?h30b
                    case hi30b => exact (by simp only [List.getElem?_toArray, List.getElem?_cons_succ, List.getElem?_cons_zero]; rfl)
                    case hs30b => kernel_rfl
                    case hf30b => kernel_rfl
                    case hr30b => kernel_rfl
                    case hQ30b => exact fun _ _ _ h => h
                    case hy30b =>
                      exact Or.inr ⟨rfl, rfl⟩
                    case hS30b => assumption
                    try simp only [Act.put, List.setIfInBounds_toArray, List.set_cons_zero, List.set_cons_succ]
                    refine wpAnyH_take (i := 31) (oi := ?oi31b) (v := undef) ?hi31b ?hs31b ?hf31b ?hr31b ?hQ31b ?hy31b ?hS31b ?h31b
                    case hi31b => exact (by simp only [List.getElem?_toArray, List.getElem?_cons_succ, List.getElem?_cons_zero]; rfl)
                    case hs31b => kernel_rfl
                    case hf31b => kernel_rfl
                    case hr31b => kernel_rfl
                    case hQ31b => exact fun _ _ _ h => h
                    case hy31b =>
                      exact Or.inr ⟨rfl, rfl⟩
                    case hS31b => assumption
                    try simp only [Act.put, List.setIfInBounds_toArray, List.set_cons_zero, List.set_cons_succ]
                    refine wpAnyH_take (i := 32) (oi := ?oi32b) (v := undef) ?hi32b ?hs32b ?hf32b ?hr32b ?hQ32b ?hy32b ?hS32b ?h32b
                    case hi32b => exact (by simp only [List.getElem?_toArray, List.getElem?_cons_succ, List.getElem?_cons_zero]; rfl)
                    case hs32b => kernel_rfl
                    case hf32b => kernel_rfl
                    case hr32b => kernel_rfl
                    case hQ32b => exact fun _ _ _ h => h
                    case hy32b =>
                      exact Or.inr ⟨rfl, rfl⟩
                    case hS32b => assumption
                    try simp only [Act.put, List.setIfInBounds_toArray, List.set_cons_zero, List.set_cons_succ]
                    refine wpAnyH_take (i := 33) (oi := ?oi33b) (v := undef) ?hi33b ?hs33b ?hf33b ?hr33b ?hQ33b ?hy33b ?hS33b ?h33b
                    case hi33b => exact (by simp only [List.getElem?_toArray, List.getElem?_cons_succ, List.getElem?_cons_zero]; rfl)
                    case hs33b => kernel_rfl
                    case hf33b => kernel_rfl
                    case hr33b => kernel_rfl
                    case hQ33b => exact fun _ _ _ h => h
                    case hy33b =>
                      exact Or.inr ⟨rfl, rfl⟩
                    case hS33b => assumption
                    try simp only [Act.put, List.setIfInBounds_toArray, List.set_cons_zero, List.set_cons_succ]
                    refine wpAnyH_take (i := 34) (oi := ?oi34b) (v := undef) ?hi34b ?hs34b ?hf34b ?hr34b ?hQ34b ?hy34b ?hS34b ?h34b
                    case hi34b => exact (by simp only [List.getElem?_toArray, List.getElem?_cons_succ, List.getElem?_cons_zero]; rfl)
                    case hs34b => kernel_rfl
                    case hf34b => kernel_rfl
                    case hr34b => kernel_rfl
                    case hQ34b => exact fun _ _ _ h => h
                    case hy34b =>
                      exact Or.inr ⟨rfl, rfl⟩
                    case hS34b => assumption
                    try simp only [Act.put, List.setIfInBounds_toArray, List.set_cons_zero, List.set_cons_succ]
                    refine wpAnyH_take (i := 35) (oi := ?oi35b) (v := undef) ?hi35b ?hs35b ?hf35b ?hr35b ?hQ35b ?hy35b ?hS35b ?h35b
                    case hi35b => exact (by simp only [List.getElem?_toArray, List.getElem?_cons_succ, List.getElem?_cons_zero]; rfl)
                    case hs35b => kernel_rfl
                    case hf35b => kernel_rfl
                    case hr35b => kernel_rfl
                    case hQ35b => exact fun _ _ _ h => h
                    case hy35b =>
                      exact Or.inr ⟨rfl, rfl⟩
                    case hS35b => assumption
                    try simp only [Act.put, List.setIfInBounds_toArray, List.set_cons_zero, List.set_cons_succ]
                    refine wpAnyH_take (i := 36) (oi := ?oi36b) (v := undef) ?hi36b ?hs36b ?hf36b ?hr36b ?hQ36b ?hy36b ?hS36b ?h36b
                    case hi36b => exact (by simp only [List.getElem?_toArray, List.getElem?_cons_succ, List.getElem?_cons_zero]; rfl)
                    case hs36b => kernel_rfl
                    case hf36b => kernel_rfl
                    case hr36b => kernel_rfl
                    case hQ36b => exact fun _ _ _ h => h
                    case hy36b =>
                      exact Or.inr ⟨rfl, rfl⟩
                    case hS36b => assumption
                    try simp only [Act.put, List.setIfInBounds_toArray, List.set_cons_zero, List.set_cons_succ]
                    refine wpAnyH_take (i := 37) (oi := ?oi37b) (v := undef) ?hi37b ?hs37b ?hf37b ?hr37b ?hQ37b ?hy37b ?hS37b ?h37b
                    case hi37b => exact (by simp only [List.getElem?_toArray, List.getElem?_cons_succ, List.getElem?_cons_zero]; rfl)
                    case hs37b => kernel_rfl
                    case hf37b => kernel_rfl
                    case hr37b => kernel_rfl
                    case hQ37b => exact fun _ _ _ h => h
                    case hy37b =>
                      exact Or.inr ⟨rfl, rfl⟩
                    case hS37b => assumption
                    try simp only [Act.put, List.setIfInBounds_toArray, List.set_cons_zero, List.set_cons_succ]
                    refine wpAnyH_take (i := 38) (oi := ?oi38b) (v := undef) ?hi38b ?hs38b ?hf38b ?hr38b ?hQ38b ?hy38b ?hS38b ?h38b
                    case hi38b => exact (by simp only [List.getElem?_toArray, List.getElem?_cons_succ, List.getElem?_cons_zero]; rfl)
                    case hs38b => kernel_rfl
                    case hf38b => kernel_rfl
                    case hr38b => kernel_rfl
                    case hQ38b => exact fun _ _ _ h => h
                    case hy38b =>
                      exact Or.inr ⟨rfl, rfl⟩
                    case hS38b => assumption
                    try simp only [Act.put, List.setIfInBounds_toArray, List.set_cons_zero, List.set_cons_succ]
                    refine wpAnyH_take (i := 39) (oi := ?oi39b) (v := undef) ?hi39b ?hs39b ?hf39b ?hr39b ?hQ39b ?hy39b ?hS39b ?h39b
                    case hi39b => exact (by simp only [List.getElem?_toArray, List.getElem?_cons_succ, List.getElem?_cons_zero]; rfl)
                    case hs39b => kernel_rfl
                    case hf39b => kernel_rfl
                    case hr39b => kernel_rfl
                    case hQ39b => exact fun _ _ _ h => h
                    case hy39b =>
                      exact Or.inr ⟨rfl, rfl⟩
                    case hS39b => assumption
                    try simp only [Act.put, List.setIfInBounds_toArray, List.set_cons_zero, List.set_cons_succ]
                    refine wpAnyH_take (i := 40) (oi := ?oi40b) (v := undef) ?hi40b ?hs40b ?hf40b ?hr40b ?hQ40b ?hy40b ?hS40b ?h40b
                    case hi40b => exact (by simp only [List.getElem?_toArray, List.getElem?_cons_succ, List.getElem?_cons_zero]; rfl)
                    case hs40b => kernel_rfl
                    case hf40b => kernel_rfl
                    case hr40b => kernel_rfl
                    case hQ40b => exact fun _ _ _ h => h
                    case hy40b =>
                      exact Or.inr ⟨rfl, rfl⟩
                    case hS40b => assumption
                    try simp only [Act.put, List.setIfInBounds_toArray, List.set_cons_zero, List.set_cons_succ]
                    refine wpAnyH_take (i := 41) (oi := ?oi41b) (v := ?v41b) ?hi41b ?hs41b ?hf41b ?hr41b ?hQ41b ?hy41b ?hS41b ?h41b
                    case hi41b => exact (by simp only [List.getElem?_toArray, List.getElem?_cons_succ, List.getElem?_cons_zero]; rfl)
                    case hs41b => kernel_rfl
                    case hf41b => kernel_rfl
                    case hr41b => kernel_rfl
                    case hQ41b => exact fun _ _ _ h => h
                    case hy41b =>
                      refine Or.inl ⟨rfl, ?_⟩
                      intro W hSw
                      obtain ⟨q0, q1, q2, q3, q4⟩ := hSw
                      go_simp
                      try with_reducible rfl
                    case hS41b => assumption
                    try simp only [Act.put, List.setIfInBounds_toArray, List.set_cons_zero, List.set_cons_succ]
                    refine wpAnyH_take (i := 42) (oi := ?oi42b) (v := ?v42b) ?hi42b ?hs42b ?hf42b ?hr42b ?hQ42b ?hy42b ?hS42b ?h42b
                    case hi42b => exact (by simp only [List.getElem?_toArray, List.getElem?_cons_succ, List.getElem?_cons_zero]; rfl)
                    case hs42b => kernel_rfl
                    case hf42b => kernel_rfl
                    case hr42b => kernel_rfl
                    case hQ42b => exact fun _ _ _ h => h
                    case hy42b =>
                      refine Or.inl ⟨rfl, ?_⟩
                      intro W hSw
                      obtain ⟨q0, q1, q2, q3, q4⟩ := hSw
                      go_simp
                      try with_reducible rfl
                    case hS42b => assumption
                    try simp only [Act.put, List.setIfInBounds_toArray, List.set_cons_zero, List.set_cons_succ]
                    refine wpAnyH_take (i := 43) (oi := ?oi43b) (v := ?v43b) ?hi43b ?hs43b ?hf43b ?hr43b ?hQ43b ?hy43b ?hS43b ?h43b
                    case hi43b => exact (by simp only [List.getElem?_toArray, List.getElem?_cons_succ, List.getElem?_cons_zero]; rfl)
                    case hs43b => kernel_rfl
                    case hf43b => kernel_rfl
                    case hr43b => kernel_rfl
                    case hQ43b => exact fun _ _ _ h => h
                    case hy43b =>
                      refine Or.inl ⟨rfl, ?_⟩
                      intro W hSw
                      obtain ⟨q0, q1, q2, q3, q4⟩ := hSw
                      go_simp
                      try with_reducible rfl
                    case hS43b => assumption
                    try simp only [Act.put, List.setIfInBounds_toArray, List.set_cons_zero, List.set_cons_succ]
                    refine wpAnyH_take (i := 44) (oi := ?oi44b) (v := ?v44b) ?hi44b ?hs44b ?hf44b ?hr44b ?hQ44b ?hy44b ?hS44b ?h44b
                    case hi44b => exact (by simp only [List.getElem?_toArray, List.getElem?_cons_succ, List.getElem?_cons_zero]; rfl)
                    case hs44b => kernel_rfl
                    case hf44b => kernel_rfl
                    case hr44b => kernel_rfl
                    case hQ44b => exact fun _ _ _ h => h
                    case hy44b =>
                      refine Or.inl ⟨rfl, ?_⟩
                      intro W hSw
                      obtain ⟨q0, q1, q2, q3, q4⟩ := hSw
                      go_simp
                      try with_reducible rfl
                    case hS44b => assumption
                    try simp only [Act.put, List.setIfInBounds_toArray, List.set_cons_zero, List.set_cons_succ]
                    refine wpAnyH_take (i := 45) (oi := ?oi45b) (v := ?v45b) ?hi45b ?hs45b ?hf45b ?hr45b ?hQ45b ?hy45b ?hS45b ?h45b
                    case hi45b => exact (by simp only [List.getElem?_toArray, List.getElem?_cons_succ, List.getElem?_cons_zero]; rfl)
                    case hs45b => kernel_rfl
                    case hf45b => kernel_rfl
                    case hr45b => kernel_rfl
                    case hQ45b => exact fun _ _ _ h => h
                    case hy45b =>
                      refine Or.inl ⟨rfl, ?_⟩
                      intro W hSw
                      obtain ⟨q0, q1, q2, q3, q4⟩ := hSw
                      go_simp
                      try with_reducible rfl
                    case hS45b => assumption
                    try simp only [Act.put, List.setIfInBounds_toArray, List.set_cons_zero, List.set_cons_succ]
                    refine wpAnyH_take (i := 46) (oi := ?oi46b) (v := ?v46b) ?hi46b ?hs46b ?hf46b ?hr46b ?hQ46b ?hy46b ?hS46b ?h46b
                    case hi46b => exact (by simp only [List.getElem?_toArray, List.getElem?_cons_succ, List.getElem?_cons_zero]; rfl)
                    case hs46b => kernel_rfl
                    case hf46b => kernel_rfl
                    case hr46b => kernel_rfl
                    case hQ46b => exact fun _ _ _ h => h
                    case hy46b =>
                      refine Or.inl ⟨rfl, ?_⟩
                      intro W hSw
                      obtain ⟨q0, q1, q2, q3, q4⟩ := hSw
                      go_simp
                      try with_reducible rfl
                    case hS46b => assumption
                    try simp only [Act.put, List.setIfInBounds_toArray, List.set_cons_zero, List.set_cons_succ]
                    refine wpAnyH_take (i := 47) (oi := ?oi47b) (v := ?v47b) ?hi47b ?hs47b ?hf47b ?hr47b ?hQ47b ?hy47b ?hS47b ?h47b
                    case hi47b => exact (by simp only [List.getElem?_toArray, List.getElem?_cons_succ, List.getElem?_cons_zero]; rfl)
                    case hs47b => kernel_rfl
                    case hf47b => kernel_rfl
                    case hr47b => kernel_rfl
                    case hQ47b => exact fun _ _ _ h => h
                    case hy47b =>
                      refine Or.inl ⟨rfl, ?_⟩
                      intro W hSw
                      obtain ⟨q0, q1, q2, q3, q4⟩ := hSw
                      go_simp
                      try with_reducible rfl
                    case hS47b => assumption
                    try simp only [Act.put, List.setIfInBounds_toArray, List.set_cons_zero, List.set_cons_succ]
                    refine wpAnyH_take (i := 48) (oi := ?oi48b) (v := ?v48b) ?hi48b ?hs48b ?hf48b ?hr48b ?hQ48b ?hy48b ?hS48b ?h48b
                    case hi48b => exact (by simp only [List.getElem?_toArray, List.getElem?_cons_succ, List.getElem?_cons_zero]; rfl)
                    case hs48b => kernel_rfl
                    case hf48b => kernel_rfl
                    case hr48b => kernel_rfl
                    case hQ48b => exact fun _ _ _ h => h
                    case hy48b =>
                      refine Or.inl ⟨rfl, ?_⟩
                      intro W hSw
                      obtain ⟨q0, q1, q2, q3, q4⟩ := hSw
                      go_simp
                      try with_reducible rfl
                    case hS48b => assumption
                    try simp only [Act.put, List.setIfInBounds_toArray, List.set_cons_zero, List.set_cons_succ]
                    refine wpAnyH_take (i := 49) (oi := ?oi49b) (v := ?v49b) ?hi49b ?hs49b ?hf49b ?hr49b ?hQ49b ?hy49b ?hS49b ?h49b
                    case hi49b => exact (by simp only [List.getElem?_toArray, List.getElem?_cons_succ, List.getElem?_cons_zero]; rfl)
                    case hs49b => kernel_rfl
                    case hf49b => kernel_rfl
                    case hr49b => kernel_rfl
                    case hQ49b => exact fun _ _ _ h => h
                    case hy49b =>
                      refine Or.inl ⟨rfl, ?_⟩
                      intro W hSw
                      obtain ⟨q0, q1, q2, q3, q4⟩ := hSw
                      go_simp
                      try with_reducible rfl
                    case hS49b => assumption
                    try simp only [Act.put, List.setIfInBounds_toArray, List.set_cons_zero, List.set_cons_succ]
                    refine wpAnyH_take (i := 50) (oi := ?oi50b) (v := ?v50b) ?hi50b ?hs50b ?hf50b ?hr50b ?hQ50b ?hy50b ?hS50b ?h50b
                    case hi50b => exact (by simp only [List.getElem?_toArray, List.getElem?_cons_succ, List.getElem?_cons_zero]; rfl)
                    case hs50b => kernel_rfl
                    case hf50b => kernel_rfl
                    case hr50b => kernel_rfl
                    case hQ50b => exact fun _ _ _ h => h
                    case hy50b =>
                      refine Or.inl ⟨rfl, ?_⟩
                      intro W hSw
                      obtain ⟨q0, q1, q2, q3, q4⟩ := hSw
                      go_simp
                      try with_reducible rfl
                    case hS50b => assumption
                    try simp only [Act.put, List.setIfInBounds_toArray, List.set_cons_zero, List.set_cons_succ]
                    refine wpAnyH_take (i := 51) (oi := ?oi51b) (v := .bool false) ?hi51b ?hs51b ?hf51b ?hr51b ?hQ51b ?hy51b ?hS51b ?h51b
                    case hi51b => exact (by simp only [List.getElem?_toArray, List.getElem?_cons_succ, List.getElem?_cons_zero]; rfl)
                    case hs51b => kernel_rfl
                    case hf51b => kernel_rfl
                    case hr51b => kernel_rfl
                    case hQ51b => exact fun _ _ _ h => h
                    case hy51b =>
                      refine Or.inl ⟨rfl, ?_⟩
                      intro W hSw
                      obtain ⟨q0, q1, q2, q3, q4⟩ := hSw
                      go_simp
                      first | exact HMDM.out | (have := HMDM.out; omega) | simp [HMDM.out]
                    case hS51b => assumption
                    try simp only [Act.put, List.setIfInBounds_toArray, List.set_cons_zero, List.set_cons_succ]
                    refine wpAnyH_take (i := 52) (oi := ?oi52b) (v := ?v52b) ?hi52b ?hs52b ?hf52b ?hr52b ?hQ52b ?hy52b ?hS52b ?h52b
                    case hi52b => exact (by simp only [List.getElem?_toArray, List.getElem?_cons_succ, List.getElem?_cons_zero]; rfl)
                    case hs52b => kernel_rfl
                    case hf52b => kernel_rfl
                    case hr52b => kernel_rfl
                    case hQ52b => exact fun _ _ _ h => h
                    case hy52b =>
                      refine Or.inl ⟨rfl, ?_⟩
                      intro W hSw
                      obtain ⟨q0, q1, q2, q3, q4⟩ := hSw
                      go_simp
                      try with_reducible rfl
                    case hS52b => assumption
                    try simp only [Act.put, List.setIfInBounds_toArray, List.set_cons_zero, List.set_cons_succ]
                    refine wpAnyH_done (by kernel_rfl) ?_ _
                    go_wp2_with fail
                    go_meet
                    case rel => exact ⟨rfl, HDb.out⟩
              case rest =>
              obtain ⟨rfl, HZ⟩ := hcut
              rename World => wz
              obtain ⟨ACC, hACC⟩ : ∃ x, x = (TM ++ LS.take i).flatMap (·.mem) := ⟨_, rfl⟩
              have HACC := Lib.hid hACC
              have HST4 : Hid (p3 = (ACC ++ et.mem.take 0).length ∧ Rq wz K5 (ACC ++ et.mem.take 0) ∧ Rt wz g lf ∧ (∀ e ∈ lf, P.Fl wz R vi e.1 e.2.mem) ∧ Below wl.heap.size wl wz) := by
                rw [Hid, List.take_zero, List.append_nil, hACC]
                exact ⟨HV3.out.1, HV3.out.2.1.after HZ.out, HRTY.out.after HZ.out, fun e he => (HV3.out.2.2.2.1 e he).after HZ.out, HV3.out.2.2.2.2.trans (HZ.out.mono HV3.out.2.2.2.2.size)⟩
              have HAL : Hid (ACC.length ≤ 192) := by rw [hACC]; exact HFLN.out i
              clear hACC hcl
              go_wp2_with fail
              go_loopw [6, 11] (fun v6 v11 wv => ∃ (k4 p4 : Nat), k4 ≤ en ∧ p4 ≤ 4000 ∧ v11 = .int .i64 (k4 : Int) ∧ v6 = .int .i64 (p4 : Int) ∧ Hid (p4 = (ACC ++ et.mem.take k4).length ∧ Rq wv K5 (ACC ++ et.mem.take k4) ∧ Rt wv g lf ∧ (∀ e ∈ lf, P.Fl wv R vi e.1 e.2.mem) ∧ Below wl.heap.size wl wv)) (fun _ v11 _ => en - (intOf v11).toNat)
              case atStart => exact ⟨0, p3, by omega, hp3, rfl, rfl, HST4.out⟩
              case round =>
                rename World => wv
                obtain ⟨k4, p4, hk4, hp4, rfl, rfl, HV4⟩ := hrel
                obtain ⟨z0, z1, z2, z3, z4⟩ := HV4.out.2.2.1.cells HE.out
                have HP4 : Hid (p4 ≤ 200) := by
                  have h1 := HV4.out.1
                  rw [List.length_append, List.length_take] at h1
                  have h2 := HAL.out
                  have h3 := HEN.out
                  have := Nat.min_le_left k4 et.mem.length
                  simp only [Hid]
                  omega
                by_cases hkn4 : k4 < en
                · obtain ⟨x, hx⟩ : ∃ x, et.mem[k4]? = some x := ⟨et.mem[k4]'(by have := HEN.out; omega), List.getElem?_eq_getElem _⟩
                  obtain ⟨b, o, hea, hRb, hvb, ⟨curb, hqb⟩, hAt⟩ := (HV4.out.2.2.2.1 _ (List.mem_of_getElem? HE.out)).2 (by have := HEN.out; show 0 < et.mem.length; omega)
                  simp only at hea
                  subst hea
                  have HXX := Lib.hid hx
                  obtain ⟨PA, pm, pc, rows, ps, g1, g2, g3, g4, g5, g6, g7⟩ := HV4.out.2.1
                  have HK1 := Lib.hid g1
                  have HPUT : Hid (∀ W, Below wv.heap.size wv W → Calls Try.prog 29 #[.agg #[.slice PA pm pc, .int .i64 200], .int .u32 (x : Int), .int .i64 0] W fun r w' => RqP K5 (ACC ++ et.mem.take k4 ++ [x]) W r w') := fun W hW =>
                    rq_put ((hW.block K5 (lt_of_block g1)).trans g1) (P.own_blk g2 hW) g3 g4 g5 g6 g7 x (by rw [HACC.out]; exact HQI.out.fresh HTM.out HPM.out HLI.out hx) (HQI.out.ok et HEL.out x (List.mem_of_getElem? hx)) (by
                      have h1 := HAL.out
                      have h3 := HEN.out
                      rw [List.length_append, List.length_take]
                      have h4 := Nat.min_le_left k4 et.mem.length
                      have h5 := HM4.out et HEL.out
                      omega)
                  have HSP : Hid (∀ W, Rt W g lf → (∀ e ∈ lf, P.Fl W R vi e.1 e.2.mem) → (fun W : World => W.cell? ⟨g, i * 5 + 2, none⟩ = some (.slice (some ⟨b, o, none⟩) en ec) ∧ W.cell? ⟨b, o + k4, none⟩ = some (.int .u32 (x : Int))) W) := fun W hr hf => by
                    obtain ⟨_, _, y2, _, _⟩ := hr.cells HE.out
                    obtain ⟨b', o', hea', _, _, _, hAt'⟩ := (hf _ (List.mem_of_getElem? HE.out)).2 (by have := HEN.out; show 0 < et.mem.length; omega)
                    simp only at hea'
                    injection hea' with hea'
                    injection hea' with hb' ho'
                    subst hb' ho'
                    exact ⟨y2, hAt' k4 x HXX.out⟩
                  have HSV : Hid (∀ W, Below wv.heap.size wv W → (fun W : World => W.cell? ⟨g, i * 5 + 2, none⟩ = some (.slice (some ⟨b, o, none⟩) en ec) ∧ W.cell? ⟨b, o + k4, none⟩ = some (.int .u32 (x : Int))) W) := fun W hW => HSP.out W (HV4.out.2.2.1.after hW) (fun e he => (HV4.out.2.2.2.1 e he).after hW)
                  have HBRV : Hid (Below wv.heap.size wv wv) := Below.refl _ _
                  clear hx hRb hvb hqb hAt g1 g2 g3 g4 g5 g6 g7 z0 z1 z3 z4
                  go_upto_region 28 with (fail)
                  clear z2
                  have HDv : Hid (Below wv.heap.size wv wv.drew) := HBRV.out.drew
                  refine wp_region_held_drew (S := fun W : World => W.cell? ⟨g, i * 5 + 2, none⟩ = some (.slice (some ⟨b, o, none⟩) en ec) ∧ W.cell? ⟨b, o + k4, none⟩ = some (.int .u32 (x : Int))) (by kernel_rfl) (HSV.out _ (HDv.out)) (fun hHeld => ?_)
                  obtain ⟨Wv0, hW0⟩ : ∃ W0, W0 = wv.drew := ⟨_, rfl⟩
                  rw [← hW0] at hHeld HDv ⊢
                  clear hW0
                  refine wpAnyH_take (i := 1) (oi := ?oi1v) (v := ?v1v) ?hi1v ?hs1v ?hf1v ?hr1v ?hQ1v ?hy1v ?hS1v ?h1v
                  case hi1v => exact (by simp only [List.getElem?_toArray, List.getElem?_cons_succ, List.getElem?_cons_zero]; rfl)
                  case hs1v => kernel_rfl
                  case hf1v => kernel_rfl
                  case hr1v => kernel_rfl
                  case hQ1v => exact fun _ _ _ h => h
                  case hy1v =>
                    refine Or.inl ⟨rfl, ?_⟩
                    intro W hSw
                    obtain ⟨q0, q1⟩ := hSw
                    go_simp
                    try with_reducible rfl
                  case hS1v => assumption
                  try simp only [Act.put, List.setIfInBounds_toArray, List.set_cons_zero, List.set_cons_succ]
                  refine wpAnyH_take (i := 2) (oi := ?oi2v) (v := ?v2v) ?hi2v ?hs2v ?hf2v ?hr2v ?hQ2v ?hy2v ?hS2v ?h2v
                  case hi2v => exact (by simp only [List.getElem?_toArray, List.getElem?_cons_succ, List.getElem?_cons_zero]; rfl)
                  case hs2v => kernel_rfl
                  case hf2v => kernel_rfl
                  case hr2v => kernel_rfl
                  case hQ2v => exact fun _ _ _ h => h
                  case hy2v =>
                    refine Or.inl ⟨rfl, ?_⟩
                    intro W hSw
                    obtain ⟨q0, q1⟩ := hSw
                    go_simp
                    try with_reducible rfl
                  case hS2v => assumption
                  try simp only [Act.put, List.setIfInBounds_toArray, List.set_cons_zero, List.set_cons_succ]
                  refine wpAnyH_take (i := 3) (oi := ?oi3v) (v := ?v3v) ?hi3v ?hs3v ?hf3v ?hr3v ?hQ3v ?hy3v ?hS3v ?h3v
                  case hi3v => exact (by simp only [List.getElem?_toArray, List.getElem?_cons_succ, List.getElem?_cons_zero]; rfl)
                  case hs3v => kernel_rfl
                  case hf3v => kernel_rfl
                  case hr3v => kernel_rfl
                  case hQ3v => exact fun _ _ _ h => h
                  case hy3v =>
                    refine Or.inl ⟨rfl, ?_⟩
                    intro W hSw
                    obtain ⟨q0, q1⟩ := hSw
                    go_simp
                    try with_reducible rfl
                  case hS3v => assumption
                  try simp only [Act.put, List.setIfInBounds_toArray, List.set_cons_zero, List.set_cons_succ]
                  refine wpAnyH_take (i := 4) (oi := ?oi4v) (v := ?v4v) ?hi4v ?hs4v ?hf4v ?hr4v ?hQ4v ?hy4v ?hS4v ?h4v
                  case hi4v => exact (by simp only [List.getElem?_toArray, List.getElem?_cons_succ, List.getElem?_cons_zero]; rfl)
                  case hs4v => kernel_rfl
                  case hf4v => kernel_rfl
                  case hr4v => kernel_rfl
                  case hQ4v => exact fun _ _ _ h => h
                  case hy4v =>
                    refine Or.inl ⟨rfl, ?_⟩
                    intro W hSw
                    obtain ⟨q0, q1⟩ := hSw
                    go_simp
                    try with_reducible rfl
                  case hS4v => assumption
                  try simp only [Act.put, List.setIfInBounds_toArray, List.set_cons_zero, List.set_cons_succ]
                  refine wpAnyH_take (i := 5) (oi := ?oi5v) (v := ?v5v) ?hi5v ?hs5v ?hf5v ?hr5v ?hQ5v ?hy5v ?hS5v ?h5v
                  case hi5v => exact (by simp only [List.getElem?_toArray, List.getElem?_cons_succ, List.getElem?_cons_zero]; rfl)
                  case hs5v => kernel_rfl
                  case hf5v => kernel_rfl
                  case hr5v => kernel_rfl
                  case hQ5v => exact fun _ _ _ h => h
                  case hy5v =>
                    refine Or.inl ⟨rfl, ?_⟩
                    intro W hSw
                    obtain ⟨q0, q1⟩ := hSw
                    go_simp
                    try with_reducible rfl
                  case hS5v => assumption
                  try simp only [Act.put, List.setIfInBounds_toArray, List.set_cons_zero, List.set_cons_succ]
                  refine wpAnyH_take (i := 6) (oi := ?oi6v) (v := ?v6v) ?hi6v ?hs6v ?hf6v ?hr6v ?hQ6v ?hy6v ?hS6v ?h6v
                  case hi6v => exact (by simp only [List.getElem?_toArray, List.getElem?_cons_succ, List.getElem?_cons_zero]; rfl)
                  case hs6v => kernel_rfl
                  case hf6v => kernel_rfl
                  case hr6v => kernel_rfl
                  case hQ6v => exact fun _ _ _ h => h
                  case hy6v =>
                    refine Or.inl ⟨rfl, ?_⟩
                    intro W hSw
                    obtain ⟨q0, q1⟩ := hSw
                    go_simp
                    try with_reducible rfl
                  case hS6v => assumption
                  try simp only [Act.put, List.setIfInBounds_toArray, List.set_cons_zero, List.set_cons_succ]
                  refine wpAnyH_take (i := 7) (oi := ?oi7v) (v := ?v7v) ?hi7v ?hs7v ?hf7v ?hr7v ?hQ7v ?hy7v ?hS7v ?h7v
                  case hi7v => exact (by simp only [List.getElem?_toArray, List.getElem?_cons_succ, List.getElem?_cons_zero]; rfl)
                  case hs7v => kernel_rfl
                  case hf7v => kernel_rfl
                  case hr7v => kernel_rfl
                  case hQ7v => exact fun _ _ _ h => h
                  case hy7v =>
                    refine Or.inl ⟨rfl, ?_⟩
                    intro W hSw
                    obtain ⟨q0, q1⟩ := hSw
                    go_simp
                    try with_reducible rfl
                  case hS7v => assumption
                  try simp only [Act.put, List.setIfInBounds_toArray, List.set_cons_zero, List.set_cons_succ]
                  refine wpAnyH_take (i := 8) (oi := ?oi8v) (v := ?v8v) ?hi8v ?hs8v ?hf8v ?hr8v ?hQ8v ?hy8v ?hS8v ?h8v
                  case hi8v => exact (by simp only [List.getElem?_toArray, List.getElem?_cons_succ, List.getElem?_cons_zero]; rfl)
                  case hs8v => kernel_rfl
                  case hf8v => kernel_rfl
                  case hr8v => kernel_rfl
                  case hQ8v => exact fun _ _ _ h => h
                  case hy8v =>
                    refine Or.inl ⟨rfl, ?_⟩
                    intro W hSw
                    obtain ⟨q0, q1⟩ := hSw
                    go_simp
                    try with_reducible rfl
                  case hS8v => assumption
                  try simp only [Act.put, List.setIfInBounds_toArray, List.set_cons_zero, List.set_cons_succ]
                  refine wpAnyH_ready (rs := [0]) (by kernel_rfl) (by simp) ?_
                  refine AllReadyH.cons (o := _) rfl (fun K hK => ?_) AllReadyH.nil
                  have hkr := (HDv.out.block K5 (lt_of_block HK1.out)).trans HK1.out
                  have x0 := cell_of_row _ K5 0 _ _ _ hkr
                  have x1 := cell_of_row _ K5 1 _ _ _ hkr
                  simp at x0 x1
                  go_simp
                  clear x0 x1 hkr
                  refine hK.out _ _ (HSV.out _ (HDv.out)) (fun hHeld => ?_)
                  clear hK K
                  try simp only [Act.put, List.setIfInBounds_toArray, List.set_cons_zero, List.set_cons_succ]
                  refine wpAnyH_ready (rs := [9]) (by kernel_rfl) (by simp) ?_
                  refine AllReadyH.cons (o := _) rfl (fun K hK => ?_) AllReadyH.nil
                  go_simp
                  refine (HPUT.out Wv0 HDv.out).mono ?_
                  rintro r Wv1 ⟨PB, m9, c9, rfl, hbq, hrq⟩
                  have HBv1 := Lib.hid (HDv.out.trans (hbq.mono HDv.out.size))
                  have HRQN := Lib.hid hrq
                  clear hrq
                  clear hbq
                  refine hK.out _ _ (HSV.out _ (HBv1.out)) (fun hHeld => ?_)
                  clear hK K
                  try simp only [Act.put, List.setIfInBounds_toArray, List.set_cons_zero, List.set_cons_succ]
                  refine wpAnyH_take (i := 10) (oi := ?oi10v) (v := ?v10v) ?hi10v ?hs10v ?hf10v ?hr10v ?hQ10v ?hy10v ?hS10v ?h10v
                  case hi10v => exact (by simp only [List.getElem?_toArray, List.getElem?_cons_succ, List.getElem?_cons_zero]; rfl)
                  case hs10v => kernel_rfl
                  case hf10v => kernel_rfl
                  case hr10v => kernel_rfl
                  case hQ10v => exact fun _ _ _ h => h
                  case hy10v =>
                    refine Or.inl ⟨rfl, ?_⟩
                    intro W hSw
                    obtain ⟨q0, q1⟩ := hSw
                    go_simp
                    try with_reducible rfl
                  case hS10v => assumption
                  try simp only [Act.put, List.setIfInBounds_toArray, List.set_cons_zero, List.set_cons_succ]
                  refine wpAnyH_take (i := 11) (oi := ?oi11v) (v := ?v11v) ?hi11v ?hs11v ?hf11v ?hr11v ?hQ11v ?hy11v ?hS11v ?h11v
                  case hi11v => exact (by simp only [List.getElem?_toArray, List.getElem?_cons_succ, List.getElem?_cons_zero]; rfl)
                  case hs11v => kernel_rfl
                  case hf11v => kernel_rfl
                  case hr11v => kernel_rfl
                  case hQ11v => exact fun _ _ _ h => h
                  case hy11v =>
                    refine Or.inl ⟨rfl, ?_⟩
                    intro W hSw
                    obtain ⟨q0, q1⟩ := hSw
                    go_simp
                    try with_reducible rfl
                  case hS11v => assumption
                  try simp only [Act.put, List.setIfInBounds_toArray, List.set_cons_zero, List.set_cons_succ]
                  refine wpAnyH_take (i := 12) (oi := ?oi12v) (v := ?v12v) ?hi12v ?hs12v ?hf12v ?hr12v ?hQ12v ?hy12v ?hS12v ?h12v
                  case hi12v => exact (by simp only [List.getElem?_toArray, List.getElem?_cons_succ, List.getElem?_cons_zero]; rfl)
                  case hs12v => kernel_rfl
                  case hf12v => kernel_rfl
                  case hr12v => kernel_rfl
                  case hQ12v => exact fun _ _ _ h => h
                  case hy12v =>
                    refine Or.inl ⟨rfl, ?_⟩
                    intro W hSw
                    obtain ⟨q0, q1⟩ := hSw
                    go_simp
                    try with_reducible rfl
                  case hS12v => assumption
                  try simp only [Act.put, List.setIfInBounds_toArray, List.set_cons_zero, List.set_cons_succ]
                  refine wpAnyH_ready (rs := [13]) (by kernel_rfl) (by simp) ?_
                  refine AllReadyH.cons (o := _) rfl (fun K hK => ?_) AllReadyH.nil
                  have hkr := (HBv1.out.block K5 (lt_of_block HK1.out)).trans HK1.out
                  have x0 := cell_of_row _ K5 0 _ _ _ hkr
                  have x1 := cell_of_row _ K5 1 _ _ _ hkr
                  simp at x0 x1
                  have xf : ∀ i, Wv1.frozen? ⟨K5, i, none⟩ = false := fun i => frozen_of_row _ _ i _ _ hkr
                  go_simp
                  obtain ⟨W9, hW9⟩ : ∃ W, W = (Wv1.setCell ⟨K5, 0, none⟩ (.slice PB m9 c9)).setCell ⟨K5, 1, none⟩ (.int .i64 200) := ⟨_, rfl⟩
                  have HRQ9 : Hid (Rq W9 K5 (ACC ++ et.mem.take k4 ++ [x])) := by rw [hW9]; exact HRQN.out
                  have HRT9 : Hid (Rt W9 g lf) := by rw [hW9]; exact rt_aside (HV4.out.2.2.1.after HBv1.out) hkr (by decide)
                  have HFL9 : Hid (∀ e ∈ lf, P.Fl W9 R vi e.1 e.2.mem) := fun e he => by rw [hW9]; exact fl_aside ((HV4.out.2.2.2.1 e he).after HBv1.out) hkr (by decide)
                  have HBW9 : Hid (Below wl.heap.size wl W9) := by rw [hW9]; exact set2_below (HV4.out.2.2.2.2.trans (HBv1.out.mono HV4.out.2.2.2.2.size)) (by rw [HK5.out]; exact Nat.le_refl _)
                  have HS9 : Hid ((fun W : World => W.cell? ⟨g, i * 5 + 2, none⟩ = some (.slice (some ⟨b, o, none⟩) en ec) ∧ W.cell? ⟨b, o + k4, none⟩ = some (.int .u32 (x : Int))) W9) := HSP.out W9 HRT9.out HFL9.out
                  rw [← hW9]
                  clear hW9 hkr xf x0 x1 HRQN
                  refine hK.out _ _ (HS9.out) (fun hHeld => ?_)
                  clear hK K
                  try simp only [Act.put, List.setIfInBounds_toArray, List.set_cons_zero, List.set_cons_succ]
                  refine wpAnyH_done (by kernel_rfl) ?_ _
                  have HS29 : Hid (∀ W, Below W9.heap.size W9 W → (fun W : World => W.cell? ⟨g, i * 5 + 2, none⟩ = some (.slice (some ⟨b, o, none⟩) en ec) ∧ W.cell? ⟨b, o + k4, none⟩ = some (.int .u32 (x : Int)) ∧ W.cell? ⟨g, i * 5, none⟩ = some (.int .u32 (et.id : Int))) W) := fun W hW => by
                    obtain ⟨y0, _⟩ := (HRT9.out.after hW).cells HE.out
                    obtain ⟨y2, y3⟩ := HSP.out W (HRT9.out.after hW) (fun e he => (HFL9.out e he).after hW)
                    exact ⟨y2, y3, y0⟩
                  have HOF : Hid (∀ W, Below W9.heap.size W9 W → Calls Try.prog 30 #[qp B, .int .u32 (x : Int)] W fun r w' => r = .returned (.int .u32 (et.id : Int)) ∧ Below W.heap.size W w') := fun W hW => by
                    have hb := HBW9.out.trans (hW.mono HBW9.out.size)
                    obtain ⟨⟨vq, hq⟩, _, _, _, _, hq8⟩ := HV.out.1.after hb
                    have := qof_any B R _ vq ms L x W hq (by have := HLL.out; omega) (fun e he => by have := hq8 e he; omega)
                    rw [HQI.out.of HEL.out (List.mem_of_getElem? HXX.out)] at this
                    exact this
                  have HBR9 : Hid (Below W9.heap.size W9 W9) := Below.refl _ _
                  go_upto_region 29 with (fail)
                  have HDx : Hid (Below W9.heap.size W9 W9.drew) := HBR9.out.drew
                  refine wp_region_held_drew (S := fun W : World => W.cell? ⟨g, i * 5 + 2, none⟩ = some (.slice (some ⟨b, o, none⟩) en ec) ∧ W.cell? ⟨b, o + k4, none⟩ = some (.int .u32 (x : Int)) ∧ W.cell? ⟨g, i * 5, none⟩ = some (.int .u32 (et.id : Int))) (by kernel_rfl) (HS29.out _ (HDx.out)) (fun hHeld => ?_)
                  obtain ⟨Wx0, hW0⟩ : ∃ W0, W0 = W9.drew := ⟨_, rfl⟩
                  rw [← hW0] at hHeld HDx ⊢
                  clear hW0
                  refine wpAnyH_take (i := 0) (oi := ?oi0x) (v := ?v0x) ?hi0x ?hs0x ?hf0x ?hr0x ?hQ0x ?hy0x ?hS0x ?h0x
                  case hi0x => exact (by simp only [List.getElem?_toArray, List.getElem?_cons_zero]; rfl)
                  case hs0x => kernel_rfl
                  case hf0x => kernel_rfl
                  case hr0x => kernel_rfl
                  case hQ0x => exact fun _ _ _ h => h
                  case hy0x =>
                    refine Or.inl ⟨rfl, ?_⟩
                    intro W hSw
                    obtain ⟨q0, q1, q2⟩ := hSw
                    go_simp
                    try with_reducible rfl
                  case hS0x => assumption
                  try simp only [Act.put, List.setIfInBounds_toArray, List.set_cons_zero, List.set_cons_succ]
                  refine wpAnyH_take (i := 1) (oi := ?oi1x) (v := ?v1x) ?hi1x ?hs1x ?hf1x ?hr1x ?hQ1x ?hy1x ?hS1x ?h1x
                  case hi1x => exact (by simp only [List.getElem?_toArray, List.getElem?_cons_succ, List.getElem?_cons_zero]; rfl)
                  case hs1x => kernel_rfl
                  case hf1x => kernel_rfl
                  case hr1x => kernel_rfl
                  case hQ1x => exact fun _ _ _ h => h
                  case hy1x =>
                    refine Or.inl ⟨rfl, ?_⟩
                    intro W hSw
                    obtain ⟨q0, q1, q2⟩ := hSw
                    go_simp
                    try with_reducible rfl
                  case hS1x => assumption
                  try simp only [Act.put, List.setIfInBounds_toArray, List.set_cons_zero, List.set_cons_succ]
                  refine wpAnyH_take (i := 2) (oi := ?oi2x) (v := ?v2x) ?hi2x ?hs2x ?hf2x ?hr2x ?hQ2x ?hy2x ?hS2x ?h2x
                  case hi2x => exact (by simp only [List.getElem?_toArray, List.getElem?_cons_succ, List.getElem?_cons_zero]; rfl)
                  case hs2x => kernel_rfl
                  case hf2x => kernel_rfl
                  case hr2x => kernel_rfl
                  case hQ2x => exact fun _ _ _ h => h
                  case hy2x =>
                    refine Or.inl ⟨rfl, ?_⟩
                    intro W hSw
                    obtain ⟨q0, q1, q2⟩ := hSw
                    go_simp
                    try with_reducible rfl
                  case hS2x => assumption
                  try simp only [Act.put, List.setIfInBounds_toArray, List.set_cons_zero, List.set_cons_succ]
                  refine wpAnyH_take (i := 3) (oi := ?oi3x) (v := ?v3x) ?hi3x ?hs3x ?hf3x ?hr3x ?hQ3x ?hy3x ?hS3x ?h3x
                  case hi3x => exact (by simp only [List.getElem?_toArray, List.getElem?_cons_succ, List.getElem?_cons_zero]; rfl)
                  case hs3x => kernel_rfl
                  case hf3x => kernel_rfl
                  case hr3x => kernel_rfl
                  case hQ3x => exact fun _ _ _ h => h
                  case hy3x =>
                    refine Or.inl ⟨rfl, ?_⟩
                    intro W hSw
                    obtain ⟨q0, q1, q2⟩ := hSw
                    go_simp
                    try with_reducible rfl
                  case hS3x => assumption
                  try simp only [Act.put, List.setIfInBounds_toArray, List.set_cons_zero, List.set_cons_succ]
                  refine wpAnyH_take (i := 4) (oi := ?oi4x) (v := ?v4x) ?hi4x ?hs4x ?hf4x ?hr4x ?hQ4x ?hy4x ?hS4x ?h4x
                  case hi4x => exact (by simp only [List.getElem?_toArray, List.getElem?_cons_succ, List.getElem?_cons_zero]; rfl)
                  case hs4x => kernel_rfl
                  case hf4x => kernel_rfl
                  case hr4x => kernel_rfl
                  case hQ4x => exact fun _ _ _ h => h
                  case hy4x =>
                    refine Or.inl ⟨rfl, ?_⟩
                    intro W hSw
                    obtain ⟨q0, q1, q2⟩ := hSw
                    go_simp
                    try with_reducible rfl
                  case hS4x => assumption
                  try simp only [Act.put, List.setIfInBounds_toArray, List.set_cons_zero, List.set_cons_succ]
                  refine wpAnyH_take (i := 5) (oi := ?oi5x) (v := ?v5x) ?hi5x ?hs5x ?hf5x ?hr5x ?hQ5x ?hy5x ?hS5x ?h5x
                  case hi5x => exact (by simp only [List.getElem?_toArray, List.getElem?_cons_succ, List.getElem?_cons_zero]; rfl)
                  case hs5x => kernel_rfl
                  case hf5x => kernel_rfl
                  case hr5x => kernel_rfl
                  case hQ5x => exact fun _ _ _ h => h
                  case hy5x =>
                    refine Or.inl ⟨rfl, ?_⟩
                    intro W hSw
                    obtain ⟨q0, q1, q2⟩ := hSw
                    go_simp
                    try with_reducible rfl
                  case hS5x => assumption
                  try simp only [Act.put, List.setIfInBounds_toArray, List.set_cons_zero, List.set_cons_succ]
                  refine wpAnyH_take (i := 6) (oi := ?oi6x) (v := ?v6x) ?hi6x ?hs6x ?hf6x ?hr6x ?hQ6x ?hy6x ?hS6x ?h6x
                  case hi6x => exact (by simp only [List.getElem?_toArray, List.getElem?_cons_succ, List.getElem?_cons_zero]; rfl)
                  case hs6x => kernel_rfl
                  case hf6x => kernel_rfl
                  case hr6x => kernel_rfl
                  case hQ6x => exact fun _ _ _ h => h
                  case hy6x =>
                    refine Or.inl ⟨rfl, ?_⟩
                    intro W hSw
                    obtain ⟨q0, q1, q2⟩ := hSw
                    go_simp
                    try with_reducible rfl
                  case hS6x => assumption
                  try simp only [Act.put, List.setIfInBounds_toArray, List.set_cons_zero, List.set_cons_succ]
                  refine wpAnyH_take (i := 7) (oi := ?oi7x) (v := ?v7x) ?hi7x ?hs7x ?hf7x ?hr7x ?hQ7x ?hy7x ?hS7x ?h7x
                  case hi7x => exact (by simp only [List.getElem?_toArray, List.getElem?_cons_succ, List.getElem?_cons_zero]; rfl)
                  case hs7x => kernel_rfl
                  case hf7x => kernel_rfl
                  case hr7x => kernel_rfl
                  case hQ7x => exact fun _ _ _ h => h
                  case hy7x =>
                    refine Or.inl ⟨rfl, ?_⟩
                    intro W hSw
                    obtain ⟨q0, q1, q2⟩ := hSw
                    go_simp
                    try with_reducible rfl
                  case hS7x => assumption
                  try simp only [Act.put, List.setIfInBounds_toArray, List.set_cons_zero, List.set_cons_succ]
                  refine wpAnyH_take (i := 8) (oi := ?oi8x) (v := ?v8x) ?hi8x ?hs8x ?hf8x ?hr8x ?hQ8x ?hy8x ?hS8x ?h8x
                  case hi8x => exact (by simp only [List.getElem?_toArray, List.getElem?_cons_succ, List.getElem?_cons_zero]; rfl)
                  case hs8x => kernel_rfl
                  case hf8x => kernel_rfl
                  case hr8x => kernel_rfl
                  case hQ8x => exact fun _ _ _ h => h
                  case hy8x =>
                    refine Or.inl ⟨rfl, ?_⟩
                    intro W hSw
                    obtain ⟨q0, q1, q2⟩ := hSw
                    go_simp
                    try with_reducible rfl
                  case hS8x => assumption
                  try simp only [Act.put, List.setIfInBounds_toArray, List.set_cons_zero, List.set_cons_succ]
                  refine wpAnyH_take (i := 10) (oi := ?oi10x) (v := ?v10x) ?hi10x ?hs10x ?hf10x ?hr10x ?hQ10x ?hy10x ?hS10x ?h10x
                  case hi10x => exact (by simp only [List.getElem?_toArray, List.getElem?_cons_succ, List.getElem?_cons_zero]; rfl)
                  case hs10x => kernel_rfl
                  case hf10x => kernel_rfl
                  case hr10x => kernel_rfl
                  case hQ10x => exact fun _ _ _ h => h
                  case hy10x =>
                    refine Or.inl ⟨rfl, ?_⟩
                    intro W hSw
                    obtain ⟨q0, q1, q2⟩ := hSw
                    go_simp
                    try with_reducible rfl
                  case hS10x => assumption
                  try simp only [Act.put, List.setIfInBounds_toArray, List.set_cons_zero, List.set_cons_succ]
                  refine wpAnyH_take (i := 11) (oi := ?oi11x) (v := ?v11x) ?hi11x ?hs11x ?hf11x ?hr11x ?hQ11x ?hy11x ?hS11x ?h11x
                  case hi11x => exact (by simp only [List.getElem?_toArray, List.getElem?_cons_succ, List.getElem?_cons_zero]; rfl)
                  case hs11x => kernel_rfl
                  case hf11x => kernel_rfl
                  case hr11x => kernel_rfl
                  case hQ11x => exact fun _ _ _ h => h
                  case hy11x =>
                    refine Or.inl ⟨rfl, ?_⟩
                    intro W hSw
                    obtain ⟨q0, q1, q2⟩ := hSw
                    go_simp
                    try with_reducible rfl
                  case hS11x => assumption
                  try simp only [Act.put, List.setIfInBounds_toArray, List.set_cons_zero, List.set_cons_succ]
                  refine wpAnyH_take (i := 12) (oi := ?oi12x) (v := ?v12x) ?hi12x ?hs12x ?hf12x ?hr12x ?hQ12x ?hy12x ?hS12x ?h12x
                  case hi12x => exact (by simp only [List.getElem?_toArray, List.getElem?_cons_succ, List.getElem?_cons_zero]; rfl)
                  case hs12x => kernel_rfl
                  case hf12x => kernel_rfl
                  case hr12x => kernel_rfl
                  case hQ12x => exact fun _ _ _ h => h
                  case hy12x =>
                    refine Or.inl ⟨rfl, ?_⟩
                    intro W hSw
                    obtain ⟨q0, q1, q2⟩ := hSw
                    go_simp
                    try with_reducible rfl
                  case hS12x => assumption
                  try simp only [Act.put, List.setIfInBounds_toArray, List.set_cons_zero, List.set_cons_succ]
                  refine wpAnyH_take (i := 13) (oi := ?oi13x) (v := ?v13x) ?hi13x ?hs13x ?hf13x ?hr13x ?hQ13x ?hy13x ?hS13x ?h13x
                  case hi13x => exact (by simp only [List.getElem?_toArray, List.getElem?_cons_succ, List.getElem?_cons_zero]; rfl)
                  case hs13x => kernel_rfl
                  case hf13x => kernel_rfl
                  case hr13x => kernel_rfl
                  case hQ13x => exact fun _ _ _ h => h
                  case hy13x =>
                    refine Or.inl ⟨rfl, ?_⟩
                    intro W hSw
                    obtain ⟨q0, q1, q2⟩ := hSw
                    go_simp
                    try with_reducible rfl
                  case hS13x => assumption
                  try simp only [Act.put, List.setIfInBounds_toArray, List.set_cons_zero, List.set_cons_succ]
                  refine wpAnyH_take (i := 14) (oi := ?oi14x) (v := ?v14x) ?hi14x ?hs14x ?hf14x ?hr14x ?hQ14x ?hy14x ?hS14x ?h14x
                  case hi14x => exact (by simp only [List.getElem?_toArray, List.getElem?_cons_succ, List.getElem?_cons_zero]; rfl)
                  case hs14x => kernel_rfl
                  case hf14x => kernel_rfl
                  case hr14x => kernel_rfl
                  case hQ14x => exact fun _ _ _ h => h
                  case hy14x =>
                    refine Or.inl ⟨rfl, ?_⟩
                    intro W hSw
                    obtain ⟨q0, q1, q2⟩ := hSw
                    go_simp
                    try with_reducible rfl
                  case hS14x => assumption
                  try simp only [Act.put, List.setIfInBounds_toArray, List.set_cons_zero, List.set_cons_succ]
                  refine wpAnyH_ready (rs := [9]) (by kernel_rfl) (by simp) ?_
                  refine AllReadyH.cons (o := _) rfl (fun K hK => ?_) AllReadyH.nil
                  go_simp
                  refine (HOF.out Wx0 HDx.out).mono ?_
                  rintro r Wx1 ⟨rfl, hbq⟩
                  have HBx1 := Lib.hid (HDx.out.trans (hbq.mono HDx.out.size))
                  clear hbq
                  refine hK.out _ _ (HS29.out _ (HBx1.out)) (fun hHeld => ?_)
                  clear hK K
                  try simp only [Act.put, List.setIfInBounds_toArray, List.set_cons_zero, List.set_cons_succ]
                  refine wpAnyH_take (i := 15) (oi := ?oi15x) (v := .bool false) ?hi15x ?hs15x ?hf15x ?hr15x ?hQ15x ?hy15x ?hS15x ?h15x
                  case hi15x => exact (by simp only [List.getElem?_toArray, List.getElem?_cons_succ, List.getElem?_cons_zero]; rfl)
                  case hs15x => kernel_rfl
                  case hf15x => kernel_rfl
                  case hr15x => kernel_rfl
                  case hQ15x => exact fun _ _ _ h => h
                  case hy15x =>
                    refine Or.inl ⟨rfl, ?_⟩
                    intro W hSw
                    obtain ⟨q0, q1, q2⟩ := hSw
                    go_simp
                    try with_reducible rfl
                  case hS15x => assumption
                  try simp only [Act.put, List.setIfInBounds_toArray, List.set_cons_zero, List.set_cons_succ]
                  refine wpAnyH_done (by kernel_rfl) ?_ _
                  have HVN : Hid (p4 + 1 = (ACC ++ et.mem.take (k4 + 1)).length ∧ Rq Wx1 K5 (ACC ++ et.mem.take (k4 + 1)) ∧ Rt Wx1 g lf ∧ (∀ e ∈ lf, P.Fl Wx1 R vi e.1 e.2.mem) ∧ Below wl.heap.size wl Wx1) := by
                    have e1 : ACC ++ et.mem.take (k4 + 1) = ACC ++ et.mem.take k4 ++ [x] := by rw [List.take_add_one, HXX.out, ← List.append_assoc]; rfl
                    rw [Hid, e1]
                    exact ⟨by rw [List.length_append, ← HV4.out.1]; rfl, HRQ9.out.after HBx1.out, HRT9.out.after HBx1.out, fun e he => (HFL9.out e he).after HBx1.out, HBW9.out.trans (HBx1.out.mono HBW9.out.size)⟩
                  go_wp2_with fail
                  go_roundw
                  case rel => exact ⟨k4 + 1, p4 + 1, by omega, by have := HP4.out; omega, by go_num, by go_num, HVN.out⟩
                  case measure => simp [intOf] <;> omega
                · have hke : k4 = en := by omega
                  subst hke
                  have HVE : Hid (p4 = ((TM ++ LS.take (i + 1)).flatMap (·.mem)).length ∧ Rq wv K5 ((TM ++ LS.take (i + 1)).flatMap (·.mem)) ∧ (∀ g', some (⟨g, 0, none⟩ : Addr) = some ⟨g', 0, none⟩ → 0 < n7 → Rt wv g' lf) ∧ (∀ e ∈ lf, P.Fl wv R vi e.1 e.2.mem) ∧ Below wl.heap.size wl wv) := by
                    have e1 : (TM ++ LS.take (i + 1)).flatMap (·.mem) = ACC ++ et.mem.take k4 := by rw [flat_snoc TM LS i et HLI.out, HACC.out, List.take_of_length_le (l := et.mem) (i := k4) (by rw [← HEN.out]; exact Nat.le_refl _)]
                    rw [Hid, e1]
                    refine ⟨HV4.out.1, HV4.out.2.1, fun g' hg' _ => ?_, HV4.out.2.2.2.1, HV4.out.2.2.2.2⟩
                    injection hg' with hg'
                    injection hg' with hg'
                    subst hg'
                    exact HV4.out.2.2.1
                  clear z0 z1 z3 z4
                  go_wp2_with fail
                  go_roundw
                  case rel => exact ⟨i + 1, p4, by omega, hp4, by go_num, rfl, HVE.out⟩
                  case measure => simp [intOf] <;> omega
            · have hin7 : i = n7 := by omega
              subst hin7
              have HVN2 : Hid (mn + i = (TM ++ LS).length ∧ p3 = ((TM ++ LS).flatMap (·.mem)).length ∧ (TM ++ LS).Perm (L.filter fun e => decide (e.md < ((m + 1 : Nat) : Int))) ∧ Rq wy K5 ((TM ++ LS).flatMap (·.mem)) ∧ Below wl.heap.size wl wy) := by
                have e1 : LS.take i = LS := List.take_of_length_le (by rw [← HN7.out]; exact Nat.le_refl _)
                have h := HV3.out
                rw [e1] at h
                exact ⟨by rw [List.length_append, ← HVM.out.1, ← HN7.out], h.1, (HVM.out.2.2.1.append HPM.out).trans (filt_next L m), h.2.1, h.2.2.2.2⟩
              have hmn2 : mn ≤ 32 := by have := HVM.out.1; have := HTL.out; omega
              go_wp2_with fail
              go_roundw
              case rel => exact ⟨m + 1, mn + i, p3, TM ++ LS, by omega, by omega, hp3, by go_num, by go_num, rfl, HVN2.out⟩
              case measure => simp [intOf] <;> omega
        · have hm2' : m = 2 := by omega
          subst hm2'
          obtain ⟨PA, pm, pc, rows, ps, g1, g2, g3, g4, g5, g6, g7⟩ := HVM.out.2.2.2.1
          have hpm : pm = pl := by
            have h1 := g4.length_eq
            have h2 := g7.length_eq
            rw [List.length_map] at h2
            have := HVM.out.2.1
            omega
          have hmL : mn = L.length := by
            rw [HVM.out.1, HVM.out.2.2.1.length_eq, List.filter_eq_self.2 (fun e he => by have := (HQI.out.md e he).2; simp at this ⊢; omega)]
          subst hpm
          have x0 := cell_of_row _ K5 0 _ _ _ g1
          simp at x0
          have HLE : Hid (Calls Try.prog 31 #[qp B] wx fun r w' => r = .returned (.int .i64 (mn : Int)) ∧ w' = wx) := by
            obtain ⟨⟨vq, hq⟩, _⟩ := HV.out.1.after HVM.out.2.2.2.2
            rw [hmL]
            exact qlen_any B R _ vq ms L wx hq
          have HAW := Lib.hid (qawake wx)
          have HBX : Hid (Below w.heap.size w wx) := HV.out.1.2.2.2.1.trans (HVM.out.2.2.2.2.mono HV.out.1.2.2.2.1.size)
          clear g1 g2 g3 g4 g5 g6 g7 hmL hm
          go_wp2_with fail
          refine HLE.out.mono ?_
          rintro r w7 ⟨rfl, hw⟩
          have hw := hw.symm
          subst hw
          go_wp2_with fail
          refine HAW.out.mono ?_
          rintro r w8 ⟨rfl, hb8⟩
          have HB8 : Hid (Below w.heap.size w w8) := HBX.out.trans (hb8.mono HBX.out.size)
          clear hb8
          go_wp2
          go_ret
          exact ⟨by first | rfl | simp, HB8.out⟩
end Go.Proofs.Ytemjmnpclknfaaa.T

/- Queue: what the laws' texts ask of the program. -/
namespace Go.Proofs.Ytemjmnpclknfaaa.T
theorem ownQ : ownKnob Try.prog.godebug = Option.none := by kernel_rfl
theorem laidOutQ : laidOutB Try.prog = true := by kernel_rfl
end Go.Proofs.Ytemjmnpclknfaaa.T
