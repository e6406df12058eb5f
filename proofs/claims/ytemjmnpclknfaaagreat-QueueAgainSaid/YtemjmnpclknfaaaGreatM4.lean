/- Queue: UL, UM, UP, one behind the other. -/
import Derived.Test.YtemjmnpclknfaaaGreatUH
import Derived.Test.YtemjmnpclknfaaaGreatM3
/- Queue: plain: what holds of a queue's tickets. -/
namespace Go.Proofs.YtemjmnpclknfaaaGreat.T
open Go.RowKit
open Go.Proofs.YtemjmnpclknfaaaGreat.P (Sl un)
set_option maxRecDepth 20000
set_option linter.unusedVariables false
set_option linter.unusedSimpArgs false

/-- What holds of the tickets that wait. -/
structure QI (ml : List M5) (L : List Tk) : Prop where
  md : ∀ e ∈ L, 0 ≤ e.md ∧ e.md < (ml.length : Int)
  ok : ∀ e ∈ L, ∀ x ∈ e.mem, P.okN x
  nd : ∀ e ∈ L, e.mem.Nodup
  sz : ∀ e ∈ L, 0 < e.mem.length ∧ (e.mem.length : Int) ≤ (eM ml e.md).1
  dis : ∀ e ∈ L, ∀ e' ∈ L, e.id ≠ e'.id → ∀ x ∈ e.mem, x ∉ e'.mem
  cnt : ∀ m, cntM L m ≤ 16
  ids : (L.map (·.id)).Nodup
theorem QI.nil (ml : List M5) : QI ml [] := ⟨fun e h => by simp at h, fun e h => by simp at h, fun e h => by simp at h, fun e h => by simp at h, fun e h => by simp at h, fun m => by simp [cntM], by simp⟩
open Classical in
theorem errQ_ok {ml : List M5} {L : List Tk} {t : Tk} (h : errQ ml L t = 0) : P.okN t.id ∧ (∀ x ∈ t.mem, P.okN x) ∧ (0 ≤ t.md ∧ t.md < (ml.length : Int)) ∧ (0 < t.mem.length ∧ (t.mem.length : Int) ≤ (eM ml t.md).1) ∧ (0 ≤ t.rt ∧ t.rt ≤ 10000) ∧ ¬ clashP L t.id t.mem ∧ cntM L t.md < 16 := by
  unfold errQ at h
  by_cases h1 : ¬ P.okN t.id ∨ ¬ (∀ x ∈ t.mem, P.okN x)
  · rw [if_pos h1] at h; exact absurd h (by decide)
  rw [if_neg h1] at h
  by_cases h2 : ¬ (0 ≤ t.md ∧ t.md < (ml.length : Int))
  · rw [if_pos h2] at h; exact absurd h (by decide)
  rw [if_neg h2] at h
  by_cases h3 : t.mem.length = 0 ∨ (eM ml t.md).1 < (t.mem.length : Int)
  · rw [if_pos h3] at h; exact absurd h (by decide)
  rw [if_neg h3] at h
  by_cases h4 : t.rt < 0 ∨ 10000 < t.rt
  · rw [if_pos h4] at h; exact absurd h (by decide)
  rw [if_neg h4] at h
  by_cases h5 : clashP L t.id t.mem
  · rw [if_pos h5] at h; exact absurd h (by decide)
  rw [if_neg h5] at h
  by_cases h6 : 16 ≤ cntM L t.md
  · rw [if_pos h6] at h; exact absurd h (by decide)
  have h1' : P.okN t.id ∧ ∀ x ∈ t.mem, P.okN x := ⟨Classical.byContradiction fun hh => h1 (.inl hh), Classical.byContradiction fun hh => h1 (.inr hh)⟩
  exact ⟨h1'.1, h1'.2, Classical.byContradiction h2, by omega, by omega, h5, by omega⟩
open Classical in
theorem errQ_zero {ml : List M5} {L : List Tk} {t : Tk} (h1 : P.okN t.id) (h2 : ∀ x ∈ t.mem, P.okN x) (h3 : 0 ≤ t.md ∧ t.md < (ml.length : Int)) (h4 : 0 < t.mem.length ∧ (t.mem.length : Int) ≤ (eM ml t.md).1) (h5 : 0 ≤ t.rt ∧ t.rt ≤ 10000) (h6 : ¬ clashP L t.id t.mem) (h7 : cntM L t.md < 16) : errQ ml L t = 0 := by
  unfold errQ
  rw [if_neg (by rintro (h | h); exact h h1; exact h h2), if_neg (fun h => h h3), if_neg (by omega), if_neg (by omega), if_neg h6, if_neg (by omega)]
theorem cnt_perm {L L' : List Tk} (h : L.Perm L') (m : Int) : cntM L m = cntM L' m := (h.filter _).length_eq
theorem cnt_cons (t : Tk) (L : List Tk) (m : Int) : cntM (t :: L) m = (if t.md = m then 1 else 0) + cntM L m := by
  unfold cntM
  rw [List.filter_cons]
  by_cases h : t.md = m
  · rw [if_pos (by simpa using h), if_pos h, List.length_cons]; omega
  · rw [if_neg (by simpa using h), if_neg h]; omega
theorem no_ids {L : List Tk} {t : Tk} (h : ¬ clashP L t.id t.mem) : ∀ e ∈ L, e.id ≠ t.id := fun e he hi => h (.inl (List.mem_map.2 ⟨e, he, hi⟩))
theorem QI.put {ml : List M5} {L : List Tk} {t : Tk} (h : QI ml L) (he : errQ ml L t = 0) : QI ml (insT L t) := by
  obtain ⟨h1, h2, h3, h4, h5, h6, h7⟩ := errQ_ok he
  have hn := no_ids h6
  have hp := insT_perm hn
  have hm : ∀ e, e ∈ insT L t ↔ e = t ∨ e ∈ L := fun e => mem_insT hn
  have hsh : ∀ e ∈ L, ∀ x ∈ e.mem, x ∉ t.mem := fun e he x hx hxt => h6 (.inr (.inl ⟨e, he, fun hh => hh x hx hxt⟩))
  refine ⟨fun e he => ?_, fun e he => ?_, fun e he => ?_, fun e he => ?_, fun e he e' he' hne x hx => ?_, fun m => ?_, ?_⟩
  · rcases (hm e).1 he with rfl | he
    · exact h3
    · exact h.md e he
  · rcases (hm e).1 he with rfl | he
    · exact h2
    · exact h.ok e he
  · rcases (hm e).1 he with rfl | he
    · exact Classical.byContradiction fun hh => h6 (.inr (.inr hh))
    · exact h.nd e he
  · rcases (hm e).1 he with rfl | he
    · exact h4
    · exact h.sz e he
  · rcases (hm e).1 he with hA | hA
    · rcases (hm e').1 he' with hB | hB
      · exact absurd (by rw [hA, hB]) hne
      · rw [hA] at hx
        exact fun hx' => hsh e' hB x hx' hx
    · rcases (hm e').1 he' with hB | hB
      · rw [hB]
        exact hsh e hA x hx
      · exact h.dis e hA e' hB hne x hx
  · rw [cnt_perm hp, cnt_cons]
    have := h.cnt m
    by_cases hmd : t.md = m
    · subst hmd; rw [if_pos rfl]; omega
    · rw [if_neg hmd]; omega
  · rw [(hp.map _).nodup_iff, List.map_cons, List.nodup_cons]
    exact ⟨fun hh => h6 (.inl hh), h.ids⟩
theorem len_le : ∀ (n : Nat) (L : List Tk), (∀ e ∈ L, 0 ≤ e.md ∧ e.md < (n : Int)) → (∀ m, cntM L m ≤ 16) → L.length ≤ 16 * n
  | 0, L, h, _ => by
    cases L with
    | nil => simp
    | cons e L => have := h e (by simp); omega
  | n + 1, L, h, hc => by
    have h1 := len_le n (L.filter fun e => !decide (e.md = (n : Int))) (fun e he => by
      obtain ⟨a, b⟩ := List.mem_filter.1 he
      have := h e a
      have hb : ¬ e.md = (n : Int) := by simpa using b
      omega) (fun m => Nat.le_trans ((List.filter_sublist (l := L)).filter _).length_le (hc m))
    have h2 := (List.filter_append_perm (fun e : Tk => decide (e.md = (n : Int))) L).length_eq
    rw [List.length_append] at h2
    have h3 := hc (n : Int)
    unfold cntM at h3
    omega
theorem QI.len {ml : List M5} {L : List Tk} (h : QI ml L) : L.length ≤ 16 * ml.length := len_le _ _ h.md h.cnt
theorem QI.room {ml : List M5} {L : List Tk} (h : QI ml L) (hml : ml.length ≤ 100) (m : Int) (h0 : 0 ≤ m) (h1 : m < (ml.length : Int)) (h2 : cntM L m < 16) : (L.length : Int) < min (16 * (ml.length : Int)) 2147483647 := by
  have := len_le ml.length (⟨0, m, [], 0, 0⟩ :: L) (fun e he => by
    rcases List.mem_cons.1 he with rfl | he
    · exact ⟨h0, h1⟩
    · exact h.md e he) (fun k => by
    rw [cnt_cons]
    have := h.cnt k
    by_cases hk : m = k
    · subst hk; rw [if_pos rfl]; omega
    · rw [if_neg hk]; omega)
  rw [List.length_cons] at this
  omega
theorem nodup_at {α : Type} {l : List α} (h : l.Nodup) {i j : Nat} {x : α} (hi : l[i]? = some x) (hj : l[j]? = some x) : i = j := by
  rw [List.nodup_iff_pairwise_ne, List.pairwise_iff_getElem] at h
  obtain ⟨a, e1⟩ := List.getElem?_eq_some_iff.1 hi
  obtain ⟨b, e2⟩ := List.getElem?_eq_some_iff.1 hj
  rcases Nat.lt_trichotomy i j with hh | hh | hh
  · exact absurd (by rw [e1, e2]) (h i j a b hh)
  · exact hh
  · exact absurd (by rw [e1, e2]) (h j i b a hh)
theorem QI.inj {ml : List M5} {L : List Tk} (h : QI ml L) {e e' : Tk} (he : e ∈ L) (he' : e' ∈ L) (hi : e.id = e'.id) : e = e' := by
  obtain ⟨i, hi1⟩ := List.mem_iff_getElem?.1 he
  obtain ⟨j, hj1⟩ := List.mem_iff_getElem?.1 he'
  have h1 : (L.map (·.id))[i]? = some e.id := by rw [List.getElem?_map, hi1]; rfl
  have h2 : (L.map (·.id))[j]? = some e.id := by rw [List.getElem?_map, hj1, hi]; rfl
  have hij : i = j := nodup_at h.ids h1 h2
  subst hij
  rw [hi1] at hj1
  exact Option.some.inj hj1
theorem QI.of {ml : List M5} {L : List Tk} (h : QI ml L) {e : Tk} (he : e ∈ L) {x : Nat} (hx : x ∈ e.mem) : ofT L x = e.id := by
  unfold ofT
  have hin : e ∈ L.filter (fun e => decide (x ∈ e.mem)) := List.mem_filter.2 ⟨he, by simpa using hx⟩
  cases hf : L.filter (fun e => decide (x ∈ e.mem)) with
  | nil => rw [hf] at hin; cases hin
  | cons f l =>
    have hfm : f ∈ L.filter (fun e => decide (x ∈ e.mem)) := by rw [hf]; simp
    obtain ⟨a, b⟩ := List.mem_filter.1 hfm
    have hb : x ∈ f.mem := by simpa using b
    show f.id = e.id
    exact Classical.byContradiction fun hne => h.dis f a e he hne x hb hx
theorem QI.nodup {ml : List M5} {L : List Tk} (h : QI ml L) : L.Nodup := by
  have := h.ids
  rw [List.nodup_iff_pairwise_ne, List.pairwise_map] at this
  rw [List.nodup_iff_pairwise_ne]
  exact this.imp fun hne e => hne (by rw [e])
/-- Whoever is still to come has not come. -/
theorem QI.fresh {ml : List M5} {L D LS : List Tk} (h : QI ml L) {m : Int} {i k x : Nat} {e : Tk} (hD : ∀ e' ∈ D, e' ∈ L ∧ e'.md ≠ m) (hLS : LS.Perm (L.filter fun e => decide (e.md = m))) (hi : LS[i]? = some e) (hk : e.mem[k]? = some x) : x ∉ (D ++ LS.take i).flatMap (·.mem) ++ e.mem.take k := by
  have heL := List.mem_filter.1 (hLS.mem_iff.1 (List.mem_of_getElem? hi))
  have hemd : e.md = m := by simpa using heL.2
  have hxe := List.mem_of_getElem? hk
  have key : ∀ e' ∈ L, e' ≠ e → x ∉ e'.mem := fun e' he' hne hx => h.dis e' he' e heL.1 (fun hid => hne (h.inj he' heL.1 hid)) x hx hxe
  intro hx
  rcases List.mem_append.1 hx with hx | hx
  · obtain ⟨e', he', hx'⟩ := List.mem_flatMap.1 hx
    rcases List.mem_append.1 he' with h1 | h1
    · exact key e' (hD e' h1).1 (fun hh => (hD e' h1).2 (by rw [hh]; exact hemd)) hx'
    · have hnd : LS.Nodup := hLS.nodup_iff.2 (h.nodup.filter _)
      obtain ⟨j, hj⟩ := List.mem_iff_getElem?.1 h1
      rw [List.getElem?_take] at hj
      split at hj
      · rename_i hji
        refine key e' (List.mem_filter.1 (hLS.mem_iff.1 (List.mem_of_getElem? hj))).1 (fun hh => ?_) hx'
        subst hh
        have := nodup_at hnd hj hi
        omega
      · cases hj
  · have hnd := h.nd e heL.1
    obtain ⟨j, hj⟩ := List.mem_iff_getElem?.1 hx
    rw [List.getElem?_take] at hj
    split at hj
    · rename_i hjk
      have := nodup_at hnd hj hk
      omega
    · cases hj
theorem flat_len (k : Nat) : ∀ (D : List Tk), (∀ e ∈ D, e.mem.length ≤ k) → (D.flatMap (·.mem)).length ≤ k * D.length
  | [], _ => by simp
  | e :: D, h => by
    have h1 := flat_len k D (fun x hx => h x (by simp [hx]))
    have h2 := h e (by simp)
    rw [List.flatMap_cons, List.length_append, List.length_cons, Nat.mul_add]
    omega
theorem flat_snoc (D : List Tk) (LS : List Tk) (i : Nat) (e : Tk) (hi : LS[i]? = some e) : (D ++ LS.take (i + 1)).flatMap (·.mem) = (D ++ LS.take i).flatMap (·.mem) ++ e.mem := by
  rw [List.take_add_one, hi, ← List.append_assoc, List.flatMap_append]
  simp
end Go.Proofs.YtemjmnpclknfaaaGreat.T

/- Queue: awake. -/
namespace Go.Proofs.YtemjmnpclknfaaaGreat.T
open Go.RowKit
open Go.Proofs.YtemjmnpclknfaaaGreat.P (Sl un)
set_option maxRecDepth 20000
set_option linter.unusedVariables false
set_option linter.unusedSimpArgs false

/-- A queue that stands for the tickets L, made behind w0. -/
def Qs (w0 W : World) (B R : Nat) (mo : Int) (ms : Sl) (ml : List M5) (L : List Tk) : Prop := (∃ vi, Bq W B R mo vi ms L) ∧ Rm W ms.a ml ∧ ms.n = ml.length ∧ Below w0.heap.size w0 W ∧ w0.heap.size ≤ R ∧ ∀ e ∈ L, e.mem.length ≤ 8
theorem Qs.after {w0 W W' : World} {B R : Nat} {mo : Int} {ms : Sl} {ml : List M5} {L : List Tk} (h : Qs w0 W B R mo ms ml L) (hb : Below W.heap.size W W') : Qs w0 W' B R mo ms ml L := by
  obtain ⟨⟨vi, h1⟩, h2, h3, h4, h5, h6⟩ := h
  exact ⟨⟨vi, h1.after hb⟩, h2.after hb, h3, h4.trans (hb.mono h4.size), h5, h6⟩
open Classical in
noncomputable def nextQ (ml : List M5) (L : List Tk) (t : Tk) : List Tk := if errQ ml L t = 0 then insT L t else L
theorem qs_put {w0 W : World} {B R : Nat} {mo : Int} {ms : Sl} {ml : List M5} {L : List Tk} (h : Qs w0 W B R mo ms ml L) (hi : QI ml L) (hmo : mo = 16 * (ml.length : Int)) (hml : ml.length ≤ 6) (t : Tk) (s : Sl) (h1 : s.n = t.mem.length) (hR : P.Rn W s.a t.mem) (hl : t.mem.length ≤ 8) :
    Calls Tryz.prog 11 #[qp B, .agg (mC t.id t.md s t.rt t.sn)] W fun r w' => r = .returned (.int .i64 (errQ ml L t)) ∧ Qs w0 w' B R mo ms ml (nextQ ml L t) ∧ QI ml (nextQ ml L t) := by
  obtain ⟨⟨vi, a1⟩, a2, a3, a4, a5, a6⟩ := h
  have hL := hi.len
  refine (qput_any B R mo vi ms ml L t s W a1 a3 (by omega) a2 (by omega) (fun e he => by have := a6 e he; omega) h1 hR (by omega) (fun b0 b1 b2 => by rw [hmo]; exact hi.room (by omega) _ b0 b1 b2)).mono ?_
  rintro r w' ⟨e, vi', k1, k2, k3⟩
  unfold nextQ
  refine ⟨e, ⟨⟨vi', k1⟩, a2.stp k2, a3, a4.trans (k2.below.mono a5), a5, fun e he => ?_⟩, ?_⟩
  · by_cases hz : errQ ml L t = 0
    · rw [if_pos hz] at he
      rcases (mem_insT (no_ids (errQ_ok hz).2.2.2.2.2.1)).1 he with rfl | he
      · exact hl
      · exact a6 e he
    · rw [if_neg hz] at he
      exact a6 e he
  · by_cases hz : errQ ml L t = 0
    · rw [if_pos hz]; exact hi.put hz
    · rw [if_neg hz]; exact hi
theorem qs_mode {w0 W : World} {B R : Nat} {mo : Int} {ms : Sl} {ml : List M5} {L : List Tk} (h : Qs w0 W B R mo ms ml L) (hl : L.length ≤ 1000) (m : Int) : ∃ vi, Calls Tryz.prog 20 #[qp B, .int .i64 m] W fun r w' => QModeP R vi L m W r w' := by
  obtain ⟨⟨vi, a1⟩, _, _, _, _, a6⟩ := h
  exact ⟨vi, qmode_any B R mo vi ms L m W a1 hl (fun e he => by have := a6 e he; omega)⟩
theorem qs_new (cs : Array Value) (A : Option Addr) (n c : Nat) (l : List M5) (w0 w : World) (hw : Below w0.heap.size w0 w) (hc : cs[13]? = some (.slice A n c)) (hn : n = l.length) (hR : Rm w A l) (hl : n ≤ 100) :
    Calls Tryz.prog 5 #[.agg cs] w fun r w' => ∃ B R ms, r = .returned (qp B) ∧ Qs w0 w' B R (16 * (n : Int)) ms l [] := by
  refine (qnew_any cs A n c l w hc hn hR hl).mono ?_
  rintro r w' ⟨B, R, ms, rfl, h1, h2, h3, h4, h5, h6⟩
  exact ⟨B, R, ms, rfl, ⟨_, h1⟩, h3, by omega, hw.trans (h6.mono hw.size), Nat.le_trans hw.size h4, fun e he => by simp at he⟩
def aw1 : List Tk := [⟨5, 0, [1], 0, 9⟩]
def aw2 : List Tk := [⟨3, 0, [2], 0, 9⟩, ⟨5, 0, [1], 0, 9⟩]
def aw3 : List Tk := [⟨3, 0, [2], 0, 9⟩, ⟨4, 0, [3, 4], 0, 7⟩, ⟨5, 0, [1], 0, 9⟩]
theorem aw1_ok : errQ [(2, 0, 0, 0, 1)] [] ⟨5, 0, [1], 0, 9⟩ = 0 := by
  refine errQ_zero (by unfold P.okN; decide) (by unfold P.okN; decide) (by decide) (by decide) (by decide) ?_ (by decide)
  rintro (h | ⟨e, he, hh⟩ | h)
  · simp [aw1] at h
  · apply hh
    simp [aw1] at he
    skip
  · exact h (by decide)

theorem aw1_eq : insT [] ⟨5, 0, [1], 0, 9⟩ = aw1 := rfl
theorem aw2_ok : errQ [(2, 0, 0, 0, 1)] aw1 ⟨3, 0, [2], 0, 9⟩ = 0 := by
  refine errQ_zero (by unfold P.okN; decide) (by unfold P.okN; decide) (by decide) (by decide) (by decide) ?_ (by decide)
  rintro (h | ⟨e, he, hh⟩ | h)
  · simp [aw1] at h
  · apply hh
    simp [aw1] at he
    subst he; simp
  · exact h (by decide)

theorem aw2_eq : insT aw1 ⟨3, 0, [2], 0, 9⟩ = aw2 := rfl
theorem aw3_ok : errQ [(2, 0, 0, 0, 1)] aw2 ⟨4, 0, [3, 4], 0, 7⟩ = 0 := by
  refine errQ_zero (by unfold P.okN; decide) (by unfold P.okN; decide) (by decide) (by decide) (by decide) ?_ (by decide)
  rintro (h | ⟨e, he, hh⟩ | h)
  · simp [aw2] at h
  · apply hh
    simp [aw2] at he
    rcases he with rfl | rfl <;> simp
  · exact h (by decide)

theorem aw3_eq : insT aw2 ⟨4, 0, [3, 4], 0, 7⟩ = aw3 := rfl
theorem aw_mode {LS : List Tk} (h : LS.Perm (aw3.filter fun e => decide (e.md = 0))) (hs : LS.Pairwise leT) : LS = [⟨4, 0, [3, 4], 0, 7⟩, ⟨3, 0, [2], 0, 9⟩, ⟨5, 0, [1], 0, 9⟩] := by
  refine List.Perm.eq_of_pairwise (le := leT) (fun a b ha hb h1 h2 => ?_) hs ?_ (h.trans ?_)
  · have ha := h.mem_iff.1 ha
    simp [aw3] at ha hb
    unfold leT at h1 h2
    rcases ha with rfl | rfl | rfl <;> rcases hb with rfl | rfl | rfl <;> simp at h1 h2 ⊢
  · simp [leT]
  · show (([⟨3, 0, [2], 0, 9⟩, ⟨4, 0, [3, 4], 0, 7⟩, ⟨5, 0, [1], 0, 9⟩] : List Tk)).Perm _
    exact List.Perm.swap _ _ _
set_option maxHeartbeats 4000000 in
theorem qawake (w : World) : Calls Tryz.prog 18 #[] w fun r w' => r = .returned (.bool true) ∧ Below w.heap.size w w' := by
  obtain ⟨H0, hH0⟩ : ∃ k, k = w.heap.size := ⟨_, rfl⟩
  obtain ⟨w1, hw1⟩ : ∃ W, W = w.alloc (.cells #[.int .i64 2, .int .i64 0, .int .i64 0, .int .i64 0, .int .i64 1] 58) := ⟨_, rfl⟩
  have hb1 : Below w.heap.size w w1 := by rw [hw1]; exact (Below.refl _ _).alloc (Nat.le_refl _) _
  have hq1 : w1.heap[H0]? = some (.cells #[.int .i64 2, .int .i64 0, .int .i64 0, .int .i64 0, .int .i64 1] 58 (0, 0)) := by rw [hw1, hH0]; exact heap_alloc_new w _
  have hR1 : Rm w1 (some ⟨H0, 0, none⟩) [(2, 0, 0, 0, 1)] := fun _ => ⟨H0, 0, rfl, ⟨_, hq1⟩, fun j v hj => by
    rw [cell_of_row w1 H0 _ _ _ _ hq1, Nat.zero_add, ← hj]
    simp [m5]⟩
  have HUS := Lib.hid (usual_any (some ⟨H0, 0, none⟩) 1 1 [(2, 0, 0, 0, 1)] w1 rfl hR1 (by decide))
  have HB1 := Lib.hid hb1
  have H1 := Lib.hid hw1
  have HH0 := Lib.hid hH0
  clear hw1 hb1 hq1 hR1 hH0
  go_enter Tryz.func18, Tryz.ntmps18
  go_wp2_with fail
  rw [← H1.out, ← HH0.out]
  refine HUS.out.mono ?_
  rintro r w2 ⟨cs, A2, c2, rfl, hcs, hR2, hb2⟩
  have HNW := Lib.hid (qs_new cs A2 1 c2 [(2, 0, 0, 0, 1)] w w2 (HB1.out.trans (hb2.mono HB1.out.size)) hcs rfl hR2 (by decide))
  clear hcs hR2 hb2
  go_wp2_with fail
  refine HNW.out.mono ?_
  rintro r w3 ⟨B, R, ms, rfl, hqs0⟩
  have HS0 : Hid (Qs w w3 B R (16 * ((1 : Nat) : Int)) ms [(2, 0, 0, 0, 1)] [] ∧ QI [(2, 0, 0, 0, 1)] []) := ⟨hqs0, QI.nil _⟩
  clear hqs0
  obtain ⟨H1, hH1⟩ : ∃ k, k = w3.heap.size := ⟨_, rfl⟩
  obtain ⟨v1, hv1⟩ : ∃ W, W = w3.alloc (.cells #[.int .u32 1] 33) := ⟨_, rfl⟩
  have hb1 : Below w3.heap.size w3 v1 := by rw [hv1]; exact (Below.refl _ _).alloc (Nat.le_refl _) _
  have hq1 : v1.heap[H1]? = some (.cells #[.int .u32 1] 33 (0, 0)) := by rw [hv1, hH1]; exact heap_alloc_new _ _
  have HP1 : Hid (Calls Tryz.prog 11 #[qp B, .agg #[.int .u32 5, .int .i64 0, .slice (some ⟨H1, 0, none⟩) 1 1, .int .i64 0, .int .i64 9]] v1 fun r w' => r = .returned (.int .i64 0) ∧ Qs w w' B R (16 * ((1 : Nat) : Int)) ms [(2, 0, 0, 0, 1)] aw1 ∧ QI [(2, 0, 0, 0, 1)] aw1) := by
    have h := qs_put (HS0.out.1.after hb1) HS0.out.2 rfl (by decide) ⟨5, 0, [1], 0, 9⟩ ⟨some ⟨H1, 0, none⟩, 1, 1⟩ rfl (fun _ => ⟨H1, 0, rfl, lt_of_block hq1, fun j x hj => by
      rw [cell_of_row _ H1 _ _ _ _ hq1]
      have : (j = 0 ∧ x = 1) := by
        rcases j with _ | j <;> simp at hj <;> omega
      rcases this with ⟨rfl, rfl⟩ <;> rfl⟩) (by simp)
    refine h.mono fun r w' ⟨h1, h2⟩ => ?_
    unfold nextQ at h2
    rw [aw1_ok] at h1
    rw [if_pos aw1_ok, aw1_eq] at h2
    exact ⟨h1, h2⟩
  have HV1 := Lib.hid hv1
  have HH1 := Lib.hid hH1
  clear hv1 hH1 hb1 hq1
  go_wp2_with fail
  rw [← HV1.out, ← HH1.out]
  refine HP1.out.mono ?_
  rintro r w4 ⟨rfl, hqs1⟩
  have HS1 := Lib.hid hqs1
  clear hqs1
  obtain ⟨H2, hH2⟩ : ∃ k, k = w4.heap.size := ⟨_, rfl⟩
  obtain ⟨v2, hv2⟩ : ∃ W, W = w4.alloc (.cells #[.int .u32 2] 33) := ⟨_, rfl⟩
  have hb2 : Below w4.heap.size w4 v2 := by rw [hv2]; exact (Below.refl _ _).alloc (Nat.le_refl _) _
  have hq2 : v2.heap[H2]? = some (.cells #[.int .u32 2] 33 (0, 0)) := by rw [hv2, hH2]; exact heap_alloc_new _ _
  have HP2 : Hid (Calls Tryz.prog 11 #[qp B, .agg #[.int .u32 3, .int .i64 0, .slice (some ⟨H2, 0, none⟩) 1 1, .int .i64 0, .int .i64 9]] v2 fun r w' => r = .returned (.int .i64 0) ∧ Qs w w' B R (16 * ((1 : Nat) : Int)) ms [(2, 0, 0, 0, 1)] aw2 ∧ QI [(2, 0, 0, 0, 1)] aw2) := by
    have h := qs_put (HS1.out.1.after hb2) HS1.out.2 rfl (by decide) ⟨3, 0, [2], 0, 9⟩ ⟨some ⟨H2, 0, none⟩, 1, 1⟩ rfl (fun _ => ⟨H2, 0, rfl, lt_of_block hq2, fun j x hj => by
      rw [cell_of_row _ H2 _ _ _ _ hq2]
      have : (j = 0 ∧ x = 2) := by
        rcases j with _ | j <;> simp at hj <;> omega
      rcases this with ⟨rfl, rfl⟩ <;> rfl⟩) (by simp)
    refine h.mono fun r w' ⟨h1, h2⟩ => ?_
    unfold nextQ at h2
    rw [aw2_ok] at h1
    rw [if_pos aw2_ok, aw2_eq] at h2
    exact ⟨h1, h2⟩
  have HV2 := Lib.hid hv2
  have HH2 := Lib.hid hH2
  clear hv2 hH2 hb2 hq2
  go_wp2_with fail
  rw [← HV2.out, ← HH2.out]
  refine HP2.out.mono ?_
  rintro r w5 ⟨rfl, hqs2⟩
  have HS2 := Lib.hid hqs2
  clear hqs2
  obtain ⟨H3, hH3⟩ : ∃ k, k = w5.heap.size := ⟨_, rfl⟩
  obtain ⟨v3, hv3⟩ : ∃ W, W = w5.alloc (.cells #[.int .u32 3, .int .u32 4] 33) := ⟨_, rfl⟩
  have hb3 : Below w5.heap.size w5 v3 := by rw [hv3]; exact (Below.refl _ _).alloc (Nat.le_refl _) _
  have hq3 : v3.heap[H3]? = some (.cells #[.int .u32 3, .int .u32 4] 33 (0, 0)) := by rw [hv3, hH3]; exact heap_alloc_new _ _
  have HP3 : Hid (Calls Tryz.prog 11 #[qp B, .agg #[.int .u32 4, .int .i64 0, .slice (some ⟨H3, 0, none⟩) 2 2, .int .i64 0, .int .i64 7]] v3 fun r w' => r = .returned (.int .i64 0) ∧ Qs w w' B R (16 * ((1 : Nat) : Int)) ms [(2, 0, 0, 0, 1)] aw3 ∧ QI [(2, 0, 0, 0, 1)] aw3) := by
    have h := qs_put (HS2.out.1.after hb3) HS2.out.2 rfl (by decide) ⟨4, 0, [3, 4], 0, 7⟩ ⟨some ⟨H3, 0, none⟩, 2, 2⟩ rfl (fun _ => ⟨H3, 0, rfl, lt_of_block hq3, fun j x hj => by
      rw [cell_of_row _ H3 _ _ _ _ hq3]
      have : (j = 0 ∧ x = 3) ∨ (j = 1 ∧ x = 4) := by
        rcases j with _ | _ | j <;> simp at hj <;> omega
      rcases this with ⟨rfl, rfl⟩ | ⟨rfl, rfl⟩ <;> rfl⟩) (by simp)
    refine h.mono fun r w' ⟨h1, h2⟩ => ?_
    unfold nextQ at h2
    rw [aw3_ok] at h1
    rw [if_pos aw3_ok, aw3_eq] at h2
    exact ⟨h1, h2⟩
  have HV3 := Lib.hid hv3
  have HH3 := Lib.hid hH3
  clear hv3 hH3 hb3 hq3
  go_wp2_with fail
  rw [← HV3.out, ← HH3.out]
  refine HP3.out.mono ?_
  rintro r w6 ⟨rfl, hqs3⟩
  have HS3 := Lib.hid hqs3
  clear hqs3
  obtain ⟨vi, hmo⟩ := qs_mode HS3.out.1 (by decide) 0
  have HMO := Lib.hid hmo
  clear hmo
  go_wp2_with fail
  refine HMO.out.mono ?_
  rintro r w7 ⟨A, n, c, lf, rfl, hn, hp, hs, hfl, hrt, hb7⟩
  have hmap := aw_mode hp hs
  have hl3 : lf.length = 3 := by have := congrArg List.length hmap; simpa using this
  obtain rfl : n = 3 := by omega
  obtain ⟨g, rfl, hg, hr⟩ := hrt (by decide)
  match lf, hl3, hmap, hr with
  | [e0, e1, e2], _, hmap, hr =>
    simp at hmap
    obtain ⟨m0, m1, m2⟩ := hmap
    obtain ⟨x0, _⟩ := hr.cells (i := 0) rfl
    obtain ⟨x1, _⟩ := hr.cells (i := 1) rfl
    obtain ⟨x2, _⟩ := hr.cells (i := 2) rfl
    rw [m0] at x0
    rw [m1] at x1
    rw [m2] at x2
    simp at x0 x1 x2
    have HB7 : Hid (Below w.heap.size w w7) := HS3.out.1.2.2.2.1.trans (hb7.mono HS3.out.1.2.2.2.1.size)
    clear hn hp hs hfl hrt hb7 hr m0 m1 m2 hg
    go_wp2
    go_ret
    exact ⟨by first | rfl | simp, HB7.out⟩
end Go.Proofs.YtemjmnpclknfaaaGreat.T

/- Queue: what the laws' texts ask of the program. -/
namespace Go.Proofs.YtemjmnpclknfaaaGreat.T
theorem ownQ : ownKnob Tryz.prog.godebug = Option.none := by kernel_rfl
theorem laidOutQ : laidOutB Tryz.prog = true := by kernel_rfl
end Go.Proofs.YtemjmnpclknfaaaGreat.T
