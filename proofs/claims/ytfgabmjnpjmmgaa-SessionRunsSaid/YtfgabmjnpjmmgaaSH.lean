/- Session: plain: the table as a list; what an act does. -/
import Derived.Test.YtfgabmjnpjmmgaaOE
import Derived.Test.YtfgabmjnpjmmgaaOJ
import Derived.Test.YtfgabmjnpjmmgaaOI
import Derived.Test.YtfgabmjnpjmmgaaOH
import Derived.Test.YtfgabmjnpjmmgaaOG
import Derived.Test.YtfgabmjnpjmmgaaOF
namespace Go.Proofs.Ytfgabmjnpjmmgaa
open Go.RowKit
set_option linter.unusedVariables false

/-- A connection, when it was touched last, who is logged in there. -/
abbrev Lk := Nat × Mk
abbrev inI (x : Int) : Prop := -9223372036854775808 ≤ x ∧ x ≤ 9223372036854775807
def look (x : Nat) : List Lk → Option Mk
  | [] => none
  | e :: l => if e.1 = x then some e.2 else look x l
def insS (x : Nat) (z : Mk) : List Lk → List Lk
  | [] => [(x, z)]
  | e :: l => if x < e.1 then (x, z) :: e :: l else e :: insS x z l
def delS (x : Nat) (L : List Lk) : List Lk := L.filter (fun e => decide (e.1 ≠ x))
def setS (x : Nat) (z : Mk) (L : List Lk) : List Lk := L.map (fun e => if e.1 = x then (x, z) else e)
abbrev Rd (a b : Lk) : Prop := a.1 < b.1 ∧ (a.2.2 = b.2.2 → a.2.2 = 0)
/-- What holds of a table. -/
def Nd (L : List Lk) : Prop := L.Pairwise Rd ∧ ∀ e ∈ L, (1 ≤ e.1 ∧ e.1 ≤ 2147483647) ∧ inI e.2.1 ∧ (0 ≤ e.2.2 ∧ e.2.2 ≤ 2147483647)
theorem look_some : ∀ {L : List Lk} {x : Nat} {y : Mk}, look x L = some y → ∃ k : Nat, L[k]? = some (x, y)
  | [], x, y, h => by cases h
  | e :: l, x, y, h => by
    unfold look at h
    by_cases he : e.1 = x
    · rw [if_pos he] at h
      injection h with h
      exact ⟨0, by simp [← he, ← h]⟩
    · rw [if_neg he] at h
      obtain ⟨k, hk⟩ := look_some h
      exact ⟨k + 1, by simpa using hk⟩
theorem look_none : ∀ {L : List Lk} {x : Nat}, look x L = none → ∀ e ∈ L, e.1 ≠ x
  | [], x, h => by simp
  | e :: l, x, h => by
    unfold look at h
    by_cases he : e.1 = x
    · rw [if_pos he] at h
      cases h
    · rw [if_neg he] at h
      intro a ha
      rcases List.mem_cons.1 ha with rfl | ha
      · exact he
      · exact look_none h a ha
theorem zipL : ∀ (L : List Lk), (L.map Prod.fst).zip (L.map Prod.snd) = L
  | [] => rfl
  | e :: l => by simp [zipL l]
theorem mem_insS {x : Nat} {z : Mk} {b : Lk} : ∀ {L : List Lk}, b ∈ insS x z L → b = (x, z) ∨ b ∈ L
  | [], h => by simp [insS] at h; exact .inl h
  | e :: l, h => by
    unfold insS at h
    by_cases he : x < e.1
    · rw [if_pos he] at h
      simpa using h
    · rw [if_neg he] at h
      rcases List.mem_cons.1 h with rfl | h
      · exact .inr (by simp)
      · rcases mem_insS h with h | h
        · exact .inl h
        · exact .inr (by simp [h])
theorem pw_ins {x : Nat} {now : Int} : ∀ {L : List Lk}, L.Pairwise Rd → (∀ e ∈ L, e.1 ≠ x) → (insS x (now, 0) L).Pairwise Rd
  | [], _, _ => by simp [insS]
  | e :: l, h, hx => by
    unfold insS
    obtain ⟨h1, h2⟩ := List.pairwise_cons.1 h
    by_cases he : x < e.1
    · rw [if_pos he]
      refine List.pairwise_cons.2 ⟨fun b hb => ?_, h⟩
      rcases List.mem_cons.1 hb with rfl | hb
      · exact ⟨he, fun _ => rfl⟩
      · exact ⟨Nat.lt_trans he (h1 b hb).1, fun _ => rfl⟩
    · rw [if_neg he]
      have hne : e.1 < x := by have := hx e (by simp); omega
      refine List.pairwise_cons.2 ⟨fun b hb => ?_, pw_ins h2 fun a ha => hx a (by simp [ha])⟩
      rcases mem_insS hb with rfl | hb
      · exact ⟨hne, fun h => h⟩
      · exact h1 b hb
theorem nd_ins {L : List Lk} {x : Nat} {now : Int} (h : Nd L) (hx : ∀ e ∈ L, e.1 ≠ x) (hok : 1 ≤ x ∧ x ≤ 2147483647) (hn : inI now) : Nd (insS x (now, 0) L) :=
  ⟨pw_ins h.1 hx, fun e he => by
    rcases mem_insS he with rfl | he
    · exact ⟨hok, hn, by simp, by simp⟩
    · exact h.2 e he⟩
theorem nd_del {L : List Lk} (x : Nat) (h : Nd L) : Nd (delS x L) := ⟨h.1.filter _, fun e he => h.2 e (List.mem_filter.1 he).1⟩
theorem nd_set {L : List Lk} {x : Nat} {z : Mk} (h : Nd L) (hz : ∀ e ∈ L, e.1 ≠ x → e.2.2 = z.2 → z.2 = 0) (hx : 1 ≤ x ∧ x ≤ 2147483647) (h1 : inI z.1) (h2 : 0 ≤ z.2 ∧ z.2 ≤ 2147483647) : Nd (setS x z L) := by
  refine ⟨?_, fun e he => ?_⟩
  · unfold setS
    rw [List.pairwise_map]
    refine h.1.imp_of_mem fun {a b} ha hb hab => ?_
    by_cases hax : a.1 = x
    · have hbx : ¬ b.1 = x := by have := hab.1; omega
      rw [if_pos hax, if_neg hbx]
      exact ⟨by rw [← hax]; exact hab.1, fun e => hz b hb hbx e.symm⟩
    · rw [if_neg hax]
      by_cases hbx : b.1 = x
      · rw [if_pos hbx]
        exact ⟨by rw [← hbx]; exact hab.1, fun e => by rw [e]; exact hz a ha hax e⟩
      · rw [if_neg hbx]
        exact hab
  · unfold setS at he
    obtain ⟨a, ha, rfl⟩ := List.mem_map.1 he
    by_cases hax : a.1 = x
    · rw [if_pos hax]
      exact ⟨hx, h1, h2⟩
    · rw [if_neg hax]
      exact h.2 a ha
theorem pw_lt {L : List Lk} (h : L.Pairwise Rd) {i j : Nat} {a b : Lk} (hij : i < j) (ha : L[i]? = some a) (hb : L[j]? = some b) : Rd a b := by
  obtain ⟨hi, rfl⟩ := List.getElem?_eq_some_iff.1 ha
  obtain ⟨hj, rfl⟩ := List.getElem?_eq_some_iff.1 hb
  exact List.pairwise_iff_getElem.1 h i j hi hj hij
theorem look_at {L : List Lk} (h : L.Pairwise Rd) {k : Nat} {x : Nat} {y : Mk} (hk : L[k]? = some (x, y)) : look x L = some y := by
  cases hl : look x L with
  | none => exact absurd rfl (look_none hl _ (List.mem_of_getElem? hk))
  | some z =>
    obtain ⟨j, hj⟩ := look_some hl
    rcases Nat.lt_trichotomy k j with hkj | rfl | hkj
    · exact absurd (pw_lt h hkj hk hj).1 (Nat.lt_irrefl _)
    · rw [hk] at hj
      injection hj with hj
      injection hj with _ hj
      rw [hj]
    · exact absurd (pw_lt h hkj hj hk).1 (Nat.lt_irrefl _)
theorem del_at : ∀ {L : List Lk} (h : L.Pairwise Rd) {k x : Nat} {y : Mk} (hk : L[k]? = some (x, y)), delS x L = L.take k ++ L.drop (k + 1)
  | [], _, k, x, y, hk => by simp at hk
  | e :: l, h, 0, x, y, hk => by
    simp at hk
    subst hk
    obtain ⟨h1, h2⟩ := List.pairwise_cons.1 h
    unfold delS
    rw [List.filter_cons_of_neg (by simp)]
    simp only [List.take_zero, List.nil_append, List.drop_succ_cons, List.drop_zero]
    exact List.filter_eq_self.2 fun a ha => by have := (h1 a ha).1; simp; omega
  | e :: l, h, k + 1, x, y, hk => by
    obtain ⟨h1, h2⟩ := List.pairwise_cons.1 h
    have hk' : l[k]? = some (x, y) := by simpa using hk
    have hlt := (h1 _ (List.mem_of_getElem? hk')).1
    have ih := del_at h2 hk'
    unfold delS at ih ⊢
    rw [List.filter_cons_of_pos (by simp; simp at hlt; omega), ih]
    simp
theorem set_atS : ∀ {L : List Lk} (h : L.Pairwise Rd) {k x : Nat} {y : Mk} (z : Mk) (hk : L[k]? = some (x, y)), setS x z L = L.set k (x, z)
  | [], _, k, x, y, z, hk => by simp at hk
  | e :: l, h, 0, x, y, z, hk => by
    simp at hk
    subst hk
    obtain ⟨h1, h2⟩ := List.pairwise_cons.1 h
    unfold setS
    rw [List.map_cons, if_pos rfl, List.set_cons_zero]
    congr 1
    refine (List.map_congr_left fun a ha => ?_).trans (List.map_id l)
    have := (h1 a ha).1
    rw [if_neg (by simp at this; omega)]
    rfl
  | e :: l, h, k + 1, x, y, z, hk => by
    obtain ⟨h1, h2⟩ := List.pairwise_cons.1 h
    have hk' : l[k]? = some (x, y) := by simpa using hk
    have hlt := (h1 _ (List.mem_of_getElem? hk')).1
    have ih := set_atS h2 z hk'
    unfold setS at ih ⊢
    rw [List.map_cons, ih, List.set_cons_succ, if_neg (by simp at hlt; omega)]
theorem ins_at : ∀ {L : List Lk} {p x : Nat} (z : Mk), Pl (L.map Prod.fst) x p → (∀ e ∈ L, e.1 ≠ x) → insS x z L = L.take p ++ [(x, z)] ++ L.drop p
  | [], p, x, z, hp, _ => by
    have := hp.1
    simp at this
    subst this
    rfl
  | e :: l, 0, x, z, hp, hx => by
    have := hp.2.2 0 e.1 (Nat.le_refl _) rfl
    have := hx e (by simp)
    unfold insS
    rw [if_pos (by omega)]
    rfl
  | e :: l, p + 1, x, z, hp, hx => by
    have h1 := hp.2.1 0 e.1 (by omega) rfl
    unfold insS
    rw [if_neg (by omega), ins_at z (p := p) ⟨by have := hp.1; simp at this; simpa using this, fun j y hj hy => hp.2.1 (j + 1) y (by omega) (by simpa using hy), fun j y hj hy => hp.2.2 (j + 1) y (by omega) (by simpa using hy)⟩ fun a ha => hx a (by simp [ha])]
    simp
theorem connQ_cases : ∀ (pl : Int) (L : List Lk), (connQ pl L = 0 ∧ ∀ e ∈ L, e.2.2 ≠ pl) ∨ ∃ (k : Nat) (e : Lk), L[k]? = some e ∧ e.2.2 = pl ∧ connQ pl L = e.1
  | pl, [] => .inl ⟨rfl, by simp⟩
  | pl, e :: l => by
    by_cases he : e.2.2 = pl
    · exact .inr ⟨0, e, rfl, he, by simp [connQ, he]⟩
    · rcases connQ_cases pl l with ⟨h1, h2⟩ | ⟨k, a, h1, h2, h3⟩
      · refine .inl ⟨by simp [connQ, he, h1], fun a ha => ?_⟩
        rcases List.mem_cons.1 ha with rfl | ha
        · exact he
        · exact h2 a ha
      · exact .inr ⟨k + 1, a, by simpa using h1, h2, by simp [connQ, he, h3]⟩
/-- What an act does: the error, the number that comes with it, the table then. -/
def openS (most : Int) (x : Nat) (now : Int) (L : List Lk) : Int × List Lk :=
  if ¬ (1 ≤ x ∧ x ≤ 2147483647) then (14, L) else if (look x L).isSome then (11, L) else if min most 2147483647 ≤ (L.length : Int) then (10, L) else (0, insS x (now, 0) L)
def loginS (x pl : Nat) (now : Int) (L : List Lk) : Int × Nat × List Lk :=
  match look x L with
  | none => (12, 0, L)
  | some y => if ¬ (1 ≤ pl ∧ pl ≤ 2147483647) then (14, 0, L) else if ¬ y.2 = 0 then (25, 0, L) else (0, connQ pl L, setS x (now, (pl : Int)) (if connQ pl L = 0 then L else delS (connQ pl L) L))
def logoutS (x : Nat) (L : List Lk) : Int × Int × List Lk :=
  match look x L with
  | none => (12, 0, L)
  | some y => if y.2 = 0 then (25, 0, L) else (0, y.2, setS x (y.1, 0) L)
def closeS (x : Nat) (L : List Lk) : Int × Int × List Lk :=
  match look x L with
  | none => (12, 0, L)
  | some y => (0, y.2, delS x L)
def touchS (x : Nat) (now : Int) (L : List Lk) : Int × List Lk :=
  match look x L with
  | none => (12, L)
  | some y => (0, setS x (now, y.2) L)
theorem nd_open {most : Int} {x : Nat} {now : Int} {L : List Lk} (h : Nd L) (hn : inI now) : Nd (openS most x now L).2 := by
  unfold openS
  split
  · exact h
  · split
    · exact h
    · rename_i h1 h2
      split
      · exact h
      · exact nd_ins h (look_none (by simpa using h2)) (Classical.not_not.1 h1) hn
theorem nd_login {x pl : Nat} {now : Int} {L : List Lk} (h : Nd L) (hn : inI now) : Nd (loginS x pl now L).2.2 := by
  unfold loginS
  split
  · exact h
  · rename_i y hy
    split
    · exact h
    · split
      · exact h
      · rename_i h1 h2
        have hpl := Classical.not_not.1 h1
        obtain ⟨k, hk⟩ := look_some hy
        have hx := (h.2 _ (List.mem_of_getElem? hk)).1
        refine nd_set (by split <;> first | exact h | exact nd_del _ h) (fun e he hex hep => ?_) hx hn ⟨by simp, by simp; omega⟩
        exfalso
        simp only at hep
        rcases connQ_cases (pl : Int) L with ⟨e1, e2⟩ | ⟨q, a, e1, e2, e3⟩
        · rw [if_pos e1] at he
          exact e2 e he hep
        · have ha := h.2 a (List.mem_of_getElem? e1)
          rw [if_neg (by rw [e3]; omega), e3] at he
          obtain ⟨he1, he2⟩ := List.mem_filter.1 he
          simp at he2
          obtain ⟨i, hi⟩ := List.getElem?_of_mem he1
          rcases Nat.lt_trichotomy q i with hqi | rfl | hqi
          · have := (pw_lt h.1 hqi e1 hi).2 (by rw [e2, hep])
            omega
          · rw [e1] at hi
            injection hi with hi
            exact he2 (by rw [hi])
          · have := (pw_lt h.1 hqi hi e1).2 (by rw [e2, hep])
            omega
theorem nd_logout {x : Nat} {L : List Lk} (h : Nd L) : Nd (logoutS x L).2.2 := by
  unfold logoutS
  split
  · exact h
  · rename_i y hy
    split
    · exact h
    · obtain ⟨k, hk⟩ := look_some hy
      have hx := h.2 _ (List.mem_of_getElem? hk)
      exact nd_set h (fun e he hex hep => rfl) hx.1 hx.2.1 (by simp)
theorem nd_close {x : Nat} {L : List Lk} (h : Nd L) : Nd (closeS x L).2.2 := by
  unfold closeS
  split
  · exact h
  · exact nd_del _ h
theorem nd_touch {x : Nat} {now : Int} {L : List Lk} (h : Nd L) (hn : inI now) : Nd (touchS x now L).2 := by
  unfold touchS
  split
  · exact h
  · rename_i y hy
    obtain ⟨k, hk⟩ := look_some hy
    have hx := h.2 _ (List.mem_of_getElem? hk)
    refine nd_set h (fun e he hex hep => ?_) hx.1 hn hx.2.2
    simp only at hep ⊢
    obtain ⟨i, hi⟩ := List.getElem?_of_mem he
    rcases Nat.lt_trichotomy k i with hki | rfl | hki
    · exact (pw_lt h.1 hki hk hi).2 hep.symm
    · rw [hk] at hi
      injection hi with hi
      exact absurd (by rw [← hi]) hex
    · have := (pw_lt h.1 hki hi hk).2 hep
      rw [← hep]
      exact this
end Go.Proofs.Ytfgabmjnpjmmgaa
