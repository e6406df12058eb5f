/- Board: plain: the document's marks beside the notes. -/
import Derived.Test.YtaoejkbockcneaaU8
import Derived.Test.YtaoejkbockcneaaVA
namespace Go.Proofs.Ytaoejkbockcneaa.Bd
open Go.RowKit Go.Maps
set_option maxRecDepth 20000
set_option linter.unusedVariables false

/-- A player, a status, and what was told last. -/
abbrev Mk := Nat × Int × Int
def lookM (l : List Mk) (p : Nat) : Int × Int := ((l.find? (fun e => e.1 == p)).map (·.2)).getD (0, 0)
def setM (p : Nat) (x : Int) : List Mk → List Mk
  | [] => [(p, x, 0)]
  | e :: l => if e.1 = p then (p, x, e.2.2) :: l else e :: setM p x l
def toldM (e : Mk) : Mk := (e.1, e.2.1, seen e.2.1)
def flM (l : List Mk) (k : Nat) : List Mk := (l.take k).map toldM ++ l.drop k
def chg (l : List Mk) : List Nat := (l.filter (fun e => seen e.2.1 != e.2.2)).map (·.1)
structure NdM (l : List Mk) : Prop where
  nd : (l.map (·.1)).Nodup
  ok : ∀ e ∈ l, 1 ≤ e.1 ∧ e.1 ≤ 2147483647
theorem lookM_at {l : List Mk} (h : NdM l) {k : Nat} {e : Mk} (he : l[k]? = some e) : lookM l e.1 = e.2 := by
  have hm := List.mem_of_getElem? he
  have : l.find? (fun y => y.1 == e.1) = some e := by
    cases hf : l.find? (fun y => y.1 == e.1) with
    | none =>
      have := List.find?_eq_none.1 hf e hm
      simp at this
    | some y =>
      have h1 := List.mem_of_find?_eq_some hf
      have h2 := List.find?_some hf
      simp only [beq_iff_eq] at h2
      obtain ⟨i, hi⟩ := List.getElem?_of_mem h1
      have hij : i = k := by
        have h3 := List.getElem?_eq_some_iff.1 hi
        have h4 := List.getElem?_eq_some_iff.1 he
        obtain ⟨a1, a2⟩ := h3
        obtain ⟨b1, b2⟩ := h4
        have hnd := List.pairwise_iff_getElem.1 h.nd
        rcases Nat.lt_trichotomy i k with hlt | rfl | hlt
        · exact absurd (show (l.map (·.1))[i]'(by simpa using a1) = (l.map (·.1))[k]'(by simpa using b1) by simp [a2, b2, h2]) (hnd i k _ _ hlt)
        · rfl
        · exact absurd (show (l.map (·.1))[k]'(by simpa using b1) = (l.map (·.1))[i]'(by simpa using a1) by simp [a2, b2, h2]) (hnd k i _ _ hlt)
      rw [hij, he] at hi
      exact hi.symm
  unfold lookM
  rw [this]
  rfl
theorem lookM_no {l : List Mk} {p : Nat} (h : ∀ e ∈ l, e.1 ≠ p) : lookM l p = (0, 0) := by
  unfold lookM
  rw [List.find?_eq_none.2 (fun e he => by simpa using h e he)]
  rfl
theorem setM_fst (p : Nat) (x : Int) : ∀ l : List Mk, (setM p x l).map (·.1) = if p ∈ l.map (·.1) then l.map (·.1) else l.map (·.1) ++ [p]
  | [] => by simp [setM]
  | e :: l => by
    unfold setM
    by_cases h : e.1 = p
    · simp [h]
    · rw [if_neg h, List.map_cons, setM_fst p x l]
      by_cases h2 : p ∈ l.map (·.1)
      · rw [if_pos h2, if_pos (by rw [List.map_cons]; exact List.mem_cons_of_mem _ h2)]; rfl
      · rw [if_neg h2, if_neg (by rw [List.map_cons, List.mem_cons]; exact fun h3 => h3.elim (fun h3 => h h3.symm) h2)]; rfl
theorem setM_nd {l : List Mk} (h : NdM l) (p : Nat) (x : Int) (hp : 1 ≤ p ∧ p ≤ 2147483647) : NdM (setM p x l) := by
  have hf := setM_fst p x l
  refine ⟨?_, fun e he => ?_⟩
  · rw [hf]
    split
    · exact h.nd
    · rename_i hn
      rw [List.nodup_append]
      exact ⟨h.nd, by simp, fun a ha b hb hab => hn (by rw [List.mem_singleton] at hb; rw [← hb, ← hab]; exact ha)⟩
  · have : e.1 ∈ (setM p x l).map (·.1) := List.mem_map.2 ⟨e, he, rfl⟩
    rw [hf] at this
    split at this
    · obtain ⟨y, hy, e1⟩ := List.mem_map.1 this
      rw [← e1]; exact h.ok y hy
    · rw [List.mem_append, List.mem_singleton] at this
      rcases this with h2 | h2
      · obtain ⟨y, hy, e1⟩ := List.mem_map.1 h2
        rw [← e1]; exact h.ok y hy
      · rw [h2]; exact hp
theorem setM_len (p : Nat) (x : Int) (l : List Mk) : (setM p x l).length ≤ l.length + 1 := by
  have := congrArg List.length (setM_fst p x l)
  rw [List.length_map] at this
  rw [this]
  split <;> simp
theorem lookM_cons (e : Mk) (l : List Mk) (q : Nat) : lookM (e :: l) q = if e.1 = q then e.2 else lookM l q := by
  unfold lookM
  rw [List.find?_cons]
  by_cases h : e.1 = q
  · rw [if_pos h, show (e.1 == q) = true from by simpa using h]; rfl
  · rw [if_neg h, show (e.1 == q) = false from by simpa using h]
theorem lookM_set (p : Nat) (x : Int) (q : Nat) : ∀ l : List Mk, lookM (setM p x l) q = if q = p then (x, (lookM l p).2) else lookM l q
  | [] => by
    rw [show setM p x [] = [(p, x, 0)] from rfl, lookM_cons]
    by_cases h : q = p
    · rw [if_pos h, if_pos h.symm]; rfl
    · rw [if_neg h, if_neg (fun e => h e.symm)]
  | e :: l => by
    unfold setM
    by_cases h : e.1 = p
    · rw [if_pos h, lookM_cons, lookM_cons, lookM_cons]
      by_cases h2 : q = p
      · rw [if_pos h2.symm, if_pos h2, if_pos h]
      · rw [if_neg (fun e => h2 e.symm), if_neg h2, if_neg (fun e' => h2 (by rw [← e', h]))]
    · rw [if_neg h, lookM_cons, lookM_cons, lookM_cons, lookM_set p x q l, if_neg h]
      by_cases h2 : q = p
      · rw [if_pos h2, if_neg (fun e' => h (by rw [e', h2])), if_pos h2]
      · rw [if_neg h2, if_neg h2]
/-- Marks that say what the notes say. -/
def Rm (N : Nat → Int × Int) (l : List Mk) : Prop := ∀ p, N p = lookM l p
theorem Rm.set {N : Nat → Int × Int} {l : List Mk} (h : Rm N l) (p : Nat) (x : Int) : Rm (upd N p (x, (N p).2)) (setM p x l) := fun q => by
  rw [lookM_set]
  unfold upd
  split
  · rw [h p]
  · exact h q
theorem seen0 : seen 0 = 0 := by decide
theorem lookM_told (q : Nat) : ∀ l : List Mk, lookM (l.map toldM) q = ((lookM l q).1, seen (lookM l q).1)
  | [] => by show (0, 0) = (0, seen 0); rw [seen0]
  | e :: l => by
    rw [List.map_cons, lookM_cons, lookM_cons, lookM_told q l]
    by_cases h : e.1 = q
    · rw [if_pos (show (toldM e).1 = q from h), if_pos h]; rfl
    · rw [if_neg (show ¬ (toldM e).1 = q from h), if_neg h]
theorem Rm.told {N : Nat → Int × Int} {l : List Mk} (h : Rm N l) : Rm (toldN N) (l.map toldM) := fun q => by
  rw [lookM_told, ← h q]
  rfl
theorem told_fst (l : List Mk) : (l.map toldM).map (·.1) = l.map (·.1) := by rw [List.map_map]; rfl
theorem told_nd {l : List Mk} (h : NdM l) : NdM (l.map toldM) := ⟨by rw [told_fst]; exact h.nd, fun e he => by
  obtain ⟨y, hy, rfl⟩ := List.mem_map.1 he
  exact h.ok y hy⟩
theorem chg_mem {N : Nat → Int × Int} {l : List Mk} (h : Rm N l) (hn : NdM l) (p : Nat) : p ∈ chg l ↔ seen (N p).1 ≠ (N p).2 := by
  unfold chg
  rw [List.mem_map]
  constructor
  · rintro ⟨e, he, rfl⟩
    obtain ⟨h1, h2⟩ := List.mem_filter.1 he
    obtain ⟨k, hk⟩ := List.getElem?_of_mem h1
    rw [h e.1, lookM_at hn hk]
    simpa using h2
  · intro hp
    rw [h p] at hp
    by_cases hm : ∃ e ∈ l, e.1 = p
    · obtain ⟨e, he, rfl⟩ := hm
      obtain ⟨k, hk⟩ := List.getElem?_of_mem he
      rw [lookM_at hn hk] at hp
      exact ⟨e, List.mem_filter.2 ⟨he, by simpa using hp⟩, rfl⟩
    · rw [lookM_no (fun e he h => hm ⟨e, he, h⟩)] at hp
      exact absurd seen0 hp
/-- What the board tells is what the document tells. -/
theorem tells_eq {N : Nat → Int × Int} {t : List (Int × Int)} {zs : List Nat} (h : Tells N t) (hs : (t.map Prod.fst).Pairwise (· ≤ ·)) (hz : zs.Pairwise (· < ·)) (hm : ∀ p, p ∈ zs ↔ seen (N p).1 ≠ (N p).2) : t = zs.map (fun p : Nat => ((p : Int), seen (N p).1)) := by
  have hfst : t.map Prod.fst = zs.map (fun p : Nat => (p : Int)) := by
    have h2 : (zs.map (fun p : Nat => (p : Int))).Pairwise (· < ·) := List.pairwise_map.2 (hz.imp fun {a b} h => by omega)
    refine List.Perm.eq_of_pairwise (le := (· ≤ ·)) (fun a b _ _ h1 h2 => Int.le_antisymm h1 h2) hs (h2.imp fun {a b} h => Int.le_of_lt h) ((List.perm_ext_iff_of_nodup h.1 (h2.imp fun {a b} h => Int.ne_of_lt h)).2 fun a => ?_)
    rw [List.mem_map, List.mem_map]
    constructor
    · rintro ⟨x, hx, rfl⟩
      obtain ⟨p, _, rfl, h4⟩ := h.2.1 x hx
      exact ⟨p, (hm p).2 h4, rfl⟩
    · rintro ⟨p, hp, rfl⟩
      exact ⟨_, h.2.2 p ((hm p).1 hp), rfl⟩
  have hlen : t.length = zs.length := by simpa using congrArg List.length hfst
  apply List.ext_getElem?
  intro i
  rw [List.getElem?_map]
  by_cases hi : i < t.length
  · have h1 : (t.map Prod.fst)[i]? = some (t[i]).1 := by simp [hi]
    rw [hfst, List.getElem?_map, List.getElem?_eq_getElem (by omega)] at h1
    simp only [Option.map_some, Option.some.injEq] at h1
    obtain ⟨p, _, h3, _⟩ := h.2.1 t[i] (List.getElem_mem _)
    rw [List.getElem?_eq_getElem hi, List.getElem?_eq_getElem (by omega), Option.map_some, Option.some.injEq, h3]
    have : p = zs[i] := by rw [h3] at h1; simp only at h1; omega
    rw [this]
  · rw [List.getElem?_eq_none (by omega), List.getElem?_eq_none (by omega)]
    rfl
end Go.Proofs.Ytaoejkbockcneaa.Bd
