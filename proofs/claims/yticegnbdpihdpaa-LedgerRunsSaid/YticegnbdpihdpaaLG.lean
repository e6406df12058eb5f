/- Ledger, plain: entries rising by their nonces; what each act does to them. -/
import Derived.Test.YticegnbdpihdpaaL7
namespace Go.Proofs.Yticegnbdpihdpaa
open Go.RowKit
set_option linter.unusedVariables false
set_option linter.unusedSimpArgs false

def Srt (L : List Ent) : Prop := L.Pairwise (fun a b => a.1 < b.1)
def anyN (L : List Ent) (n : Nat) : Bool := L.any (fun e => e.1 == n)
theorem anyN_iff {L : List Ent} {n : Nat} : anyN L n = true ↔ ∃ e ∈ L, e.1 = n := by simp [anyN]
def zeroE : Ent := (0, 0, 0, 0)
def getE (L : List Ent) (n : Nat) : Ent := (L.find? (fun e => e.1 == n)).getD zeroE
theorem getE_there {L : List Ent} (hs : Srt L) {e : Ent} (he : e ∈ L) : getE L e.1 = e := by
  unfold getE
  induction L with
  | nil => cases he
  | cons y l ih =>
    have hs' := List.pairwise_cons.1 hs
    rw [List.find?_cons]
    rcases List.mem_cons.1 he with rfl | hm
    · simp
    · have := hs'.1 e hm
      have h1 : (y.1 == e.1) = false := by simp; omega
      rw [h1]
      exact ih hs'.2 hm
theorem getE_not {L : List Ent} {n : Nat} (h : anyN L n = false) : getE L n = zeroE := by
  unfold getE
  rw [List.find?_eq_none.2]
  · rfl
  · intro e he hn
    have := any_no h e he
    simp at hn
    exact this hn
def delE (n : Nat) (L : List Ent) : List Ent := L.filter (fun e => e.1 != n)
def swE (now : Int) (L : List Ent) : List Ent := L.filter (fun e => decide (now ≤ e.2.2.2))
def insE (e : Ent) : List Ent → List Ent
  | [] => [e]
  | y :: l => if e.1 < y.1 then e :: y :: l else y :: insE e l
theorem insE_perm (e : Ent) : ∀ L, (insE e L).Perm (L ++ [e])
  | [] => List.Perm.refl _
  | y :: l => by
    unfold insE
    split
    · exact (List.perm_append_comm (l₁ := [e]) (l₂ := y :: l))
    · exact (insE_perm e l).cons y
theorem insE_len (e : Ent) (L : List Ent) : (insE e L).length = L.length + 1 := by have := (insE_perm e L).length_eq; simpa using this
theorem insE_mem {e y : Ent} {L : List Ent} : y ∈ insE e L ↔ y ∈ L ∨ y = e := by rw [(insE_perm e L).mem_iff]; simp
theorem insE_srt {e : Ent} : ∀ {L : List Ent}, Srt L → anyN L e.1 = false → Srt (insE e L)
  | [], _, _ => List.pairwise_singleton _ _
  | y :: l, hs, hn => by
    have hs' := List.pairwise_cons.1 hs
    have hne := any_no hn
    unfold insE
    split
    · rename_i h
      refine List.pairwise_cons.2 ⟨fun z hz => ?_, hs⟩
      rcases List.mem_cons.1 hz with rfl | hz
      · exact h
      · have := hs'.1 z hz
        omega
    · rename_i h
      refine List.pairwise_cons.2 ⟨fun z hz => ?_, insE_srt hs'.2 (by simpa [anyN] using fun a b c d hm => hne _ (List.mem_cons_of_mem _ hm))⟩
      rcases insE_mem.1 hz with hz | rfl
      · exact hs'.1 z hz
      · have := hne y (by simp)
        omega
theorem insE_end {e : Ent} : ∀ {L : List Ent}, (∀ y ∈ L, ¬ e.1 < y.1) → insE e L = L ++ [e]
  | [], _ => rfl
  | y :: l, h => by
    unfold insE
    rw [if_neg (h y (by simp)), insE_end (fun z hz => h z (by simp [hz]))]
    rfl
theorem insE_gt {e y : Ent} {L : List Ent} (h : ∀ z ∈ L, ¬ e.1 < z.1) (hy : e.1 < y.1) : insE e (L ++ [y]) = L ++ [e] ++ [y] := by
  induction L with
  | nil => simp [insE, hy]
  | cons z l ih =>
    rw [List.cons_append]
    unfold insE
    rw [if_neg (h z (by simp)), ih (fun x hx => h x (by simp [hx]))]
    rfl
theorem insE_snoc {e y : Ent} {L : List Ent} (h : ∃ z ∈ L, e.1 < z.1) : insE e (L ++ [y]) = insE e L ++ [y] := by
  induction L with
  | nil => obtain ⟨z, hz, _⟩ := h; cases hz
  | cons z l ih =>
    rw [List.cons_append]
    unfold insE
    split
    · rfl
    · rename_i hn
      obtain ⟨x, hx, hx2⟩ := h
      rcases List.mem_cons.1 hx with rfl | hx
      · exact absurd hx2 hn
      · rw [ih ⟨x, hx, hx2⟩]
        rfl
theorem delE_srt {n : Nat} {L : List Ent} (h : Srt L) : Srt (delE n L) := h.filter _
theorem swE_srt {now : Int} {L : List Ent} (h : Srt L) : Srt (swE now L) := h.filter _
theorem delE_not {n : Nat} {L : List Ent} (h : anyN L n = false) : delE n L = L := by
  unfold delE
  rw [List.filter_eq_self]
  intro e he
  simpa using any_no h e he
theorem delE_len {n : Nat} : ∀ {L : List Ent}, Srt L → (delE n L).length + (if anyN L n then 1 else 0) = L.length
  | [], _ => rfl
  | y :: l, hs => by
    have hs' := List.pairwise_cons.1 hs
    by_cases hy : y.1 = n
    · have hn : anyN l n = false := by
        rw [Bool.eq_false_iff]
        intro h
        obtain ⟨e, he, h2⟩ := anyN_iff.1 h
        have := hs'.1 e he
        omega
      have h1 := delE_not hn
      unfold delE at h1 ⊢
      rw [List.filter_cons]
      simp [hy, anyN, h1]
    · have := delE_len (n := n) hs'.2
      unfold delE anyN at this ⊢
      rw [List.filter_cons]
      have h3 : (y.1 != n) = true := by simp [hy]
      have h4 : (y.1 == n) = false := by simp [hy]
      rw [h3, List.any_cons, h4, Bool.false_or]
      simp only [if_true, List.length_cons]
      omega
theorem anyN_del {n m : Nat} {L : List Ent} : anyN (delE n L) m = (anyN L m && (m != n)) := by
  rw [Bool.eq_iff_iff, Bool.and_eq_true, anyN_iff, anyN_iff]
  constructor
  · rintro ⟨e, he, rfl⟩
    obtain ⟨h1, h2⟩ := List.mem_filter.1 he
    exact ⟨⟨e, h1, rfl⟩, h2⟩
  · rintro ⟨⟨e, he, rfl⟩, h2⟩
    exact ⟨e, List.mem_filter.2 ⟨he, h2⟩, rfl⟩
theorem Rep.perm {D : DataW Unit} {l l' : List Ent} (h : Rep D l) (hp : l.Perm l') : Rep D l' :=
  ⟨h.size.trans hp.length_eq, fun n => by rw [h.has, hp.any_eq], fun e he => h.at' e (hp.mem_iff.2 he)⟩
theorem Rep.del {D : DataW Unit} {l : List Ent} (h : Rep D l) (ht : Maps.Tidy D) (hs : Srt l) (n : Nat) : Rep (D.del (kl n)) (delE n l) := by
  refine ⟨?_, fun m => ?_, fun e he => ?_⟩
  · have h1 := Maps.size_del (k := kl n) ht
    have h2 := delE_len (n := n) hs
    have h3 : Maps.has D (kl n) = anyN l n := h.has n
    rw [h3] at h1
    have := h.size
    split at h1 <;> simp_all <;> omega
  · show Maps.has _ _ = anyN (delE n l) m
    rw [anyN_del]
    by_cases e : m = n
    · subst e
      rw [Maps.has_del_same]
      simp
    · rw [Maps.has_del_other (kl_ne e), h.has]
      simp [anyN, e]
  · obtain ⟨h1, h2⟩ := List.mem_filter.1 he
    rw [Maps.atKey_del_other (kl_ne (by simpa using h2))]
    exact h.at' e h1
theorem Rep.get {D : DataW Unit} {l : List Ent} (h : Rep D l) (hs : Srt l) (n : Nat) : Maps.has D (kl n) = anyN l n ∧ D.atKey (kl n) (eD 0 0 0 0) = eDe (getE l n) := by
  refine ⟨h.has n, ?_⟩
  cases hn : anyN l n with
  | true =>
    obtain ⟨e, he, rfl⟩ := anyN_iff.1 hn
    rw [getE_there hs he]
    exact h.at' e he
  | false =>
    rw [getE_not hn]
    exact Maps.atKey_of_not_has (by rw [h.has]; exact hn) _
end Go.Proofs.Yticegnbdpihdpaa
