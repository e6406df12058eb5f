/- The document's own answer for reading: the plain side: where the reading stands behind k letters. -/
import Derived.Test.YtkhhbmbjmfdgdaaDoorB12
namespace Go.Proofs.YtkhhbmbjmfdgdaaDoor
set_option maxRecDepth 4000
open Go.RowKit

theorem cutP_ok (b : List UInt8) (p m : Nat) (h : p + m ≤ b.length) : cutP (b.drop p, false) m = ((b.drop p).take m, (b.drop (p + m), false)) := by
  unfold cutP
  rw [if_neg (by simp; omega)]
  simp

theorem cutP_short (b : List UInt8) (p m : Nat) (hp : p ≤ b.length) (h : b.length < p + m) : (cutP (b.drop p, false) m).2.2 = true := by
  unfold cutP
  rw [if_pos (by simp; omega)]

/-- The j-th of the numbers of four bytes behind place p. -/
def num4 (b : List UInt8) (p j : Nat) : Nat := num ((b.drop (p + 4 * j)).take 4)

theorem nums_ok (b : List UInt8) (p n : Nat) (h : p + 4 * n ≤ b.length) : nums n (b.drop p, false) = ((List.range n).map (num4 b p), (b.drop (p + 4 * n), false)) := by
  induction n with
  | zero => simp [nums]
  | succ n ih =>
    have e := ih (by omega)
    simp only [nums, e, numP]
    rw [cutP_ok b (p + 4 * n) 4 (by omega)]
    rw [List.range_succ, List.map_append]
    simp [num4, Nat.mul_add, Nat.add_assoc]

theorem nums_short (b : List UInt8) (p n : Nat) (hp : p ≤ b.length) (h : b.length < p + 4 * n) : (nums n (b.drop p, false)).2.2 = true := by
  rcases hf : (nums n (b.drop p, false)).2.2 with _ | _
  · obtain ⟨_, h2⟩ := nums_took n _ hf
    have h3 := congrArg List.length h2
    rw [List.length_append, flat_len, nums_len] at h3
    simp at h3
    omega
  · rfl

/-- Behind k letters the reading stands at place p, nothing short, and has taken N, S, L. -/
structure Sr (l b : List UInt8) (k p : Nat) (N : List Nat) (S : List ByteArray) (L : List (List Nat)) : Prop where
  at' : gst (l.take k) b = ⟨(b.drop p, false), N, S, L⟩
  le : p ≤ b.length

theorem Sr.start (l b : List UInt8) : Sr l b 0 0 [] [] [] := ⟨by simp [gst], by omega⟩

theorem gst_next {l b : List UInt8} {k : Nat} (hk : k < l.length) : gst (l.take (k + 1)) b = gath (gst (l.take k) b) l[k] := by
  rw [List.take_succ_eq_append_getElem hk, gst_snoc]

/-- Once short, always short: the answer is 3. -/
theorem short_ends {l b : List UInt8} {k : Nat} (h0 : 0 ≤ least l) (h : (gst (l.take (k + 1)) b).r.2 = true) : readR l b = (3, [], [], []) := by
  have hs : (gst l b).r.2 = true := by
    rcases hf : (gst l b).r.2 with _ | _
    · have e : gst l b = (l.drop (k + 1)).foldl gath (gst (l.take (k + 1)) b) := by
        unfold gst
        rw [← List.foldl_append, List.take_append_drop]
      rw [e] at hf
      have := (fold_took _ _ hf).1
      rw [h] at this
      cases this
    · rfl
  unfold readR
  rw [if_neg (by omega), if_pos hs]

variable {l b : List UInt8} {k p : Nat} {N : List Nat} {S : List ByteArray} {L : List (List Nat)}

/-- The first look: the letter's own bytes are not there. -/
theorem Sr.short (h : Sr l b k p N S L) (hk : k < l.length) (h0 : 0 ≤ least l) (hw : (l[k].toNat = 115 ∨ l[k].toNat = 108) → wid l[k] = 1) (hp : b.length < p + wid l[k]) : readR l b = (3, [], [], []) := by
  refine short_ends (k := k) h0 ?_
  rw [gst_next hk, h.at']
  have hc := cutP_short b p (wid l[k]) h.le hp
  unfold gath
  by_cases h1 : l[k].toNat = 115
  · rw [if_pos h1]
    rw [hw (.inl h1)] at hc
    simp only [textP]
    rcases hf : (cutP (numP (b.drop p, false) 1).2 (numP (b.drop p, false) 1).1).2.2 with _ | _
    · have := (cut_took _ _ hf).1
      simp only [numP] at this
      rw [hc] at this
      cases this
    · rfl
  · rw [if_neg h1]
    by_cases h2 : l[k].toNat = 108
    · rw [if_pos h2]
      rw [hw (.inr h2)] at hc
      simp only [listP]
      rcases hf : (nums (numP (b.drop p, false) 1).1 (numP (b.drop p, false) 1).2).2.2 with _ | _
      · have := (nums_took _ _ hf).1
        simp only [numP] at this
        rw [hc] at this
        cases this
      · rfl
    · rw [if_neg h2]
      simpa [numP] using hc

theorem Sr.number (h : Sr l b k p N S L) (hk : k < l.length) (h1 : l[k].toNat ≠ 115) (h2 : l[k].toNat ≠ 108) (hp : p + wid l[k] ≤ b.length) :
    Sr l b (k + 1) (p + wid l[k]) (N ++ [num ((b.drop p).take (wid l[k]))]) S L := by
  refine ⟨?_, hp⟩
  rw [gst_next hk, h.at']
  unfold gath
  rw [if_neg h1, if_neg h2]
  simp only [numP]
  rw [cutP_ok b p _ hp]

theorem Sr.text_short (h : Sr l b k p N S L) (hk : k < l.length) (h0 : 0 ≤ least l) (h1 : l[k].toNat = 115) (hp : p + 1 ≤ b.length) (hn : b.length < p + 1 + num ((b.drop p).take 1)) : readR l b = (3, [], [], []) := by
  refine short_ends (k := k) h0 ?_
  rw [gst_next hk, h.at']
  unfold gath
  rw [if_pos h1]
  simp only [textP, numP]
  rw [cutP_ok b p 1 hp]
  exact cutP_short b (p + 1) _ hp hn

theorem Sr.text (h : Sr l b k p N S L) (hk : k < l.length) (h1 : l[k].toNat = 115) (hp : p + 1 ≤ b.length) (hn : p + 1 + num ((b.drop p).take 1) ≤ b.length) :
    Sr l b (k + 1) (p + 1 + num ((b.drop p).take 1)) N (S ++ [⟨((b.drop (p + 1)).take (num ((b.drop p).take 1))).toArray⟩]) L := by
  refine ⟨?_, hn⟩
  rw [gst_next hk, h.at']
  unfold gath
  rw [if_pos h1]
  simp only [textP, numP]
  rw [cutP_ok b p 1 hp]
  simp only
  rw [cutP_ok b (p + 1) _ hn]

theorem Sr.list_short (h : Sr l b k p N S L) (hk : k < l.length) (h0 : 0 ≤ least l) (h1 : l[k].toNat = 108) (hp : p + 1 ≤ b.length) (hn : b.length < p + 1 + 4 * num ((b.drop p).take 1)) : readR l b = (3, [], [], []) := by
  refine short_ends (k := k) h0 ?_
  rw [gst_next hk, h.at']
  unfold gath
  rw [if_neg (by omega), if_pos h1]
  simp only [listP, numP]
  rw [cutP_ok b p 1 hp]
  exact nums_short b (p + 1) _ hp hn

theorem Sr.list (h : Sr l b k p N S L) (hk : k < l.length) (h1 : l[k].toNat = 108) (hp : p + 1 ≤ b.length) (hn : p + 1 + 4 * num ((b.drop p).take 1) ≤ b.length) :
    Sr l b (k + 1) (p + 1 + 4 * num ((b.drop p).take 1)) N S (L ++ [(List.range (num ((b.drop p).take 1))).map (num4 b (p + 1))]) := by
  refine ⟨?_, hn⟩
  rw [gst_next hk, h.at']
  unfold gath
  rw [if_neg (by omega), if_pos h1]
  simp only [listP, numP]
  rw [cutP_ok b p 1 hp]
  simp only
  rw [nums_ok b (p + 1) _ hn]

theorem Sr.done (h : Sr l b k p N S L) (hk : l.length ≤ k) (h0 : 0 ≤ least l) : readR l b = if p < b.length then (4, [], [], []) else (0, N, S, L) := by
  have e := h.at'
  rw [List.take_of_length_le hk] at e
  have hp := h.le
  unfold readR
  rw [if_neg (by omega), e]
  by_cases h1 : p < b.length
  · rw [if_neg (by simp), if_pos (by simp; omega), if_pos h1]
  · rw [if_neg (by simp), if_neg (by simp; omega), if_neg h1]
end Go.Proofs.YtkhhbmbjmfdgdaaDoor
