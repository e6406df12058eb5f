/- The bytes of any fields by any shape, by the document's own answer: a contract for the reference's Write. -/
import Derived.Test.YtkhhbmbjmfdgdaaC1
import Derived.Deep.AppendLies
namespace Go.Proofs.Ytkhhbmbjmfdgdaa
set_option maxRecDepth 4000
open Go.RowKit

/-- Where the loop stands behind k letters. -/
structure Sw (l : List UInt8) (res : Option (List UInt8)) (k : Nat) (out : List UInt8) (N : List Nat) (S : List ByteArray) (L : List (List Nat)) (n s t : Nat) : Prop where
  ok : okM (l.drop k) (N.length - n) (S.length - s) (L.length - t) = true
  en : res = (enc (l.drop k) (N.drop n) (S.drop s) (L.drop t)).map (out ++ ·)

theorem Sw.text {l : List UInt8} {res : Option (List UInt8)} {k : Nat} {out : List UInt8} {N : List Nat} {S : List ByteArray} {L : List (List Nat)} {n s t : Nat} (h : Sw l res k out N S L n s t)
    (hk : k < l.length) (hc : l[k].toNat = 115) :
    ∃ hs : s < S.length, (255 < S[s].size → res = none) ∧ (S[s].size ≤ 255 → Sw l res (k + 1) (out ++ (be 1 S[s].size ++ S[s].data.toList)) N S L n (s + 1) t) := by
  have hd : l.drop k = l[k] :: l.drop (k + 1) := List.drop_eq_getElem_cons hk
  have hc' : l[k] = 115 := UInt8.toNat_inj.1 (by simpa using hc)
  obtain ⟨hok, hen⟩ := h
  rw [hd] at hok hen
  simp only [okM, decide_eq_true_eq, List.count_cons, hc', List.length_cons] at hok
  have h108 : ((115 : UInt8) == 108) = false := rfl
  rw [h108] at hok
  simp at hok
  have hs : s < S.length := by omega
  rw [List.drop_eq_getElem_cons hs] at hen
  unfold enc at hen
  rw [if_pos hc] at hen
  simp only at hen
  refine ⟨hs, fun hb => ?_, fun hb => ⟨?_, ?_⟩⟩
  · rw [hen, if_neg (by omega)]
    rfl
  · simp only [okM, decide_eq_true_eq, List.length_drop]
    omega
  · rw [hen, if_pos hb]
    cases enc (l.drop (k + 1)) (N.drop n) (S.drop (s + 1)) (L.drop t) <;> simp

theorem Sw.list {l : List UInt8} {res : Option (List UInt8)} {k : Nat} {out : List UInt8} {N : List Nat} {S : List ByteArray} {L : List (List Nat)} {n s t : Nat} (h : Sw l res k out N S L n s t)
    (hk : k < l.length) (hc : l[k].toNat = 108) :
    ∃ ht : t < L.length, (255 < L[t].length → res = none) ∧ (L[t].length ≤ 255 → Sw l res (k + 1) (out ++ (be 1 L[t].length ++ L[t].flatMap (be 4))) N S L n s (t + 1)) := by
  have hd : l.drop k = l[k] :: l.drop (k + 1) := List.drop_eq_getElem_cons hk
  have hc' : l[k] = 108 := UInt8.toNat_inj.1 (by simpa using hc)
  obtain ⟨hok, hen⟩ := h
  rw [hd] at hok hen
  simp only [okM, decide_eq_true_eq, List.count_cons, hc', List.length_cons] at hok
  have h108 : ((108 : UInt8) == 115) = false := rfl
  rw [h108] at hok
  simp at hok
  have ht : t < L.length := by omega
  rw [List.drop_eq_getElem_cons ht] at hen
  unfold enc at hen
  rw [if_neg (by omega), if_pos hc] at hen
  simp only at hen
  refine ⟨ht, fun hb => ?_, fun hb => ⟨?_, ?_⟩⟩
  · rw [hen, if_neg (by omega)]
    rfl
  · simp only [okM, decide_eq_true_eq, List.length_drop]
    omega
  · rw [hen, if_pos hb]
    cases enc (l.drop (k + 1)) (N.drop n) (S.drop s) (L.drop (t + 1)) <;> simp

theorem Sw.number {l : List UInt8} {res : Option (List UInt8)} {k : Nat} {out : List UInt8} {N : List Nat} {S : List ByteArray} {L : List (List Nat)} {n s t : Nat} (h : Sw l res k out N S L n s t)
    (hk : k < l.length) (hc : l[k].toNat ≠ 115) (hc2 : l[k].toNat ≠ 108) :
    ∃ hn : n < N.length, (2 ^ (8 * wid l[k]) ≤ N[n] → res = none) ∧ (N[n] < 2 ^ (8 * wid l[k]) → Sw l res (k + 1) (out ++ be (wid l[k]) N[n]) N S L (n + 1) s t) := by
  have hd : l.drop k = l[k] :: l.drop (k + 1) := List.drop_eq_getElem_cons hk
  obtain ⟨hok, hen⟩ := h
  rw [hd] at hok hen
  have e1 : (l[k] == 115) = false := by rw [beq_eq_false_iff_ne]; intro e; exact hc (by rw [e]; rfl)
  have e2 : (l[k] == 108) = false := by rw [beq_eq_false_iff_ne]; intro e; exact hc2 (by rw [e]; rfl)
  simp only [okM, decide_eq_true_eq, List.count_cons, e1, e2, List.length_cons] at hok
  simp at hok
  have hct := count_two (l.drop (k + 1))
  simp at hct
  have hn : n < N.length := by omega
  rw [List.drop_eq_getElem_cons hn] at hen
  unfold enc at hen
  rw [if_neg hc, if_neg hc2] at hen
  simp only at hen
  refine ⟨hn, fun hb => ?_, fun hb => ⟨?_, ?_⟩⟩
  · rw [hen, if_neg (by omega)]
    rfl
  · simp only [okM, decide_eq_true_eq]
    simp
    omega
  · rw [hen, if_pos hb]
    cases enc (l.drop (k + 1)) (N.drop (n + 1)) (S.drop s) (L.drop t) <;> simp

end Go.Proofs.Ytkhhbmbjmfdgdaa
