/- The bytes of any fields by any shape, by the document's own answer: a contract for the reference's Write. -/
import Derived.Test.YtkhhbmbjmfdgdaaDoorC1
import Derived.Deep.AppendLies
namespace Go.Proofs.YtkhhbmbjmfdgdaaDoor
set_option maxRecDepth 4000
open Go.RowKit

/-- Where the loop stands behind k letters. -/
structure Sw (l : List UInt8) (res : Option (List UInt8)) (k : Nat) (out : List UInt8) (N : List Nat) (S : List ByteArray) (L : List (List Nat)) (n s t : Nat) : Prop where
  ok : okM (l.drop k) (N.length - n) (S.length - s) (L.length - t) = true
  en : res = (enc (l.drop k) (N.drop n) (S.drop s) (L.drop t)).map (out ++ ·)

theorem Sw.text {l : List UInt8} {res : Option (List UInt8)} {k : Nat} {out : List UInt8} {N : List Nat} {S : List ByteArray} {L : List (List Nat)} {n s t : Nat} (h : Sw l res k out N S L n s t)
    (hk : k < l.length) (hc : l[k].toNat = 115) :
    ∃ hs : s < S.length, (255 < S[s].size → res = none) ∧ (S[s].size ≤ 255 → Sw l res (k + 1) (out ++ (be 1 S[s].size ++ S[s].data.toList)) N S L n (s + 1) t) := by
  have hd : l.drop k = l[k] :: l.drop (k + 1) := List.drop_eq_getElem_cons hk
  have hc' : l[k] = 115 := UInt8.toNat_inj.1 (by simpa using hc)
  obtain ⟨hok, hen⟩ := h
  rw [hd] at hok hen
  simp only [okM, decide_eq_true_eq, List.count_cons, hc', List.length_cons] at hok
  have h108 : ((115 : UInt8) == 108) = false := rfl
  rw [h108] at hok
  simp at hok
  have hs : s < S.length := by omega
  rw [List.drop_eq_getElem_cons hs] at hen
  unfold enc at hen
  rw [if_pos hc] at hen
  simp only at hen
  refine ⟨hs, fun hb => ?_, fun hb => ⟨?_, ?_⟩⟩
  · rw [hen, if_neg (by omega)]
    rfl
  · simp only [okM, decide_eq_true_eq, List.length_drop]
    omega
  · rw [hen, if_pos hb]
    cases enc (l.drop (k + 1)) (N.drop n) (S.drop (s + 1)) (L.drop t) <;> simp

theorem Sw.list {l : List UInt8} {res : Option (List UInt8)} {k : Nat} {out : List UInt8} {N : List Nat} {S : List ByteArray} {L : List (List Nat)} {n s t : Nat} (h : Sw l res k out N S L n s t)
    (hk : k < l.length) (hc : l[k].toNat = 108) :
    ∃ ht : t < L.length, (255 < L[t].length → res = none) ∧ (L[t].length ≤ 255 → Sw l res (k + 1) (out ++ (be 1 L[t].length ++ L[t].flatMap (be 4))) N S L n s (t + 1)) := by
  have hd : l.drop k = l[k] :: l.drop (k + 1) := List.drop_eq_getElem_cons hk
  have hc' : l[k] = 108 := UInt8.toNat_inj.1 (by simpa using hc)
  obtain ⟨hok, hen⟩ := h
  rw [hd] at hok hen
  simp only [okM, decide_eq_true_eq, List.count_cons, hc', List.length_cons] at hok
  have h108 : ((108 : UInt8) == 115) = false := rfl
  rw [h108] at hok
  simp at hok
  have ht : t < L.length := by omega
  rw [List.drop_eq_getElem_cons ht] at hen
  unfold enc at hen
  rw [if_neg (by omega), if_pos hc] at hen
  simp only at hen
  refine ⟨ht, fun hb => ?_, fun hb => ⟨?_, ?_⟩⟩
  · rw [hen, if_neg (by omega)]
    rfl
  · simp only [okM, decide_eq_true_eq, List.length_drop]
    omega
  · rw [hen, if_pos hb]
    cases enc (l.drop (k + 1)) (N.drop n) (S.drop s) (L.drop (t + 1)) <;> simp

theorem Sw.number {l : List UInt8} {res : Option (List UInt8)} {k : Nat} {out : List UInt8} {N : List Nat} {S : List ByteArray} {L : List (List Nat)} {n s t : Nat} (h : Sw l res k out N S L n s t)
    (hk : k < l.length) (hc : l[k].toNat ≠ 115) (hc2 : l[k].toNat ≠ 108) :
    ∃ hn : n < N.length, (2 ^ (8 * wid l[k]) ≤ N[n] → res = none) ∧ (N[n] < 2 ^ (8 * wid l[k]) → Sw l res (k + 1) (out ++ be (wid l[k]) N[n]) N S L (n + 1) s t) := by
  have hd : l.drop k = l[k] :: l.drop (k + 1) := List.drop_eq_getElem_cons hk
  obtain ⟨hok, hen⟩ := h
  rw [hd] at hok hen
  have e1 : (l[k] == 115) = false := by rw [beq_eq_false_iff_ne]; intro e; exact hc (by rw [e]; rfl)
  have e2 : (l[k] == 108) = false := by rw [beq_eq_false_iff_ne]; intro e; exact hc2 (by rw [e]; rfl)
  simp only [okM, decide_eq_true_eq, List.count_cons, e1, e2, List.length_cons] at hok
  simp at hok
  have hct := count_two (l.drop (k + 1))
  simp at hct
  have hn : n < N.length := by omega
  rw [List.drop_eq_getElem_cons hn] at hen
  unfold enc at hen
  rw [if_neg hc, if_neg hc2] at hen
  simp only at hen
  refine ⟨hn, fun hb => ?_, fun hb => ⟨?_, ?_⟩⟩
  · rw [hen, if_neg (by omega)]
    rfl
  · simp only [okM, decide_eq_true_eq]
    simp
    omega
  · rw [hen, if_pos hb]
    cases enc (l.drop (k + 1)) (N.drop (n + 1)) (S.drop s) (L.drop t) <;> simp

set_option maxHeartbeats 2000000 in
set_option maxRecDepth 4000 in
theorem rwrite_shape (s : ByteArray) (aN aS aL : Option Addr) (nN nS nL cN cS cL : Nat) (w : World) (hs : s.size ≤ 100)
    (h : ¬ (0 ≤ least s.data.toList ∧ okM s.data.toList nN nS nL = true)) :
    Calls Tryd.prog 33 #[.string s, .agg #[.slice aN nN cN, .slice aS nS cS, .slice aL nL cL]] w fun e w' =>
      e = .returned (.tuple #[.slice none 0 0, .int .i64 1]) ∧ Below w.heap.size w w' := by
  have hb0 := (Below.refl w.heap.size w).alloc (Nat.le_refl _)
  have hz : s.data.toList.length = s.size := by simp
  have hct := count_two s.data.toList
  obtain ⟨z, hz1⟩ : ∃ z, z = least s.data.toList := ⟨_, rfl⟩
  obtain ⟨ct, hct1⟩ : ∃ ct, ct = s.data.toList.count 115 := ⟨_, rfl⟩
  obtain ⟨cl, hcl1⟩ : ∃ cl, cl = s.data.toList.count 108 := ⟨_, rfl⟩
  have h0 : ¬ (0 ≤ z ∧ nS = ct ∧ nL = cl ∧ nN + ct + cl = s.size) := by
    rw [hz1, hct1, hcl1]
    intro hh
    exact h ⟨hh.1, by simp only [okM, decide_eq_true_eq]; rw [hz]; exact hh.2⟩
  have c1 := fun W => rcount_any s 115 W (by omega)
  have c2 := fun W => rcount_any s 108 W (by omega)
  have c3 := fun W => rleast_any s W
  rw [← hct1] at c1
  rw [← hcl1] at c2
  rw [← hz1] at c3
  rw [← hct1, ← hcl1, hz] at hct
  have C1 := Lib.hid c1
  have C2 := Lib.hid c2
  have C3 := Lib.hid c3
  have H0 := Lib.hid h0
  clear c1 c2 c3 hct1 hcl1 hz1 hz h h0
  go_enter Tryd.func33, Tryd.ntmps33
  go_wp2_with fail
  refine (C1.out _).mono ?_
  rintro e w' ⟨rfl, rfl⟩
  go_wp2_with fail
  refine (C2.out _).mono ?_
  rintro e w' ⟨rfl, rfl⟩
  go_wp2_with fail
  refine (C3.out _).mono ?_
  rintro e w1 ⟨rfl, hb1⟩
  have hbx := (hb0 _).trans (hb1.mono (by simp))
  have hF := (hb1.block w.heap.size (by simp)).trans (heap_alloc_new w _)
  have g0 := cell_of_row w1 w.heap.size 0 _ _ _ hF
  have g1 := cell_of_row w1 w.heap.size 1 _ _ _ hF
  have g2 := cell_of_row w1 w.heap.size 2 _ _ _ hF
  simp at g0 g1 g2
  clear hF
  by_cases h1 : z < 0
  · go_wp2
    go_ret2
    exact ⟨rfl, hbx⟩
  · have h1' : decide (z < 0) = false := by simpa using h1
    have H1 : Hid (¬ (nS = ct ∧ nL = cl ∧ nN + ct + cl = s.size)) := fun hh => H0.out ⟨by omega, hh⟩
    clear h1
    by_cases g1 : nS = ct
    · have t1 : ((nS : Int) != (ct : Int)) = false := by simp; omega
      by_cases g2 : nL = cl
      · have t2 : ((nL : Int) != (cl : Int)) = false := by simp; omega
        have t3 : ((nN : Int) != (s.size : Int) - (ct : Int) - (cl : Int)) = true := by
          have := H1.out
          rw [bne_iff_ne]
          omega
        clear g1 g2
        go_wp2
        go_ret2
        exact ⟨rfl, hbx⟩
      · have t2 : ((nL : Int) != (cl : Int)) = true := by rw [bne_iff_ne]; omega
        clear g1 g2
        go_wp2
        go_ret2
        exact ⟨rfl, hbx⟩
    · have t1 : ((nS : Int) != (ct : Int)) = true := by rw [bne_iff_ne]; omega
      clear g1
      go_wp2
      go_ret2
      exact ⟨rfl, hbx⟩

end Go.Proofs.YtkhhbmbjmfdgdaaDoor
