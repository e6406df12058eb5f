/- What is written is read as it was: the plain side. -/
import Derived.Test.YtaefgieodehceaaDoorB10
namespace Go.Proofs.YtaefgieodehceaaDoor
set_option maxRecDepth 4000
open Go.RowKit

theorem cut_front (x y : List UInt8) (b : Bool) : cutP (x ++ y, b) x.length = (x, (y, b)) := by
  unfold cutP
  rw [if_neg (by simp)]
  simp

theorem num_front (m n : Nat) (y : List UInt8) (b : Bool) (hn : n < 256 ^ m) : numP (be m n ++ y, b) m = (n, (y, b)) := by
  have h := cut_front (be m n) y b
  rw [be_length] at h
  simp only [numP, h, num_be, Nat.mod_eq_of_lt hn]

theorem nums_front (u : List Nat) (y : List UInt8) (b : Bool) (hu : ∀ n ∈ u, n < 4294967296) : nums u.length (u.flatMap (be 4) ++ y, b) = (u, (y, b)) := by
  have key : ∀ (t : List Nat) (z : List UInt8), (∀ n ∈ t.reverse, n < 4294967296) → nums t.length (t.reverse.flatMap (be 4) ++ z, b) = (t.reverse, (z, b)) := by
    intro t
    induction t with
    | nil => intro z _; rfl
    | cons n t ih =>
      intro z hn
      rw [List.reverse_cons, List.flatMap_append, List.flatMap_cons, List.flatMap_nil, List.append_nil, List.append_assoc, List.length_cons]
      simp only [nums]
      rw [ih (be 4 n ++ z) (fun m hm => hn m (by simp at hm ⊢; exact .inl hm))]
      simp only
      rw [num_front 4 n z b (by have := hn n (by simp); omega)]
  have := key u.reverse y (by rw [List.reverse_reverse]; exact hu)
  rwa [List.reverse_reverse, List.length_reverse] at this

theorem fold_enc : ∀ (l : List UInt8) (N : List Nat) (S : List ByteArray) (L : List (List Nat)) (x y : List UInt8) (N0 : List Nat) (S0 : List ByteArray) (L0 : List (List Nat)),
    enc l N S L = some x → okM l N.length S.length L.length = true → (∀ u ∈ L, ∀ n ∈ u, n < 4294967296) →
    l.foldl gath ⟨(x ++ y, false), N0, S0, L0⟩ = ⟨(y, false), N0 ++ N, S0 ++ S, L0 ++ L⟩
  | [], N, S, L, x, y, N0, S0, L0, he, hk, _ => by
    simp [enc] at he
    subst he
    simp [okM] at hk
    obtain ⟨h1, h2, h3⟩ := hk
    subst h1 h2 h3
    simp
  | c :: l, N, S, L, x, y, N0, S0, L0, he, hk, hu => by
    simp only [List.foldl_cons]
    unfold enc at he
    by_cases hc : c.toNat = 115
    · have hc' : c = 115 := UInt8.toNat_inj.1 (by simpa using hc)
      rw [if_pos hc] at he
      cases S with
      | nil => simp at he
      | cons s S =>
        simp only at he
        by_cases hs : s.size ≤ 255
        · rw [if_pos hs] at he
          cases hx : enc l N S L with
          | none => rw [hx] at he; simp at he
          | some z =>
            rw [hx] at he
            simp at he
            subst he
            have hz : s.data.toList.length = s.size := by simp
            have ht : textP ((be 1 s.size ++ (s.data.toList ++ z)) ++ y, false) = (s.data.toList, (z ++ y, false)) := by
              unfold textP
              rw [List.append_assoc, num_front 1 s.size _ false (by omega)]
              simp only
              rw [List.append_assoc, ← hz]
              exact cut_front s.data.toList (z ++ y) false
            have hg : gath ⟨((be 1 s.size ++ (s.data.toList ++ z)) ++ y, false), N0, S0, L0⟩ c = ⟨(z ++ y, false), N0, S0 ++ [s], L0⟩ := by
              unfold gath
              rw [if_pos hc]
              simp only [ht]
            rw [hg]
            rw [fold_enc l N S L z y N0 (S0 ++ [s]) L0 hx (by subst hc'; simp [okM] at hk ⊢; omega) hu]
            simp
        · rw [if_neg hs] at he
          cases he
    · rw [if_neg hc] at he
      by_cases hc2 : c.toNat = 108
      · have hc' : c = 108 := UInt8.toNat_inj.1 (by simpa using hc2)
        rw [if_pos hc2] at he
        cases L with
        | nil => simp at he
        | cons u L =>
          simp only at he
          by_cases hs : u.length ≤ 255
          · rw [if_pos hs] at he
            cases hx : enc l N S L with
            | none => rw [hx] at he; simp at he
            | some z =>
              rw [hx] at he
              simp only [Option.map_some, Option.some.injEq] at he
              subst he
              have ht : listP ((be 1 u.length ++ u.flatMap (be 4) ++ z) ++ y, false) = (u, (z ++ y, false)) := by
                unfold listP
                rw [List.append_assoc, List.append_assoc, num_front 1 u.length _ false (by omega)]
                exact nums_front u (z ++ y) false (hu u (by simp))
              have hg : gath ⟨((be 1 u.length ++ u.flatMap (be 4) ++ z) ++ y, false), N0, S0, L0⟩ c = ⟨(z ++ y, false), N0, S0, L0 ++ [u]⟩ := by
                unfold gath
                rw [if_neg hc, if_pos hc2]
                simp only [ht]
              rw [hg]
              rw [fold_enc l N S L z y N0 S0 (L0 ++ [u]) hx (by subst hc'; simp [okM] at hk ⊢; omega) (fun v hv => hu v (by simp [hv]))]
              simp
          · rw [if_neg hs] at he
            cases he
      · rw [if_neg hc2] at he
        cases N with
        | nil => simp at he
        | cons n N =>
          simp only at he
          by_cases hs : n < 2 ^ (8 * wid c)
          · rw [if_pos hs] at he
            cases hx : enc l N S L with
            | none => rw [hx] at he; simp at he
            | some z =>
              rw [hx] at he
              simp only [Option.map_some, Option.some.injEq] at he
              subst he
              have ht : numP ((be (wid c) n ++ z) ++ y, false) (wid c) = (n, (z ++ y, false)) := by
                rw [List.append_assoc]
                exact num_front (wid c) n (z ++ y) false (by rw [Nat.pow_mul] at hs; exact hs)
              have hg : gath ⟨((be (wid c) n ++ z) ++ y, false), N0, S0, L0⟩ c = ⟨(z ++ y, false), N0 ++ [n], S0, L0⟩ := by
                unfold gath
                rw [if_neg hc, if_neg hc2]
                simp only [ht]
              rw [hg]
              have e1 : (c == 115) = false := by rw [beq_eq_false_iff_ne]; intro e; exact hc (by rw [e]; rfl)
              have e2 : (c == 108) = false := by rw [beq_eq_false_iff_ne]; intro e; exact hc2 (by rw [e]; rfl)
              rw [fold_enc l N S L z y (N0 ++ [n]) S0 L0 hx (by simp [okM, List.count_cons, e1, e2] at hk ⊢; omega) hu]
              simp
          · rw [if_neg hs] at he
            cases he

theorem enc_len : ∀ (l : List UInt8) (N : List Nat) (S : List ByteArray) (L : List (List Nat)) (x : List UInt8) (n : Nat), enc l N S L = some x → sumW l = some n → n ≤ x.length
  | [], N, S, L, x, n, _, hn => by simp [sumW] at hn; omega
  | c :: l, N, S, L, x, n, he, hn => by
    simp only [sumW] at hn
    split at hn
    · cases hn
    · cases hm : sumW l with
      | none => rw [hm] at hn; simp at hn
      | some m =>
        rw [hm] at hn
        simp at hn
        unfold enc at he
        by_cases hc : c.toNat = 115
        · have hw : wid c = 1 := by unfold wid; rw [if_neg (by omega), if_pos hc]
          rw [if_pos hc] at he
          cases S with
          | nil => simp at he
          | cons s S =>
            simp only at he
            split at he
            · cases hx : enc l N S L with
              | none => rw [hx] at he; simp at he
              | some z =>
                rw [hx] at he
                simp only [Option.map_some, Option.some.injEq] at he
                subst he
                have := enc_len l N S L z m hx hm
                simp [be_length]
                omega
            · cases he
        · rw [if_neg hc] at he
          by_cases hc2 : c.toNat = 108
          · have hw : wid c = 1 := by unfold wid; rw [if_neg (by omega), if_neg hc, if_pos hc2]
            rw [if_pos hc2] at he
            cases L with
            | nil => simp at he
            | cons u L =>
              simp only at he
              split at he
              · cases hx : enc l N S L with
                | none => rw [hx] at he; simp at he
                | some z =>
                  rw [hx] at he
                  simp only [Option.map_some, Option.some.injEq] at he
                  subst he
                  have := enc_len l N S L z m hx hm
                  rw [List.length_append, List.length_append, be_length]
                  omega
              · cases he
          · rw [if_neg hc2] at he
            cases N with
            | nil => simp at he
            | cons v N =>
              simp only at he
              split at he
              · cases hx : enc l N S L with
                | none => rw [hx] at he; simp at he
                | some z =>
                  rw [hx] at he
                  simp only [Option.map_some, Option.some.injEq] at he
                  subst he
                  have := enc_len l N S L z m hx hm
                  rw [List.length_append, be_length]
                  omega
              · cases he

/-- What is written is read as it was; and it has at least the shape's bytes. -/
theorem read_write (l : List UInt8) (N : List Nat) (S : List ByteArray) (L : List (List Nat)) (b : List UInt8) (h : writeR l N S L = (b, 0)) (hu : ∀ u ∈ L, ∀ n ∈ u, n < 4294967296) :
    readR l b = (0, N, S, L) ∧ least l ≤ (b.length : Int) := by
  unfold writeR at h
  split at h
  · rename_i hk
    cases hx : enc l N S L with
    | none => rw [hx] at h; simp at h
    | some x =>
      rw [hx] at h
      simp at h
      subst h
      have hf := fold_enc l N S L x [] [] [] [] hx hk.2 hu
      simp only [List.append_nil, List.nil_append] at hf
      refine ⟨?_, ?_⟩
      · unfold readR gst
        rw [hf, if_neg (by omega)]
        simp
      · unfold least
        split
        · omega
        · cases hs : sumW l with
          | none => simp
          | some n =>
            have := enc_len l N S L x n hx hs
            simp
            omega
  · simp at h

theorem write_codes (l : List UInt8) (N : List Nat) (S : List ByteArray) (L : List (List Nat)) : (∃ b, writeR l N S L = (b, 0)) ∨ writeR l N S L = ([], 1) ∨ writeR l N S L = ([], 2) := by
  unfold writeR
  split
  · cases hx : enc l N S L with
    | none => simp
    | some x => simp
  · simp
end Go.Proofs.YtaefgieodehceaaDoor
