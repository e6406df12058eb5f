/- What is read is written as it was, and what is written is read as it was: the plain side. -/
import Derived.Test.YtaefgieodehceaaDoorB6
namespace Go.Proofs.YtaefgieodehceaaDoor
set_option maxRecDepth 4000
open Go.RowKit

theorem be_snoc (m n : Nat) (c : UInt8) : be (m + 1) (n * 256 + c.toNat) = be m n ++ [c] := by
  have hc := c.toNat_lt
  unfold be
  rw [beT_succ]
  congr 1
  · unfold beT
    apply List.map_congr_left
    intro j hj
    have hj' : j < m := List.mem_range.1 hj
    unfold beAt
    have e : 8 * (m + 1 - 1 - j) = 8 * (m - 1 - j) + 8 := by omega
    rw [e, Nat.pow_add, Nat.mul_comm (2 ^ (8 * (m - 1 - j))), ← Nat.div_div_eq_div_mul]
    congr 2
    have : (n * 256 + c.toNat) / 2 ^ 8 = n := by omega
    rw [this]
  · unfold beAt
    have e : 8 * (m + 1 - 1 - m) = 0 := by omega
    rw [e]
    congr 1
    rw [← UInt8.toNat_inj]
    simp

theorem sz_mk (x : List UInt8) : (⟨x.toArray⟩ : ByteArray).size = x.length := by
  show x.toArray.size = x.length
  simp

theorem be_num (x : List UInt8) : be x.length (num x) = x := by
  rw [← List.reverse_reverse x]
  induction x.reverse with
  | nil => rfl
  | cons c l ih => rw [List.reverse_cons, num_snoc, List.length_append, List.length_singleton, be_snoc, ih]

theorem cut_took (r : Rs) (m : Nat) (h : (cutP r m).2.2 = false) : r.2 = false ∧ (cutP r m).1.length = m ∧ r.1 = (cutP r m).1 ++ (cutP r m).2.1 := by
  unfold cutP at h ⊢
  by_cases hm : r.1.length < m
  · simp [hm] at h
  · simp only [hm, if_false] at h ⊢
    exact ⟨h, by simp; omega, (List.take_append_drop m r.1).symm⟩

theorem num_took (r : Rs) (m : Nat) (h : (numP r m).2.2 = false) : r.2 = false ∧ r.1 = be m (numP r m).1 ++ (numP r m).2.1 ∧ (numP r m).1 < 2 ^ (8 * m) := by
  obtain ⟨h1, h2, h3⟩ := cut_took r m h
  have hb := be_num (cutP r m).1
  have hl := num_lt (cutP r m).1
  rw [h2] at hb hl
  refine ⟨h1, ?_, ?_⟩
  · simp only [numP]
    rw [hb]
    exact h3
  · simp only [numP]
    rw [Nat.pow_mul]
    exact hl

theorem text_took (r : Rs) (h : (textP r).2.2 = false) : r.2 = false ∧ (textP r).1.length ≤ 255 ∧ r.1 = (be 1 (textP r).1.length ++ (textP r).1) ++ (textP r).2.1 := by
  unfold textP at h ⊢
  obtain ⟨h1, h2, h3⟩ := cut_took _ _ h
  obtain ⟨h4, h5, h6⟩ := num_took r 1 h1
  refine ⟨h4, by rw [h2]; omega, ?_⟩
  rw [h2, List.append_assoc, ← h3]
  exact h5

theorem nums_took (k : Nat) (r : Rs) (h : (nums k r).2.2 = false) : r.2 = false ∧ r.1 = (nums k r).1.flatMap (be 4) ++ (nums k r).2.1 := by
  induction k with
  | zero => exact ⟨h, rfl⟩
  | succ k ih =>
    simp only [nums] at h ⊢
    obtain ⟨h1, h2, _⟩ := num_took _ 4 h
    obtain ⟨h3, h4⟩ := ih h1
    refine ⟨h3, ?_⟩
    rw [List.flatMap_append, List.flatMap_cons, List.flatMap_nil, List.append_nil, List.append_assoc, ← h2]
    exact h4

theorem list_took (r : Rs) (h : (listP r).2.2 = false) : r.2 = false ∧ (listP r).1.length ≤ 255 ∧ r.1 = (be 1 (listP r).1.length ++ (listP r).1.flatMap (be 4)) ++ (listP r).2.1 := by
  unfold listP at h ⊢
  obtain ⟨h1, h2⟩ := nums_took _ _ h
  obtain ⟨h4, h5, h6⟩ := num_took r 1 h1
  refine ⟨h4, by rw [nums_len]; omega, ?_⟩
  rw [nums_len, List.append_assoc, ← h2]
  exact h5

theorem okM_cons (c : UInt8) (l : List UInt8) (nN nS nL : Nat) (h : okM l nN nS nL = true) :
    (c.toNat = 115 → okM (c :: l) nN (nS + 1) nL = true) ∧ (c.toNat = 108 → okM (c :: l) nN nS (nL + 1) = true) ∧ (c.toNat ≠ 115 → c.toNat ≠ 108 → okM (c :: l) (nN + 1) nS nL = true) := by
  simp only [okM, decide_eq_true_eq] at h ⊢
  refine ⟨fun hc => ?_, fun hc => ?_, fun h1 h2 => ?_⟩
  · have hc' : c = 115 := UInt8.toNat_inj.1 (by simpa using hc)
    subst hc'
    simp
    omega
  · have hc' : c = 108 := UInt8.toNat_inj.1 (by simpa using hc)
    subst hc'
    simp
    omega
  · have e1 : (c == 115) = false := by rw [beq_eq_false_iff_ne]; intro e; exact h1 (by rw [e]; rfl)
    have e2 : (c == 108) = false := by rw [beq_eq_false_iff_ne]; intro e; exact h2 (by rw [e]; rfl)
    simp [List.count_cons, e1, e2]
    omega

/-- What the letters take of the bytes is what their fields are written as. -/
theorem fold_took : ∀ (l : List UInt8) (s : Gs), (l.foldl gath s).r.2 = false →
    s.r.2 = false ∧ ∃ N S L x, (l.foldl gath s).N = s.N ++ N ∧ (l.foldl gath s).S = s.S ++ S ∧ (l.foldl gath s).L = s.L ++ L ∧ enc l N S L = some x ∧ s.r.1 = x ++ (l.foldl gath s).r.1 ∧ okM l N.length S.length L.length = true
  | [], s, h => ⟨h, [], [], [], [], by simp, by simp, by simp, rfl, rfl, rfl⟩
  | c :: l, s, h => by
    obtain ⟨h1, N, S, L, x, eN, eS, eL, he, hr, hk⟩ := fold_took l (gath s c) h
    obtain ⟨k1, k2, k3⟩ := okM_cons c l _ _ _ hk
    simp only [List.foldl_cons]
    by_cases hc : c.toNat = 115
    · have hg : gath s c = { s with r := (textP s.r).2, S := s.S ++ [⟨(textP s.r).1.toArray⟩] } := by unfold gath; rw [if_pos hc]
      have gN : (gath s c).N = s.N := by rw [hg]
      have gS : (gath s c).S = s.S ++ [⟨(textP s.r).1.toArray⟩] := by rw [hg]
      have gL : (gath s c).L = s.L := by rw [hg]
      have gr : (gath s c).r = (textP s.r).2 := by rw [hg]
      rw [gr] at h1 hr
      rw [gN] at eN
      rw [gS] at eS
      rw [gL] at eL
      obtain ⟨t1, t2, t3⟩ := text_took s.r h1
      refine ⟨t1, N, ⟨(textP s.r).1.toArray⟩ :: S, L, (be 1 (textP s.r).1.length ++ (textP s.r).1) ++ x, by simpa using eN, by simpa using eS, by simpa using eL, ?_, ?_, by simpa using k1 hc⟩
      · unfold enc
        rw [if_pos hc]
        simp only
        rw [if_pos (by rw [sz_mk]; exact t2), he, sz_mk]
        rfl
      · rw [List.append_assoc, ← hr]
        exact t3
    · by_cases hc2 : c.toNat = 108
      · have hg : gath s c = { s with r := (listP s.r).2, L := s.L ++ [(listP s.r).1] } := by unfold gath; rw [if_neg hc, if_pos hc2]
        have gN : (gath s c).N = s.N := by rw [hg]
        have gS : (gath s c).S = s.S := by rw [hg]
        have gL : (gath s c).L = s.L ++ [(listP s.r).1] := by rw [hg]
        have gr : (gath s c).r = (listP s.r).2 := by rw [hg]
        rw [gr] at h1 hr
        rw [gN] at eN
        rw [gS] at eS
        rw [gL] at eL
        obtain ⟨t1, t2, t3⟩ := list_took s.r h1
        refine ⟨t1, N, S, (listP s.r).1 :: L, (be 1 (listP s.r).1.length ++ (listP s.r).1.flatMap (be 4)) ++ x, by simpa using eN, by simpa using eS, by simpa using eL, ?_, ?_, by simpa using k2 hc2⟩
        · unfold enc
          rw [if_neg hc, if_pos hc2]
          simp only
          rw [if_pos t2, he]
          rfl
        · rw [List.append_assoc, ← hr]
          exact t3
      · have hg : gath s c = { s with r := (numP s.r (wid c)).2, N := s.N ++ [(numP s.r (wid c)).1] } := by unfold gath; rw [if_neg hc, if_neg hc2]
        have gN : (gath s c).N = s.N ++ [(numP s.r (wid c)).1] := by rw [hg]
        have gS : (gath s c).S = s.S := by rw [hg]
        have gL : (gath s c).L = s.L := by rw [hg]
        have gr : (gath s c).r = (numP s.r (wid c)).2 := by rw [hg]
        rw [gr] at h1 hr
        rw [gN] at eN
        rw [gS] at eS
        rw [gL] at eL
        obtain ⟨t1, t2, t3⟩ := num_took s.r (wid c) h1
        refine ⟨t1, (numP s.r (wid c)).1 :: N, S, L, be (wid c) (numP s.r (wid c)).1 ++ x, by simpa using eN, by simpa using eS, by simpa using eL, ?_, ?_, by simpa using k3 hc hc2⟩
        · unfold enc
          rw [if_neg hc, if_neg hc2]
          simp only
          rw [if_pos t3, he]
          rfl
        · rw [List.append_assoc, ← hr]
          exact t2

/-- What is read is written as it was. -/
theorem write_read (l b : List UInt8) (h : (readR l b).1 = 0) : writeR l (readR l b).2.1 (readR l b).2.2.1 (readR l b).2.2.2 = (b, 0) := by
  obtain ⟨h1, h2, h3⟩ := read_ok l b h
  obtain ⟨_, N, S, L, x, eN, eS, eL, he, hr, hk⟩ := fold_took l ⟨(b, false), [], [], []⟩ h2
  have hR : readR l b = (0, (gst l b).N, (gst l b).S, (gst l b).L) := by
    unfold readR
    rw [if_neg h1, if_neg (by simp [h2]), if_neg (by simp [h3])]
  rw [hR]
  simp only [List.nil_append] at eN eS eL
  have hb : b = x := by
    have : (l.foldl gath ⟨(b, false), [], [], []⟩).r.1 = [] := h3
    rw [this] at hr
    simpa using hr
  show writeR l (l.foldl gath ⟨(b, false), [], [], []⟩).N (l.foldl gath ⟨(b, false), [], [], []⟩).S (l.foldl gath ⟨(b, false), [], [], []⟩).L = (b, 0)
  rw [eN, eS, eL]
  unfold writeR
  rw [if_pos ⟨by omega, hk⟩, he, hb]
end Go.Proofs.YtaefgieodehceaaDoor
