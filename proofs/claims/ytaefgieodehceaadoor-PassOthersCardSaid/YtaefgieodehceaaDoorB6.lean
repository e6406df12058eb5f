/- What is read of bytes, and of the same bytes with more behind them. -/
import Derived.Test.YtaefgieodehceaaDoorB5
namespace Go.Proofs.YtaefgieodehceaaDoor
set_option maxRecDepth 4000
open Go.RowKit

theorem cut_ext (r : Rs) (m : Nat) (x : List UInt8) (h : (cutP r m).2.2 = false) : r.2 = false ∧ cutP (r.1 ++ x, r.2) m = ((cutP r m).1, ((cutP r m).2.1 ++ x, (cutP r m).2.2)) := by
  unfold cutP at h ⊢
  by_cases hm : r.1.length < m
  · simp [hm] at h
  · simp only [hm, if_false] at h ⊢
    refine ⟨h, ?_⟩
    have h2 : ¬ (r.1 ++ x).length < m := by simp; omega
    simp only [h2, if_false]
    rw [List.take_append_of_le_length (by omega), List.drop_append_of_le_length (by omega)]

theorem num_ext (r : Rs) (m : Nat) (x : List UInt8) (h : (numP r m).2.2 = false) : r.2 = false ∧ numP (r.1 ++ x, r.2) m = ((numP r m).1, ((numP r m).2.1 ++ x, (numP r m).2.2)) := by
  obtain ⟨h1, h2⟩ := cut_ext r m x h
  exact ⟨h1, by simp only [numP, h2]⟩

theorem text_ext (r : Rs) (x : List UInt8) (h : (textP r).2.2 = false) : r.2 = false ∧ textP (r.1 ++ x, r.2) = ((textP r).1, ((textP r).2.1 ++ x, (textP r).2.2)) := by
  unfold textP at h ⊢
  obtain ⟨h1, h2⟩ := cut_ext _ _ x h
  obtain ⟨h3, h4⟩ := num_ext r 1 x h1
  exact ⟨h3, by simp only [h4, h2]⟩

theorem nums_ext (k : Nat) (r : Rs) (x : List UInt8) (h : (nums k r).2.2 = false) : r.2 = false ∧ nums k (r.1 ++ x, r.2) = ((nums k r).1, ((nums k r).2.1 ++ x, (nums k r).2.2)) := by
  induction k with
  | zero => exact ⟨h, rfl⟩
  | succ k ih =>
    simp only [nums] at h ⊢
    obtain ⟨h1, h2⟩ := num_ext _ 4 x h
    obtain ⟨h3, h4⟩ := ih h1
    exact ⟨h3, by simp only [h4, h2]⟩

theorem list_ext (r : Rs) (x : List UInt8) (h : (listP r).2.2 = false) : r.2 = false ∧ listP (r.1 ++ x, r.2) = ((listP r).1, ((listP r).2.1 ++ x, (listP r).2.2)) := by
  unfold listP at h ⊢
  obtain ⟨h1, h2⟩ := nums_ext _ _ x h
  obtain ⟨h3, h4⟩ := num_ext r 1 x h1
  exact ⟨h3, by simp only [h4, h2]⟩

/-- The gatherer with more bytes to come. -/
def more (s : Gs) (x : List UInt8) : Gs := { s with r := (s.r.1 ++ x, s.r.2) }

theorem gath_ext (s : Gs) (c : UInt8) (x : List UInt8) (h : (gath s c).r.2 = false) : s.r.2 = false ∧ gath (more s x) c = more (gath s c) x := by
  unfold gath at h ⊢
  split
  · rename_i hc
    rw [if_pos hc] at h
    obtain ⟨h1, h2⟩ := text_ext s.r x h
    exact ⟨h1, by simp only [more, h2]⟩
  · rename_i hc
    rw [if_neg hc] at h
    split
    · rename_i hc2
      rw [if_pos hc2] at h
      obtain ⟨h1, h2⟩ := list_ext s.r x h
      exact ⟨h1, by simp only [more, h2]⟩
    · rename_i hc2
      rw [if_neg hc2] at h
      obtain ⟨h1, h2⟩ := num_ext s.r (wid c) x h
      exact ⟨h1, by simp only [more, h2]⟩

theorem gst_ext (l b x : List UInt8) (h : (gst l b).r.2 = false) : gst l (b ++ x) = more (gst l b) x := by
  have key : ∀ m : List UInt8, (gst m.reverse b).r.2 = false → gst m.reverse (b ++ x) = more (gst m.reverse b) x := by
    intro m
    induction m with
    | nil => intro _; rfl
    | cons c m ih =>
      intro hm
      rw [List.reverse_cons, gst_snoc] at hm ⊢
      obtain ⟨h1, h2⟩ := gath_ext _ _ x hm
      rw [gst_snoc, ih h1, h2]
  have := key l.reverse
  rw [List.reverse_reverse] at this
  exact this h

theorem read_ok (l b : List UInt8) (h : (readR l b).1 = 0) : ¬ least l < 0 ∧ (gst l b).r.2 = false ∧ (gst l b).r.1 = [] := by
  unfold readR at h
  split at h
  · simp at h
  · rename_i h1
    split at h
    · simp at h
    · rename_i h2
      split at h
      · simp at h
      · rename_i h3
        exact ⟨h1, by simpa using h2, by simpa using h3⟩

theorem read_long (l b x : List UInt8) (h : (readR l b).1 = 0) (hx : x ≠ []) : (readR l (b ++ x)).1 = 4 := by
  obtain ⟨h1, h2, h3⟩ := read_ok l b h
  have e := gst_ext l b x h2
  have hl : x.length ≠ 0 := fun e => hx (List.eq_nil_of_length_eq_zero e)
  unfold readR
  rw [if_neg h1, e]
  simp [more, h2, h3, hx]

theorem read_short (l b : List UInt8) (m : Nat) (h : (readR l b).1 = 0) (hm : m < b.length) : (readR l (b.take m)).1 = 3 := by
  obtain ⟨h1, h2, h3⟩ := read_ok l b h
  unfold readR
  rw [if_neg h1]
  by_cases hs : (gst l (b.take m)).r.2 = true
  · rw [if_pos hs]
  · exfalso
    have e := gst_ext l (b.take m) (b.drop m) (by simpa using hs)
    rw [List.take_append_drop] at e
    rw [e] at h3
    simp [more] at h3
    omega

theorem read_codes (l b : List UInt8) : (readR l b).1 = 0 ∨ (readR l b).1 = 1 ∨ (readR l b).1 = 3 ∨ (readR l b).1 = 4 := by
  unfold readR
  split
  · simp
  · split
    · simp
    · split <;> simp
end Go.Proofs.YtaefgieodehceaaDoor
