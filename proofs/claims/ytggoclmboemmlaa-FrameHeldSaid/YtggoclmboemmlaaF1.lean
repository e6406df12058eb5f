/- Frames: the plain side: what bytes come to, frame by frame. -/
namespace Go.Proofs.Ytggoclmboemmlaa

/-- The length that the first two bytes tell. -/
def hd2 (b : List UInt8) : Nat := 256 * (b.getD 0 0).toNat + (b.getD 1 0).toNat
/-- The frames that are whole, what waits, and whether a length is wrong. -/
def parse (b : List UInt8) : List (List UInt8) × List UInt8 × Bool :=
  if b.length < 2 then ([], b, false)
  else if hd2 b < 1 ∨ 1024 < hd2 b then ([], [], true)
  else if b.length < 2 + hd2 b then ([], b, false)
  else ((b.drop 2).take (hd2 b) :: (parse (b.drop (2 + hd2 b))).1, (parse (b.drop (2 + hd2 b))).2)
termination_by b.length
decreasing_by all_goals (simp; omega)

theorem parse_short {b : List UInt8} (h : b.length < 2) : parse b = ([], b, false) := by rw [parse, if_pos h]
theorem parse_wrong {b : List UInt8} (h : ¬ b.length < 2) (h2 : hd2 b < 1 ∨ 1024 < hd2 b) : parse b = ([], [], true) := by rw [parse, if_neg h, if_pos h2]
theorem parse_wait {b : List UInt8} (h : ¬ b.length < 2) (h2 : ¬ (hd2 b < 1 ∨ 1024 < hd2 b)) (h3 : b.length < 2 + hd2 b) : parse b = ([], b, false) := by rw [parse, if_neg h, if_neg h2, if_pos h3]
theorem parse_take {b : List UInt8} (h : ¬ b.length < 2) (h2 : ¬ (hd2 b < 1 ∨ 1024 < hd2 b)) (h3 : ¬ b.length < 2 + hd2 b) :
    parse b = ((b.drop 2).take (hd2 b) :: (parse (b.drop (2 + hd2 b))).1, (parse (b.drop (2 + hd2 b))).2) := by rw [parse, if_neg h, if_neg h2, if_neg h3]

theorem hd2_app {a b : List UInt8} (h : ¬ a.length < 2) : hd2 (a ++ b) = hd2 a := by
  rcases a with _ | ⟨x, _ | ⟨y, a⟩⟩
  · simp at h
  · simp at h
  · rfl
theorem parse_append (a b : List UInt8) : parse (a ++ b) = if (parse a).2.2 then parse a else ((parse a).1 ++ (parse ((parse a).2.1 ++ b)).1, (parse ((parse a).2.1 ++ b)).2) := by
  induction hn : a.length using Nat.strongRecOn generalizing a with
  | _ n ih =>
    by_cases h1 : a.length < 2
    · rw [parse_short h1]; simp
    · by_cases h2 : hd2 a < 1 ∨ 1024 < hd2 a
      · rw [parse_wrong h1 h2, parse_wrong (by simp; omega) (by rw [hd2_app h1]; exact h2)]; simp
      · by_cases h3 : a.length < 2 + hd2 a
        · rw [parse_wait h1 h2 h3]; simp
        · have h4 := ih (a.drop (2 + hd2 a)).length (by simp; omega) (a.drop (2 + hd2 a)) rfl
          rw [parse_take h1 h2 h3, parse_take (b := a ++ b) (by simp; omega) (by rw [hd2_app h1]; exact h2) (by rw [hd2_app h1]; simp; omega), hd2_app h1,
            List.drop_append_of_le_length (by omega), List.drop_append_of_le_length (by omega), List.take_append_of_le_length (by simp; omega), h4]
          cases hw : (parse (a.drop (2 + hd2 a))).2.2 <;> simp

theorem rest_waits (b : List UInt8) : (parse b).2.2 = false → parse (parse b).2.1 = ([], (parse b).2.1, false) := by
  induction hn : b.length using Nat.strongRecOn generalizing b with
  | _ n ih =>
    by_cases h1 : b.length < 2
    · rw [parse_short h1]; intro _; exact parse_short h1
    · by_cases h2 : hd2 b < 1 ∨ 1024 < hd2 b
      · rw [parse_wrong h1 h2]; simp
      · by_cases h3 : b.length < 2 + hd2 b
        · rw [parse_wait h1 h2 h3]; intro _; exact parse_wait h1 h2 h3
        · rw [parse_take h1 h2 h3]
          exact ih _ (by simp; omega) (b.drop (2 + hd2 b)) rfl
theorem rest_le (b : List UInt8) : (parse b).2.1.length ≤ 1025 ∧ (parse b).2.1.length ≤ b.length := by
  induction hn : b.length using Nat.strongRecOn generalizing b with
  | _ n ih =>
    by_cases h1 : b.length < 2
    · rw [parse_short h1]; simp; omega
    · by_cases h2 : hd2 b < 1 ∨ 1024 < hd2 b
      · rw [parse_wrong h1 h2]; simp
      · by_cases h3 : b.length < 2 + hd2 b
        · rw [parse_wait h1 h2 h3]; simp; omega
        · rw [parse_take h1 h2 h3]
          have := ih _ (by simp; omega) (b.drop (2 + hd2 b)) rfl
          simp at this ⊢
          omega
theorem parse_dead (b : List UInt8) (h : (parse b).2.2 = true) : (parse b).2.1 = [] := by
  induction hn : b.length using Nat.strongRecOn generalizing b with
  | _ n ih =>
    by_cases h1 : b.length < 2
    · rw [parse_short h1] at h; simp at h
    · by_cases h2 : hd2 b < 1 ∨ 1024 < hd2 b
      · rw [parse_wrong h1 h2]
      · by_cases h3 : b.length < 2 + hd2 b
        · rw [parse_wait h1 h2 h3] at h; simp at h
        · rw [parse_take h1 h2 h3] at h ⊢
          exact ih _ (by simp; omega) (b.drop (2 + hd2 b)) h rfl
theorem frames_right (b : List UInt8) : ∀ f ∈ (parse b).1, 1 ≤ f.length ∧ f.length ≤ 1024 := by
  induction hn : b.length using Nat.strongRecOn generalizing b with
  | _ n ih =>
    by_cases h1 : b.length < 2
    · rw [parse_short h1]; simp
    · by_cases h2 : hd2 b < 1 ∨ 1024 < hd2 b
      · rw [parse_wrong h1 h2]; simp
      · by_cases h3 : b.length < 2 + hd2 b
        · rw [parse_wait h1 h2 h3]; simp
        · rw [parse_take h1 h2 h3]
          have := ih _ (by simp; omega) (b.drop (2 + hd2 b)) rfl
          intro f hf
          simp only [List.mem_cons] at hf
          rcases hf with rfl | hf
          · simp; omega
          · exact this f hf

/-- Frames behind their lengths. -/
def wrapP (fs : List (List UInt8)) : List UInt8 := (fs.map fun f => UInt8.ofNat (f.length / 256) :: UInt8.ofNat (f.length % 256) :: f).flatten
theorem wrapP_cons (f : List UInt8) (fs : List (List UInt8)) : wrapP (f :: fs) = UInt8.ofNat (f.length / 256) :: UInt8.ofNat (f.length % 256) :: (f ++ wrapP fs) := by
  simp [wrapP]
theorem wrapP_nil : wrapP [] = [] := rfl
theorem wrapP_append (fs gs : List (List UInt8)) : wrapP (fs ++ gs) = wrapP fs ++ wrapP gs := by simp [wrapP]
theorem hd2_wrap (f t : List UInt8) (h : f.length < 65536) : hd2 (UInt8.ofNat (f.length / 256) :: UInt8.ofNat (f.length % 256) :: t) = f.length := by
  simp [hd2]
  omega
theorem parse_wrap (fs : List (List UInt8)) (h : ∀ f ∈ fs, 1 ≤ f.length ∧ f.length ≤ 1024) : parse (wrapP fs) = (fs, [], false) := by
  induction fs with
  | nil => exact parse_short (by simp [wrapP])
  | cons f fs ih =>
    have hf := h f (by simp)
    have ih := ih (fun g hg => h g (by simp [hg]))
    have e := hd2_wrap f (f ++ wrapP fs) (by omega)
    rw [wrapP_cons, parse_take (by simp) (by rw [e]; omega) (by rw [e]; simp; omega), e]
    have e2 : (UInt8.ofNat (f.length / 256) :: UInt8.ofNat (f.length % 256) :: (f ++ wrapP fs)).drop (2 + f.length) = wrapP fs := by
      rw [Nat.add_comm, ← List.drop_drop]
      simp
    rw [e2, ih]
    simp
theorem wrap_head (b : List UInt8) (h : ¬ b.length < 2) (n : Nat) (hn : n = hd2 b) (h3 : ¬ b.length < 2 + n) : UInt8.ofNat (((b.drop 2).take n).length / 256) :: UInt8.ofNat (((b.drop 2).take n).length % 256) :: ((b.drop 2).take n) ++ b.drop (2 + n) = b := by
  rcases b with _ | ⟨x, _ | ⟨y, b⟩⟩
  · simp at h
  · simp at h
  · have hl : ((List.drop 2 (x :: y :: b)).take n).length = n := by simp at h3 ⊢; omega
    have hx := x.toNat_lt
    have hy := y.toNat_lt
    simp [hd2] at hn
    rw [hl]
    have e1 : UInt8.ofNat (n / 256) = x := by
      apply UInt8.toNat_inj.1
      simp
      omega
    have e2 : UInt8.ofNat (n % 256) = y := by
      apply UInt8.toNat_inj.1
      simp
      omega
    rw [e1, e2, Nat.add_comm 2 n, ← List.drop_drop]
    simp
theorem wrap_parse (b : List UInt8) : ∃ t, wrapP (parse b).1 ++ t = b ∧ ((parse b).2.2 = false → t = (parse b).2.1) := by
  induction hn : b.length using Nat.strongRecOn generalizing b with
  | _ n ih =>
    by_cases h1 : b.length < 2
    · rw [parse_short h1]; exact ⟨b, rfl, fun _ => rfl⟩
    · by_cases h2 : hd2 b < 1 ∨ 1024 < hd2 b
      · rw [parse_wrong h1 h2]; exact ⟨b, rfl, fun h => by simp at h⟩
      · by_cases h3 : b.length < 2 + hd2 b
        · rw [parse_wait h1 h2 h3]; exact ⟨b, rfl, fun _ => rfl⟩
        · rw [parse_take h1 h2 h3]
          obtain ⟨t, e1, e2⟩ := ih _ (by simp; omega) (b.drop (2 + hd2 b)) rfl
          refine ⟨t, ?_, e2⟩
          have := wrap_head b h1 (hd2 b) rfl h3
          rw [wrapP_cons, List.cons_append, List.cons_append, List.append_assoc, e1]
          simpa using this
end Go.Proofs.Ytggoclmboemmlaa
