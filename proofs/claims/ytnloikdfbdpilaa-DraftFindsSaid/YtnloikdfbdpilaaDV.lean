/- Draft: plain: ways to part by masks, and by ways. -/
import Derived.Test.YtnloikdfbdpilaaDM
namespace Go.Proofs.Ytnloikdfbdpilaa
open Go.RowKit
set_option maxRecDepth 20000
set_option linter.unusedVariables false

/-- Is the bit of a mask set? -/
def bitM (mask i : Nat) : Bool := decide (mask / 2 ^ i % 2 = 1)
theorem mask_of (n : Nat) : ∀ f : Nat → Bool, ∃ mask, mask < 2 ^ n ∧ ∀ i, i < n → bitM mask i = f i := by
  induction n with
  | zero => exact fun f => ⟨0, by decide, fun i hi => absurd hi (Nat.not_lt_zero i)⟩
  | succ n ih =>
    intro f
    obtain ⟨q, hq, hb⟩ := ih fun i => f (i + 1)
    refine ⟨2 * q + (if f 0 then 1 else 0), ?_, fun i hi => ?_⟩
    · rw [Nat.pow_succ]; split <;> omega
    · unfold bitM at hb ⊢
      rcases i with _ | i
      · rw [Nat.pow_zero, Nat.div_one]
        cases f 0
        · rw [decide_eq_false_iff_not]; simp
        · rw [decide_eq_true_iff]; simp
      · rw [← hb i (by omega), Nat.pow_succ, Nat.mul_comm (2 ^ i) 2, ← Nat.div_div_eq_div_mul, show (2 * q + (if f 0 = true then 1 else 0)) / 2 = q by split <;> omega]
theorem sel_congr {α : Type} (f g : Nat → Bool) (l : List α) (h : ∀ i, i < l.length → f i = g i) : sel f l = sel g l := by
  induction l generalizing f g with
  | nil => rfl
  | cons a l ih =>
    rw [sel_cons, sel_cons, h 0 (by simp), ih (fun i => f (i + 1)) (fun i => g (i + 1)) (fun i hi => h (i + 1) (by simpa using hi))]
theorem ways_pos {n : Nat} (h : 0 < ways n) : ∃ k, n = k + 1 := by
  rcases n with _ | k
  · exact absurd h (by decide)
  · exact ⟨k, rfl⟩
theorem ways_succ (k : Nat) : ways (k + 1) = 2 ^ k := by unfold ways; rw [Nat.pow_succ, Nat.mul_div_cancel _ (by decide)]
theorem odd_bit (mask : Nat) : bitM mask 0 = true ↔ mask % 2 = 1 := by unfold bitM; rw [decide_eq_true_iff, Nat.pow_zero, Nat.div_one]
/-- To each way a mask that is odd. -/
theorem way_mask {n way : Nat} (h : way < ways n) : ∃ mask, mask < 2 ^ n ∧ mask % 2 = 1 ∧ ∀ i, i < n → bitM mask i = bitA way n i := by
  obtain ⟨k, rfl⟩ := ways_pos (Nat.lt_of_le_of_lt (Nat.zero_le _) h)
  obtain ⟨mask, h1, h2⟩ := mask_of (k + 1) (bitA way (k + 1))
  refine ⟨mask, h1, (odd_bit mask).1 ?_, h2⟩
  rw [h2 0 (by omega)]
  unfold bitA
  rw [decide_eq_true_iff]
  rw [ways_succ] at h
  rw [show k + 1 - 1 - 0 = k by omega, Nat.div_eq_of_lt h]
/-- To each odd mask a way. -/
theorem mask_way {n mask : Nat} (hn : 0 < n) (h : mask % 2 = 1) : ∃ way, way < ways n ∧ ∀ i, i < n → bitM mask i = bitA way n i := by
  obtain ⟨k, rfl⟩ : ∃ k, n = k + 1 := ⟨n - 1, by omega⟩
  obtain ⟨way, h1, h2⟩ := mask_of (k + 1) fun j => !bitM mask (k - j)
  have h3 : bitM way k = false := by
    rw [h2 k (by omega), Nat.sub_self, (odd_bit mask).2 h]; rfl
  refine ⟨way, ?_, fun i hi => ?_⟩
  · rw [ways_succ]
    unfold bitM at h3
    rw [decide_eq_false_iff_not] at h3
    have h4 : way / 2 ^ k < 2 := by rw [Nat.div_lt_iff_lt_mul (Nat.two_pow_pos k), Nat.mul_comm, ← Nat.pow_succ]; exact h1
    have hz : way / 2 ^ k = 0 → way < 2 ^ k := (Nat.div_eq_zero_iff_lt (Nat.two_pow_pos k)).1
    have h6 : 0 ≤ way / 2 ^ k := Nat.zero_le _
    generalize way / 2 ^ k = z at h3 h4 h6 hz
    have h5 : z = 0 := by omega
    exact hz h5
  · have h4 := h2 (k - i) (by omega)
    rw [show k - (k - i) = i by omega] at h4
    unfold bitA
    rw [show k + 1 - 1 - i = k - i by omega]
    unfold bitM at h4 ⊢
    by_cases hb : mask / 2 ^ i % 2 = 1
    · rw [decide_eq_true hb] at h4 ⊢
      have h5 : ¬ way / 2 ^ (k - i) % 2 = 1 := by
        intro h6; rw [decide_eq_true h6] at h4; cases h4
      rw [eq_comm, decide_eq_true_iff]; omega
    · rw [decide_eq_false hb] at h4 ⊢
      have h5 : way / 2 ^ (k - i) % 2 = 1 := by
        have h6 : decide (way / 2 ^ (k - i) % 2 = 1) = true := by rw [h4]; rfl
        exact of_decide_eq_true h6
      rw [eq_comm, decide_eq_false_iff_not]; omega
theorem sA_cons (w : Nat) (e : En) (l : List En) : sA w (e :: l).length (e :: l) = if w / 2 ^ l.length % 2 = 0 then e :: sA w l.length l else sA w l.length l := by
  have h1 : sel (fun i => bitA w (l.length + 1) (i + 1)) l = sel (bitA w l.length) l := sel_congr _ _ _ fun i hi => by
    unfold bitA
    rw [show l.length + 1 - 1 - (i + 1) = l.length - 1 - i by omega]
  have h2 : bitA w (l.length + 1) 0 = decide (w / 2 ^ l.length % 2 = 0) := by unfold bitA; rw [show l.length + 1 - 1 - 0 = l.length by omega]
  rw [sA_sel, List.length_cons, sel_cons, h1, h2, ← sA_sel]
  by_cases h : w / 2 ^ l.length % 2 = 0
  · rw [if_pos h, decide_eq_true h, if_pos rfl]
  · rw [if_neg h, decide_eq_false h, if_neg (by simp)]
theorem mod_split (w n : Nat) : w % 2 ^ (n + 1) = (w / 2 ^ n % 2) * 2 ^ n + w % 2 ^ n := by
  rw [Nat.pow_succ, Nat.mod_mul, Nat.add_comm, Nat.mul_comm]
/-- As ways rise, so do their teams A. -/
theorem ways_ahead (l : List En) (hp : l.Pairwise fun a b => a.p < b.p) (hn : ∀ e ∈ l, 1 ≤ e.n) : ∀ w1 w2, w1 % 2 ^ l.length < w2 % 2 ^ l.length → sumN (sA w1 l.length l) = sumN (sA w2 l.length l) → aheadP ((sA w1 l.length l).map (·.p)) ((sA w2 l.length l).map (·.p)) = true := by
  induction l with
  | nil => intro w1 w2 h; simp [Nat.mod_one] at h
  | cons e l ih =>
    intro w1 w2 h hs
    rw [List.pairwise_cons] at hp
    have ih' := ih hp.2 fun x hx => hn x (List.mem_cons_of_mem _ hx)
    rw [List.length_cons, mod_split, mod_split] at h
    rw [sA_cons, sA_cons] at hs ⊢
    have hl1 : w1 % 2 ^ l.length < 2 ^ l.length := Nat.mod_lt _ (Nat.two_pow_pos _)
    have hl2 : w2 % 2 ^ l.length < 2 ^ l.length := Nat.mod_lt _ (Nat.two_pow_pos _)
    have hsum : ∀ x : List En, sumN (e :: x) = e.n + sumN x := fun x => by simp [sumN]
    by_cases t1 : w1 / 2 ^ l.length % 2 = 0
    · by_cases t2 : w2 / 2 ^ l.length % 2 = 0
      · rw [if_pos t1, if_pos t2] at hs ⊢
        rw [t1, t2] at h
        rw [hsum, hsum] at hs
        simp only [List.map_cons, aheadP, if_true]
        exact ih' w1 w2 (by omega) (by omega)
      · rw [if_pos t1, if_neg t2] at hs ⊢
        rw [hsum] at hs
        have h1 := hn e (List.mem_cons_self ..)
        have h2 := sumN_nonneg (sA w1 l.length l) fun x hx => hn x (List.mem_cons_of_mem _ (sA_mem hx))
        cases hA : sA w2 l.length l with
        | nil => rw [hA] at hs; simp [sumN] at hs h2; omega
        | cons x xs =>
          have hx : e.p < x.p := hp.1 x (sA_mem (by rw [hA]; exact List.mem_cons_self ..))
          simp only [List.map_cons, aheadP]
          rw [if_neg (by omega), decide_eq_true_iff]
          exact hx
    · have t1' : w1 / 2 ^ l.length % 2 = 1 := by omega
      by_cases t2 : w2 / 2 ^ l.length % 2 = 0
      · rw [t1', t2] at h; omega
      · have t2' : w2 / 2 ^ l.length % 2 = 1 := by omega
        rw [if_neg t1, if_neg t2] at hs ⊢
        rw [t1', t2'] at h
        exact ih' w1 w2 (by omega) hs

/-- The teams of a mask. -/
def mX (mask : Nat) (l : List En) : List En := sel (bitM mask) l
def mY (mask : Nat) (l : List En) : List En := sel (fun i => !bitM mask i) l
def goodM (k : Int) (l : List En) (mask : Nat) : Prop := sumN (mX mask l) = k ∧ sumN (mY mask l) = k
def dM (l : List En) (mask : Nat) : Int := dist (sumW (mX mask l)) (sumW (mY mask l))
theorem way_teams {l : List En} {mask way : Nat} (h : ∀ i, i < l.length → bitM mask i = bitA way l.length i) : mX mask l = sA way l.length l ∧ mY mask l = sB way l.length l := by
  rw [sA_sel, sB_sel]
  exact ⟨sel_congr _ _ _ h, sel_congr _ _ _ fun i hi => by rw [h i hi]⟩
theorem goodM_W {k : Int} {l : List En} {mask way : Nat} (hn : ∀ e ∈ l, 1 ≤ e.n) (h : ∀ i, i < l.length → bitM mask i = bitA way l.length i) : goodM k l mask ↔ goodW k l way = true := by
  obtain ⟨h1, h2⟩ := way_teams h
  unfold goodM goodW fullP
  rw [h1, h2]
  have ha : anyNone (sA way l.length l) = false := by
    unfold anyNone; rw [List.any_eq_false]; intro e he; have := hn e (sA_mem he); simp; omega
  have hb : anyNone (sB way l.length l) = false := by
    unfold anyNone; rw [List.any_eq_false]; intro e he; have := hn e (sB_mem he); simp; omega
  rw [ha, hb]
  simp
/-- What a search through odd masks, each held against the best so far, comes to. -/
structure Best (k : Int) (l : List En) (mask : Nat) : Prop where
  lt : mask < 2 ^ l.length
  odd : mask % 2 = 1
  good : goodM k l mask
  best : ∀ mk, mk < 2 ^ l.length → mk % 2 = 1 → goodM k l mk → dM l mask < dM l mk ∨ (dM l mask = dM l mk ∧ aheadP ((mX mk l).map (·.p)) ((mX mask l).map (·.p)) = false)
/-- The teams that both searches find are one. -/
theorem part_best {k : Int} {l : List En} {mask : Nat} (hp : l.Pairwise fun a b => a.p < b.p) (hn : ∀ e ∈ l, 1 ≤ e.n) (hb : Best k l mask) : partP k l = some ((mX mask l).map (·.p), (mY mask l).map (·.p)) := by
  have hpos : 0 < l.length := by
    rcases l with _ | ⟨e, l⟩
    · have h1 := hb.lt
      have h2 := hb.odd
      simp at h1
      omega
    · simp
  obtain ⟨w0, hw0, hb0⟩ := mask_way (n := l.length) hpos hb.odd
  have hg0 := (goodM_W hn hb0).1 hb.good
  obtain ⟨t1, t2⟩ := way_teams hb0
  have hd0 : dM l mask = apart l w0 := by unfold dM apart; rw [t1, t2]
  rcases bests_inv k l (ways l.length) with ⟨_, h2⟩ | ⟨h1, h2, h3, h4, h5⟩
  · rw [h2 w0 hw0] at hg0; cases hg0
  · obtain ⟨w, hw⟩ : ∃ w, w = (bests k l (ways l.length)).1 := ⟨_, rfl⟩
    rw [← hw] at h2 h3 h4 h5
    have hww : w = w0 := by
      obtain ⟨mk, hm1, hm2, hm3⟩ := way_mask h2
      have hgm := (goodM_W hn hm3).2 h3
      obtain ⟨s1, s2⟩ := way_teams hm3
      have hdm : dM l mk = apart l w := by unfold dM apart; rw [s1, s2]
      have h6 := h5 w0 hw0 hg0
      have h7 := hb.best mk hm1 hm2 hgm
      rw [hd0, hdm] at h7
      rcases h6 with h6 | ⟨h6, h8⟩
      · omega
      · rcases h7 with h7 | ⟨_, h9⟩
        · omega
        · by_cases he : w = w0
          · exact he
          · have hlt : w < w0 := by omega
            have hw2 : ∀ x, x < ways l.length → x % 2 ^ l.length = x := fun x hx => Nat.mod_eq_of_lt (Nat.lt_of_lt_of_le hx (Nat.div_le_self _ _))
            have h10 := ways_ahead l hp hn w w0 (by rw [hw2 w h2, hw2 w0 hw0]; exact hlt) (by rw [(good_full h3).1, (good_full hg0).1])
            rw [s1, t1, h10] at h9
            cases h9
    unfold partP
    rw [h1, ← hw, hww, ← t1, ← t2]
    rfl
theorem part_not {k : Int} {l : List En} (hn : ∀ e ∈ l, 1 ≤ e.n) (h : ∀ mk, mk < 2 ^ l.length → mk % 2 = 1 → ¬ goodM k l mk) : partP k l = none := by
  cases hp : partP k l with
  | none => rfl
  | some r =>
    obtain ⟨way, hw, hg⟩ := (part_some k l).1 (by rw [hp]; rfl)
    obtain ⟨mk, h1, h2, h3⟩ := way_mask hw
    exact absurd ((goodM_W hn h3).2 hg) (h mk h1 h2)
theorem part_small {k : Int} {l : List En} (h : (partP k l).isSome = true) : 0 < l.length ∧ ∀ e ∈ l, 1 ≤ e.n ∧ e.n ≤ k := by
  obtain ⟨way, hw, hg⟩ := (part_some k l).1 h
  obtain ⟨h1, h2, h3⟩ := good_full hg
  refine ⟨?_, fun e he => ⟨h3 e he, ?_⟩⟩
  · rcases l with _ | ⟨a, l⟩
    · exact absurd hw (Nat.not_lt_zero _)
    · simp
  · have hle : ∀ s : List En, (∀ x ∈ s, 1 ≤ x.n) → ∀ x ∈ s, x.n ≤ sumN s := by
      intro s
      induction s with
      | nil => intro _ x hx; cases hx
      | cons a s ih =>
        intro hs x hx
        have h4 := sumN_nonneg s fun y hy => hs y (List.mem_cons_of_mem _ hy)
        have h5 : sumN (a :: s) = a.n + sumN s := by simp [sumN]
        have h6 := hs a (List.mem_cons_self ..)
        rcases List.mem_cons.1 hx with rfl | hx
        · omega
        · have := ih (fun y hy => hs y (List.mem_cons_of_mem _ hy)) x hx
          omega
    rcases sel_mem (bitA way l.length) l e he with h | h
    · rw [← h1]; exact hle _ (fun x hx => h3 x (sA_mem hx)) e h
    · rw [← h2]; exact hle _ (fun x hx => h3 x (sB_mem hx)) e h
end Go.Proofs.Ytnloikdfbdpilaa
