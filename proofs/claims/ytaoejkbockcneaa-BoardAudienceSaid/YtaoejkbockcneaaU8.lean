/- Board: Flush of whatever board, behind its two loops: what is told. -/
import Derived.Test.YtaoejkbockcneaaU3
import Derived.Test.YtaoejkbockcneaaU7
namespace Go.Proofs.Ytaoejkbockcneaa.Bd
open Go.RowKit Go.Maps
set_option maxRecDepth 20000
set_option linter.unusedVariables false

theorem IsB.norm {w : World} {L M cnt : Nat} {D : DataW Unit} (h : IsB w L M cnt D) : IsB w L M (Maps.size D) D := by
  obtain ⟨h1, es, clock, hb, F, hs, rfl⟩ := h
  exact ⟨h1, es, clock, hb, F, by simp [Maps.size, length_sorted], rfl⟩
theorem IsB.belowAt {w w' : World} {L M cnt g : Nat} {D : DataW Unit} (h : IsB w L M cnt D) (hb : Below g w w') (hL : L < g) (hM : M < g) : IsB w' L M cnt D := by
  obtain ⟨h1, es, clock, hm, r⟩ := h
  exact ⟨(hb.block L hL).trans h1, es, clock, (hb.block M hM).trans hm, r⟩
theorem ChM.belowAt {M g : Nat} {w v x : World} (h : ChM M w v) (hb : Below g v x) (hg : w.heap.size ≤ g) : ChM M w x :=
  ⟨fun B h1 h2 => (h.1 B h1 h2).trans (hb.mono (Nat.le_trans h2 hg)), fun i hi hne => (hb.block i (Nat.lt_of_lt_of_le hi hg)).trans (h.2.1 i hi hne), Nat.le_trans h.2.2 hb.size⟩
theorem size_keepD {D : DataW Unit} (h : Tidy D) (p : Nat) (s t : Int) : size (keepD D p s t) ≤ size D + 1 ∧ (has D (kl p) = true → size (keepD D p s t) ≤ size D) := by
  have hk : WideAt.IsKeyLit (kl p) := by simp [WideAt.IsKeyLit]
  unfold keepD
  split
  · have := size_del (k := kl p) h
    constructor
    · omega
    · intro _; omega
  · have := size_put (k := kl p) h (nD s t)
    constructor
    · split at this <;> omega
    · intro e
      rw [e] at this
      simp at this
      omega
/-- What was met so far of what is to be told. -/
def Met2 (D : DataW Unit) (N : Nat → Int × Int) (left : Lit → Bool) (ss : List (Int × Int)) : Prop :=
  (ss.map Prod.fst).Nodup ∧ (∀ x ∈ ss, ∃ p : Nat, p < 4294967296 ∧ x = ((p : Int), seen (N p).1) ∧ left (kl p) = false ∧ seen (N p).1 ≠ (N p).2) ∧
  ∀ p : Nat, has D (kl p) = true → left (kl p) = false → seen (N p).1 ≠ (N p).2 → ((p : Int), seen (N p).1) ∈ ss
theorem Met2.start (D : DataW Unit) (N : Nat → Int × Int) : Met2 D N (has D) [] := ⟨by simp, by simp, fun p h1 h2 => by rw [h1] at h2; cases h2⟩
theorem strike_kl {left : Lit → Bool} {p q : Nat} : (left (kl q) && !(kl q).sameKey (kl p)) = false ↔ left (kl q) = false ∨ q = p := by
  by_cases e : q = p
  · subst e; simp [Lit.sameKey]
  · have : ¬ (q : Int) = p := by omega
    simp [Lit.sameKey, e, this]
theorem Met2.skip {D : DataW Unit} {N : Nat → Int × Int} {left : Lit → Bool} {ss : List (Int × Int)} (h : Met2 D N left ss) (p : Nat) (he : seen (N p).1 = (N p).2) : Met2 D N (fun z => left z && !z.sameKey (kl p)) ss := by
  refine ⟨h.1, fun x hx => ?_, fun q h1 h2 h3 => ?_⟩
  · obtain ⟨q, hq, hx', hl, hn⟩ := h.2.1 x hx
    exact ⟨q, hq, hx', strike_kl.2 (Or.inl hl), hn⟩
  · rcases strike_kl.1 h2 with h2 | rfl
    · exact h.2.2 q h1 h2 h3
    · exact absurd he h3
theorem Met2.add {D : DataW Unit} {N : Nat → Int × Int} {left : Lit → Bool} {ss : List (Int × Int)} (h : Met2 D N left ss) (p : Nat) (hp : p < 4294967296) (hl : left (kl p) = true) (he : seen (N p).1 ≠ (N p).2) : Met2 D N (fun z => left z && !z.sameKey (kl p)) (ss ++ [((p : Int), seen (N p).1)]) := by
  refine ⟨?_, fun x hx => ?_, fun q h1 h2 h3 => ?_⟩
  · rw [List.map_append, List.nodup_append]
    refine ⟨h.1, by simp, fun a ha b hb e => ?_⟩
    simp at hb
    obtain ⟨x, hx, rfl⟩ := List.mem_map.1 ha
    obtain ⟨q, hq, hx', hl', _⟩ := h.2.1 x hx
    rw [hx'] at e
    have : q = p := by simp at e; omega
    rw [this, hl] at hl'
    cases hl'
  · rw [List.mem_append] at hx
    rcases hx with hx | hx
    · obtain ⟨q, hq, hx', hl', hn⟩ := h.2.1 x hx
      exact ⟨q, hq, hx', strike_kl.2 (Or.inl hl'), hn⟩
    · simp at hx
      exact ⟨p, hp, hx, strike_kl.2 (Or.inr rfl), he⟩
  · rw [List.mem_append]
    rcases strike_kl.1 h2 with h2 | rfl
    · exact Or.inl (h.2.2 q h1 h2 h3)
    · exact Or.inr (by simp)
/-- What a flush tells. -/
def Tells (N : Nat → Int × Int) (ss : List (Int × Int)) : Prop :=
  (ss.map Prod.fst).Nodup ∧ (∀ x ∈ ss, ∃ p : Nat, p < 4294967296 ∧ x = ((p : Int), seen (N p).1) ∧ seen (N p).1 ≠ (N p).2) ∧ ∀ p : Nat, seen (N p).1 ≠ (N p).2 → ((p : Int), seen (N p).1) ∈ ss
theorem Met2.done {D : DataW Unit} {N : Nat → Int × Int} {left : Lit → Bool} {ss : List (Int × Int)} (h : Met2 D N left ss) (hN : Rep D N) (hl : ∀ k, left k = false) : Tells N ss :=
  ⟨h.1, fun x hx => by obtain ⟨p, h1, h2, _, h4⟩ := h.2.1 x hx; exact ⟨p, h1, h2, h4⟩, fun p hp => h.2.2 p (((hN.2 p).2).2 (fun ⟨e1, e2⟩ => hp (by rw [e1, e2]; rfl))) (hl _) hp⟩
def Nf (N : Nat → Int × Int) (l : List (Int × Int)) : Nat → Int × Int := fun q => if (q : Int) ∈ l.map Prod.fst then ((N q).1, seen (N q).1) else N q
def toldN (N : Nat → Int × Int) : Nat → Int × Int := fun q => ((N q).1, seen (N q).1)
theorem Nf_nil (N : Nat → Int × Int) : Nf N [] = N := by funext q; simp [Nf]
theorem Nf_fst (N : Nat → Int × Int) (l : List (Int × Int)) (q : Nat) : (Nf N l q).1 = (N q).1 := by unfold Nf; split <;> rfl
theorem Nf_snoc (N : Nat → Int × Int) (l : List (Int × Int)) (p : Nat) (e : Int) : upd (Nf N l) p ((N p).1, seen (N p).1) = Nf N (l ++ [((p : Int), e)]) := by
  funext q
  by_cases h : q = p
  · subst h; simp [upd, Nf]
  · have : ¬ (q : Int) = p := by omega
    simp only [upd, Nf, h, if_false, List.map_append, List.mem_append, List.map_cons, List.map_nil, List.mem_singleton, this, or_false]
theorem Nf_all {N : Nat → Int × Int} {ss : List (Int × Int)} (h : Tells N ss) : Nf N ss = toldN N := by
  funext q
  by_cases e : seen (N q).1 = (N q).2
  · unfold Nf toldN
    split
    · rfl
    · rw [e]
  · have : (q : Int) ∈ ss.map Prod.fst := List.mem_map.2 ⟨_, h.2.2 q e, rfl⟩
    simp only [Nf, this, if_true, toldN]
theorem Tells.again {N : Nat → Int × Int} {ss : List (Int × Int)} (h : Tells (toldN N) ss) : ss = [] := by
  cases ss with
  | nil => rfl
  | cons x r =>
    obtain ⟨p, _, _, hn⟩ := h.2.1 x (by simp)
    exact absurd rfl hn
theorem Tells.perm {N : Nat → Int × Int} {ss l : List (Int × Int)} (h : Tells N ss) (hp : ss.Perm l) : Tells N l :=
  ⟨(hp.map Prod.fst).nodup_iff.1 h.1, fun x hx => h.2.1 x (hp.mem_iff.2 hx), fun p hn => hp.mem_iff.1 (h.2.2 p hn)⟩
/-- Changes in memory. -/
def RowC (w : World) (g : Nat) (l : List (Int × Int)) : Prop := ∀ i x, l[i]? = some x → w.cell? ⟨g, i * 2, none⟩ = some (.int .u32 x.1) ∧ w.cell? ⟨g, i * 2 + 1, none⟩ = some (.int .i64 x.2)
theorem rowC_of {w : World} {g : Nat} {cur : Array Value} {f : Nat × Nat} (hb : w.heap[g]? = some (.cells cur 95 f)) {l : List (Int × Int)} (h : cur.toList.take (l.length * 2) = cc l) : RowC w g l := by
  intro i x hx
  have hi : i < l.length := (List.getElem?_eq_some_iff.1 hx).1
  have hf : ∀ (l : List (Int × Int)) (i : Nat) (x : Int × Int), l[i]? = some x → (cc l)[i * 2]? = some (.int .u32 x.1) ∧ (cc l)[i * 2 + 1]? = some (.int .i64 x.2) := by
    intro l
    induction l with
    | nil => intro i x hx; simp at hx
    | cons y r ih =>
      intro i x hx
      cases i with
      | zero => simp at hx; subst hx; simp [cc]
      | succ j =>
        have := ih j x (by simpa using hx)
        rw [show (j + 1) * 2 = j * 2 + 2 by omega]
        simpa [cc] using this
  obtain ⟨h1, h2⟩ := hf l i x hx
  rw [← h, List.getElem?_take_of_lt (by omega)] at h1 h2
  exact ⟨by rw [cell_of_row w g _ _ _ _ hb, ← h1, Array.getElem?_toList], by rw [cell_of_row w g _ _ _ _ hb, ← h2, Array.getElem?_toList]⟩
theorem nodup_take {l : List (Int × Int)} (h : (l.map Prod.fst).Nodup) {i : Nat} {x : Int × Int} (hx : l[i]? = some x) : x.1 ∉ (l.take i).map Prod.fst := by
  obtain ⟨hi, rfl⟩ := List.getElem?_eq_some_iff.1 hx
  have e := List.take_append_drop i l
  rw [List.drop_eq_getElem_cons hi] at e
  have h' : ((l.take i ++ l[i] :: l.drop (i + 1)).map Prod.fst).Nodup := by rw [e]; exact h
  rw [List.map_append, List.nodup_append] at h'
  intro hm
  exact h'.2.2 _ hm _ (by rw [List.map_cons]; exact List.mem_cons_self) rfl
theorem take_snoc {l : List (Int × Int)} {i : Nat} {x : Int × Int} (hx : l[i]? = some x) : l.take (i + 1) = l.take i ++ [x] := by
  rw [List.take_add_one, hx]
  rfl
/-- What the library's sort is asked for. -/
def SortOk : Prop := ∀ (g c : Nat) (l : List (Int × Int)) (W : World) (cur : Array Value), W.heap[g]? = some (.cells cur 95 (0, 0)) → RowC W g l → l.length ≤ 1000 →
  Calls Try.prog 50 #[.slice (some ⟨g, 0, none⟩) l.length c, .func (.func 51) #[] #[]] W fun e w' => e = .returned (.tuple #[]) ∧ (∃ l', l.Perm l' ∧ (l'.map Prod.fst).Pairwise (· ≤ ·) ∧ RowC w' g l') ∧ Below g W w' ∧ g < w'.heap.size
/-- A flush's answer in memory. -/
def Rw (w w' : World) (v : Value) (l : List (Int × Int)) : Prop := ∃ a c, v = .slice a l.length c ∧ (l ≠ [] → ∃ g, a = some ⟨g, 0, none⟩ ∧ w.heap.size ≤ g ∧ g < w'.heap.size ∧ RowC w' g l)

end Go.Proofs.Ytaoejkbockcneaa.Bd
