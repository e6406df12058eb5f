/- Ready: plain: checks by their ids; what each act does. -/
import Derived.Test.YtemjmnpclknfaaaR1
namespace Go.Proofs.Ytemjmnpclknfaaa.P
set_option linter.unusedVariables false

/-- A check: its id, until when, who is asked, who said yes. -/
structure Pt where
  id : Nat
  ld : Int
  mem : List Nat
  inv : List Nat
/-- The party of which a player is a member, by the first that has him. -/
def ofP (L : List Pt) (p : Nat) : Nat := ((L.find? fun e => decide (p ∈ e.mem)).map (·.id)).getD 0
def getP (L : List Pt) (id : Nat) : Option Pt := L.find? fun e => decide (e.id = id)
def wo (l : List Nat) (p : Nat) : List Nat := l.filter fun x => decide (x ≠ p)
/-- Parties with one, in its place; without one. -/
def insL (L : List Pt) (g : Pt) : List Pt := L.filter (fun e => decide (e.id < g.id)) ++ g :: L.filter (fun e => decide (g.id < e.id))
def delL (L : List Pt) (id : Nat) : List Pt := L.filter fun e => decide (e.id ≠ id)
abbrev Ris (L : List Pt) : Prop := L.Pairwise fun a b => a.id < b.id

theorem mem_wo {l : List Nat} {p x : Nat} : x ∈ wo l p ↔ x ∈ l ∧ x ≠ p := by unfold wo; rw [List.mem_filter, decide_eq_true_iff]
theorem wo_len (l : List Nat) (p : Nat) : (wo l p).length ≤ l.length := List.length_filter_le _ _
theorem wo_not {l : List Nat} {p : Nat} (h : p ∉ l) : wo l p = l := by
  unfold wo
  rw [List.filter_eq_self]
  intro x hx
  rw [decide_eq_true_iff]
  intro e
  exact h (e ▸ hx)
theorem wo_lt {l : List Nat} {p : Nat} (h : p ∈ l) : (wo l p).length < l.length := by
  induction l with
  | nil => cases h
  | cons y l ih =>
    unfold wo
    rw [List.filter_cons]
    by_cases e : y = p
    · subst e
      rw [if_neg (by simp)]
      have := wo_len l y
      unfold wo at this
      simp only [List.length_cons]
      omega
    · rw [if_pos (by simpa using e)]
      have hm : p ∈ l := by
        rcases List.mem_cons.1 h with h | h
        · exact absurd h.symm e
        · exact h
      have := ih hm
      unfold wo at this
      simp only [List.length_cons]
      omega
theorem mem_insL {L : List Pt} {g e : Pt} : e ∈ insL L g ↔ e = g ∨ (e ∈ L ∧ e.id ≠ g.id) := by
  unfold insL
  rw [List.mem_append, List.mem_cons, List.mem_filter, List.mem_filter, decide_eq_true_iff, decide_eq_true_iff]
  constructor
  · rintro (⟨h1, h2⟩ | h | ⟨h1, h2⟩)
    · exact .inr ⟨h1, by omega⟩
    · exact .inl h
    · exact .inr ⟨h1, by omega⟩
  · rintro (h | ⟨h1, h2⟩)
    · exact .inr (.inl h)
    · rcases Nat.lt_or_gt_of_ne h2 with h | h
      · exact .inl ⟨h1, h⟩
      · exact .inr (.inr ⟨h1, h⟩)
theorem mem_delL {L : List Pt} {id : Nat} {e : Pt} : e ∈ delL L id ↔ e ∈ L ∧ e.id ≠ id := by unfold delL; rw [List.mem_filter, decide_eq_true_iff]
theorem ris_ins {L : List Pt} {g : Pt} (h : Ris L) : Ris (insL L g) := by
  unfold insL Ris
  rw [List.pairwise_append]
  refine ⟨h.filter _, ?_, ?_⟩
  · rw [List.pairwise_cons]
    refine ⟨fun e he => ?_, h.filter _⟩
    rw [List.mem_filter, decide_eq_true_iff] at he
    exact he.2
  · intro a ha b hb
    rw [List.mem_filter, decide_eq_true_iff] at ha
    rcases List.mem_cons.1 hb with rfl | hb
    · exact ha.2
    · rw [List.mem_filter, decide_eq_true_iff] at hb
      omega
theorem ris_del {L : List Pt} {id : Nat} (h : Ris L) : Ris (delL L id) := h.filter _
theorem filt_all {α : Type} {l : List α} {p : α → Bool} (h : ∀ e ∈ l, p e = true) : l.filter p = l := List.filter_eq_self.2 h
theorem filt_no {α : Type} {l : List α} {p : α → Bool} (h : ∀ e ∈ l, p e = false) : l.filter p = [] := List.filter_eq_nil_iff.2 fun a ha => by rw [h a ha]; simp
theorem set_insL : ∀ {L : List Pt} {p : Nat} {e g : Pt}, Ris L → L[p]? = some e → e.id = g.id → L.set p g = insL L g
  | [], p, e, g, _, hp, _ => by simp at hp
  | x :: l, 0, e, g, h, hp, he => by
    obtain rfl : x = e := by simpa using hp
    have h1 := List.pairwise_cons.1 h
    unfold insL
    rw [List.filter_cons, List.filter_cons, if_neg (by simp; omega), if_neg (by simp; omega), filt_no (fun e he' => by have := h1.1 e he'; simp; omega), filt_all (fun e he' => by have := h1.1 e he'; simp; omega)]
    rfl
  | x :: l, p + 1, e, g, h, hp, he => by
    have hp : l[p]? = some e := by simpa using hp
    have h1 := List.pairwise_cons.1 h
    have hx := h1.1 e (List.mem_of_getElem? hp)
    have ih := set_insL h1.2 hp he
    rw [List.set_cons_succ, ih]
    unfold insL
    rw [List.filter_cons, List.filter_cons, if_pos (by simp; omega), if_neg (by simp; omega)]
    rfl
theorem new_insL {L : List Pt} {p : Nat} {g : Pt} (h1 : ∀ e ∈ L.take p, e.id < g.id) (h2 : ∀ e ∈ L.drop p, g.id < e.id) : L.take p ++ [g] ++ L.drop p = insL L g := by
  have e1 : L.filter (fun e => decide (e.id < g.id)) = L.take p := by
    conv => lhs; rw [← List.take_append_drop p L]
    rw [List.filter_append, filt_all (fun e he => by simpa using h1 e he), filt_no (fun e he => by have := h2 e he; simp; omega), List.append_nil]
  have e2 : L.filter (fun e => decide (g.id < e.id)) = L.drop p := by
    conv => lhs; rw [← List.take_append_drop p L]
    rw [List.filter_append, filt_no (fun e he => by have := h1 e he; simp; omega), filt_all (fun e he => by simpa using h2 e he), List.nil_append]
  unfold insL
  rw [e1, e2]
  simp
theorem del_delL : ∀ {L : List Pt} {p : Nat} {e : Pt} {x : Nat}, Ris L → L[p]? = some e → e.id = x → L.take p ++ L.drop (p + 1) = delL L x
  | [], p, e, x, _, hp, _ => by simp at hp
  | y :: l, 0, e, x, h, hp, he => by
    obtain rfl : y = e := by simpa using hp
    have h1 := List.pairwise_cons.1 h
    unfold delL
    rw [List.filter_cons, if_neg (by simpa using he), filt_all (fun e he' => by have := h1.1 e he'; simp; omega)]
    rfl
  | y :: l, p + 1, e, x, h, hp, he => by
    have hp : l[p]? = some e := by simpa using hp
    have h1 := List.pairwise_cons.1 h
    have hx := h1.1 e (List.mem_of_getElem? hp)
    have ih := del_delL h1.2 hp he
    unfold delL at ih ⊢
    rw [List.filter_cons, if_pos (by simp; omega), ← ih]
    rfl
theorem get_at : ∀ {L : List Pt} {p : Nat} {g : Pt}, Ris L → L[p]? = some g → getP L g.id = some g
  | [], p, g, _, hp => by simp at hp
  | y :: l, 0, g, h, hp => by
    obtain rfl : y = g := by simpa using hp
    unfold getP
    rw [List.find?_cons]
    simp
  | y :: l, p + 1, g, h, hp => by
    have hp : l[p]? = some g := by simpa using hp
    have h1 := List.pairwise_cons.1 h
    have hx := h1.1 g (List.mem_of_getElem? hp)
    have ih := get_at h1.2 hp
    unfold getP at ih ⊢
    rw [List.find?_cons]
    have : decide (y.id = g.id) = false := by simp; omega
    rw [this]
    exact ih
theorem get_mem {L : List Pt} {g : Pt} (h : Ris L) (hg : g ∈ L) : getP L g.id = some g := by
  obtain ⟨p, hp⟩ := List.mem_iff_getElem?.1 hg
  exact get_at h hp
theorem get_some {L : List Pt} {id : Nat} {g : Pt} (h : getP L id = some g) : g ∈ L ∧ g.id = id :=
  ⟨List.mem_of_find?_eq_some h, by simpa using List.find?_some h⟩
theorem getP_none {L : List Pt} {id : Nat} (h : getP L id = none) : ∀ e ∈ L, e.id ≠ id := fun e he => by
  have := List.find?_eq_none.1 h e he
  simpa using this
theorem get_no {L : List Pt} {id : Nat} (h : ∀ e ∈ L, e.id ≠ id) : getP L id = none := by
  unfold getP
  rw [List.find?_eq_none]
  intro e he
  simpa using h e he
theorem uni {L : List Pt} (h : Ris L) {e e' : Pt} (he : e ∈ L) (he' : e' ∈ L) (hi : e.id = e'.id) : e = e' := by
  have h1 := get_mem h he
  have h2 := get_mem h he'
  rw [hi, h2] at h1
  exact (Option.some.inj h1).symm

/-- What is so of each check. -/
structure Ok1 (e : Pt) : Prop where
  id : 1 ≤ e.id ∧ e.id ≤ 2147483647
  one : 1 ≤ e.mem.length
  eight : e.mem.length ≤ 8
  sub : ∀ x ∈ e.inv, x ∈ e.mem
  nod : e.mem.Nodup
  nodI : e.inv.Nodup
  les : e.inv.length < e.mem.length
  okp : ∀ x ∈ e.mem, 1 ≤ x ∧ x ≤ 2147483647
structure Inv (L : List Pt) : Prop where
  ris : Ris L
  each : ∀ e ∈ L, Ok1 e
  one : ∀ e ∈ L, ∀ e' ∈ L, ∀ x, x ∈ e.mem → x ∈ e'.mem → e.id = e'.id
theorem Inv.nil : Inv [] := ⟨List.Pairwise.nil, (fun _ h => by cases h), (fun _ h => by cases h)⟩
theorem Inv.ins {L : List Pt} (h : Inv L) {g : Pt} (hg : Ok1 g) (ho : ∀ e ∈ L, e.id ≠ g.id → ∀ x ∈ e.mem, x ∉ g.mem) : Inv (insL L g) := by
  refine ⟨ris_ins h.ris, fun e he => ?_, fun e he e' he' x hx hx' => ?_⟩
  · rcases mem_insL.1 he with rfl | ⟨he, _⟩
    · exact hg
    · exact h.each e he
  · rcases mem_insL.1 he with hq | ⟨hm, hn⟩
    · rcases mem_insL.1 he' with hq' | ⟨hm', hn'⟩
      · rw [hq, hq']
      · rw [hq] at hx
        exact absurd hx (ho e' hm' hn' x hx')
    · rcases mem_insL.1 he' with hq' | ⟨hm', hn'⟩
      · rw [hq'] at hx'
        exact absurd hx' (ho e hm hn x hx)
      · exact h.one e hm e' hm' x hx hx'
theorem Inv.del {L : List Pt} (h : Inv L) (id : Nat) : Inv (delL L id) :=
  ⟨ris_del h.ris, fun e he => h.each e (mem_delL.1 he).1, fun e he e' he' x hx hx' => h.one e (mem_delL.1 he).1 e' (mem_delL.1 he').1 x hx hx'⟩
/-- One who says yes. -/
def yesP (g : Pt) (p : Nat) : Pt := { g with inv := g.inv ++ [p] }
theorem sub_len {a b : List Nat} (ha : a.Nodup) (hs : ∀ x ∈ a, x ∈ b) : a.length ≤ b.length := by
  induction a generalizing b with
  | nil => simp
  | cons x a ih =>
    have hx : x ∈ b := hs x (by simp)
    rw [List.nodup_cons] at ha
    have h1 := ih (b := b.erase x) ha.2 (fun y hy => (List.mem_erase_of_ne (fun (e : y = x) => ha.1 (by rw [← e]; exact hy))).2 (hs y (by simp [hy])))
    rw [List.length_erase_of_mem hx] at h1
    have := List.length_pos_of_mem hx
    simp only [List.length_cons]
    omega
theorem Inv.yes {L : List Pt} (h : Inv L) {g : Pt} (hg : g ∈ L) {p : Nat} (hp : p ∈ g.mem) (hn : p ∉ g.inv) (hl : g.inv.length + 1 < g.mem.length) : Inv (insL L (yesP g p)) := by
  have k := h.each g hg
  refine h.ins ⟨k.id, k.one, k.eight, fun x hx => ?_, k.nod, ?_, by simp [yesP]; omega, k.okp⟩ (fun e he hne x hx hy => hne (h.one e he g hg x hx hy))
  · simp only [yesP, List.mem_append, List.mem_singleton] at hx
    rcases hx with hx | rfl
    · exact k.sub x hx
    · exact hp
  · simp only [yesP]
    rw [List.nodup_append]
    refine ⟨k.nodI, by simp, fun a ha b hb => ?_⟩
    simp at hb
    subst hb
    intro e
    exact hn (e ▸ ha)
/-- Of a player: in none, or in the one whose id is told. -/
theorem of_cases {L : List Pt} (h : Ris L) (hi : ∀ e ∈ L, 1 ≤ e.id) (p : Nat) :
    (ofP L p = 0 ∧ (∀ e ∈ L, p ∉ e.mem) ∧ getP L 0 = none) ∨ ∃ g, g ∈ L ∧ p ∈ g.mem ∧ ofP L p = g.id ∧ getP L g.id = some g ∧ g.id ≠ 0 := by
  cases hf : L.find? fun e => decide (p ∈ e.mem) with
  | none =>
    left
    refine ⟨by unfold ofP; rw [hf]; rfl, fun e he => ?_, get_no fun e he => by have := hi e he; omega⟩
    have := List.find?_eq_none.1 hf e he
    simpa using this
  | some g =>
    right
    have hg := List.mem_of_find?_eq_some hf
    exact ⟨g, hg, by simpa using List.find?_some hf, by unfold ofP; rw [hf]; rfl, get_mem h hg, by have := hi g hg; omega⟩
theorem of_mem {L : List Pt} (h : Inv L) {e : Pt} (he : e ∈ L) {p : Nat} (hp : p ∈ e.mem) : ofP L p = e.id := by
  rcases of_cases h.ris (fun e he => (h.each e he).id.1) p with ⟨_, h2, _⟩ | ⟨g, hg, hpg, h3, _⟩
  · exact absurd hp (h2 e he)
  · rw [h3]
    exact h.one g hg e he p hpg hp

end Go.Proofs.Ytemjmnpclknfaaa.P
