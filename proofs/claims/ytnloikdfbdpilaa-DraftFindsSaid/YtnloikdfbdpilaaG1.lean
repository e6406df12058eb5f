/- Draft: plain: the first match by masks. -/
import Derived.Test.YtnloikdfbdpilaaDY
namespace Go.Proofs.Ytnloikdfbdpilaa
open Go.RowKit
set_option maxRecDepth 20000
set_option linter.unusedVariables false

theorem ahead_tri : ∀ a b : List Int, aheadP a b = false → aheadP b a = false → a = b
  | [], [], _, _ => rfl
  | [], y :: b, h, _ => by cases h
  | x :: a, [], _, h => by cases h
  | x :: a, y :: b, h1, h2 => by
    unfold aheadP at h1 h2
    by_cases e : x = y
    · rw [if_pos e] at h1
      rw [if_pos e.symm] at h2
      rw [e, ahead_tri a b h1 h2]
    · rw [if_neg e, decide_eq_false_iff_not] at h1
      rw [if_neg (fun e' => e e'.symm), decide_eq_false_iff_not] at h2
      omega
theorem sumW_map (g : En → En) (hg : ∀ e, (g e).n = e.n ∧ (g e).r = e.r) (l : List En) : sumW (l.map g) = sumW l := by
  unfold sumW
  rw [List.map_map]
  congr 2
  funext e
  simp [hg]
theorem bests_map (g : En → En) (hg : ∀ e, (g e).n = e.n ∧ (g e).r = e.r) (k : Int) (l : List En) (j : Nat) : bests k (l.map g) j = bests k l j := by
  induction j with
  | zero => rfl
  | succ j ih =>
    rw [bests_succ, bests_succ, ih]
    unfold bstep
    have h1 : apart (l.map g) j = apart l j := by
      unfold apart
      rw [List.length_map, sA_sel, sB_sel, sA_sel, sB_sel, sel_map, sel_map, sumW_map g hg, sumW_map g hg]
    rw [good_map g (fun e => (hg e).1), h1]
/-- A row's numbers at places. -/
def at_ (x : List Int) (P : List Int) : List Int := P.map fun j => x.getD j.toNat 0
theorem at_sel (f : Nat → Bool) (x : List Int) : at_ x (sel f (ints x.length)) = sel f x := by
  unfold at_
  rw [← sel_map]
  congr 1
  apply List.ext_getElem?
  intro i
  rw [List.getElem?_map]
  by_cases h : i < x.length
  · rw [ints_get h, List.getElem?_eq_getElem h]
    simp [h]
  · rw [List.getElem?_eq_none (by rw [ints_len]; omega), List.getElem?_eq_none (by omega)]
    rfl
/-- Tickets at the bits of a mask. -/
def tX (mask : Nat) (l : List Tk) : List Tk := sel (bitM mask) l
theorem X_map (g : En → En) (m : Mo) (now : Int) (l : List Tk) (mask : Nat) (h : ∀ (e : En) i, g ⟨i, e.n, e.r, e.v⟩ = g e) : (mX mask (entsP m now l)).map g = (entsP m now (tX mask l)).map g := by
  unfold mX tX
  rw [← sel_map, ents_map g m now l h, sel_map, ents_map g m now _ h]
theorem X_fit (m : Mo) (now : Int) (l : List Tk) (mask : Nat) : Fit (entsP m now (tX mask l)) ↔ Fit (mX mask (entsP m now l)) := by
  rw [← fit_map fv (fun e => ⟨rfl, rfl⟩), ← X_map fv m now l mask (fun e i => rfl), fit_map fv (fun e => ⟨rfl, rfl⟩)]
theorem X_map0 (m : Mo) (now : Int) (l : List Tk) (mask : Nat) : (mX mask (entsP m now l)).map fn = (entsP m 0 (tX mask l)).map fn := by
  unfold mX tX
  rw [← sel_map, ents_map fn m now l (fun e i => rfl), sel_map, ents_map fn m 0 _ (fun e i => rfl)]
  rfl
/-- The teams of the tickets at a mask, told at the list's places. -/
theorem X_part (m : Mo) (now : Int) (l : List Tk) (mask : Nat) : partP m.k (mX mask (entsP m now l)) = (partP m.k (entsP m 0 (tX mask l))).map fun r => (at_ ((mX mask (entsP m now l)).map (·.p)) r.1, at_ ((mX mask (entsP m now l)).map (·.p)) r.2) := by
  obtain ⟨X, hX⟩ : ∃ X, X = mX mask (entsP m now l) := ⟨_, rfl⟩
  obtain ⟨T, hT⟩ : ∃ T, T = entsP m 0 (tX mask l) := ⟨_, rfl⟩
  have h0 : X.map fn = T.map fn := by rw [hX, hT]; exact X_map0 m now l mask
  have hlen : X.length = T.length := by have := congrArg List.length h0; simpa using this
  have hp : T.map (·.p) = ints X.length := by rw [hlen, hT, ents_p, entsP_len]
  have hb : ∀ j, bests m.k X j = bests m.k T j := fun j => by
    rw [← bests_map fn (fun e => ⟨rfl, rfl⟩) m.k X j, h0, bests_map fn (fun e => ⟨rfl, rfl⟩)]
  rw [← hX, ← hT]
  unfold partP
  rw [hb, hlen]
  split
  · simp only [Option.map_some, Option.some.injEq, Prod.mk.injEq]
    constructor
    · rw [sA_sel, sA_sel, ← sel_map, ← sel_map, hp, ← at_sel, List.length_map, hlen]
    · rw [sB_sel, sB_sel, ← sel_map, ← sel_map, hp, ← at_sel, List.length_map, hlen]
  · rfl
/-- What a search through masks below a bound has found. -/
def InvF (k : Int) (es : List En) (mask : Nat) : Option Nat → Prop
  | none => ∀ mk, 1 ≤ mk → mk < mask → ¬ Good k (mX mk es)
  | some m0 => Good k (mX m0 es) ∧ ∀ mk, 1 ≤ mk → mk < mask → Good k (mX mk es) → aheadP ((mX mk es).map (·.p)) ((mX m0 es).map (·.p)) = false
def gP (k : Int) (es : List En) : Option Nat → Option (List Int × List Int)
  | none => none
  | some m0 => partP k (mX m0 es)
theorem invF_skip {k : Int} {es : List En} {mask : Nat} {o : Option Nat} (h : InvF k es mask o) (hb : ¬ Good k (mX mask es) ∨ ∃ m0, o = some m0 ∧ aheadP ((mX mask es).map (·.p)) ((mX m0 es).map (·.p)) = false) : InvF k es (mask + 1) o := by
  cases o with
  | none =>
    rcases hb with hb | ⟨m0, e, _⟩
    · intro mk h1 h2
      by_cases e : mk = mask
      · rw [e]; exact hb
      · exact h mk h1 (by omega)
    · cases e
  | some m0 =>
    refine ⟨h.1, fun mk h1 h2 h3 => ?_⟩
    by_cases e : mk = mask
    · subst e
      rcases hb with hb | ⟨m1, e, hb⟩
      · exact absurd h3 hb
      · injection e with e; subst e; exact hb
    · exact h.2 mk h1 (by omega) h3
theorem invF_take {k : Int} {es : List En} {mask : Nat} {o : Option Nat} (h : InvF k es mask o) (hg : Good k (mX mask es)) (hb : o = none ∨ ∃ m0, o = some m0 ∧ aheadP ((mX mask es).map (·.p)) ((mX m0 es).map (·.p)) = true) : InvF k es (mask + 1) (some mask) := by
  refine ⟨hg, fun mk h1 h2 h3 => ?_⟩
  by_cases e : mk = mask
  · rw [e]; exact ahead_irr _
  · rcases hb with rfl | ⟨m0, rfl, hb⟩
    · exact absurd h3 (h mk h1 (by omega))
    · exact ahead_trans _ _ _ (h.2 mk h1 (by omega) h3) (ahead_anti _ _ hb)
theorem sub_mask {es s : List En} (hs : s.Sublist es) (hne : s ≠ []) : ∃ mk, 1 ≤ mk ∧ mk < 2 ^ es.length ∧ mX mk es = s := by
  obtain ⟨f, rfl⟩ := sub_sel hs
  obtain ⟨mk, h1, h2⟩ := mask_of es.length f
  have h3 : mX mk es = sel f es := sel_congr _ _ _ h2
  refine ⟨mk, ?_, h1, h3⟩
  rcases Nat.eq_zero_or_pos mk with h | h
  · subst h
    exfalso
    apply hne
    rw [← h3]
    unfold mX
    have h4 : ∀ l : List En, sel (bitM 0) l = [] := fun l => by
      have h5 : bitM 0 = fun _ => false := by funext i; simp [bitM]
      rw [h5]
      unfold sel
      rw [List.filter_eq_nil_iff.2 (by simp)]
      rfl
    exact h4 es
  · exact h
theorem good_ne {k : Int} {s : List En} (h : Good k s) : s ≠ [] := by
  rintro rfl
  have := (part_small h.2).1
  simp at this
theorem by_place {m : Mo} {now : Int} {l : List Tk} {s s' : List En} (h1 : s.Sublist (entsP m now l)) (h2 : s'.Sublist (entsP m now l)) (h : s.map (·.p) = s'.map (·.p)) : s = s' := by
  have hg : ∀ e ∈ entsP m now l, (entsP m now l).getD e.p.toNat ⟨0, 0, 0, 0⟩ = e := fun e he => by
    obtain ⟨i, t, hi, rfl⟩ := ents_mem he
    have h3 := entsP_get m now l i t hi
    show (entsP m now l).getD ((i : Int).toNat) _ = _
    rw [Int.toNat_natCast, List.getD_eq_getElem?_getD, h3]
    rfl
  have h3 : ∀ q : List En, q.Sublist (entsP m now l) → (q.map (·.p)).map (fun j => (entsP m now l).getD j.toNat ⟨0, 0, 0, 0⟩) = q := fun q hq => by
    rw [List.map_map]
    refine (List.map_congr_left fun e he => ?_).trans (List.map_id q)
    exact hg e (hq.subset he)
  rw [← h3 s h1, ← h3 s' h2, h]
/-- Both searches come to one match. -/
theorem find_masks {m : Mo} {now : Int} {l : List Tk} {o : Option Nat} (hw : m.wr = []) (hl : l.length ≤ 16) (h : InvF m.k (entsP m now l) (2 ^ l.length) o) : findP m now l = gP m.k (entsP m now l) o := by
  cases o with
  | none =>
    cases hf : findP m now l with
    | none => rfl
    | some r =>
      obtain ⟨_, _, s, _, hs, hg, _⟩ := find_get hf
      obtain ⟨mk, h1, h2, h3⟩ := sub_mask hs (good_ne hg)
      rw [entsP_len] at h2
      exact absurd (h3 ▸ hg) (h mk h1 h2)
  | some m0 =>
    obtain ⟨s, r, h1, h2, h3, h4, h5⟩ := find_mk hw hl (sel_sub (bitM m0) _) h.1
    obtain ⟨mk, k1, k2, k3⟩ := sub_mask h2 (good_ne h3)
    rw [entsP_len] at k2
    have h6 := h.2 mk k1 k2 (k3 ▸ h3)
    rw [k3] at h6
    have h7 : s = mX m0 (entsP m now l) := by_place h2 (sel_sub (bitM m0) _) (ahead_tri _ _ h6 h5)
    rw [h1]
    show _ = partP m.k (mX m0 (entsP m now l))
    rw [← h7, h4]
/-- Tickets with their places. -/
def pX (mask : Nat) (l : List Tk) : List (Tk × Nat) := sel (bitM mask) l.zipIdx
theorem pX_t (mask : Nat) (l : List Tk) : (pX mask l).map (·.1) = tX mask l := by
  unfold pX tX
  rw [← sel_map]
  congr 1
  simp
theorem pX_p (m : Mo) (now : Int) (mask : Nat) (l : List Tk) : (mX mask (entsP m now l)).map (·.p) = (pX mask l).map fun q => (q.2 : Int) := by
  unfold pX mX
  rw [← sel_map, ← sel_map]
  congr 1
  rw [ents_p]
  apply List.ext_getElem?
  intro i
  rw [List.getElem?_map]
  by_cases h : i < l.length
  · rw [ints_get h]; simp [h]
  · rw [List.getElem?_eq_none (by rw [ints_len]; omega), List.getElem?_eq_none (by rw [List.length_zipIdx]; omega)]; rfl
theorem pX_get {mask : Nat} {l : List Tk} {q : Tk × Nat} (h : q ∈ pX mask l) : l[q.2]? = some q.1 := by
  have := (sel_sub _ _).subset h
  obtain ⟨t, i⟩ := q
  exact (List.mem_zipIdx_iff_getElem?.1 this)
end Go.Proofs.Ytnloikdfbdpilaa
