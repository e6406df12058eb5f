/- Ledger: what was issued; what of it is live; what an attempt spends. -/
import Derived.Test.YticegnbdpihdpaaL6
namespace Go.Proofs.Yticegnbdpihdpaa
open Go.RowKit
set_option maxRecDepth 20000

def iss (l : List Ent) : List Ent := l.foldl (fun acc e => if acc.any (fun y => y.1 == e.1) then acc else acc ++ [e]) []
theorem iss_snoc (l : List Ent) (e : Ent) : iss (l ++ [e]) = if (iss l).any (fun y => y.1 == e.1) then iss l else iss l ++ [e] := by
  unfold iss
  rw [List.foldl_append, List.foldl_cons, List.foldl_nil]
theorem any_no {l : List Ent} {n : Nat} (h : l.any (fun y => y.1 == n) = false) : ∀ y ∈ l, y.1 ≠ n := fun y hy e => by
  have := List.any_eq_false.1 h y hy
  simp [e] at this
theorem iss_len (l : List Ent) : (iss l).length ≤ l.length := by
  rw [← List.reverse_reverse l]
  induction l.reverse with
  | nil => simp [iss]
  | cons e r ih =>
    rw [List.reverse_cons, iss_snoc, List.length_append]
    split
    · simp at *; omega
    · simp at *; omega
/-- No nonce stands twice. -/
def Apart (l : List Ent) : Prop := ∀ (i j : Nat) (p q : Ent), l[i]? = some p → l[j]? = some q → p.1 = q.1 → i = j
theorem iss_apart (l : List Ent) : Apart (iss l) := by
  rw [← List.reverse_reverse l]
  induction l.reverse with
  | nil => intro i j p q h; simp [iss] at h
  | cons e r ih =>
    rw [List.reverse_cons, iss_snoc]
    split
    · exact ih
    · rename_i hn
      have hne : ∀ y ∈ iss r.reverse, y.1 ≠ e.1 := any_no (by simpa only [Bool.not_eq_true] using hn)
      intro i j p q hp hq hpq
      rw [List.getElem?_append] at hp hq
      split at hp <;> split at hq
      · exact ih i j p q hp hq hpq
      · rw [List.getElem?_singleton] at hq
        split at hq
        · injection hq with hq
          subst hq
          exact absurd hpq (hne p (List.mem_of_getElem? hp))
        · cases hq
      · rw [List.getElem?_singleton] at hp
        split at hp
        · injection hp with hp
          subst hp
          exact absurd hpq.symm (hne q (List.mem_of_getElem? hq))
        · cases hp
      · rw [List.getElem?_singleton] at hp hq
        split at hp <;> split at hq
        · omega
        · cases hq
        · cases hp
        · cases hp

theorem kl_ne {n m : Nat} (h : n ≠ m) : kl n ≠ kl m := fun e => by
  injection e with _ e
  omega
theorem kl_key (n : Nat) (h : n < 18446744073709551616) : WideAt.IsKeyLit (kl n) := K26.key (key26 n h)
abbrev eDe (e : Ent) : DataW Unit := eD e.1 e.2.1 e.2.2.1 e.2.2.2
/-- The map holds just the entries of l. -/
structure Rep (D : DataW Unit) (l : List Ent) : Prop where
  size : Maps.size D = l.length
  has : ∀ n, Maps.has D (kl n) = l.any (fun e => e.1 == n)
  at' : ∀ e ∈ l, D.atKey (kl e.1) (eD 0 0 0 0) = eDe e
theorem Rep.empty : Rep (.map []) [] := ⟨rfl, fun _ => rfl, fun e he => by cases he⟩
theorem Rep.put {D : DataW Unit} {l : List Ent} (h : Rep D l) (ht : Maps.Tidy D) (e : Ent) (hb : e.1 < 18446744073709551616) (hn : l.any (fun y => y.1 == e.1) = false) : Rep (D.put (kl e.1) (eDe e)) (l ++ [e]) := by
  have hk := kl_key e.1 hb
  have hne : ∀ y ∈ l, y.1 ≠ e.1 := any_no hn
  refine ⟨?_, fun n => ?_, fun y hy => ?_⟩
  · rw [Maps.size_put ht, if_neg (by rw [h.has, hn]; simp), h.size]
    simp
  · by_cases e1 : n = e.1
    · subst e1
      rw [Maps.has_put_same ht.isMap hk]
      simp
    · rw [Maps.has_put_other (kl_ne e1), h.has]
      simp
      intro e2
      exact absurd e2.symm e1
  · rcases List.mem_append.1 hy with hy | hy
    · rw [Maps.atKey_put_other (kl_ne (hne y hy)), h.at' y hy]
    · simp at hy
      subst hy
      rw [Maps.atKey_put_same ht.isMap hk]

/-- The map holds just those entries of l that are not spent. -/
structure Live (D : DataW Unit) (l : List Ent) (sp : List Bool) : Prop where
  len : sp.length = l.length
  has : ∀ n, Maps.has D (kl n) = true ↔ ∃ (k : Nat) (e : Ent), l[k]? = some e ∧ sp[k]? = some false ∧ e.1 = n
  at' : ∀ (k : Nat) (e : Ent), l[k]? = some e → sp[k]? = some false → D.atKey (kl e.1) (eD 0 0 0 0) = eDe e
theorem Live.start {D : DataW Unit} {l : List Ent} (h : Rep D l) : Live D l (List.replicate l.length false) := by
  refine ⟨by simp, fun n => ?_, fun k e he _ => h.at' e (List.mem_of_getElem? he)⟩
  rw [h.has, List.any_eq_true]
  constructor
  · rintro ⟨e, he, hn⟩
    obtain ⟨k, hk⟩ := List.getElem?_of_mem he
    have hk2 := (List.getElem?_eq_some_iff.1 hk).1
    exact ⟨k, e, hk, by simp [hk2], by simpa using hn⟩
  · rintro ⟨k, e, hk, _, hn⟩
    exact ⟨e, List.mem_of_getElem? hk, by simpa using hn⟩
theorem Live.spend {D : DataW Unit} {l : List Ent} {sp : List Bool} (h : Live D l sp) (ha : Apart l) {k : Nat} {e : Ent} (hk : l[k]? = some e) : Live (D.del (kl e.1)) l (sp.set k true) := by
  refine ⟨by rw [List.length_set]; exact h.len, fun n => ?_, fun j y hj hs => ?_⟩
  · by_cases e1 : n = e.1
    · subst e1
      rw [Maps.has_del_same]
      constructor
      · intro h0; cases h0
      · rintro ⟨j, y, hj, hs, hn⟩
        obtain rfl := ha j k y e hj hk hn
        rw [List.getElem?_set] at hs
        simp at hs
    · rw [Maps.has_del_other (kl_ne e1), h.has]
      constructor
      · rintro ⟨j, y, hj, hs, hn⟩
        refine ⟨j, y, hj, ?_, hn⟩
        rw [List.getElem?_set, if_neg]
        · exact hs
        · rintro rfl
          rw [hk] at hj
          injection hj with hj
          exact e1 (hn ▸ (congrArg Prod.fst hj).symm ▸ rfl)
      · rintro ⟨j, y, hj, hs, hn⟩
        rw [List.getElem?_set] at hs
        split at hs
        · split at hs <;> simp at hs
        · exact ⟨j, y, hj, hs, hn⟩
  · rw [List.getElem?_set] at hs
    split at hs
    · split at hs <;> simp at hs
    · rename_i hkj
      have hne : y.1 ≠ e.1 := fun e2 => hkj (ha j k y e hj hk e2).symm
      rw [Maps.atKey_del_other (kl_ne hne), h.at' j y hj hs]

def qual (t e : Ent) (s : Bool) : Bool := e.1 == t.1 && (e.2.1 == t.2.1 && (e.2.2.1 == t.2.2.1 && (decide (t.2.2.2 ≤ e.2.2.2) && !s)))
def qAt (t : Ent) (l : List Ent) (sp : List Bool) (k : Nat) : Bool := match l[k]?, sp[k]? with
  | some e, some s => qual t e s
  | _, _ => false
def mayP (t : Ent) (l : List Ent) (sp : List Bool) : Nat → Int
  | 0 => -1
  | k + 1 => if qAt t l sp k = true then (k : Int) else mayP t l sp k
theorem may_none (t : Ent) (l : List Ent) (sp : List Bool) (h : ∀ k, qAt t l sp k = false) : ∀ m, mayP t l sp m = -1
  | 0 => rfl
  | m + 1 => by
    unfold mayP
    rw [if_neg (by rw [h m]; simp), may_none t l sp h m]
theorem may_one (t : Ent) (l : List Ent) (sp : List Bool) (k0 : Nat) (h0 : qAt t l sp k0 = true) (h : ∀ k, k ≠ k0 → qAt t l sp k = false) : ∀ m, k0 < m → mayP t l sp m = (k0 : Int)
  | 0, hm => by omega
  | m + 1, hm => by
    unfold mayP
    by_cases e : m = k0
    · rw [if_pos (by rw [e]; exact h0), e]
    · rw [if_neg (by rw [h m e]; simp)]
      exact may_one t l sp k0 h0 h m (by omega)

/-- What an attempt comes to. -/
theorem spend_all (L M : Nat) (cnt : Nat) (D : DataW Unit) (l : List Ent) (sp : List Bool) (t : Ent) (w : World) (hL : IsL w L M 20 cnt D) (hv : Live D l sp) (ha : Apart l) (ht : BE t) :
    ∃ (c : Nat) (D' : DataW Unit) (sp' : List Bool), (Calls Try.prog 17 #[.pointer (some ⟨L, 0, none⟩), .int .u64 (t.1 : Int), .int .u32 (t.2.1 : Int), .int .u32 (t.2.2.1 : Int), .int .i64 t.2.2.2] w fun r w' => r = .returned (.int .i64 (c : Int)) ∧ IsL w' L M 20 cnt D' ∧ ChM M w w') ∧ Live D' l sp' ∧
      ((c = 0 ∧ ∃ k, k < l.length ∧ mayP t l sp l.length = (k : Int) ∧ sp' = sp.set k true) ∨ (c ≠ 0 ∧ mayP t l sp l.length = -1 ∧ sp' = sp)) := by
  obtain ⟨tn, tu, ta, tw⟩ := t
  have hn : tn < 18446744073709551616 := ht.1
  cases hh : Maps.has D (kl tn) with
  | false =>
    have hat := Maps.atKey_of_not_has hh (eD 0 0 0 0)
    refine ⟨12, D, sp, ?_, hv, .inr ⟨by decide, may_none _ _ _ (fun k => ?_) _, rfl⟩⟩
    · refine (spend_missing _ tn tu ta tw w (get_any L M 20 cnt D tn 0 0 0 0 false w hL hn hh hat)).mono ?_
      rintro r w' ⟨rfl, hb⟩
      exact ⟨rfl, hL.below hb, ChM.of_below hb⟩
    · cases hq : qAt (tn, tu, ta, tw) l sp k with
      | false => rfl
      | true =>
        exfalso
        unfold qAt at hq
        split at hq
        · rename_i e s he hs
          simp [qual] at hq
          obtain ⟨h1, _, _, _, h5⟩ := hq
          subst h5
          have := (hv.has tn).2 ⟨k, e, he, hs, h1⟩
          rw [hh] at this
          cases this
        · cases hq
  | true =>
    obtain ⟨k0, e, he, hs, hen⟩ := (hv.has tn).1 hh
    have hat := hv.at' k0 e he hs
    obtain ⟨en, eo, ea, ex⟩ := e
    obtain rfl : en = tn := hen
    have hk0 : k0 < l.length := (List.getElem?_eq_some_iff.1 he).1
    have hother : ∀ k, k ≠ k0 → qAt (en, tu, ta, tw) l sp k = false := fun k hk => by
      cases hq : qAt (en, tu, ta, tw) l sp k with
      | false => rfl
      | true =>
        exfalso
        unfold qAt at hq
        split at hq
        · rename_i y s hy _
          simp [qual] at hq
          exact hk (ha k k0 y (en, eo, ea, ex) hy he hq.1)
        · cases hq
    have h00 : qAt (en, tu, ta, tw) l sp k0 = (eo == tu && (ea == ta && decide (tw ≤ ex))) := by
      unfold qAt
      rw [he, hs]
      simp [qual]
    have hget := get_any L M 20 cnt D en en eo ea ex true w hL hn hh hat
    by_cases h1 : eo = tu
    · subst h1
      by_cases h2 : ea = ta
      · subst h2
        by_cases h3 : ex < tw
        · refine ⟨9, D, sp, ?_, hv, .inr ⟨by decide, may_none _ _ _ (fun k => ?_) _, rfl⟩⟩
          · refine (spend_old _ en eo ea en ex tw w h3 hget).mono ?_
            rintro r w' ⟨rfl, hb⟩
            exact ⟨rfl, hL.below hb, ChM.of_below hb⟩
          · by_cases hk : k = k0
            · rw [hk, h00]; simp; omega
            · exact hother k hk
        · refine ⟨0, D.del (kl en), sp.set k0 true, spend_ok L M 20 cnt D en eo ea en ex tw w hL hn h3 hh hat, hv.spend ha he, .inl ⟨rfl, k0, hk0, may_one _ _ _ k0 (by rw [h00]; simp; omega) hother _ hk0, rfl⟩⟩
      · refine ⟨13, D, sp, ?_, hv, .inr ⟨by decide, may_none _ _ _ (fun k => ?_) _, rfl⟩⟩
        · refine (spend_wrong2 _ en eo ta en eo ea ex tw w ⟨rfl, h2⟩ hget).mono ?_
          rintro r w' ⟨rfl, hb⟩
          exact ⟨rfl, hL.below hb, ChM.of_below hb⟩
        · by_cases hk : k = k0
          · rw [hk, h00]; simp [h2]
          · exact hother k hk
    · refine ⟨13, D, sp, ?_, hv, .inr ⟨by decide, may_none _ _ _ (fun k => ?_) _, rfl⟩⟩
      · refine (spend_wrong _ en tu ta en eo ea ex tw w h1 hget).mono ?_
        rintro r w' ⟨rfl, hb⟩
        exact ⟨rfl, hL.below hb, ChM.of_below hb⟩
      · by_cases hk : k = k0
        · rw [hk, h00]; simp [h1]
        · exact hother k hk
end Go.Proofs.Yticegnbdpihdpaa
