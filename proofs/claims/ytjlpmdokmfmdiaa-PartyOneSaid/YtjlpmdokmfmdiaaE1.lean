/- Party: plain: what each act keeps. -/
import Derived.Test.YtjlpmdokmfmdiaaQD
namespace Go.Proofs.Ytjlpmdokmfmdiaa.P
set_option linter.unusedVariables false
set_option linter.unusedSimpArgs false

theorem two_len (L : List Pt) (k : Nat) : (L.filter (fun e => decide (e.id < k))).length + (L.filter (fun e => decide (k < e.id))).length ≤ L.length := by
  induction L with
  | nil => simp
  | cons y l ih =>
    rw [List.filter_cons, List.filter_cons]
    by_cases h1 : y.id < k
    · have h2 : ¬ k < y.id := by omega
      simp [h1, h2]
      omega
    · by_cases h2 : k < y.id
      · simp [h1, h2]
        omega
      · simp [h1, h2]
        omega
theorem insL_len (L : List Pt) (g : Pt) : (insL L g).length ≤ L.length + 1 := by
  unfold insL
  rw [List.length_append, List.length_cons]
  have := two_len L g.id
  omega
theorem put_len (L : List Pt) (g : Pt) : (putS L g).length ≤ L.length + 1 := by
  unfold putS
  split
  · unfold delL
    have := List.length_filter_le (fun e : Pt => decide (e.id ≠ g.id)) L
    omega
  · exact insL_len _ _
def Nx (L L' : List Pt) : Prop := Inv L' ∧ L'.length ≤ L.length + 1
theorem Nx.refl {L : List Pt} (h : Inv L) : Nx L L := ⟨h, by omega⟩
theorem Nx.lose {L : List Pt} (h : Inv L) {g : Pt} (hg : g ∈ L) (p : Nat) : Nx L (putS L (cut g p)) := ⟨h.lose hg p, put_len _ _⟩
theorem Nx.ins {L : List Pt} (h : Inv L) {g : Pt} (hg : Ok1 g) (ho : ∀ e ∈ L, e.id ≠ g.id → ∀ x ∈ e.mem, x ∉ g.mem) : Nx L (insL L g) := ⟨h.ins hg ho, insL_len _ _⟩
theorem nx_refuse {L : List Pt} (h : Inv L) (x p : Nat) : Nx L (refuseS L x p).1 := by
  unfold refuseS
  cases hg : getP L x with
  | none => exact .refl h
  | some g =>
    simp only
    split
    · exact .lose h (get_some hg).1 p
    · exact .refl h
theorem nx_leave {L : List Pt} (h : Inv L) (p : Nat) : Nx L (leaveS L p).1 := by
  unfold leaveS
  cases hg : getP L (ofP L p) with
  | none => exact .refl h
  | some g => exact .lose h (get_some hg).1 p
theorem nx_kick {L : List Pt} (h : Inv L) (a p : Nat) : Nx L (kickS L a p).1 := by
  unfold kickS
  split
  · exact .refl h
  · cases hg : getP L (ofP L a) with
    | none => exact .refl h
    | some g =>
      simp only
      split
      · exact .lose h (get_some hg).1 p
      · exact .refl h
theorem ot_one {L : List Pt} (h : Inv L) {g : Pt} (hg : g ∈ L) {e : Pt} (he : e ∈ L) (hne : e.id ≠ g.id) {x : Nat} (hx : x ∈ e.mem) : x ∉ g.mem := fun hx' => hne (h.one e he g hg x hx hx')
theorem nx_lead {L : List Pt} (h : Inv L) (a p : Nat) : Nx L (leadS L a p).1 := by
  unfold leadS
  split
  · exact .refl h
  · cases hg : getP L (ofP L a) with
    | none => exact .refl h
    | some g =>
      simp only
      split
      · rename_i hp
        have hm := (get_some hg).1
        have k := h.each g hm
        exact .ins h ⟨k.id, hp, k.two, k.four, k.dis, k.nod⟩ (fun e he hne x hx => ot_one h hm he hne hx)
      · exact .refl h
theorem of_zero {L : List Pt} (h : Inv L) {p : Nat} (h0 : ofP L p = 0) : ∀ e ∈ L, p ∉ e.mem := fun e he hp => by
  have h1 := of_mem h he hp
  have h2 := (h.each e he).id.1
  omega
theorem nx_join {L : List Pt} (h : Inv L) (x p : Nat) : Nx L (joinS L x p).1 := by
  unfold joinS
  cases hg : getP L x with
  | none => exact .refl h
  | some g =>
    simp only
    split
    · rename_i hp
      split
      · exact .refl h
      · rename_i h0
        have hz := of_zero h (Decidable.not_not.1 h0)
        have hm := (get_some hg).1
        have k := h.each g hm
        refine .ins h ⟨k.id, List.mem_append.2 (.inl k.ld), ?_, ?_, ?_, ?_⟩ (fun e he hne y hy hy' => ?_)
        · have := List.length_pos_of_mem k.ld
          simp only [List.length_append, List.length_cons, List.length_nil]
          omega
        · have := k.four
          have := wo_lt hp
          simp only [List.length_append, List.length_cons, List.length_nil]
          omega
        · intro y hy hy'
          obtain ⟨h1, h2⟩ := mem_wo.1 hy'
          rcases List.mem_append.1 hy with h3 | h3
          · exact k.dis y h3 h1
          · exact h2 (List.mem_singleton.1 h3)
        · rw [List.nodup_append]
          refine ⟨k.nod, by simp, fun y hy z hz' e => ?_⟩
          rw [List.mem_singleton.1 hz'] at e
          exact hz g hm (e ▸ hy)
        · rcases List.mem_append.1 hy' with h3 | h3
          · exact ot_one h hm he hne hy h3
          · rw [List.mem_singleton.1 h3] at hy
            exact hz e he hy
    · exact .refl h
theorem lst_le (L : List Pt) : 1 ≤ lst L ∧ lst L ≤ L.length + 1 := by
  unfold lst
  cases hf : (List.range (L.length + 1)).find? fun k => decide (k + 1 ∉ L.map (·.id)) with
  | none => simp
  | some k =>
    have := List.mem_range.1 (List.mem_of_find?_eq_some hf)
    simp
    omega
theorem nx_invite {L : List Pt} (h : Inv L) (hl : L.length ≤ 100) (most : Int) (a p : Nat) : Nx L (inviteS most L a p).1 := by
  unfold inviteS
  split
  · exact .refl h
  · split
    · exact .refl h
    · rename_i hap
      cases hg : getP L (ofP L a) with
      | none =>
        simp only
        split
        · exact .refl h
        · have hb := lst_le L
          refine .ins h ⟨⟨hb.1, by show lst L ≤ 2147483647; omega⟩, List.mem_singleton.2 rfl, by simp, by simp, ?_, by simp⟩ (fun e he hne y hy hy' => ?_)
          · intro y hy hy'
            rw [List.mem_singleton.1 hy] at hy'
            exact hap (List.mem_singleton.1 hy')
          · rw [List.mem_singleton.1 hy'] at hy
            have h1 := of_mem h he hy
            have h2 := get_mem h.ris he
            rw [h1, h2] at hg
            cases hg
      | some g =>
        simp only
        have hm := (get_some hg).1
        have k := h.each g hm
        split
        · exact .refl h
        · split
          · exact .refl h
          · split
            · exact .refl h
            · rename_i hpm h4
              refine .ins h ⟨k.id, k.ld, ?_, ?_, ?_, k.nod⟩ (fun e he hne x hx => ot_one h hm he hne hx)
              · have := k.two
                simp only [List.length_append, List.length_cons, List.length_nil]
                omega
              · simp only [List.length_append, List.length_cons, List.length_nil]
                omega
              · intro y hy hy'
                rcases List.mem_append.1 hy' with h3 | h3
                · exact k.dis y hy h3
                · rw [List.mem_singleton.1 h3] at hy
                  exact hpm (.inl hy)
/-- What stands behind an act. -/
def actL (most d : Int) (L : List Pt) (a b : Nat) : List Pt :=
  if d = 0 then (inviteS most L a b).1 else if d = 1 then (joinS L b a).1 else if d = 2 then (refuseS L b a).1 else if d = 3 then (leaveS L a).1 else if d = 4 then (kickS L a b).1 else if d = 5 then (leadS L a b).1 else L
theorem nx_act {L : List Pt} (h : Inv L) (hl : L.length ≤ 100) (most d : Int) (a b : Nat) : Nx L (actL most d L a b) := by
  unfold actL
  split
  · exact nx_invite h hl most a b
  split
  · exact nx_join h b a
  split
  · exact nx_refuse h b a
  split
  · exact nx_leave h a
  split
  · exact nx_kick h a b
  split
  · exact nx_lead h a b
  exact .refl h
end Go.Proofs.Ytjlpmdokmfmdiaa.P
