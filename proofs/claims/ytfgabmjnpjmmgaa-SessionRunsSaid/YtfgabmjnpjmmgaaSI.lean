/- Session: the five acts, told by the list. -/
import Derived.Test.YtfgabmjnpjmmgaaSH
import Derived.Test.YtfgabmjnpjmmgaaSF
namespace Go.Proofs.Ytfgabmjnpjmmgaa
open Go.RowKit
set_option linter.unusedVariables false
set_option linter.unusedSimpArgs false

/-- The table holds the list. -/
abbrev TbL (w : World) (B T : Nat) (idle most : Int) (L : List Lk) : Prop := Tb w B T idle most (L.map Prod.fst) (L.map Prod.snd)
theorem at_fst {L : List Lk} {k x : Nat} {y : Mk} (h : L[k]? = some (x, y)) : (L.map Prod.fst)[k]? = some x ∧ (L.map Prod.snd)[k]? = some y := by simp [h]
theorem fst_mem {L : List Lk} {x : Nat} (h : ∀ e ∈ L, e.1 ≠ x) : x ∉ L.map Prod.fst := fun hm => by
  obtain ⟨e, he, rfl⟩ := List.mem_map.1 hm
  exact h e he rfl
theorem set_maps {L : List Lk} (h : L.Pairwise Rd) {p x : Nat} {z : Mk} (hp : (L.map Prod.fst)[p]? = some x) : (setS x z L).map Prod.fst = L.map Prod.fst ∧ (setS x z L).map Prod.snd = (L.map Prod.snd).set p z := by
  rw [List.getElem?_map] at hp
  obtain ⟨⟨x', y⟩, hk, he⟩ := Option.map_eq_some_iff.1 hp
  simp only at he
  subst he
  rw [set_atS h z hk, List.map_set, List.map_set]
  refine ⟨?_, rfl⟩
  obtain ⟨hlt, e⟩ := List.getElem?_eq_some_iff.1 hk
  refine List.ext_getElem? fun i => ?_
  by_cases hi : i = p
  · subst hi
    rw [List.getElem?_set_self (by simpa using hlt), (at_fst hk).1]
  · rw [List.getElem?_set_ne (fun h => hi h.symm)]
theorem del_maps {L : List Lk} (h : L.Pairwise Rd) {k x : Nat} {y : Mk} (hk : L[k]? = some (x, y)) : (delS x L).map Prod.fst = (L.map Prod.fst).take k ++ (L.map Prod.fst).drop (k + 1) ∧ (delS x L).map Prod.snd = (L.map Prod.snd).take k ++ (L.map Prod.snd).drop (k + 1) := by
  rw [del_at h hk]
  simp [List.map_take, List.map_drop]
theorem open_len {most M : Int} {x : Nat} {now : Int} {L : List Lk} (h1 : (L.length : Int) ≤ M) (h2 : min most 2147483647 ≤ M) : ((openS most x now L).2.length : Int) ≤ M := by
  unfold openS
  split
  · exact h1
  · split
    · exact h1
    · split
      · exact h1
      · rename_i h5
        have : ∀ (l : List Lk) z, (insS x z l).length = l.length + 1 := fun l z => by
          induction l with
          | nil => rfl
          | cons e l ih => unfold insS; split <;> simp [ih]
        rw [this]
        omega
theorem sopen_act (B T : Nat) (idle most : Int) (L : List Lk) (x : Nat) (now : Int) (w : World) (h : TbL w B T idle most L) (hN : Nd L) (hl : L.length < 900) (hB : B ≤ w.heap.size) :
    Calls Try.prog 8 #[.pointer (some ⟨T, 0, none⟩), .int .u32 (x : Int), .int .i64 now] w fun r w' => r = .returned (.int .i64 (openS most x now L).1) ∧ TbL w' B T idle most (openS most x now L).2 ∧ Bt B w w' := by
  have hl' : (L.map Prod.fst).length < 1000 := by simp; omega
  unfold openS
  by_cases h1 : 1 ≤ x ∧ x ≤ 2147483647
  · rw [if_neg (by simp [h1])]
    cases hk : look x L with
    | some y =>
      obtain ⟨k, hk'⟩ := look_some hk
      exact (open_there B T idle most _ _ x now w h (by omega) (List.mem_of_getElem? (at_fst hk').1)).mono fun r w' ⟨e, hb⟩ => ⟨by simpa using e, by simpa using h.after hb, Bt.of_below hb hB⟩
    | none =>
      have hnx := look_none hk
      by_cases hf : min most 2147483647 ≤ (L.length : Int)
      · exact (open_full B T idle most _ _ x now w h (by omega) (fst_mem hnx) h1 (by simpa using hf)).mono fun r w' ⟨e, hb⟩ => ⟨by simpa [hf] using e, by simpa [hf] using h.after hb, Bt.of_below hb hB⟩
      · refine (open_new B T idle most _ _ x now w h hl' (fst_mem hnx) h1 (by simp; omega)).mono fun r w' ⟨e, ⟨p, hp, ht⟩, hb⟩ => ⟨by simpa [hf] using e, ?_, hb⟩
        have e2 := ins_at (now, (0 : Int)) hp hnx
        simp only [Option.isSome_none, Bool.false_eq_true, if_false, if_neg hf]
        unfold TbL
        rw [e2]
        simpa [List.map_take, List.map_drop] using ht
  · rw [if_pos h1]
    exact (open_id B T idle most _ _ x now w h (by omega) h1).mono fun r w' ⟨e, hb⟩ => ⟨e, h.after hb, Bt.of_below hb hB⟩
theorem close_act (B T : Nat) (idle most : Int) (L : List Lk) (x : Nat) (w : World) (h : TbL w B T idle most L) (hN : Nd L) (hl : L.length < 900) (hB : B ≤ w.heap.size) :
    Calls Try.prog 14 #[.pointer (some ⟨T, 0, none⟩), .int .u32 (x : Int)] w fun r w' => r = .returned (.tuple #[.int .u32 (closeS x L).2.1, .int .i64 (closeS x L).1]) ∧ TbL w' B T idle most (closeS x L).2.2 ∧ Bt B w w' := by
  have hl' : (L.map Prod.fst).length ≤ 1000 := by simp; omega
  unfold closeS
  cases hk : look x L with
  | none => exact (close_none B T idle most _ _ x w h hl' (fst_mem (look_none hk))).mono fun r w' ⟨e, hb⟩ => ⟨e, h.after hb, Bt.of_below hb hB⟩
  | some y =>
    obtain ⟨k, hk'⟩ := look_some hk
    obtain ⟨y1, y2⟩ := y
    refine (close_there B T idle most _ _ x w h hl' k y1 y2 (at_fst hk').1 (at_fst hk').2 hB).mono fun r w' ⟨e, ht, hb⟩ => ⟨e, ?_, hb⟩
    unfold TbL
    rw [(del_maps hN.1 hk').1, (del_maps hN.1 hk').2]
    exact ht
theorem touch_act (B T : Nat) (idle most : Int) (L : List Lk) (x : Nat) (now : Int) (w : World) (h : TbL w B T idle most L) (hN : Nd L) (hl : L.length < 900) (hB : B ≤ w.heap.size) :
    Calls Try.prog 16 #[.pointer (some ⟨T, 0, none⟩), .int .u32 (x : Int), .int .i64 now] w fun r w' => r = .returned (.int .i64 (touchS x now L).1) ∧ TbL w' B T idle most (touchS x now L).2 ∧ Bt B w w' := by
  have hl' : (L.map Prod.fst).length ≤ 1000 := by simp; omega
  unfold touchS
  cases hk : look x L with
  | none => exact (touch_none B T idle most _ _ x now w h hl' (fst_mem (look_none hk))).mono fun r w' ⟨e, hb⟩ => ⟨e, h.after hb, Bt.of_below hb hB⟩
  | some y =>
    obtain ⟨k, hk'⟩ := look_some hk
    obtain ⟨y1, y2⟩ := y
    refine (touch_there B T idle most _ _ x now w h hl' k y1 y2 (at_fst hk').1 (at_fst hk').2 hB).mono fun r w' ⟨e, ⟨p, hp, ht⟩, hb⟩ => ⟨e, ?_, hb⟩
    unfold TbL
    rw [(set_maps hN.1 hp).1, (set_maps hN.1 hp).2]
    exact ht
theorem logout_act (B T : Nat) (idle most : Int) (L : List Lk) (x : Nat) (w : World) (h : TbL w B T idle most L) (hN : Nd L) (hl : L.length < 900) (hB : B ≤ w.heap.size) :
    Calls Try.prog 12 #[.pointer (some ⟨T, 0, none⟩), .int .u32 (x : Int)] w fun r w' => r = .returned (.tuple #[.int .u32 (logoutS x L).2.1, .int .i64 (logoutS x L).1]) ∧ TbL w' B T idle most (logoutS x L).2.2 ∧ Bt B w w' := by
  have hl' : (L.map Prod.fst).length ≤ 1000 := by simp; omega
  unfold logoutS
  cases hk : look x L with
  | none => exact (logout_none B T idle most _ _ x w h hl' (fst_mem (look_none hk))).mono fun r w' ⟨e, hb⟩ => ⟨e, h.after hb, Bt.of_below hb hB⟩
  | some y =>
    obtain ⟨k, hk'⟩ := look_some hk
    obtain ⟨y1, y2⟩ := y
    by_cases h0 : y2 = 0
    · subst h0
      exact (logout_free B T idle most _ _ x w h hl' k y1 (at_fst hk').1 (at_fst hk').2).mono fun r w' ⟨e, hb⟩ => ⟨e, h.after hb, Bt.of_below hb hB⟩
    · simp only [if_neg h0]
      refine (logout_there B T idle most _ _ x w h hl' k y1 y2 (at_fst hk').1 (at_fst hk').2 hB h0).mono fun r w' ⟨e, ⟨p, hp, ht⟩, hb⟩ => ⟨e, ?_, hb⟩
      unfold TbL
      rw [(set_maps hN.1 hp).1, (set_maps hN.1 hp).2]
      exact ht
theorem login_act (B T : Nat) (idle most : Int) (L : List Lk) (x pl : Nat) (now : Int) (w : World) (h : TbL w B T idle most L) (hN : Nd L) (hl : L.length < 900) (hB : B ≤ w.heap.size) :
    Calls Try.prog 10 #[.pointer (some ⟨T, 0, none⟩), .int .u32 (x : Int), .int .u32 (pl : Int), .int .i64 now] w fun r w' => r = .returned (.tuple #[.int .u32 ((loginS x pl now L).2.1 : Nat), .int .i64 (loginS x pl now L).1]) ∧ TbL w' B T idle most (loginS x pl now L).2.2 ∧ Bt B w w' := by
  have hl' : (L.map Prod.fst).length ≤ 1000 := by simp; omega
  unfold loginS
  cases hk : look x L with
  | none => exact (login_none B T idle most _ _ x pl now w h hl' (fst_mem (look_none hk))).mono fun r w' ⟨e, hb⟩ => ⟨e, h.after hb, Bt.of_below hb hB⟩
  | some y =>
    obtain ⟨k, hk'⟩ := look_some hk
    obtain ⟨y1, y2⟩ := y
    by_cases hpl : 1 ≤ pl ∧ pl ≤ 2147483647
    · simp only [if_neg (Classical.not_not.2 hpl)]
      by_cases h0 : y2 = 0
      · subst h0
        simp only [not_true_eq_false, if_false]
        rcases connQ_cases (pl : Int) L with ⟨e1, e2⟩ | ⟨q, a, e1, e2, e3⟩
        · simp only [e1, if_true]
          refine (login_free B T idle most _ _ x pl now w h hl' k y1 (at_fst hk').1 (at_fst hk').2 hpl hB (by rw [zipL]; exact e1)).mono fun r w' ⟨⟨e, p, hp, ht⟩, hb⟩ => ⟨e, ?_, hb⟩
          unfold TbL
          rw [(set_maps hN.1 hp).1, (set_maps hN.1 hp).2]
          exact ht
        · have ha := hN.2 a (List.mem_of_getElem? e1)
          have hax : ¬ a.1 = x := fun e => by
            have := look_at hN.1 (k := q) (x := a.1) (y := a.2) e1
            rw [e, hk] at this
            injection this with this
            rw [← this] at e2
            simp at e2
            omega
          obtain ⟨g1, g2⟩ := del_maps hN.1 (x := a.1) (y := a.2) e1
          simp only [e3, if_neg (show ¬ a.1 = 0 by omega)]
          refine (login_move B T idle most _ _ x pl a.1 q now w h hl' k y1 (at_fst hk').1 (at_fst hk').2 hpl hB (by rw [zipL]; exact e3) (by simp [e1]) hax).mono fun r w' ⟨⟨e, p, hp, ht⟩, hb⟩ => ⟨e, ?_, hb⟩
          rw [← g1] at hp ht
          rw [← g2] at ht
          unfold TbL
          rw [(set_maps (nd_del a.1 hN).1 hp).1, (set_maps (nd_del a.1 hN).1 hp).2]
          exact ht
      · simp only [if_pos h0]
        exact (login_other B T idle most _ _ x pl now w h hl' k y1 y2 (at_fst hk').1 (at_fst hk').2 hpl h0).mono fun r w' ⟨e, hb⟩ => ⟨e, h.after hb, Bt.of_below hb hB⟩
    · simp only [if_pos hpl]
      exact (login_id B T idle most _ _ x pl now w h hl' k y1 y2 (at_fst hk').1 (at_fst hk').2 hpl).mono fun r w' ⟨e, hb⟩ => ⟨e, h.after hb, Bt.of_below hb hB⟩
end Go.Proofs.Ytfgabmjnpjmmgaa
