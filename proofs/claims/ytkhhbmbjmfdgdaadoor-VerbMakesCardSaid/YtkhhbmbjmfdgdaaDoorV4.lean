/- Verb: the document's table and the program's own are one. -/
import Derived.Test.YtkhhbmbjmfdgdaaDoorV3
namespace Go.Proofs.YtkhhbmbjmfdgdaaDoor
open Go.RowKit
set_option maxRecDepth 20000

theorem rows_le : ∀ i : Fin 67, (rowsR[i.1]'(i.2)).1 ≤ 198 ∧ 1 ≤ (rowsR[i.1]'(i.2)).1 := by decide +kernel
theorem find_out (k : Int) (h : k < 1 ∨ 198 < k) : findR k = none := by
  unfold findR
  refine find_no rowsR fun j hj => ?_
  have := rows_le ⟨j, hj⟩
  simp only at this
  rw [beq_eq_false_iff_ne]
  omega
theorem side_out (k : Int) (h : k < 1 ∨ 198 < k) : sideP k = 0 := by
  unfold sideP
  rw [if_neg (by omega), if_neg (by omega), if_neg (by omega), if_neg (by omega), if_neg (by omega)]
theorem ent_out (k : Int) (h : k < 1 ∨ 198 < k) : entP k = (⟨#[]⟩, ⟨#[]⟩) := by
  unfold entP
  rw [if_neg (by omega), if_neg (by omega), if_neg (by omega), if_neg (by omega), if_neg (by omega)]

theorem find_eq (k : Int) : (findR k).isSome = (sideP k != 0) ∧ (rowD (findR k)).2 = entP k ∧ ((rowD (findR k)).1 : Int) = (if sideP k != 0 then k else 0) := by
  by_cases h : k < 1 ∨ 198 < k
  · rw [find_out k h, side_out k h, ent_out k h]
    exact ⟨rfl, rfl, rfl⟩
  · obtain ⟨n, rfl⟩ : ∃ n : Nat, k = n := ⟨k.toNat, by omega⟩
    have ht := tables_one ⟨n, by omega⟩
    simp only at ht
    refine ⟨ht.1, ht.2.1, ?_⟩
    rw [ht.2.2]
    split <;> rfl

theorem find_congr {α : Type} {p q : α → Bool} : ∀ (l : List α), (∀ x ∈ l, p x = q x) → l.find? p = l.find? q
  | [], _ => rfl
  | x :: l, h => by
    rw [List.find?_cons, List.find?_cons, h x (by simp), find_congr l (fun y hy => h y (by simp [hy]))]

theorem rows_names : ∀ i : Fin 67, (entP ((rowsR[i.1]'(i.2)).1 : Int)).1 = (rowsR[i.1]'(i.2)).2.1 := by decide +kernel
theorem kinds_list : (List.range' 1 198).filter (fun (j : Nat) => sideP (j : Int) != 0) = rowsR.map (·.1) := by decide +kernel

theorem named_eq (s : ByteArray) : kindR s = (namedR s).map (·.1) := by
  have h1 : kindR s = ((List.range' 1 198).filter (fun (j : Nat) => sideP (j : Int) != 0)).find? (fun (j : Nat) => (entP (j : Int)).1.toList == s.toList) := by
    rw [List.find?_filter]
    unfold kindR
    exact find_congr _ (fun j _ => by simp only [isK, Bool.decide_and, Bool.decide_eq_true])
  have h2 : rowsR.find? ((fun (j : Nat) => (entP (j : Int)).1.toList == s.toList) ∘ (·.1)) = namedR s := by
    refine find_congr rowsR fun r hr => ?_
    obtain ⟨i, hi, rfl⟩ := List.getElem_of_mem hr
    have ht : (entP (rowsR[i].1 : Int)).1 = rowsR[i].2.1 := rows_names ⟨i, hi⟩
    show ((entP (rowsR[i].1 : Int)).1.toList == s.toList) = (rowsR[i].2.1.toList == s.toList)
    rw [ht]
  rw [h1, kinds_list, List.find?_map, h2]

theorem named_kind (s : ByteArray) : ((rowD (namedR s)).1 : Int) = ((kindR s).getD 0 : Nat) ∧ (namedR s).isSome = (kindR s).isSome := by
  rw [named_eq]
  cases namedR s <;> exact ⟨rfl, rfl⟩

theorem side_vals (k : Int) (h : sideP k ≠ 0) : sideP k = if k ≤ 27 then 1 else if k ≤ 111 then 2 else if k ≤ 165 then 3 else 4 := by
  unfold sideP at h ⊢
  repeat' split
  all_goals first
    | rfl
    | (exfalso; omega)
    | (rename_i g1 g2 g3 g4 g5 _ _ _; rw [if_neg g1, if_neg g2, if_neg g3, if_neg g4, if_neg g5] at h; exact absurd rfl h)
    | (rw [if_neg (by assumption), if_neg (by assumption), if_neg (by assumption), if_neg (by assumption), if_neg (by assumption)] at h; exact absurd rfl h)

set_option maxHeartbeats 1000000 in
theorem rside_any (k : Int) (w : World) : Calls Tryd.prog 16 #[.int .i64 k] w fun e w' => e = .returned (.int .i64 (sideP k)) ∧ Below w.heap.size w w' := by
  have hf := find_any k w
  have he := (find_eq k).1
  obtain ⟨r, hr⟩ : ∃ r, r = rowD (findR k) := ⟨_, rfl⟩
  unfold FindPost at hf
  rw [he] at hf
  rw [← hr] at hf
  obtain ⟨sd, hsd⟩ : ∃ sd, sd = sideP k := ⟨_, rfl⟩
  have hv := side_vals k
  rw [← hsd] at hf hv ⊢
  have HF := Lib.hid hf
  clear hf he hr hsd
  by_cases h0 : sd = 0
  · subst h0
    clear hv
    go_enter Tryd.func16, Tryd.ntmps16
    go_wp2_with fail
    refine HF.out.mono ?_
    rintro e w1 ⟨rfl, hb1⟩
    go_wp2
    go_ret
    exact ⟨rfl, hb1.alloc hb1.size _⟩
  · have t0 : (sd != 0) = true := by simpa using h0
    have hv2 := hv h0
    clear hv h0
    rw [t0] at HF
    clear t0
    have HV := Lib.hid hv2
    clear hv2
    by_cases h1 : k ≤ 27
    · obtain rfl : sd = 1 := by rw [HV.out, if_pos h1]
      go_enter Tryd.func16, Tryd.ntmps16
      go_wp2_with fail
      refine HF.out.mono ?_
      rintro e w1 ⟨rfl, hb1⟩
      go_wp2
      go_ret
      exact ⟨rfl, hb1.alloc hb1.size _⟩
    · by_cases h2 : k ≤ 111
      · obtain rfl : sd = 2 := by rw [HV.out, if_neg h1, if_pos h2]
        go_enter Tryd.func16, Tryd.ntmps16
        go_wp2_with fail
        refine HF.out.mono ?_
        rintro e w1 ⟨rfl, hb1⟩
        go_wp2
        go_ret
        exact ⟨rfl, hb1.alloc hb1.size _⟩
      · by_cases h3 : k ≤ 165
        · obtain rfl : sd = 3 := by rw [HV.out, if_neg h1, if_neg h2, if_pos h3]
          go_enter Tryd.func16, Tryd.ntmps16
          go_wp2_with fail
          refine HF.out.mono ?_
          rintro e w1 ⟨rfl, hb1⟩
          go_wp2
          go_ret
          exact ⟨rfl, hb1.alloc hb1.size _⟩
        · obtain rfl : sd = 4 := by rw [HV.out, if_neg h1, if_neg h2, if_neg h3]
          go_enter Tryd.func16, Tryd.ntmps16
          go_wp2_with fail
          refine HF.out.mono ?_
          rintro e w1 ⟨rfl, hb1⟩
          go_wp2
          go_ret
          exact ⟨rfl, hb1.alloc hb1.size _⟩
end Go.Proofs.YtkhhbmbjmfdgdaaDoor
