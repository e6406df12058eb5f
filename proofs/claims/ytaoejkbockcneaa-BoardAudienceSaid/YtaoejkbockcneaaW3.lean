/- Board: the document's Set. -/
import Derived.Test.YtaoejkbockcneaaW2
import Derived.Test.YtaoejkbockcneaaVH
namespace Go.Proofs.Ytaoejkbockcneaa.Bd
open Go.RowKit Go.Maps
set_option maxRecDepth 20000
set_option linter.unusedVariables false
set_option linter.unusedSimpArgs false

theorem Ms.none0 {w : World} {A : Option Addr} {l : List Mk} {n : Nat} (h : Ms w A l) (hn : n = l.length) (hA : A = none) : n = 0 := by
  by_cases h0 : 0 < l.length
  · obtain ⟨b, o, cc, e, _⟩ := h h0
    rw [hA] at e
    cases e
  · omega
/-- One mark's cell is written. -/
theorem set_cells {w : World} {g m j : Nat} {cur : Array Value} {v : Value} (hb : w.heap[g]? = some (.cells cur 118 (0, 0))) (hj : j < cur.size) : (w.setCell ⟨g, j, none⟩ v).cell? ⟨g, m, none⟩ = if m = j then some v else w.cell? ⟨g, m, none⟩ := by
  have hs := heap_setCell_same w g j cur 118 v hb
  rw [cell_of_row _ g m _ _ _ hs, cell_of_row _ g m _ _ _ hb, Array.getElem?_setIfInBounds]
  by_cases h : m = j
  · rw [if_pos h.symm, if_pos hj, if_pos h]
  · rw [if_neg (fun e => h e.symm), if_neg h]
theorem set_at {w : World} {g k : Nat} {cur : Array Value} {l : List Mk} {p : Nat} {s t x : Int} (hb : w.heap[g]? = some (.cells cur 118 (0, 0))) (hA : ∀ i e, l[i]? = some e → AtM w g (0 + i * 3) e) (hk : l[k]? = some (p, s, t)) :
    Ms (w.setCell ⟨g, k * 3 + 1, none⟩ (.int .i64 x)) (some ⟨g, 0, none⟩) (l.set k (p, x, t)) := fun _ => by
  have hkl := (List.getElem?_eq_some_iff.1 hk).1
  have q := hA k _ hk
  have hj : k * 3 + 1 < cur.size := by
    have h1 := q.2.1
    rw [show (0 + k * 3 + 1) = k * 3 + 1 by omega, cell_of_row w g _ _ _ _ hb] at h1
    exact (Array.getElem?_eq_some_iff.1 h1).1
  refine ⟨g, 0, _, rfl, heap_setCell_same w g (k * 3 + 1) cur 118 _ hb, fun i e he => ?_⟩
  rw [List.getElem?_set] at he
  by_cases hik : k = i
  · subst hik
    rw [if_pos rfl, if_pos hkl] at he
    injection he with he
    subst he
    refine ⟨?_, ?_, ?_⟩
    · rw [set_cells hb hj, if_neg (by omega)]; exact q.1
    · rw [set_cells hb hj, if_pos (by omega)]
    · rw [set_cells hb hj, if_neg (by omega)]; exact q.2.2
  · rw [if_neg hik] at he
    have r := hA i e he
    refine ⟨?_, ?_, ?_⟩
    · rw [set_cells hb hj, if_neg (by omega)]; exact r.1
    · rw [set_cells hb hj, if_neg (by omega)]; exact r.2.1
    · rw [set_cells hb hj, if_neg (by omega)]; exact r.2.2
/-- Marks that are answered. -/
def RM (l : List Mk) (w : World) (r : Ending) (w' : World) : Prop := ∃ B m c, r = .returned (.slice B m c) ∧ m = l.length ∧ Ms w' B l ∧ Below w.heap.size w w'
def setL (p : Nat) (x : Int) (l : List Mk) : List Mk := if 1 ≤ p ∧ p ≤ 2147483647 then setM p (nrm x) l else l
set_option maxHeartbeats 2000000 in
theorem rset_no (A : Option Addr) (n c p : Nat) (x : Int) (l : List Mk) (w : World) (hn : n = l.length) (hR : Ms w A l) (hl : n ≤ 200) (hp : ¬ (1 ≤ p ∧ p ≤ 2147483647)) :
    Calls Try.prog 33 #[.slice A n c, .int .u32 (p : Int), .int .i64 x] w (RM l w) := by
  have HC := Lib.hid (V.rright_any p w)
  rw [decide_eq_false_iff_not.2 hp] at HC
  have HR := Lib.hid hR
  have HN := Lib.hid hn
  clear hn hR hp
  go_enter Try.func33, Try.ntmps33
  go_wp2_with fail
  refine HC.out.mono ?_
  rintro r w' ⟨rfl, hw⟩
  have hw := hw.symm
  subst hw
  go_wp2
  go_ret
  exact ⟨_, _, _, rfl, HN.out, HR.out, Below.refl _ _⟩
set_option maxHeartbeats 8000000 in
theorem rset_1 (A : Option Addr) (n c p : Nat) (x : Int) (l : List Mk) (w : World) (hn : n = l.length) (hR : Ms w A l) (hl : n ≤ 200) (hp : 1 ≤ p ∧ p ≤ 2147483647) (hx : x < 0) :
    Calls Try.prog 33 #[.slice A n c, .int .u32 (p : Int), .int .i64 x] w (RM (setM p 0 l) w) := by
  have HC := Lib.hid (V.rright_any p w)
  rw [decide_eq_true_iff.2 hp] at HC
  have HR := Lib.hid hR
  have HN := Lib.hid hn
  have HE : Hid ((w.alloc (.cells #[] 118)).ownsRow w.heap.size 118 3 (.slice (some ⟨w.heap.size, 0, none⟩) 0 0) 0 []) := World.ownsRow_made w #[] 0 (Nat.le_refl _) (by unfold maxLen; omega) rfl
  have HRW : Hid (Ms (w.alloc (.cells #[] 118)) A l) := hR.below ((Below.refl _ _).alloc (Nat.le_refl _) _)
  have HBA : Hid (Below w.heap.size w (w.alloc (.cells #[] 118))) := (Below.refl _ _).alloc (Nat.le_refl _) _
  clear hn hR hp
  go_enter Try.func33, Try.ntmps33
  go_wp2_with fail
  refine HC.out.mono ?_
  rintro r w' ⟨rfl, hw⟩
  have hw := hw.symm
  subst hw
  clear HC
  go_wp2_with (at_builtin; refine wpList_append_marks rfl _ _ rfl w.heap.size w.heap.size A n c l rfl rfl HE.out HN.out HRW.out (fun e => HRW.out.none0 HN.out e) (by omega) (by simp) ?_; intro v4 w4 hown4 hg4; obtain ⟨B4, c4, rfl⟩ := own3_form hown4; have HO4 := Lib.hid hown4; have HB4 : Hid (Below w.heap.size w w4) := HBA.out.grown hg4 (by simp) (fun k hk => by injection hk with hk; omega); clear hown4 hg4)
  refine (findM B4 n c4 p l w4 HN.out (Ms.of_own HO4.out) (by omega)).mono ?_
  rintro r w' ⟨⟨i, hf, rfl⟩, hw⟩
  have hw := hw.symm
  subst hw
  rcases hf with ⟨k, s, t, rfl, hk, hb⟩ | ⟨rfl, hb⟩
  · have HSE : Hid (setM p 0 l = l.set k (p, 0, t)) := setM_at hk hb
    have hkn : k < n := by have := (List.getElem?_eq_some_iff.1 hk).1; have := HN.out; omega
    have HLT := Lib.hid (own3_lt HO4.out)
    have hms := Ms.of_own HO4.out (by have := HN.out; omega)
    rcases HO4.out.2 with ⟨e, h0⟩ | ⟨g, cap, cur, e, hg, hbk, -, -, -, -⟩
    · omega
    · injection e with e1 _ e2
      subst e1 e2
      obtain ⟨b, o, cc, e, _, hA⟩ := hms
      injection e with e
      injection e with e1 e2 _
      subst e1 e2
      have HS : Hid (Ms (w4.setCell ⟨g, k * 3 + 1, none⟩ (.int .i64 0)) (some ⟨g, 0, none⟩) (l.set k (p, 0, t))) := set_at hbk hA hk
      have d1 : w4.cell? ⟨g, k * 3 + 1, none⟩ = some (.int .i64 s) := by have := (hA k _ hk).2.1; rwa [Nat.zero_add] at this
      have zf : w4.frozen? ⟨g, k * 3 + 1, none⟩ = false := frozen_of_row w4 g _ _ _ hbk
      have HGE : Hid (w.heap.size ≤ g) := hg
      clear hk hb hA hbk HO4 hg
      go_wp2
      go_ret
      exact ⟨_, _, _, rfl, by rw [HSE.out, List.length_set]; exact HN.out, by rw [HSE.out]; exact HS.out, HB4.out.setCell HGE.out _⟩
  · have HSE : Hid (setM p 0 l = l ++ [(p, 0, 0)]) := setM_no hb
    have HS4 : Hid (w.heap.size ≤ w4.heap.size) := HB4.out.size
    clear hb
    go_wp2_with (at_builtin; refine wpList_append_mk rfl _ _ rfl w.heap.size w4.heap.size (.slice B4 n c4) n l (p, 0, 0) rfl rfl (HO4.out.alloc _) (heap_alloc_new _ _) (by omega) (by have := HS4.out; simp; omega) ?_; intro v5 w5 hown5 hg5; obtain ⟨B5, c5, rfl⟩ := own3_form hown5; have HO5 := Lib.hid hown5; have HB5 : Hid (Below w.heap.size w w5) := (HB4.out.alloc HS4.out _).grown hg5 (by have := HS4.out; simp; omega) (fun g h => (own3_lt HO4.out g h).1); clear hown5 hg5)
    go_ret
    exact ⟨_, _, _, rfl, by rw [HSE.out]; exact own3_len HO5.out, by rw [HSE.out]; exact Ms.of_own HO5.out, HB5.out⟩
set_option maxHeartbeats 8000000 in
theorem rset_2 (A : Option Addr) (n c p : Nat) (x : Int) (l : List Mk) (w : World) (hn : n = l.length) (hR : Ms w A l) (hl : n ≤ 200) (hp : 1 ≤ p ∧ p ≤ 2147483647) (h0 : ¬ x < 0) (hx : x > 6) :
    Calls Try.prog 33 #[.slice A n c, .int .u32 (p : Int), .int .i64 x] w (RM (setM p 0 l) w) := by
  have HC := Lib.hid (V.rright_any p w)
  rw [decide_eq_true_iff.2 hp] at HC
  have HR := Lib.hid hR
  have HN := Lib.hid hn
  have HE : Hid ((w.alloc (.cells #[] 118)).ownsRow w.heap.size 118 3 (.slice (some ⟨w.heap.size, 0, none⟩) 0 0) 0 []) := World.ownsRow_made w #[] 0 (Nat.le_refl _) (by unfold maxLen; omega) rfl
  have HRW : Hid (Ms (w.alloc (.cells #[] 118)) A l) := hR.below ((Below.refl _ _).alloc (Nat.le_refl _) _)
  have HBA : Hid (Below w.heap.size w (w.alloc (.cells #[] 118))) := (Below.refl _ _).alloc (Nat.le_refl _) _
  clear hn hR hp
  go_enter Try.func33, Try.ntmps33
  go_wp2_with fail
  refine HC.out.mono ?_
  rintro r w' ⟨rfl, hw⟩
  have hw := hw.symm
  subst hw
  clear HC
  go_wp2_with (at_builtin; refine wpList_append_marks rfl _ _ rfl w.heap.size w.heap.size A n c l rfl rfl HE.out HN.out HRW.out (fun e => HRW.out.none0 HN.out e) (by omega) (by simp) ?_; intro v4 w4 hown4 hg4; obtain ⟨B4, c4, rfl⟩ := own3_form hown4; have HO4 := Lib.hid hown4; have HB4 : Hid (Below w.heap.size w w4) := HBA.out.grown hg4 (by simp) (fun k hk => by injection hk with hk; omega); clear hown4 hg4)
  refine (findM B4 n c4 p l w4 HN.out (Ms.of_own HO4.out) (by omega)).mono ?_
  rintro r w' ⟨⟨i, hf, rfl⟩, hw⟩
  have hw := hw.symm
  subst hw
  rcases hf with ⟨k, s, t, rfl, hk, hb⟩ | ⟨rfl, hb⟩
  · have HSE : Hid (setM p 0 l = l.set k (p, 0, t)) := setM_at hk hb
    have hkn : k < n := by have := (List.getElem?_eq_some_iff.1 hk).1; have := HN.out; omega
    have HLT := Lib.hid (own3_lt HO4.out)
    have hms := Ms.of_own HO4.out (by have := HN.out; omega)
    rcases HO4.out.2 with ⟨e, h0⟩ | ⟨g, cap, cur, e, hg, hbk, -, -, -, -⟩
    · omega
    · injection e with e1 _ e2
      subst e1 e2
      obtain ⟨b, o, cc, e, _, hA⟩ := hms
      injection e with e
      injection e with e1 e2 _
      subst e1 e2
      have HS : Hid (Ms (w4.setCell ⟨g, k * 3 + 1, none⟩ (.int .i64 0)) (some ⟨g, 0, none⟩) (l.set k (p, 0, t))) := set_at hbk hA hk
      have d1 : w4.cell? ⟨g, k * 3 + 1, none⟩ = some (.int .i64 s) := by have := (hA k _ hk).2.1; rwa [Nat.zero_add] at this
      have zf : w4.frozen? ⟨g, k * 3 + 1, none⟩ = false := frozen_of_row w4 g _ _ _ hbk
      have HGE : Hid (w.heap.size ≤ g) := hg
      clear hk hb hA hbk HO4 hg
      go_wp2
      go_ret
      exact ⟨_, _, _, rfl, by rw [HSE.out, List.length_set]; exact HN.out, by rw [HSE.out]; exact HS.out, HB4.out.setCell HGE.out _⟩
  · have HSE : Hid (setM p 0 l = l ++ [(p, 0, 0)]) := setM_no hb
    have HS4 : Hid (w.heap.size ≤ w4.heap.size) := HB4.out.size
    clear hb
    go_wp2_with (at_builtin; refine wpList_append_mk rfl _ _ rfl w.heap.size w4.heap.size (.slice B4 n c4) n l (p, 0, 0) rfl rfl (HO4.out.alloc _) (heap_alloc_new _ _) (by omega) (by have := HS4.out; simp; omega) ?_; intro v5 w5 hown5 hg5; obtain ⟨B5, c5, rfl⟩ := own3_form hown5; have HO5 := Lib.hid hown5; have HB5 : Hid (Below w.heap.size w w5) := (HB4.out.alloc HS4.out _).grown hg5 (by have := HS4.out; simp; omega) (fun g h => (own3_lt HO4.out g h).1); clear hown5 hg5)
    go_ret
    exact ⟨_, _, _, rfl, by rw [HSE.out]; exact own3_len HO5.out, by rw [HSE.out]; exact Ms.of_own HO5.out, HB5.out⟩
set_option maxHeartbeats 8000000 in
theorem rset_3 (A : Option Addr) (n c p : Nat) (x : Int) (l : List Mk) (w : World) (hn : n = l.length) (hR : Ms w A l) (hl : n ≤ 200) (hp : 1 ≤ p ∧ p ≤ 2147483647) (h0 : ¬ x < 0) (hx : ¬ x > 6) :
    Calls Try.prog 33 #[.slice A n c, .int .u32 (p : Int), .int .i64 x] w (RM (setM p x l) w) := by
  have HC := Lib.hid (V.rright_any p w)
  rw [decide_eq_true_iff.2 hp] at HC
  have HR := Lib.hid hR
  have HN := Lib.hid hn
  have HE : Hid ((w.alloc (.cells #[] 118)).ownsRow w.heap.size 118 3 (.slice (some ⟨w.heap.size, 0, none⟩) 0 0) 0 []) := World.ownsRow_made w #[] 0 (Nat.le_refl _) (by unfold maxLen; omega) rfl
  have HRW : Hid (Ms (w.alloc (.cells #[] 118)) A l) := hR.below ((Below.refl _ _).alloc (Nat.le_refl _) _)
  have HBA : Hid (Below w.heap.size w (w.alloc (.cells #[] 118))) := (Below.refl _ _).alloc (Nat.le_refl _) _
  clear hn hR hp
  go_enter Try.func33, Try.ntmps33
  go_wp2_with fail
  refine HC.out.mono ?_
  rintro r w' ⟨rfl, hw⟩
  have hw := hw.symm
  subst hw
  clear HC
  go_wp2_with (at_builtin; refine wpList_append_marks rfl _ _ rfl w.heap.size w.heap.size A n c l rfl rfl HE.out HN.out HRW.out (fun e => HRW.out.none0 HN.out e) (by omega) (by simp) ?_; intro v4 w4 hown4 hg4; obtain ⟨B4, c4, rfl⟩ := own3_form hown4; have HO4 := Lib.hid hown4; have HB4 : Hid (Below w.heap.size w w4) := HBA.out.grown hg4 (by simp) (fun k hk => by injection hk with hk; omega); clear hown4 hg4)
  refine (findM B4 n c4 p l w4 HN.out (Ms.of_own HO4.out) (by omega)).mono ?_
  rintro r w' ⟨⟨i, hf, rfl⟩, hw⟩
  have hw := hw.symm
  subst hw
  rcases hf with ⟨k, s, t, rfl, hk, hb⟩ | ⟨rfl, hb⟩
  · have HSE : Hid (setM p x l = l.set k (p, x, t)) := setM_at hk hb
    have hkn : k < n := by have := (List.getElem?_eq_some_iff.1 hk).1; have := HN.out; omega
    have HLT := Lib.hid (own3_lt HO4.out)
    have hms := Ms.of_own HO4.out (by have := HN.out; omega)
    rcases HO4.out.2 with ⟨e, h0⟩ | ⟨g, cap, cur, e, hg, hbk, -, -, -, -⟩
    · omega
    · injection e with e1 _ e2
      subst e1 e2
      obtain ⟨b, o, cc, e, _, hA⟩ := hms
      injection e with e
      injection e with e1 e2 _
      subst e1 e2
      have HS : Hid (Ms (w4.setCell ⟨g, k * 3 + 1, none⟩ (.int .i64 x)) (some ⟨g, 0, none⟩) (l.set k (p, x, t))) := set_at hbk hA hk
      have d1 : w4.cell? ⟨g, k * 3 + 1, none⟩ = some (.int .i64 s) := by have := (hA k _ hk).2.1; rwa [Nat.zero_add] at this
      have zf : w4.frozen? ⟨g, k * 3 + 1, none⟩ = false := frozen_of_row w4 g _ _ _ hbk
      have HGE : Hid (w.heap.size ≤ g) := hg
      clear hk hb hA hbk HO4 hg
      go_wp2
      go_ret
      exact ⟨_, _, _, rfl, by rw [HSE.out, List.length_set]; exact HN.out, by rw [HSE.out]; exact HS.out, HB4.out.setCell HGE.out _⟩
  · have HSE : Hid (setM p x l = l ++ [(p, x, 0)]) := setM_no hb
    have HS4 : Hid (w.heap.size ≤ w4.heap.size) := HB4.out.size
    clear hb
    go_wp2_with (at_builtin; refine wpList_append_mk rfl _ _ rfl w.heap.size w4.heap.size (.slice B4 n c4) n l (p, x, 0) rfl rfl (HO4.out.alloc _) (heap_alloc_new _ _) (by omega) (by have := HS4.out; simp; omega) ?_; intro v5 w5 hown5 hg5; obtain ⟨B5, c5, rfl⟩ := own3_form hown5; have HO5 := Lib.hid hown5; have HB5 : Hid (Below w.heap.size w w5) := (HB4.out.alloc HS4.out _).grown hg5 (by have := HS4.out; simp; omega) (fun g h => (own3_lt HO4.out g h).1); clear hown5 hg5)
    go_ret
    exact ⟨_, _, _, rfl, by rw [HSE.out]; exact own3_len HO5.out, by rw [HSE.out]; exact Ms.of_own HO5.out, HB5.out⟩
theorem rset_any (A : Option Addr) (n c p : Nat) (x : Int) (l : List Mk) (w : World) (hn : n = l.length) (hR : Ms w A l) (hl : n ≤ 200) :
    Calls Try.prog 33 #[.slice A n c, .int .u32 (p : Int), .int .i64 x] w (RM (setL p x l) w) := by
  unfold setL
  by_cases hp : 1 ≤ p ∧ p ≤ 2147483647
  · rw [if_pos hp]
    unfold nrm
    by_cases h0 : x < 0
    · rw [if_pos (.inl h0)]
      exact rset_1 A n c p x l w hn hR hl hp h0
    · by_cases h1 : x > 6
      · rw [if_pos (.inr h1)]
        exact rset_2 A n c p x l w hn hR hl hp h0 h1
      · rw [if_neg (fun h => h.elim h0 h1)]
        exact rset_3 A n c p x l w hn hR hl hp h0 h1
  · rw [if_neg hp]
    exact rset_no A n c p x l w hn hR hl hp
end Go.Proofs.Ytaoejkbockcneaa.Bd
