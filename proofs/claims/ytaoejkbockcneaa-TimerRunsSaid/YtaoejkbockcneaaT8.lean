/- Timer: New, Len, Next, Find, Set. -/
import Derived.Test.YtaoejkbockcneaaT7
namespace Go.Proofs.Ytaoejkbockcneaa
open Go.RowKit
set_option maxRecDepth 20000

set_option maxHeartbeats 1000000 in
theorem new_any (B0 : Nat) (w : World) (hB : B0 ≤ w.heap.size) : Calls Try.prog 12 #[] w fun r w' => r = .returned (.pointer (some ⟨w.heap.size + 1, 0, none⟩)) ∧ IsT w' B0 (w.heap.size + 1) w.heap.size 0 [] ∧ Below w.heap.size w w' := by
  have hm := World.ownsMap_made w Try.prog 108 RP
  have hb := ((Below.refl w.heap.size w).alloc (Nat.le_refl _) (.map #[] 0)).alloc (by simp) (.cells #[.slice none 0 0, .map (some w.heap.size), .int .u64 0] 103)
  have hq := heap_alloc_new (w.alloc (.map #[] 0)) (.cells #[.slice none 0 0, .map (some w.heap.size), .int .u64 0] 103)
  rw [World.size_alloc] at hq
  have hmk : ∀ W : World, (Instr.makeMap 98 none).run Try.prog W = .ok (.map (some W.heap.size)) (W.alloc (.map #[] 0)) := fun W => rfl
  have HT : Hid (IsT ((w.alloc (.map #[] 0)).alloc (.cells #[.slice none 0 0, .map (some w.heap.size), .int .u64 0] 103)) B0 (w.heap.size + 1) w.heap.size 0 []) :=
    ⟨.slice none 0 0, [], .map [], 0, ⟨hq, ⟨World.ownsRow_nil _ _ 104 1, fun i e h => by simp at h, fun i j a b h => by simp at h, fun e h => by simp at h⟩, by omega⟩, fun i a b h1 h2 => by simp at h2, List.Perm.refl _, hm.alloc _, Nat.le_refl _, hB, fun k x _ => ⟨fun e h => by simp at h, fun _ => ⟨rfl, rfl⟩⟩, List.Pairwise.nil, fun e h => by simp at h, List.Pairwise.nil⟩
  clear hm hq
  go_enter Try.func12, Try.ntmps12
  go_wp2
  go_ret
  exact ⟨rfl, HT.out, hb⟩

set_option maxHeartbeats 1000000 in
theorem len_any {B0 Q M tn : Nat} {L : List It} (w : World) (h : IsT w B0 Q M tn L) : Calls Try.prog 24 #[.pointer (some ⟨Q, 0, none⟩)] w fun r w' => r = .returned (.int .i64 (L.length : Int)) ∧ w' = w := by
  obtain ⟨v, hp, D, cnt, h1, h2, h3, _⟩ := h
  obtain ⟨A, c, rfl⟩ := own_form h1.ln.own
  have hl := h3.length_eq
  have q0 := h1.c0
  rw [hl] at q0
  obtain ⟨n, hn⟩ : ∃ n, n = L.length := ⟨_, rfl⟩
  rw [← hn] at q0 ⊢
  clear h1 h2 h3 hl hn
  go_enter Try.func24, Try.ntmps24
  go_wp2
  go_ret
  exact ⟨rfl, rfl⟩
set_option maxHeartbeats 1000000 in
theorem len_nil (w : World) : Calls Try.prog 24 #[.pointer none] w fun r w' => r = .returned (.int .i64 0) ∧ w' = w := by
  go_enter Try.func24, Try.ntmps24
  go_wp2
  go_ret
  exact ⟨rfl, rfl⟩

abbrev tV (k : Int) (x : Nat) (a : Int) : Value := .agg #[.int .i64 k, .int .u32 (x : Int), .int .i64 a]
theorem heap_min {hp : List It} {e : It} (h : HeapN hp.length hp) (he : hp[0]? = some e) : ∀ (i : Nat) (a : It), hp[i]? = some a → lt a e = false := fun i => by
  induction i using Nat.strongRecOn with
  | ind i ih =>
    intro a ha
    by_cases hi : i = 0
    · subst hi
      rw [he] at ha
      injection ha with ha
      subst ha
      rw [lt_iff']
      omega
    · have hil := (List.getElem?_eq_some_iff.1 ha).1
      obtain ⟨b, hb⟩ : ∃ b, hp[(i - 1) / 2]? = some b := ⟨hp[(i - 1) / 2]'(by omega), List.getElem?_eq_getElem _⟩
      exact ge_trans (h i a b (by omega) hil ha hb) (ih ((i - 1) / 2) (by omega) b hb)
set_option linter.unusedSimpArgs false in
set_option maxHeartbeats 4000000 in
theorem next_none {B0 Q M tn : Nat} (w : World) (h : IsT w B0 Q M tn []) : Calls Try.prog 22 #[.pointer (some ⟨Q, 0, none⟩)] w fun r w' => r = .returned (.tuple #[tV 0 0 0, .bool false]) ∧ Below w.heap.size w w' := by
  have hb : Below w.heap.size w (w.alloc (.cells #[.int .i64 0, .int .u32 0, .int .i64 0] 35)) := (Below.refl _ _).alloc (Nat.le_refl _) _
  have HLN := Lib.hid (len_any _ (h.after hb))
  have hq := heap_alloc_new w (.cells #[.int .i64 0, .int .u32 0, .int .i64 0] 35)
  have e0 := cell_of_row _ w.heap.size 0 _ _ _ hq
  have e1 := cell_of_row _ w.heap.size 1 _ _ _ hq
  have e2 := cell_of_row _ w.heap.size 2 _ _ _ hq
  simp at e0 e1 e2
  clear h hq
  go_enter Try.func22, Try.ntmps22
  go_wp2_with fail
  refine HLN.out.mono ?_
  rintro r w1 ⟨rfl, rfl⟩
  go_wp2
  exact bodyPost_ret (v := .tuple #[tV 0 0 0, .bool false]) (by simp [results, Try.results22, go_sem, e0, e1, e2]) rfl ⟨rfl, hb⟩
set_option linter.unusedSimpArgs false in
set_option maxHeartbeats 4000000 in
theorem next_nil (w : World) : Calls Try.prog 22 #[.pointer none] w fun r w' => r = .returned (.tuple #[tV 0 0 0, .bool false]) ∧ Below w.heap.size w w' := by
  have hb : Below w.heap.size w (w.alloc (.cells #[.int .i64 0, .int .u32 0, .int .i64 0] 35)) := (Below.refl _ _).alloc (Nat.le_refl _) _
  have HLN := Lib.hid (len_nil (w.alloc (.cells #[.int .i64 0, .int .u32 0, .int .i64 0] 35)))
  have hq := heap_alloc_new w (.cells #[.int .i64 0, .int .u32 0, .int .i64 0] 35)
  have e0 := cell_of_row _ w.heap.size 0 _ _ _ hq
  have e1 := cell_of_row _ w.heap.size 1 _ _ _ hq
  have e2 := cell_of_row _ w.heap.size 2 _ _ _ hq
  simp at e0 e1 e2
  clear hq
  go_enter Try.func22, Try.ntmps22
  go_wp2_with fail
  refine HLN.out.mono ?_
  rintro r w1 ⟨rfl, rfl⟩
  go_wp2
  exact bodyPost_ret (v := .tuple #[tV 0 0 0, .bool false]) (by simp [results, Try.results22, go_sem, e0, e1, e2]) rfl ⟨rfl, hb⟩
set_option linter.unusedSimpArgs false in
set_option maxHeartbeats 4000000 in
theorem next_some {B0 Q M tn : Nat} {L : List It} (w : World) (h : IsT w B0 Q M tn L) (hl : 0 < L.length) : Calls Try.prog 22 #[.pointer (some ⟨Q, 0, none⟩)] w fun r w' => (∃ e ∈ L, (∀ y ∈ L, lt y e = false) ∧ r = .returned (.tuple #[tV e.2.1 e.2.2.1 e.2.2.2.1, .bool true])) ∧ Below w.heap.size w w' := by
  have hb : Below w.heap.size w (w.alloc (.cells #[.int .i64 0, .int .u32 0, .int .i64 0] 35)) := (Below.refl _ _).alloc (Nat.le_refl _) _
  have h0 := h.after hb
  have HLN := Lib.hid (len_any _ h0)
  obtain ⟨n, hn⟩ : ∃ n, n = L.length := ⟨_, rfl⟩
  rw [← hn] at HLN hl
  obtain ⟨v, hp, D, cnt, h1, h2, h3, _⟩ := h0
  have hlp : hp.length = n := by rw [hn]; exact h3.length_eq
  obtain ⟨e, he⟩ : ∃ e, hp[0]? = some e := ⟨hp[0]'(by omega), List.getElem?_eq_getElem _⟩
  have HE : Hid (e ∈ L ∧ ∀ y ∈ L, lt y e = false) := ⟨h3.mem_iff.1 (List.mem_of_getElem? he), fun y hy => by
    obtain ⟨i, hi⟩ := List.getElem?_of_mem (h3.mem_iff.2 hy)
    exact heap_min h2 he i y hi⟩
  obtain ⟨g, cap, rfl, r0, _, _⟩ := h1.ln.at he
  have q0 := h1.c0
  rw [hlp] at q0
  have hrow := h1.ln.its 0 e he
  have x0 := cell_of_row _ e.1 0 _ _ _ hrow
  have x1 := cell_of_row _ e.1 1 _ _ _ hrow
  have x2 := cell_of_row _ e.1 2 _ _ _ hrow
  simp [ic] at x0 x1 x2
  simp [ptr] at r0
  have hq := heap_alloc_new w (.cells #[.int .i64 0, .int .u32 0, .int .i64 0] 35)
  have hne : ¬ (e.1 = w.heap.size) := type_ne hrow hq (by decide)
  have e0 := cell_of_row _ w.heap.size 0 _ _ _ hq
  have e1 := cell_of_row _ w.heap.size 1 _ _ _ hq
  have e2 := cell_of_row _ w.heap.size 2 _ _ _ hq
  simp at e0 e1 e2
  have hn0 : ¬ (n : Int) = 0 := by omega
  have hb2 : Below w.heap.size w (w.alloc (.cells #[.int .i64 e.2.1, .int .u32 (e.2.2.1 : Int), .int .i64 e.2.2.2.1] 35)) := (Below.refl _ _).alloc (Nat.le_refl _) _
  have HB2 := Lib.hid hb2
  have hf := heap_alloc_new w (.cells #[.int .i64 e.2.1, .int .u32 (e.2.2.1 : Int), .int .i64 e.2.2.2.1] 35)
  have f0 := cell_of_row _ w.heap.size 0 _ _ _ hf
  have f1 := cell_of_row _ w.heap.size 1 _ _ _ hf
  have f2 := cell_of_row _ w.heap.size 2 _ _ _ hf
  simp at f0 f1 f2
  clear h h1 h2 h3 he hlp hn hrow hq hb2 hf
  go_enter Try.func22, Try.ntmps22
  go_wp2_with fail
  refine HLN.out.mono ?_
  rintro r w1 ⟨rfl, rfl⟩
  go_wp2
  exact bodyPost_ret (v := .tuple #[tV e.2.1 e.2.2.1 e.2.2.2.1, .bool true]) (by simp [results, Try.results22, go_sem, f0, f1, f2]) rfl ⟨⟨e, HE.out.1, HE.out.2, rfl⟩, HB2.out⟩

set_option maxHeartbeats 2000000 in
theorem findat_in {B0 Q M tn : Nat} {L : List It} (k : Int) (x : Nat) (e : It) (w : World) (h : IsT w B0 Q M tn L) (hw : wfN k x) (he : e ∈ L) (hn : nm k x e = true) :
    Calls Try.prog 20 #[.pointer (some ⟨Q, 0, none⟩), .int .i64 k, .int .u32 (x : Int)] w fun r w' => r = .returned (.tuple #[.int .i64 e.2.2.2.1, .bool true]) ∧ w' = w := by
  have HF := Lib.hid (find_in k x e w h hw he hn)
  obtain ⟨v, hp, D, cnt, h1, h2, h3, _⟩ := h
  obtain ⟨p, hp0⟩ := List.getElem?_of_mem (h3.mem_iff.2 he)
  have x2 := cell_of_row _ e.1 2 _ _ _ (h1.ln.its p e hp0)
  simp [ic] at x2
  clear h1 h2 h3 hp0 hw he hn
  go_enter Try.func20, Try.ntmps20
  go_wp2_with fail
  refine HF.out.mono ?_
  rintro r w' ⟨rfl, rfl⟩
  go_wp2
  exact bodyPost_ret (v := .tuple #[.int .i64 e.2.2.2.1, .bool true]) (by simp [results, Try.results20, go_sem]) rfl ⟨rfl, rfl⟩
set_option maxHeartbeats 2000000 in
theorem findat_out {B0 Q M tn : Nat} {L : List It} (k : Int) (x : Nat) (w : World) (h : IsT w B0 Q M tn L) (hw : wfN k x) (hn : ∀ e ∈ L, nm k x e = false) :
    Calls Try.prog 20 #[.pointer (some ⟨Q, 0, none⟩), .int .i64 k, .int .u32 (x : Int)] w fun r w' => r = .returned (.tuple #[.int .i64 0, .bool false]) ∧ w' = w := by
  have HF := Lib.hid (find_out k x w h hw hn)
  clear h hw hn
  go_enter Try.func20, Try.ntmps20
  go_wp2_with fail
  refine HF.out.mono ?_
  rintro r w' ⟨rfl, rfl⟩
  go_wp2
  exact bodyPost_ret (v := .tuple #[.int .i64 0, .bool false]) (by simp [results, Try.results20, go_sem]) rfl ⟨rfl, rfl⟩
set_option maxHeartbeats 2000000 in
theorem findat_nil (k : Int) (x : Nat) (w : World) : Calls Try.prog 20 #[.pointer none, .int .i64 k, .int .u32 (x : Int)] w fun r w' => r = .returned (.tuple #[.int .i64 0, .bool false]) ∧ w' = w := by
  go_enter Try.func20, Try.ntmps20
  go_wp2_with fail
  refine (find_nil k x w).mono ?_
  rintro r w' ⟨rfl, rfl⟩
  go_wp2
  exact bodyPost_ret (v := .tuple #[.int .i64 0, .bool false]) (by simp [results, Try.results20, go_sem]) rfl ⟨rfl, rfl⟩
set_option maxHeartbeats 2000000 in
theorem set_nil (k : Int) (x : Nat) (a : Int) (w : World) : Calls Try.prog 13 #[.pointer none, .int .i64 k, .int .u32 (x : Int), .int .i64 a] w fun r w' => r = .returned (.tuple #[]) ∧ w' = w := by
  go_enter Try.func13, Try.ntmps13
  go_wp2
  first | go_ret | go_end0 | (exact bodyPost_ret (v := .tuple #[]) (by simp [results, Try.results13, go_sem]) rfl ⟨rfl, rfl⟩)
  all_goals exact ⟨rfl, rfl⟩

theorem mapl_put {D : DataW Unit} {L : List It} (hD : Maps.IsMap D) (K : Maps.Keyed Try.prog 108) (k : Int) (x : Nat) (e : It) (hw : wfN k x) (h : MapL D L) (hno : ∀ a ∈ L, nm k x a = false) (he : e.2.1 = k ∧ e.2.2.1 = x) : MapL (D.put (kl k x) (pD e.1)) (L ++ [e]) := fun k' x' hw' => by
  have hkk := K.key (key108 k x hw.1 hw.2)
  by_cases hs : k' = k ∧ x' = x
  · obtain ⟨rfl, rfl⟩ := hs
    refine ⟨fun a ha hn => ⟨Maps.has_put_same hD hkk _, ?_⟩, fun hno2 => ?_⟩
    · rw [Maps.atKey_put_same hD hkk]
      rcases List.mem_append.1 ha with ha | ha
      · rw [hno a ha] at hn
        cases hn
      · simp at ha
        rw [ha]
    · have := hno2 e (by simp)
      rw [(nm_iff k' x' e).2 he] at this
      cases this
  · have hne : kl k' x' ≠ kl k x := fun e => hs (kl_inj hw'.1 hw'.2 hw.1 hw.2 e)
    rw [Maps.has_put_other hne, Maps.atKey_put_other hne]
    refine ⟨fun a ha hn => ?_, fun hno2 => (h k' x' hw').2 fun a ha => hno2 a (by simp [ha])⟩
    rcases List.mem_append.1 ha with ha | ha
    · exact (h k' x' hw').1 a ha hn
    · simp at ha
      subst ha
      rw [nm_iff] at hn
      exact absurd ⟨hn.1.symm.trans he.1, hn.2.symm.trans he.2⟩ hs
end Go.Proofs.Ytaoejkbockcneaa
