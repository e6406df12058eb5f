/- Board: the document's Flush. -/
import Derived.Test.YtaoejkbockcneaaW3
namespace Go.Proofs.Ytaoejkbockcneaa.Bd
open Go.RowKit Go.Maps
set_option maxRecDepth 20000
set_option linter.unusedVariables false
set_option linter.unusedSimpArgs false

theorem up_iff (l : List Nat) : Up l ↔ l.Pairwise (· < ·) := by
  unfold Up
  rw [List.pairwise_iff_getElem]
  constructor
  · exact fun h i j hi hj hij => h i j _ _ hij (List.getElem?_eq_getElem hi) (List.getElem?_eq_getElem hj)
  · intro h i j x y hij hx hy
    obtain ⟨hi, rfl⟩ := List.getElem?_eq_some_iff.1 hx
    obtain ⟨hj, rfl⟩ := List.getElem?_eq_some_iff.1 hy
    exact h i j hi hj hij
theorem pl_exists (x : Nat) : ∀ ids : List Nat, ids.Pairwise (· < ·) → ∃ p, p ≤ ids.length ∧ (∀ y ∈ ids.take p, y < x) ∧ (∀ y ∈ ids.drop p, x ≤ y)
  | [], _ => ⟨0, by simp, by simp, by simp⟩
  | y :: l, h => by
    rw [List.pairwise_cons] at h
    by_cases hy : y < x
    · obtain ⟨p, h1, h2, h3⟩ := pl_exists x l h.2
      refine ⟨p + 1, by simp; omega, fun z hz => ?_, by simpa using h3⟩
      rw [List.take_succ_cons, List.mem_cons] at hz
      rcases hz with rfl | hz
      · exact hy
      · exact h2 z hz
    · refine ⟨0, by simp, by simp, fun z hz => ?_⟩
      rw [List.drop_zero, List.mem_cons] at hz
      rcases hz with rfl | hz
      · omega
      · have := h.1 z hz
        omega
theorem put_exists {most : Int} {ps : V.Ps} {x : Nat} (z : Int) (hu : Up (ps.map (·.1))) (hx : V.okN x) (hl : (ps.length : Int) < most) :
    ∃ qs, V.PutR most ps x z 0 qs ∧ Up (qs.map (·.1)) ∧ (∀ y, y ∈ qs.map (·.1) ↔ y = x ∨ y ∈ ps.map (·.1)) ∧ qs.length ≤ ps.length + 1 := by
  by_cases hm : x ∈ ps.map (·.1)
  · obtain ⟨p, hp⟩ := List.getElem?_of_mem hm
    have e : (ps.set p (x, z)).map (·.1) = ps.map (·.1) := by
      rw [List.map_set]
      apply List.ext_getElem?
      intro i
      rw [List.getElem?_set]
      split
      · rename_i h
        subst h
        split
        · exact hp.symm
        · rename_i h2
          rw [List.getElem?_eq_none (by omega)]
      · rfl
    refine ⟨ps.set p (x, z), .inl ⟨rfl, p, hp, rfl⟩, by rw [e]; exact hu, fun y => ?_, by simp⟩
    rw [e]
    exact ⟨.inr, fun h => h.elim (fun h => by rw [h]; exact hm) id⟩
  · obtain ⟨p, h1, h2, h3⟩ := pl_exists x _ ((up_iff _).1 hu)
    have e : (ps.take p ++ [(x, z)] ++ ps.drop p).map (·.1) = (ps.map (·.1)).take p ++ [x] ++ (ps.map (·.1)).drop p := by
      simp [List.map_take, List.map_drop]
    refine ⟨_, .inr (.inr (.inr ⟨rfl, hm, hx, hl, p, ⟨h1, fun j y hj hy => ?_, fun j y hj hy => ?_⟩, rfl⟩)), ?_, fun y => ?_, ?_⟩
    · exact h2 y (List.mem_of_getElem? (i := j) (by rw [List.getElem?_take_of_lt hj]; exact hy))
    · exact h3 y (List.mem_of_getElem? (i := j - p) (by rw [List.getElem?_drop, show p + (j - p) = j by omega]; exact hy))
    · rw [e, up_iff, List.pairwise_append, List.pairwise_append]
      have hp := (up_iff _).1 hu
      refine ⟨⟨hp.sublist (List.take_sublist _ _), by simp, fun y hy w hw => ?_⟩, hp.sublist (List.drop_sublist _ _), fun y hy w hw => ?_⟩
      · rw [List.mem_singleton] at hw
        rw [hw]
        exact h2 y hy
      · have hwx := h3 w hw
        have hne : w ≠ x := fun e => hm (by rw [← e]; exact List.mem_of_mem_drop hw)
        rw [List.mem_append, List.mem_singleton] at hy
        rcases hy with hy | rfl
        · have := h2 y hy
          omega
        · omega
    · rw [e, List.mem_append, List.mem_append, List.mem_singleton]
      conv => rhs; rw [← List.take_append_drop p (ps.map (·.1)), List.mem_append]
      constructor
      · rintro ((h | h) | h)
        · exact .inr (.inl h)
        · exact .inl h
        · exact .inr (.inr h)
      · rintro (h | h | h)
        · exact .inl (.inr h)
        · exact .inl (.inl h)
        · exact .inr h
    · simp
      omega
theorem flM_at {l : List Mk} {k : Nat} {e : Mk} (h : l[k]? = some e) : (flM l k)[k]? = some e := by
  have hk := (List.getElem?_eq_some_iff.1 h).1
  unfold flM
  rw [List.getElem?_append_right (by simp; omega), List.getElem?_drop]
  simp only [List.length_map, List.length_take]
  rw [show k + (k - min k l.length) = k by omega]
  exact h
theorem flM_succ {l : List Mk} {k : Nat} {p : Nat} {s t : Int} (h : l[k]? = some (p, s, t)) : flM l (k + 1) = (flM l k).set k (p, s, seen s) := by
  have hk := (List.getElem?_eq_some_iff.1 h).1
  unfold flM
  rw [List.take_add_one, h, List.set_append_right _ _ (by simp; omega)]
  simp only [List.length_map, List.length_take]
  rw [show k - min k l.length = 0 by omega, List.drop_eq_getElem_cons hk, List.set_cons_zero]
  simp [toldM]
theorem flM_same {l : List Mk} {k : Nat} {p : Nat} {s t : Int} (h : l[k]? = some (p, s, t)) (he : seen s = t) : flM l (k + 1) = flM l k := by
  rw [flM_succ h, he]
  apply List.ext_getElem?
  intro i
  rw [List.getElem?_set]
  split
  · rename_i hi
    subst hi
    rw [flM_at h]
    split
    · rfl
    · rename_i h2
      have := (List.getElem?_eq_some_iff.1 (flM_at h)).1
      omega
  · rfl
theorem flM_all (l : List Mk) : flM l l.length = l.map toldM := by simp [flM]
theorem chg_take {l : List Mk} {k : Nat} {p : Nat} {s t : Int} (h : l[k]? = some (p, s, t)) : chg (l.take (k + 1)) = chg (l.take k) ++ (if seen s = t then [] else [p]) := by
  unfold chg
  rw [List.take_add_one, h]
  by_cases he : seen s = t
  · simp [he]
  · simp [he]
theorem set_told {w : World} {g k : Nat} {cur : Array Value} {l : List Mk} {p : Nat} {s t x : Int} (hb : w.heap[g]? = some (.cells cur 118 (0, 0))) (hA : ∀ i e, l[i]? = some e → AtM w g (0 + i * 3) e) (hk : l[k]? = some (p, s, t)) :
    Ms (w.setCell ⟨g, k * 3 + 2, none⟩ (.int .i64 x)) (some ⟨g, 0, none⟩) (l.set k (p, s, x)) := fun _ => by
  have hkl := (List.getElem?_eq_some_iff.1 hk).1
  have q := hA k _ hk
  have hj : k * 3 + 2 < cur.size := by
    have h1 := q.2.2
    rw [show (0 + k * 3 + 2) = k * 3 + 2 by omega, cell_of_row w g _ _ _ _ hb] at h1
    exact (Array.getElem?_eq_some_iff.1 h1).1
  refine ⟨g, 0, _, rfl, heap_setCell_same w g (k * 3 + 2) cur 118 _ hb, fun i e he => ?_⟩
  rw [List.getElem?_set] at he
  by_cases hik : k = i
  · subst hik
    rw [if_pos rfl, if_pos hkl] at he
    injection he with he
    subst he
    refine ⟨?_, ?_, ?_⟩
    · rw [set_cells hb hj, if_neg (by omega)]; exact q.1
    · rw [set_cells hb hj, if_neg (by omega)]; exact q.2.1
    · rw [set_cells hb hj, if_pos (by omega)]
  · rw [if_neg hik] at he
    have r := hA i e he
    refine ⟨?_, ?_, ?_⟩
    · rw [set_cells hb hj, if_neg (by omega)]; exact r.1
    · rw [set_cells hb hj, if_neg (by omega)]; exact r.2.1
    · rw [set_cells hb hj, if_neg (by omega)]; exact r.2.2
/-- A row of things of one cell that can be read. -/
def Rd (w : World) (v : Value) (m : Nat) (xs : List Value) : Prop := ∃ A c, v = .slice A m c ∧ (0 < m → ∃ b, A = some ⟨b, 0, none⟩ ∧ b < w.heap.size ∧ ∀ j x, xs[j]? = some x → w.cell? ⟨b, j, none⟩ = some x)
theorem Rd.of_own {w : World} {base T m : Nat} {v : Value} {xs : List Value} (h : w.ownsRow base T 1 v m xs) : Rd w v m xs := by
  have hcells := fun g => h.cells (g := g)
  have hlt := h.lt
  rcases h.2 with ⟨rfl, rfl⟩ | ⟨g, cap, cur, rfl, hg, hb, _, _, _⟩
  · exact ⟨none, 0, rfl, fun h => by omega⟩
  · refine ⟨_, cap, rfl, fun _ => ⟨g, rfl, (hlt g rfl).2, fun j x hx => ?_⟩⟩
    have := hcells g rfl j x hx
    rwa [Go.WideShapes.add_plain, Nat.zero_add] at this
theorem Rd.below {w W : World} {v : Value} {m : Nat} {xs : List Value} (h : Rd w v m xs) (hb : Below w.heap.size w W) : Rd W v m xs := by
  obtain ⟨A, c, e, h⟩ := h
  refine ⟨A, c, e, fun hl => ?_⟩
  obtain ⟨b, e1, e2, e3⟩ := h hl
  exact ⟨b, e1, Nat.lt_of_lt_of_le e2 hb.size, fun j x hx => (hb.cell (p := ⟨b, _, none⟩) e2).trans (e3 j x hx)⟩
theorem info3 : (Try.prog.info? 3).map (fun i => (i.zero, i.size, i.bytes)) = some (some (.int .i64 0), 1, 8) := by kernel_rfl
theorem wpList_append_int {w : World} {ops : Array Oper} {rest : List Oper} {op : Oper} {a : Act} {Q : Exit → Act → World → Prop} (hgd : op.guard = none) (s x : Operand)
    (ho : op.op = .call { callee := .builtin .append, args := #[s, x], argTypes := #[64, 64] }) (base G : Nat) (v : Value) (m : Nat) (xs : List Value) (y : Int) (hs : a.eval s = v) (hx : a.eval x = .slice (some ⟨G, 0, none⟩) 1 1)
    (hown : w.ownsRow base 3 1 v m xs) (hG : w.heap[G]? = some (.cells #[.int .i64 y] 3 (0, 0))) (hm : m ≤ 1000) (hbase : base ≤ w.heap.size)
    (h : ∀ v' w', w'.ownsRow base 3 1 v' (m + 1) (xs ++ [.int .i64 y]) → w.grownBy w' v.ownBlock → wpList Try.prog ops Q rest (a.put op.dst v') w') : wpList Try.prog ops Q (op :: rest) a w := by
  refine wpList_plain hgd fun K hK => ?_
  obtain ⟨i0, hi, hz0, hz1, hz2⟩ := info_parts info3
  obtain ⟨v', w', hr, h2, h3, _⟩ := run_append_own (P := Try.prog) w base 64 op.type 3 i0 _ 1 _ Try.underlying64 hi hz0 hz1 hz2 rfl (by decide) v m xs hown ⟨G, 0, none⟩ 1 1 [.int .i64 y] rfl (fun j u hu => by
    have := cell_of_row w G j _ _ _ hG
    rw [show (#[.int .i64 y] : Array Value) = ([.int .i64 y] : List Value).toArray from rfl, List.getElem?_toArray, hu] at this
    rw [← this, Go.WideShapes.add_plain, Nat.zero_add]) (by
    intro u hu
    simp only [List.mem_cons, List.not_mem_nil, or_false] at hu
    rw [hu]
    rfl) (by unfold maxLen; omega) (by omega) hbase
  unfold Oper.wp execOp
  simp only [ho, resolve, invoke, builtin, Sem.run_bind, Sem.run_pure, Result.andThen_ok, List.map_toArray, List.map_cons, List.map_nil, hs, hx, hr]
  exact hK _ _ (h v' w' h2 h3)
theorem two_row {W : World} {T : Nat} {a b : Value} (v1 v2 : Value) (h : W.heap[T]? = some (.cells #[a, b] 86 (0, 0))) : ((W.setCell ⟨T, 0, none⟩ v1).setCell ⟨T, 1, none⟩ v2).heap[T]? = some (.cells #[v1, v2] 86 (0, 0)) := by
  have h1 := heap_setCell_same W T 0 _ 86 v1 h
  have h2 := heap_setCell_same _ T 1 _ 86 v2 h1
  simpa using h2
theorem two_other {W : World} {T g : Nat} (v1 v2 : Value) (hg : g ≠ T) : ((W.setCell ⟨T, 0, none⟩ v1).setCell ⟨T, 1, none⟩ v2).heap[g]? = W.heap[g]? := (Below.heap_setCell _ _ _ _ hg).trans (Below.heap_setCell _ _ _ _ hg)
/-- The rack at R and the marks while a flush goes on. -/
structure Fs (w : World) (R Z n k : Nat) (l : List Mk) (B4 : Option Addr) (W : World) : Prop where
  ex : ∃ (m : Nat) (B : Option Addr) (c2 : Nat) (rows ps : V.Ps), W.heap[R]? = some (.cells #[.slice B m c2, .int .i64 (n : Int)] 86 (0, 0)) ∧ m = rows.length ∧ rows.Perm ps ∧ W.ownsRow Z 137 2 (.slice B m c2) m (V.rr rows) ∧ Up (ps.map (·.1)) ∧ (∀ y ∈ ps.map (·.1), V.okN y) ∧ (∀ y, y ∈ ps.map (·.1) ↔ y ∈ chg (l.take k)) ∧ ps.length ≤ k
  ms : Ms W B4 (flM l k)
  below : Below w.heap.size w W
  low : w.heap.size ≤ R ∧ R < Z ∧ Z ≤ W.heap.size
/-- What Flush answers. -/
def FlPost (l : List Mk) (w : World) (r : Ending) (w' : World) : Prop := ∃ (v1 v2 : Value) (B : Option Addr) (c m : Nat) (zs : List Nat), r = .returned (.tuple #[v1, v2, .slice B m c]) ∧ zs.Pairwise (· < ·) ∧ (∀ y, y ∈ zs ↔ y ∈ chg l) ∧ Rd w' v1 zs.length (un zs) ∧ Rd w' v2 zs.length (zs.map fun z => Value.int .i64 (seen (lookM l z).1)) ∧ m = l.length ∧ Ms w' B (l.map toldM) ∧ Below w.heap.size w w'
set_option maxHeartbeats 16000000 in
theorem rflush (A : Option Addr) (n c : Nat) (l : List Mk) (w : World) (hn : n = l.length) (hR : Ms w A l) (hl : n ≤ 200) (hnd : NdM l) :
    Calls Try.prog 29 #[.slice A n c] w (FlPost l w) := by
  obtain ⟨R, hRR⟩ : ∃ R, R = w.heap.size := ⟨_, rfl⟩
  obtain ⟨w0, hw0⟩ : ∃ w0, w0 = w.alloc (.cells #[.slice none 0 0, .int .i64 (n : Int)] 86) := ⟨_, rfl⟩
  have hb0 : Below w.heap.size w w0 := by rw [hw0]; exact (Below.refl _ _).alloc (Nat.le_refl _) _
  have hp0 : w0.heap[R]? = some (.cells #[.slice none 0 0, .int .i64 (n : Int)] 86 (0, 0)) := by rw [hw0, hRR]; exact heap_alloc_new w _
  have HE : Hid ((w0.alloc (.cells #[] 118)).ownsRow w0.heap.size 118 3 (.slice (some ⟨w0.heap.size, 0, none⟩) 0 0) 0 []) := World.ownsRow_made w0 #[] 0 (Nat.le_refl _) (by unfold maxLen; omega) rfl
  have HRW : Hid (Ms (w0.alloc (.cells #[] 118)) A l) := (hR.below hb0).below ((Below.refl _ _).alloc (Nat.le_refl _) _)
  have HBA : Hid (Below w0.heap.size w0 (w0.alloc (.cells #[] 118))) := (Below.refl _ _).alloc (Nat.le_refl _) _
  have HN := Lib.hid hn
  have HND := Lib.hid hnd
  have HR0 := Lib.hid (And.intro hRR (And.intro hp0 hb0))
  have H0 := Lib.hid hw0
  clear hw0 hb0 hp0 hn hR hnd hRR
  go_enter Try.func29, Try.ntmps29
  go_upto_region 2 with (fail)
  rw [← H0.out, ← HR0.out.1]
  go_wp2_with (at_builtin; refine wpList_append_marks rfl _ _ rfl w0.heap.size w0.heap.size A n c l rfl rfl HE.out HN.out HRW.out (fun e => HRW.out.none0 HN.out e) (by omega) (by simp) ?_; intro v4 w4 hown4 hg4; obtain ⟨B4, c4, rfl⟩ := own3_form hown4; have HO4 := Lib.hid hown4; have HB4 : Hid (Below w0.heap.size w0 w4) := HBA.out.grown hg4 (by simp) (fun k hk => by injection hk with hk; omega); clear hown4 hg4)
  obtain ⟨Z, hZ⟩ : ∃ Z, Z = w4.heap.size := ⟨_, rfl⟩
  have HG4 : Hid (∀ g o, B4 = some ⟨g, o, none⟩ → o = 0 ∧ w0.heap.size ≤ g ∧ g < Z) := fun g o e => by
    have h1 := own3_lt HO4.out
    rcases HO4.out.2 with ⟨e1, _⟩ | ⟨g', cap, cur, e1, _⟩
    · rw [e] at e1; cases e1
    · injection e1 with e1 _ _
      rw [e] at e1
      injection e1 with e1
      injection e1 with e1 e2 _
      have h2 := h1 g (by rw [e]; rfl)
      exact ⟨e2, h2.1, by rw [hZ]; exact h2.2⟩
  have HS : Hid (Fs w R Z n 0 l B4 w4) := ⟨⟨0, none, 0, [], [], (HB4.out.block R (lt_of_block HR0.out.2.1)).trans HR0.out.2.1, rfl, List.Perm.refl _, World.ownsRow_nil w4 _ 137 2, fun i j x y _ h => by simp at h, by simp, by simp [chg], Nat.le_refl _⟩, Ms.of_own HO4.out, HR0.out.2.2.trans (HB4.out.mono HR0.out.2.2.size), by rw [HR0.out.1]; exact Nat.le_refl _, by rw [hZ]; exact Nat.lt_of_lt_of_le (lt_of_block HR0.out.2.1) HB4.out.size, by rw [hZ]; exact Nat.le_refl _⟩
  clear hZ
  go_wp2_with fail
  go_loopw [7] (fun x wr => ∃ k : Nat, k ≤ n ∧ x = .int .i64 (k : Int) ∧ Hid (Fs w R Z n k l B4 wr)) (fun x _ => n - (intOf x).toNat)
  case atStart => exact ⟨0, by omega, rfl, HS⟩
  case round =>
    obtain ⟨k, hk, rfl, HV⟩ := hrel
    obtain ⟨m, B, c2, rows, ps, hrow, hm, hperm, hown, hup, hokp, hmem, hlen⟩ := HV.out.ex
    have HROW := Lib.hid hrow
    have HSM : Hid (m = rows.length ∧ m ≤ 900 ∧ ps.length ≤ k) := ⟨hm, by rw [hm, hperm.length_eq]; omega, hlen⟩
    have HPS := Lib.hid (And.intro hperm (And.intro hup (And.intro hokp hmem)))
    have HOW := Lib.hid hown
    clear hrow hm hperm hown hup hokp hmem hlen
    by_cases hlt : k < n
    · obtain ⟨⟨p, s, t⟩, hy⟩ : ∃ e, l[k]? = some e := ⟨l[k]'(by rw [← HN.out]; exact hlt), List.getElem?_eq_getElem _⟩
      have hfl : (flM l k)[k]? = some (p, s, t) := flM_at hy
      obtain ⟨g, o, cur, rfl, hbk, hA⟩ := HV.out.ms (by have := (List.getElem?_eq_some_iff.1 hfl).1; omega)
      obtain ⟨rfl, hg0, hgZ⟩ := HG4.out g o rfl
      have hAk := hA k _ hfl
      rw [Nat.zero_add] at hAk
      have hgR : g ≠ R := by have := lt_of_block HR0.out.2.1; omega
      have HS6 : Hid (∀ W, Below wr.heap.size wr W → (fun W : World => W.cell? ⟨g, k * 3 + 1, none⟩ = some (.int .i64 s) ∧ W.cell? ⟨g, k * 3 + 2, none⟩ = some (.int .i64 t)) W) := fun W hW => ⟨(World.cell?_of_block (hW.block g (lt_of_block hbk))).trans hAk.2.1, (World.cell?_of_block (hW.block g (lt_of_block hbk))).trans hAk.2.2⟩
      have HRR : Hid (Below wr.heap.size wr wr) := Below.refl _ _
      obtain ⟨q, hq⟩ : ∃ q, q = seen s := ⟨_, rfl⟩
      have HSE : Hid (∀ W, Calls Try.prog 37 #[.int .i64 s] W fun r w' => r = .returned (.int .i64 q) ∧ Below W.heap.size W w') := fun W => by rw [hq]; exact rseen_any s W
      have HAK := Lib.hid hAk
      by_cases heq : q = t
      · have HEQ := Lib.hid heq
        have HNX : Hid (flM l (k + 1) = flM l k ∧ ∀ y, y ∈ chg (l.take (k + 1)) ↔ y ∈ chg (l.take k)) := ⟨flM_same hy (by rw [← hq]; exact heq), fun y => by rw [chg_take hy, if_pos (by rw [← hq]; exact heq)]; simp⟩
        obtain ⟨d0, d1, d2⟩ := hAk
        simp only at d0 d1 d2
        clear hy hfl hbk hA hq heq
        go_upto_region 6 with (fail)
        clear d0 d1 d2
        have HDa : Hid (Below wr.heap.size wr wr.drew) := HRR.out.drew
        refine wp_region_held_drew (S := fun W : World => W.cell? ⟨g, k * 3 + 1, none⟩ = some (.int .i64 s) ∧ W.cell? ⟨g, k * 3 + 2, none⟩ = some (.int .i64 t)) (by kernel_rfl) (HS6.out _ (HDa.out)) (fun hHeld => ?_)
        obtain ⟨Wa0, hW0⟩ : ∃ W0, W0 = wr.drew := ⟨_, rfl⟩
        rw [← hW0] at hHeld HDa ⊢
        clear hW0
        refine wpAnyH_take (i := 0) (oi := ?oi0a) (v := ?v0a) ?hi0a ?hs0a ?hf0a ?hr0a ?hQ0a ?hy0a ?hS0a ?h0a
        case hi0a => exact (by simp only [List.getElem?_toArray, List.getElem?_cons_zero]; rfl)
        case hs0a => kernel_rfl
        case hf0a => kernel_rfl
        case hr0a => kernel_rfl
        case hQ0a => exact fun _ _ _ h => h
        case hy0a =>
          refine Or.inl ⟨rfl, ?_⟩
          intro W hSw
          obtain ⟨y1, y2⟩ := hSw
          go_simp
          try with_reducible rfl
        case hS0a => assumption
        try simp only [Act.put, List.setIfInBounds_toArray, List.set_cons_zero, List.set_cons_succ]
        refine wpAnyH_take (i := 1) (oi := ?oi1a) (v := ?v1a) ?hi1a ?hs1a ?hf1a ?hr1a ?hQ1a ?hy1a ?hS1a ?h1a
        case hi1a => exact (by simp only [List.getElem?_toArray, List.getElem?_cons_succ, List.getElem?_cons_zero]; rfl)
        case hs1a => kernel_rfl
        case hf1a => kernel_rfl
        case hr1a => kernel_rfl
        case hQ1a => exact fun _ _ _ h => h
        case hy1a =>
          refine Or.inl ⟨rfl, ?_⟩
          intro W hSw
          obtain ⟨y1, y2⟩ := hSw
          go_simp
          try with_reducible rfl
        case hS1a => assumption
        try simp only [Act.put, List.setIfInBounds_toArray, List.set_cons_zero, List.set_cons_succ]
        refine wpAnyH_take (i := 2) (oi := ?oi2a) (v := ?v2a) ?hi2a ?hs2a ?hf2a ?hr2a ?hQ2a ?hy2a ?hS2a ?h2a
        case hi2a => exact (by simp only [List.getElem?_toArray, List.getElem?_cons_succ, List.getElem?_cons_zero]; rfl)
        case hs2a => kernel_rfl
        case hf2a => kernel_rfl
        case hr2a => kernel_rfl
        case hQ2a => exact fun _ _ _ h => h
        case hy2a =>
          refine Or.inl ⟨rfl, ?_⟩
          intro W hSw
          obtain ⟨y1, y2⟩ := hSw
          go_simp
          try with_reducible rfl
        case hS2a => assumption
        try simp only [Act.put, List.setIfInBounds_toArray, List.set_cons_zero, List.set_cons_succ]
        refine wpAnyH_take (i := 3) (oi := ?oi3a) (v := ?v3a) ?hi3a ?hs3a ?hf3a ?hr3a ?hQ3a ?hy3a ?hS3a ?h3a
        case hi3a => exact (by simp only [List.getElem?_toArray, List.getElem?_cons_succ, List.getElem?_cons_zero]; rfl)
        case hs3a => kernel_rfl
        case hf3a => kernel_rfl
        case hr3a => kernel_rfl
        case hQ3a => exact fun _ _ _ h => h
        case hy3a =>
          refine Or.inl ⟨rfl, ?_⟩
          intro W hSw
          obtain ⟨y1, y2⟩ := hSw
          go_simp
          try with_reducible rfl
        case hS3a => assumption
        try simp only [Act.put, List.setIfInBounds_toArray, List.set_cons_zero, List.set_cons_succ]
        refine wpAnyH_take (i := 4) (oi := ?oi4a) (v := ?v4a) ?hi4a ?hs4a ?hf4a ?hr4a ?hQ4a ?hy4a ?hS4a ?h4a
        case hi4a => exact (by simp only [List.getElem?_toArray, List.getElem?_cons_succ, List.getElem?_cons_zero]; rfl)
        case hs4a => kernel_rfl
        case hf4a => kernel_rfl
        case hr4a => kernel_rfl
        case hQ4a => exact fun _ _ _ h => h
        case hy4a =>
          refine Or.inl ⟨rfl, ?_⟩
          intro W hSw
          obtain ⟨y1, y2⟩ := hSw
          go_simp
          try with_reducible rfl
        case hS4a => assumption
        try simp only [Act.put, List.setIfInBounds_toArray, List.set_cons_zero, List.set_cons_succ]
        refine wpAnyH_take (i := 6) (oi := ?oi6a) (v := ?v6a) ?hi6a ?hs6a ?hf6a ?hr6a ?hQ6a ?hy6a ?hS6a ?h6a
        case hi6a => exact (by simp only [List.getElem?_toArray, List.getElem?_cons_succ, List.getElem?_cons_zero]; rfl)
        case hs6a => kernel_rfl
        case hf6a => kernel_rfl
        case hr6a => kernel_rfl
        case hQ6a => exact fun _ _ _ h => h
        case hy6a =>
          refine Or.inl ⟨rfl, ?_⟩
          intro W hSw
          obtain ⟨y1, y2⟩ := hSw
          go_simp
          try with_reducible rfl
        case hS6a => assumption
        try simp only [Act.put, List.setIfInBounds_toArray, List.set_cons_zero, List.set_cons_succ]
        refine wpAnyH_take (i := 7) (oi := ?oi7a) (v := ?v7a) ?hi7a ?hs7a ?hf7a ?hr7a ?hQ7a ?hy7a ?hS7a ?h7a
        case hi7a => exact (by simp only [List.getElem?_toArray, List.getElem?_cons_succ, List.getElem?_cons_zero]; rfl)
        case hs7a => kernel_rfl
        case hf7a => kernel_rfl
        case hr7a => kernel_rfl
        case hQ7a => exact fun _ _ _ h => h
        case hy7a =>
          refine Or.inl ⟨rfl, ?_⟩
          intro W hSw
          obtain ⟨y1, y2⟩ := hSw
          go_simp
          try with_reducible rfl
        case hS7a => assumption
        try simp only [Act.put, List.setIfInBounds_toArray, List.set_cons_zero, List.set_cons_succ]
        refine wpAnyH_take (i := 8) (oi := ?oi8a) (v := ?v8a) ?hi8a ?hs8a ?hf8a ?hr8a ?hQ8a ?hy8a ?hS8a ?h8a
        case hi8a => exact (by simp only [List.getElem?_toArray, List.getElem?_cons_succ, List.getElem?_cons_zero]; rfl)
        case hs8a => kernel_rfl
        case hf8a => kernel_rfl
        case hr8a => kernel_rfl
        case hQ8a => exact fun _ _ _ h => h
        case hy8a =>
          refine Or.inl ⟨rfl, ?_⟩
          intro W hSw
          obtain ⟨y1, y2⟩ := hSw
          go_simp
          try with_reducible rfl
        case hS8a => assumption
        try simp only [Act.put, List.setIfInBounds_toArray, List.set_cons_zero, List.set_cons_succ]
        refine wpAnyH_take (i := 9) (oi := ?oi9a) (v := ?v9a) ?hi9a ?hs9a ?hf9a ?hr9a ?hQ9a ?hy9a ?hS9a ?h9a
        case hi9a => exact (by simp only [List.getElem?_toArray, List.getElem?_cons_succ, List.getElem?_cons_zero]; rfl)
        case hs9a => kernel_rfl
        case hf9a => kernel_rfl
        case hr9a => kernel_rfl
        case hQ9a => exact fun _ _ _ h => h
        case hy9a =>
          refine Or.inl ⟨rfl, ?_⟩
          intro W hSw
          obtain ⟨y1, y2⟩ := hSw
          go_simp
          try with_reducible rfl
        case hS9a => assumption
        try simp only [Act.put, List.setIfInBounds_toArray, List.set_cons_zero, List.set_cons_succ]
        refine wpAnyH_take (i := 10) (oi := ?oi10a) (v := ?v10a) ?hi10a ?hs10a ?hf10a ?hr10a ?hQ10a ?hy10a ?hS10a ?h10a
        case hi10a => exact (by simp only [List.getElem?_toArray, List.getElem?_cons_succ, List.getElem?_cons_zero]; rfl)
        case hs10a => kernel_rfl
        case hf10a => kernel_rfl
        case hr10a => kernel_rfl
        case hQ10a => exact fun _ _ _ h => h
        case hy10a =>
          refine Or.inl ⟨rfl, ?_⟩
          intro W hSw
          obtain ⟨y1, y2⟩ := hSw
          go_simp
          try with_reducible rfl
        case hS10a => assumption
        try simp only [Act.put, List.setIfInBounds_toArray, List.set_cons_zero, List.set_cons_succ]
        refine wpAnyH_ready (rs := [5]) (by kernel_rfl) (by simp) ?_
        refine AllReadyH.cons (o := _) rfl (fun K hK => ?_) AllReadyH.nil
        go_simp
        refine ((HSE.out Wa0)).mono ?_
        rintro r Wa1 ⟨rfl, hbq⟩
        have HBa1 := Lib.hid (HDa.out.trans (hbq.mono HDa.out.size))
        clear hbq
        refine hK.out _ _ (HS6.out _ (HBa1.out)) (fun hHeld => ?_)
        clear hK K
        try simp only [Act.put, List.setIfInBounds_toArray, List.set_cons_zero, List.set_cons_succ]
        refine wpAnyH_take (i := 11) (oi := ?oi11a) (v := (.bool false)) ?hi11a ?hs11a ?hf11a ?hr11a ?hQ11a ?hy11a ?hS11a ?h11a
        case hi11a => exact (by simp only [List.getElem?_toArray, List.getElem?_cons_succ, List.getElem?_cons_zero]; rfl)
        case hs11a => kernel_rfl
        case hf11a => kernel_rfl
        case hr11a => kernel_rfl
        case hQ11a => exact fun _ _ _ h => h
        case hy11a =>
          refine Or.inl ⟨rfl, ?_⟩
          intro W hSw
          obtain ⟨y1, y2⟩ := hSw
          go_simp
          try simp [HEQ.out]
        case hS11a => assumption
        try simp only [Act.put, List.setIfInBounds_toArray, List.set_cons_zero, List.set_cons_succ]
        refine wpAnyH_done (by kernel_rfl) ?_ _
        have HF : Hid (Fs w R Z n (k + 1) l (some ⟨g, 0, none⟩) Wa1) := ⟨⟨m, B, c2, rows, ps, (HBa1.out.block R (lt_of_block HROW.out)).trans HROW.out, HSM.out.1, HPS.out.1, V.own2_after HOW.out fun g hg => HBa1.out.block g (V.own2_lt HOW.out g hg).2, HPS.out.2.1, HPS.out.2.2.1, fun y => by rw [HNX.out.2 y]; exact HPS.out.2.2.2 y, by have := HSM.out.2.2; omega⟩, by rw [HNX.out.1]; exact HV.out.ms.below HBa1.out, HV.out.below.trans (HBa1.out.mono HV.out.below.size), HV.out.low.1, HV.out.low.2.1, Nat.le_trans HV.out.low.2.2 HBa1.out.size⟩
        go_wp2_with fail
        go_roundw
        case rel => exact ⟨k + 1, by omega, by go_num, HF⟩
        case measure => simp [intOf] <;> omega
      · have HEQ := Lib.hid heq
        have hpk : V.okN p := HND.out.ok _ (List.mem_of_getElem? hy)
        obtain ⟨qs, hq1, hq2, hq3, hq4⟩ := put_exists (most := (n : Int)) 0 HPS.out.2.1 hpk (by have := HSM.out.2.2; omega)
        have HQ : Hid (V.PutR (n : Int) ps p 0 0 qs) := hq1
        have HQF : Hid (Up (qs.map (·.1)) ∧ (∀ y ∈ qs.map (·.1), V.okN y) ∧ (∀ y, y ∈ qs.map (·.1) ↔ y ∈ chg (l.take (k + 1))) ∧ qs.length ≤ k + 1) := ⟨hq2, fun y hy => by
          rcases (hq3 y).1 hy with rfl | hy
          · exact hpk
          · exact HPS.out.2.2.1 y hy, fun y => by
          rw [hq3 y, HPS.out.2.2.2 y, chg_take hy, if_neg (by rw [← hq]; exact heq), List.mem_append, List.mem_singleton]
          exact Or.comm, by have := HSM.out.2.2; omega⟩
        have HFN : Hid (flM l (k + 1) = (flM l k).set k (p, s, q)) := by rw [hq]; exact flM_succ hy
        have HFL := Lib.hid hfl
        have HGR := Lib.hid hgR
        have HGZ := Lib.hid hgZ
        obtain ⟨d0, d1, d2⟩ := hAk
        simp only at d0 d1 d2
        clear hy hfl hbk hA hq heq hq1 hq2 hq3 hq4 hpk hgR
        go_upto_region 6 with (fail)
        clear d0 d1 d2
        have HDb : Hid (Below wr.heap.size wr wr.drew) := HRR.out.drew
        refine wp_region_held_drew (S := fun W : World => W.cell? ⟨g, k * 3 + 1, none⟩ = some (.int .i64 s) ∧ W.cell? ⟨g, k * 3 + 2, none⟩ = some (.int .i64 t)) (by kernel_rfl) (HS6.out _ (HDb.out)) (fun hHeld => ?_)
        obtain ⟨Wb0, hW0⟩ : ∃ W0, W0 = wr.drew := ⟨_, rfl⟩
        rw [← hW0] at hHeld HDb ⊢
        clear hW0
        refine wpAnyH_take (i := 0) (oi := ?oi0b) (v := ?v0b) ?hi0b ?hs0b ?hf0b ?hr0b ?hQ0b ?hy0b ?hS0b ?h0b
        case hi0b => exact (by simp only [List.getElem?_toArray, List.getElem?_cons_zero]; rfl)
        case hs0b => kernel_rfl
        case hf0b => kernel_rfl
        case hr0b => kernel_rfl
        case hQ0b => exact fun _ _ _ h => h
        case hy0b =>
          refine Or.inl ⟨rfl, ?_⟩
          intro W hSw
          obtain ⟨y1, y2⟩ := hSw
          go_simp
          try with_reducible rfl
        case hS0b => assumption
        try simp only [Act.put, List.setIfInBounds_toArray, List.set_cons_zero, List.set_cons_succ]
        refine wpAnyH_take (i := 1) (oi := ?oi1b) (v := ?v1b) ?hi1b ?hs1b ?hf1b ?hr1b ?hQ1b ?hy1b ?hS1b ?h1b
        case hi1b => exact (by simp only [List.getElem?_toArray, List.getElem?_cons_succ, List.getElem?_cons_zero]; rfl)
        case hs1b => kernel_rfl
        case hf1b => kernel_rfl
        case hr1b => kernel_rfl
        case hQ1b => exact fun _ _ _ h => h
        case hy1b =>
          refine Or.inl ⟨rfl, ?_⟩
          intro W hSw
          obtain ⟨y1, y2⟩ := hSw
          go_simp
          try with_reducible rfl
        case hS1b => assumption
        try simp only [Act.put, List.setIfInBounds_toArray, List.set_cons_zero, List.set_cons_succ]
        refine wpAnyH_take (i := 2) (oi := ?oi2b) (v := ?v2b) ?hi2b ?hs2b ?hf2b ?hr2b ?hQ2b ?hy2b ?hS2b ?h2b
        case hi2b => exact (by simp only [List.getElem?_toArray, List.getElem?_cons_succ, List.getElem?_cons_zero]; rfl)
        case hs2b => kernel_rfl
        case hf2b => kernel_rfl
        case hr2b => kernel_rfl
        case hQ2b => exact fun _ _ _ h => h
        case hy2b =>
          refine Or.inl ⟨rfl, ?_⟩
          intro W hSw
          obtain ⟨y1, y2⟩ := hSw
          go_simp
          try with_reducible rfl
        case hS2b => assumption
        try simp only [Act.put, List.setIfInBounds_toArray, List.set_cons_zero, List.set_cons_succ]
        refine wpAnyH_take (i := 3) (oi := ?oi3b) (v := ?v3b) ?hi3b ?hs3b ?hf3b ?hr3b ?hQ3b ?hy3b ?hS3b ?h3b
        case hi3b => exact (by simp only [List.getElem?_toArray, List.getElem?_cons_succ, List.getElem?_cons_zero]; rfl)
        case hs3b => kernel_rfl
        case hf3b => kernel_rfl
        case hr3b => kernel_rfl
        case hQ3b => exact fun _ _ _ h => h
        case hy3b =>
          refine Or.inl ⟨rfl, ?_⟩
          intro W hSw
          obtain ⟨y1, y2⟩ := hSw
          go_simp
          try with_reducible rfl
        case hS3b => assumption
        try simp only [Act.put, List.setIfInBounds_toArray, List.set_cons_zero, List.set_cons_succ]
        refine wpAnyH_take (i := 4) (oi := ?oi4b) (v := ?v4b) ?hi4b ?hs4b ?hf4b ?hr4b ?hQ4b ?hy4b ?hS4b ?h4b
        case hi4b => exact (by simp only [List.getElem?_toArray, List.getElem?_cons_succ, List.getElem?_cons_zero]; rfl)
        case hs4b => kernel_rfl
        case hf4b => kernel_rfl
        case hr4b => kernel_rfl
        case hQ4b => exact fun _ _ _ h => h
        case hy4b =>
          refine Or.inl ⟨rfl, ?_⟩
          intro W hSw
          obtain ⟨y1, y2⟩ := hSw
          go_simp
          try with_reducible rfl
        case hS4b => assumption
        try simp only [Act.put, List.setIfInBounds_toArray, List.set_cons_zero, List.set_cons_succ]
        refine wpAnyH_take (i := 6) (oi := ?oi6b) (v := ?v6b) ?hi6b ?hs6b ?hf6b ?hr6b ?hQ6b ?hy6b ?hS6b ?h6b
        case hi6b => exact (by simp only [List.getElem?_toArray, List.getElem?_cons_succ, List.getElem?_cons_zero]; rfl)
        case hs6b => kernel_rfl
        case hf6b => kernel_rfl
        case hr6b => kernel_rfl
        case hQ6b => exact fun _ _ _ h => h
        case hy6b =>
          refine Or.inl ⟨rfl, ?_⟩
          intro W hSw
          obtain ⟨y1, y2⟩ := hSw
          go_simp
          try with_reducible rfl
        case hS6b => assumption
        try simp only [Act.put, List.setIfInBounds_toArray, List.set_cons_zero, List.set_cons_succ]
        refine wpAnyH_take (i := 7) (oi := ?oi7b) (v := ?v7b) ?hi7b ?hs7b ?hf7b ?hr7b ?hQ7b ?hy7b ?hS7b ?h7b
        case hi7b => exact (by simp only [List.getElem?_toArray, List.getElem?_cons_succ, List.getElem?_cons_zero]; rfl)
        case hs7b => kernel_rfl
        case hf7b => kernel_rfl
        case hr7b => kernel_rfl
        case hQ7b => exact fun _ _ _ h => h
        case hy7b =>
          refine Or.inl ⟨rfl, ?_⟩
          intro W hSw
          obtain ⟨y1, y2⟩ := hSw
          go_simp
          try with_reducible rfl
        case hS7b => assumption
        try simp only [Act.put, List.setIfInBounds_toArray, List.set_cons_zero, List.set_cons_succ]
        refine wpAnyH_take (i := 8) (oi := ?oi8b) (v := ?v8b) ?hi8b ?hs8b ?hf8b ?hr8b ?hQ8b ?hy8b ?hS8b ?h8b
        case hi8b => exact (by simp only [List.getElem?_toArray, List.getElem?_cons_succ, List.getElem?_cons_zero]; rfl)
        case hs8b => kernel_rfl
        case hf8b => kernel_rfl
        case hr8b => kernel_rfl
        case hQ8b => exact fun _ _ _ h => h
        case hy8b =>
          refine Or.inl ⟨rfl, ?_⟩
          intro W hSw
          obtain ⟨y1, y2⟩ := hSw
          go_simp
          try with_reducible rfl
        case hS8b => assumption
        try simp only [Act.put, List.setIfInBounds_toArray, List.set_cons_zero, List.set_cons_succ]
        refine wpAnyH_take (i := 9) (oi := ?oi9b) (v := ?v9b) ?hi9b ?hs9b ?hf9b ?hr9b ?hQ9b ?hy9b ?hS9b ?h9b
        case hi9b => exact (by simp only [List.getElem?_toArray, List.getElem?_cons_succ, List.getElem?_cons_zero]; rfl)
        case hs9b => kernel_rfl
        case hf9b => kernel_rfl
        case hr9b => kernel_rfl
        case hQ9b => exact fun _ _ _ h => h
        case hy9b =>
          refine Or.inl ⟨rfl, ?_⟩
          intro W hSw
          obtain ⟨y1, y2⟩ := hSw
          go_simp
          try with_reducible rfl
        case hS9b => assumption
        try simp only [Act.put, List.setIfInBounds_toArray, List.set_cons_zero, List.set_cons_succ]
        refine wpAnyH_take (i := 10) (oi := ?oi10b) (v := ?v10b) ?hi10b ?hs10b ?hf10b ?hr10b ?hQ10b ?hy10b ?hS10b ?h10b
        case hi10b => exact (by simp only [List.getElem?_toArray, List.getElem?_cons_succ, List.getElem?_cons_zero]; rfl)
        case hs10b => kernel_rfl
        case hf10b => kernel_rfl
        case hr10b => kernel_rfl
        case hQ10b => exact fun _ _ _ h => h
        case hy10b =>
          refine Or.inl ⟨rfl, ?_⟩
          intro W hSw
          obtain ⟨y1, y2⟩ := hSw
          go_simp
          try with_reducible rfl
        case hS10b => assumption
        try simp only [Act.put, List.setIfInBounds_toArray, List.set_cons_zero, List.set_cons_succ]
        refine wpAnyH_ready (rs := [5]) (by kernel_rfl) (by simp) ?_
        refine AllReadyH.cons (o := _) rfl (fun K hK => ?_) AllReadyH.nil
        go_simp
        refine ((HSE.out Wb0)).mono ?_
        rintro r Wb1 ⟨rfl, hbq⟩
        have HBb1 := Lib.hid (HDb.out.trans (hbq.mono HDb.out.size))
        clear hbq
        refine hK.out _ _ (HS6.out _ (HBb1.out)) (fun hHeld => ?_)
        clear hK K
        try simp only [Act.put, List.setIfInBounds_toArray, List.set_cons_zero, List.set_cons_succ]
        refine wpAnyH_take (i := 11) (oi := ?oi11b) (v := (.bool true)) ?hi11b ?hs11b ?hf11b ?hr11b ?hQ11b ?hy11b ?hS11b ?h11b
        case hi11b => exact (by simp only [List.getElem?_toArray, List.getElem?_cons_succ, List.getElem?_cons_zero]; rfl)
        case hs11b => kernel_rfl
        case hf11b => kernel_rfl
        case hr11b => kernel_rfl
        case hQ11b => exact fun _ _ _ h => h
        case hy11b =>
          refine Or.inl ⟨rfl, ?_⟩
          intro W hSw
          obtain ⟨y1, y2⟩ := hSw
          go_simp
          try simp [HEQ.out]
        case hS11b => assumption
        try simp only [Act.put, List.setIfInBounds_toArray, List.set_cons_zero, List.set_cons_succ]
        refine wpAnyH_done (by kernel_rfl) ?_ _
        have HF6 : Hid (Fs w R Z n k l (some ⟨g, 0, none⟩) Wb1) := ⟨⟨m, B, c2, rows, ps, (HBb1.out.block R (lt_of_block HROW.out)).trans HROW.out, HSM.out.1, HPS.out.1, V.own2_after HOW.out fun g hg => HBb1.out.block g (V.own2_lt HOW.out g hg).2, HPS.out.2.1, HPS.out.2.2.1, HPS.out.2.2.2, HSM.out.2.2⟩, HV.out.ms.below HBb1.out, HV.out.below.trans (HBb1.out.mono HV.out.below.size), HV.out.low.1, HV.out.low.2.1, Nat.le_trans HV.out.low.2.2 HBb1.out.size⟩
        have HROW6 : Hid (Wb1.heap[R]? = some (.cells #[.slice B m c2, .int .i64 (n : Int)] 86 (0, 0))) := (HBb1.out.block R (lt_of_block HROW.out)).trans HROW.out
        have HOW6 : Hid (Wb1.ownsRow Z 137 2 (.slice B m c2) m (V.rr rows)) := V.own2_after HOW.out fun g hg => HBb1.out.block g (V.own2_lt HOW.out g hg).2
        have HCE6 : Hid (∀ W, Below Wb1.heap.size Wb1 W → W.cell? ⟨g, k * 3 + 1, none⟩ = some (.int .i64 s) ∧ W.cell? ⟨g, k * 3 + 2, none⟩ = some (.int .i64 t)) := fun W hW => HS6.out W (HBb1.out.trans (hW.mono HBb1.out.size))
        obtain ⟨d1, d2⟩ := HCE6.out Wb1 (Below.refl _ _)
        go_wp2_with fail
        refine (HSE.out _).mono ?_
        rintro r w6 ⟨rfl, hb6⟩
        have HB6 := Lib.hid hb6
        clear hb6 d1 d2
        obtain ⟨d1, d2⟩ := HCE6.out w6 HB6.out
        obtain ⟨g', o', cur, e', hbk, hA⟩ := (HF6.out.ms.below HB6.out) (by have := (List.getElem?_eq_some_iff.1 HFL.out).1; omega)
        injection e' with e'
        injection e' with e1 e2 _
        subst e1 e2
        have zf : w6.frozen? ⟨g, k * 3 + 2, none⟩ = false := frozen_of_row w6 g _ _ _ hbk
        obtain ⟨w7, hw7⟩ : ∃ w7, w7 = w6.setCell ⟨g, k * 3 + 2, none⟩ (.int .i64 q) := ⟨_, rfl⟩
        have HMS7 : Hid (Ms w7 (some ⟨g, 0, none⟩) (flM l (k + 1))) := by rw [HFN.out, hw7]; exact set_told hbk hA HFL.out
        have HLOW : Hid (w.heap.size ≤ R ∧ R < Z) := ⟨HF6.out.low.1, HF6.out.low.2.1⟩
        have hwg : w.heap.size ≤ g := by have := HR0.out.2.2.size; omega
        have HBW7 : Hid (Below w.heap.size w w7) := by rw [hw7]; exact (HF6.out.below.trans (HB6.out.mono HF6.out.below.size)).setCell hwg _
        have HROW7 : Hid (w7.heap[R]? = some (.cells #[.slice B m c2, .int .i64 (n : Int)] 86 (0, 0))) := by rw [hw7]; exact (Below.heap_setCell _ _ _ _ (fun e => HGR.out e.symm)).trans ((HB6.out.block R (lt_of_block HROW6.out)).trans HROW6.out)
        have HOW7 : Hid (w7.ownsRow Z 137 2 (.slice B m c2) m (V.rr rows)) := V.own2_after HOW6.out fun g' hg' => by
          have h1 := V.own2_lt HOW6.out g' hg'
          have hne : g' ≠ g := by have := h1.1; have := HGZ.out; omega
          rw [hw7]
          exact (Below.heap_setCell _ _ _ _ hne).trans (HB6.out.block g' (Nat.lt_of_lt_of_le h1.2 (Nat.le_refl _)))
        have HZ7 : Hid (Z ≤ w7.heap.size) := by simp only [Hid]; rw [hw7]; simpa using Nat.le_trans HF6.out.low.2.2 HB6.out.size
        have HP8 : Hid (∀ W, Below w7.heap.size w7 W → (fun W : World => W.cell? ⟨g, k * 3, none⟩ = some (.int .u32 (p : Int))) W) := fun W hW => by
          have h1 := HMS7.out (by have := (List.getElem?_eq_some_iff.1 HFL.out).1; rw [HFN.out, List.length_set]; omega)
          obtain ⟨b, o, cc, e, hb, hc⟩ := h1
          injection e with e
          injection e with e1 e2 _
          subst e1 e2
          have hk2 : (flM l (k + 1))[k]? = some (p, s, q) := by rw [HFN.out, List.getElem?_set, if_pos rfl, if_pos (List.getElem?_eq_some_iff.1 HFL.out).1]
          have h2 := (hc k _ hk2).1
          rw [Nat.zero_add] at h2
          exact (World.cell?_of_block (hW.block g (lt_of_block hb))).trans h2
        have HR77 : Hid (Below w7.heap.size w7 w7) := Below.refl _ _
        have H7 := Lib.hid hw7
        clear hbk hA hw7 hwg
        go_upto_region 8 with (fail)
        rw [← H7.out]
        clear d1 d2 zf
        refine wp_region_held_drew (S := fun W : World => W.cell? ⟨g, k * 3, none⟩ = some (.int .u32 (p : Int))) (by kernel_rfl) (HP8.out _ HR77.out.drew) (fun hHeld => ?_)
        obtain ⟨W0, hW0⟩ : ∃ W0, W0 = w7.drew := ⟨_, rfl⟩
        have HW0 : Hid (Below w7.heap.size w7 W0 ∧ W0.heap[R]? = some (.cells #[.slice B m c2, .int .i64 (n : Int)] 86 (0, 0)) ∧ W0.ownsRow Z 137 2 (.slice B m c2) m (V.rr rows) ∧ Z ≤ W0.heap.size) := by rw [hW0]; exact ⟨HR77.out.drew, HROW7.out, HOW7.out, HZ7.out⟩
        rw [← hW0] at hHeld ⊢
        clear hW0
        refine wpAnyH_take (i := 1) (oi := ?oi1) (v := ?v1) ?hi1 ?hs1 ?hf1 ?hr1 ?hQ1 ?hy1 ?hS1 ?h1
        case hi1 => exact (by simp only [List.getElem?_toArray, List.getElem?_cons_succ, List.getElem?_cons_zero]; rfl)
        case hs1 => kernel_rfl
        case hf1 => kernel_rfl
        case hr1 => kernel_rfl
        case hQ1 => exact fun _ _ _ h => h
        case hy1 =>
          refine Or.inl ⟨rfl, ?_⟩
          intro W hSw
          go_simp
          try with_reducible rfl
        case hS1 => assumption
        try simp only [Act.put, List.setIfInBounds_toArray, List.set_cons_zero, List.set_cons_succ]
        refine wpAnyH_take (i := 2) (oi := ?oi2) (v := ?v2) ?hi2 ?hs2 ?hf2 ?hr2 ?hQ2 ?hy2 ?hS2 ?h2
        case hi2 => exact (by simp only [List.getElem?_toArray, List.getElem?_cons_succ, List.getElem?_cons_zero]; rfl)
        case hs2 => kernel_rfl
        case hf2 => kernel_rfl
        case hr2 => kernel_rfl
        case hQ2 => exact fun _ _ _ h => h
        case hy2 =>
          refine Or.inl ⟨rfl, ?_⟩
          intro W hSw
          go_simp
          try with_reducible rfl
        case hS2 => assumption
        try simp only [Act.put, List.setIfInBounds_toArray, List.set_cons_zero, List.set_cons_succ]
        refine wpAnyH_take (i := 3) (oi := ?oi3) (v := ?v3) ?hi3 ?hs3 ?hf3 ?hr3 ?hQ3 ?hy3 ?hS3 ?h3
        case hi3 => exact (by simp only [List.getElem?_toArray, List.getElem?_cons_succ, List.getElem?_cons_zero]; rfl)
        case hs3 => kernel_rfl
        case hf3 => kernel_rfl
        case hr3 => kernel_rfl
        case hQ3 => exact fun _ _ _ h => h
        case hy3 =>
          refine Or.inl ⟨rfl, ?_⟩
          intro W hSw
          go_simp
          try with_reducible rfl
        case hS3 => assumption
        try simp only [Act.put, List.setIfInBounds_toArray, List.set_cons_zero, List.set_cons_succ]
        refine wpAnyH_take (i := 4) (oi := ?oi4) (v := ?v4) ?hi4 ?hs4 ?hf4 ?hr4 ?hQ4 ?hy4 ?hS4 ?h4
        case hi4 => exact (by simp only [List.getElem?_toArray, List.getElem?_cons_succ, List.getElem?_cons_zero]; rfl)
        case hs4 => kernel_rfl
        case hf4 => kernel_rfl
        case hr4 => kernel_rfl
        case hQ4 => exact fun _ _ _ h => h
        case hy4 =>
          refine Or.inl ⟨rfl, ?_⟩
          intro W hSw
          go_simp
          try with_reducible rfl
        case hS4 => assumption
        try simp only [Act.put, List.setIfInBounds_toArray, List.set_cons_zero, List.set_cons_succ]
        refine wpAnyH_take (i := 5) (oi := ?oi5) (v := ?v5) ?hi5 ?hs5 ?hf5 ?hr5 ?hQ5 ?hy5 ?hS5 ?h5
        case hi5 => exact (by simp only [List.getElem?_toArray, List.getElem?_cons_succ, List.getElem?_cons_zero]; rfl)
        case hs5 => kernel_rfl
        case hf5 => kernel_rfl
        case hr5 => kernel_rfl
        case hQ5 => exact fun _ _ _ h => h
        case hy5 =>
          refine Or.inl ⟨rfl, ?_⟩
          intro W hSw
          go_simp
          try with_reducible rfl
        case hS5 => assumption
        try simp only [Act.put, List.setIfInBounds_toArray, List.set_cons_zero, List.set_cons_succ]
        have z0 := cell_of_row W0 R 0 _ _ _ HW0.out.2.1
        have z1 := cell_of_row W0 R 1 _ _ _ HW0.out.2.1
        simp at z0 z1
        refine wpAnyH_ready (rs := [0]) (by kernel_rfl) (by simp) ?_
        refine AllReadyH.cons (o := _) rfl (fun K hK => ?_) AllReadyH.nil
        go_simp
        refine hK.out _ _ (HP8.out _ HW0.out.1) (fun hHeld => ?_)
        clear hK K z0 z1
        try simp only [Act.put, List.setIfInBounds_toArray, List.set_cons_zero, List.set_cons_succ]
        refine wpAnyH_ready (rs := [6]) (by kernel_rfl) (by simp) ?_
        refine AllReadyH.cons (o := _) rfl (fun K hK => ?_) AllReadyH.nil
        go_simp
        refine (V.rput_any Z B m c2 (n : Int) p 0 0 rows ps qs W0 HSM.out.1 HW0.out.2.2.1 HW0.out.2.2.2 HSM.out.2.1 HPS.out.1 HPS.out.2.1 HPS.out.2.2.1 HQ.out).mono ?_
        rintro r w3 ⟨B3, m3, c3, l3, rfl, hm3, hp3, ho3, hb3⟩
        have HR3 : Hid (w3.heap[R]? = some (.cells #[.slice B m c2, .int .i64 (n : Int)] 86 (0, 0))) := (hb3.block R (lt_of_block HW0.out.2.1)).trans HW0.out.2.1
        have HB3 : Hid (Below w7.heap.size w7 w3) := HW0.out.1.trans (hb3.mono HW0.out.1.size)
        have HO3 := Lib.hid ho3
        have HM3 := Lib.hid (And.intro hm3 hp3)
        clear hm3 hp3 ho3 hb3
        unfold V.rV
        refine hK.out _ _ (HP8.out _ HB3.out) (fun hHeld => ?_)
        clear hK K
        try simp only [Act.put, List.setIfInBounds_toArray, List.set_cons_zero, List.set_cons_succ]
        refine wpAnyH_take (i := 7) (oi := ?oi7c) (v := ?v7c) ?hi7c ?hs7c ?hf7c ?hr7c ?hQ7c ?hy7c ?hS7c ?h7c
        case hi7c => exact (by simp only [List.getElem?_toArray, List.getElem?_cons_succ, List.getElem?_cons_zero]; rfl)
        case hs7c => kernel_rfl
        case hf7c => kernel_rfl
        case hr7c => kernel_rfl
        case hQ7c => exact fun _ _ _ h => h
        case hy7c =>
          refine Or.inl ⟨rfl, ?_⟩
          intro W hSw
          go_simp
          try with_reducible rfl
        case hS7c => assumption
        try simp only [Act.put, List.setIfInBounds_toArray, List.set_cons_zero, List.set_cons_succ]
        refine wpAnyH_take (i := 8) (oi := ?oi8c) (v := ?v8c) ?hi8c ?hs8c ?hf8c ?hr8c ?hQ8c ?hy8c ?hS8c ?h8c
        case hi8c => exact (by simp only [List.getElem?_toArray, List.getElem?_cons_succ, List.getElem?_cons_zero]; rfl)
        case hs8c => kernel_rfl
        case hf8c => kernel_rfl
        case hr8c => kernel_rfl
        case hQ8c => exact fun _ _ _ h => h
        case hy8c =>
          refine Or.inl ⟨rfl, ?_⟩
          intro W hSw
          go_simp
          try with_reducible rfl
        case hS8c => assumption
        try simp only [Act.put, List.setIfInBounds_toArray, List.set_cons_zero, List.set_cons_succ]
        refine wpAnyH_take (i := 9) (oi := ?oi9c) (v := ?v9c) ?hi9c ?hs9c ?hf9c ?hr9c ?hQ9c ?hy9c ?hS9c ?h9c
        case hi9c => exact (by simp only [List.getElem?_toArray, List.getElem?_cons_succ, List.getElem?_cons_zero]; rfl)
        case hs9c => kernel_rfl
        case hf9c => kernel_rfl
        case hr9c => kernel_rfl
        case hQ9c => exact fun _ _ _ h => h
        case hy9c =>
          refine Or.inl ⟨rfl, ?_⟩
          intro W hSw
          go_simp
          try with_reducible rfl
        case hS9c => assumption
        try simp only [Act.put, List.setIfInBounds_toArray, List.set_cons_zero, List.set_cons_succ]
        refine wpAnyH_ready (rs := [10]) (by kernel_rfl) (by simp) ?_
        refine AllReadyH.cons (o := _) rfl (fun K hK => ?_) AllReadyH.nil
        have hq4 := HR3.out
        have z0 := cell_of_row w3 R 0 _ _ _ hq4
        have z1 := cell_of_row w3 R 1 _ _ _ hq4
        simp at z0 z1
        have zf : ∀ i, w3.frozen? ⟨R, i, none⟩ = false := fun i => frozen_of_row w3 _ i _ _ hq4
        clear hq4
        go_simp
        clear z0 z1 zf
        obtain ⟨W5, hW5⟩ : ∃ W5, W5 = ((w3.setCell ⟨R, 0, none⟩ (.slice B3 m3 c3)).setCell ⟨R, 1, none⟩ (.int .i64 (n : Int))) := ⟨_, rfl⟩
        have HV5 : Hid (Fs w R Z n (k + 1) l (some ⟨g, 0, none⟩) W5 ∧ (fun W : World => W.cell? ⟨g, k * 3, none⟩ = some (.int .u32 (p : Int))) W5) := by
          have e1 := two_row (.slice B3 m3 c3) (.int .i64 (n : Int)) HR3.out
          have hlo := HLOW.out
          have hgR : g ≠ R := HGR.out
          have hz3 : Z ≤ w3.heap.size := Nat.le_trans HZ7.out HB3.out.size
          refine ⟨⟨⟨m3, B3, c3, l3, qs, by rw [hW5]; exact e1, HM3.out.1, HM3.out.2, ?_, HQF.out⟩, ?_, by rw [hW5]; exact ((HBW7.out.trans (HB3.out.mono HBW7.out.size)).setCell hlo.1 _).setCell hlo.1 _, hlo.1, hlo.2, by rw [hW5]; simpa using hz3⟩, ?_⟩
          · rw [hW5]
            exact V.own2_after HO3.out fun g hg => two_other _ _ (by have := (V.own2_lt HO3.out g hg).1; omega)
          · rw [hW5]
            exact (HMS7.out.below HB3.out).keep fun b cc hc => two_other _ _ (fun e => by rw [e, HR3.out] at hc; injection hc with hc; injection hc with _ hc _; exact absurd hc (by decide))
          · show W5.cell? _ = _
            rw [hW5]
            exact (World.cell?_of_block (two_other _ _ hgR)).trans (HP8.out _ HB3.out)
        rw [← hW5]
        clear hW5
        refine hK.out _ _ HV5.out.2 (fun hHeld => ?_)
        clear hK K
        try simp only [Act.put, List.setIfInBounds_toArray, List.set_cons_zero, List.set_cons_succ]
        refine wpAnyH_done (by kernel_rfl) ?_ _
        go_wp2_with fail
        go_roundw
        case rel => exact ⟨k + 1, by omega, by go_num, HV5.out.1⟩
        case measure => simp [intOf] <;> omega
    · obtain rfl : k = n := by omega
      have z0 := cell_of_row wr R 0 _ _ _ HROW.out
      have z1 := cell_of_row wr R 1 _ _ _ HROW.out
      simp at z0 z1
      have HC := Lib.hid (V.rids_any B m c2 (k : Int) rows ps wr HSM.out.1 (V.Rs.of_own HOW.out) HSM.out.2.1 HPS.out.1 HPS.out.2.1 HPS.out.2.2.1)
      obtain ⟨zs, hzs⟩ : ∃ zs, zs = ps.map (·.1) := ⟨_, rfl⟩
      rw [← hzs] at HC
      have HX : Hid (zs.Pairwise (· < ·) ∧ (∀ y, y ∈ zs ↔ y ∈ chg l) ∧ zs.length ≤ 200) := ⟨by rw [hzs]; exact (up_iff _).1 HPS.out.2.1, fun y => by
        rw [hzs, HPS.out.2.2.2 y, List.take_of_length_le (by rw [← HN.out]; exact Nat.le_refl _)], by rw [hzs, List.length_map]; have := HSM.out.2.2; omega⟩
      have HMT : Hid (Ms wr B4 (l.map toldM)) := by
        have h := HV.out.ms
        rw [HN.out, flM_all] at h
        exact h
      clear hzs
      go_wp2_with fail
      refine HC.out.mono ?_
      rintro r w5 ⟨v', rfl, ho, hb⟩
      have HV1 := Lib.hid (Rd.of_own ho)
      have HB5 := Lib.hid hb
      obtain ⟨A1, c1, rfl⟩ := own_form1 ho
      clear ho hb z0 z1
      obtain ⟨mz, hmz⟩ : ∃ mz, mz = zs.length := ⟨_, rfl⟩
      rw [← hmz] at HV1 ⊢
      have HMZ := Lib.hid hmz
      have hm2 : mz ≤ 200 := by rw [hmz]; exact HX.out.2.2
      clear hmz
      go_wp2_with fail
      go_loopw [9, 10] (fun v x wq => ∃ j : Nat, j ≤ mz ∧ x = .int .i64 (j : Int) ∧ Hid (wq.ownsRow w5.heap.size 3 1 v j ((zs.take j).map fun z => Value.int .i64 (seen (lookM l z).1))) ∧ Hid (Below w5.heap.size w5 wq)) (fun _ x _ => mz - (intOf x).toNat)
      case atStart => exact ⟨0, by omega, rfl, World.ownsRow_nil w5 _ 3 1, Below.refl _ _⟩
      case round =>
        obtain ⟨j, hj, rfl, HO, HB⟩ := hrel
        obtain ⟨A2, c2', rfl⟩ := own_form1 HO.out
        by_cases hjl : j < mz
        · obtain ⟨z, hz⟩ : ∃ z, zs[j]? = some z := ⟨zs[j]'(by rw [← HMZ.out]; exact hjl), List.getElem?_eq_getElem _⟩
          obtain ⟨A1', c1', e1, hrd⟩ := HV1.out.below HB.out
          injection e1 with e1 _ e2
          subst e1 e2
          obtain ⟨b1, rfl, _, hc1⟩ := hrd (by omega)
          have d0 := hc1 j (.int .u32 (z : Int)) (by unfold un; rw [List.getElem?_map, hz]; rfl)
          obtain ⟨st, hst⟩ : ∃ st, st = (lookM (l.map toldM) z).1 := ⟨_, rfl⟩
          have HST := Lib.hid (rstatus B4 k c4 z (l.map toldM) wr (by rw [List.length_map]; exact HN.out) ((HMT.out.below HB5.out).below HB.out) (by omega))
          rw [← hst] at HST
          obtain ⟨q, hq⟩ : ∃ q, q = seen st := ⟨_, rfl⟩
          have HSE : Hid (∀ W, Calls Try.prog 37 #[.int .i64 st] W fun r w' => r = .returned (.int .i64 q) ∧ Below W.heap.size W w') := fun W => by rw [hq]; exact rseen_any st W
          have HTK : Hid ((zs.take (j + 1)).map (fun z => Value.int .i64 (seen (lookM l z).1)) = (zs.take j).map (fun z => Value.int .i64 (seen (lookM l z).1)) ++ [.int .i64 q]) := by
            simp only [Hid]
            rw [List.take_add_one, hz, hq, hst, lookM_told]
            simp
          clear hrd hc1 hz hst hq
          go_wp2_with fail
          refine HST.out.mono ?_
          rintro r w' ⟨rfl, hw⟩
          have hw := hw.symm
          subst hw
          clear d0
          go_wp2_with fail
          refine (HSE.out _).mono ?_
          rintro r w6 ⟨rfl, hb6⟩
          have HB6 : Hid (Below w5.heap.size w5 w6) := HB.out.trans (hb6.mono HB.out.size)
          have HO6 : Hid (w6.ownsRow w5.heap.size 3 1 (.slice A2 j c2') j ((zs.take j).map fun z => Value.int .i64 (seen (lookM l z).1))) := own_after HO.out fun g hg => hb6.block g (ownlt HO.out g hg).2
          have HS6 : Hid (w5.heap.size ≤ w6.heap.size) := HB6.out.size
          clear hb6
          go_wp2_with (at_builtin; refine wpList_append_int rfl _ _ rfl w5.heap.size w6.heap.size (.slice A2 j c2') j _ q rfl rfl (HO6.out.alloc _) (heap_alloc_new _ _) (by omega) (by have := HS6.out; simp; omega) ?_; intro v7 w7 hown7 hg7; obtain ⟨A7, c7, rfl⟩ := own_form1 hown7; have HO7 := Lib.hid hown7; have HB7 : Hid (Below w5.heap.size w5 w7) := (HB6.out.alloc HS6.out _).grown hg7 (by have := HS6.out; simp; omega) (fun g h => (ownlt HO6.out g h).1); clear hown7 hg7)
          go_roundw
          case rel => exact ⟨j + 1, by omega, by go_num, by rw [HTK.out]; exact HO7.out, HB7.out⟩
          case measure => simp [intOf] <;> omega
        · obtain rfl : j = mz := by omega
          have HFIN : Hid (Rd wr (.slice A1 j c1) j (un zs) ∧ Rd wr (.slice A2 j c2') j (zs.map fun z => Value.int .i64 (seen (lookM l z).1)) ∧ Ms wr B4 (l.map toldM) ∧ Below w.heap.size w wr) := ⟨HV1.out.below HB.out, by
            have h := Rd.of_own HO.out
            rw [List.take_of_length_le (by rw [← HMZ.out]; exact Nat.le_refl _)] at h
            exact h, (HMT.out.below HB5.out).below HB.out, HV.out.below.trans ((HB5.out.trans (HB.out.mono HB5.out.size)).mono HV.out.below.size)⟩
          go_wp2
          go_ret3
          exact ⟨_, _, _, _, _, zs, rfl, HX.out.1, HX.out.2.1, by rw [← HMZ.out]; exact HFIN.out.1, by rw [← HMZ.out]; exact HFIN.out.2.1, HN.out, HFIN.out.2.2.1, HFIN.out.2.2.2⟩
end Go.Proofs.Ytaoejkbockcneaa.Bd
