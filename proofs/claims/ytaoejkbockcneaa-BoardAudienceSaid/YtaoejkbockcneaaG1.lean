/- Friend: the map by two players; a graph in memory; is, Are, two, end, New. -/
import Derived.Test.YtaoejkbockcneaaF2
import Derived.Test.YtaoejkbockcneaaZE
import Derived.Maps.OwnSet
import Derived.Maps.OwnOps
import Derived.Maps.Views
import Derived.Maps.RangeWalk
import Derived.DeepKeys4
namespace Go.Proofs.Ytaoejkbockcneaa
open Go.RowKit Go.Maps
set_option maxRecDepth 20000
set_option linter.unusedVariables false
set_option linter.unusedSimpArgs false

theorem laidOut : laidOutB Try.prog = true := by kernel_rfl
theorem row133 : (133 : TypeId) < Try.prog.types.size := of_decide_eq_true (by kernel_rfl)
theorem wide67 : (match Try.prog.underlying 133 with | some (.array _ _) | some (.struct _) => true | _ => false) = true := by rw [Try.underlying133]
theorem K133 : Maps.Keyed Try.prog 133 := Maps.Keyed.of_law (deep_law_laid laidOut (m := 2) (by omega) row133 (by kernel_rfl) wide67)
abbrev kV (p q : Nat) : Value := .agg #[.int .u32 (p : Int), .int .u32 (q : Int)]
def kl (p q : Nat) : Lit := .string (keyBytes [.int .u32 (p : Int), .int .u32 (q : Int)])
def u32ok (p : Nat) : Prop := p < 4294967296
theorem u32wf {p : Nat} (h : u32ok p) : (Lit.int .u32 (p : Int)).wf = true := by
  unfold u32ok at h
  simp only [Lit.wf, Bool.and_eq_true, decide_eq_true_eq]
  exact ⟨by show (0 : Int) ≤ _; omega, by show _ ≤ (4294967295 : Int); omega⟩
theorem wfu32 {x : Int} (h : (Lit.int .u32 x).wf = true) : ∃ p : Nat, x = (p : Int) ∧ u32ok p := by
  simp only [Lit.wf, Bool.and_eq_true, decide_eq_true_eq] at h
  have h1 : (0 : Int) ≤ x := h.1
  have h2 : x ≤ 4294967295 := h.2
  exact ⟨x.toNat, by omega, by unfold u32ok; omega⟩
theorem kt67 : Try.prog.keyType 133 = true := by kernel_rfl
theorem c67 : Try.prog.cellsOf 133 = 2 := by kernel_rfl
theorem c26 : Try.prog.cellsOf 26 = 1 := by kernel_rfl
theorem lits26 (m : Nat) {p : Nat} (h : u32ok p) : Try.prog.keyLits (m + 1) 26 [.int .u32 (p : Int)] = some [.int .u32 (p : Int)] := by
  unfold Program.keyLits
  rw [Try.underlying26]
  simp [u32wf h]
theorem lits26_inv (m : Nat) {a : Value} {ls : List Lit} (h : Try.prog.keyLits (m + 1) 26 [a] = some ls) : ∃ p : Nat, u32ok p ∧ a = .int .u32 (p : Int) ∧ ls = [.int .u32 (p : Int)] := by
  unfold Program.keyLits at h
  rw [Try.underlying26] at h
  cases a <;> simp at h
  obtain ⟨⟨rfl, hw⟩, rfl⟩ := h
  obtain ⟨p, rfl, hp⟩ := wfu32 hw
  exact ⟨p, hp, rfl, rfl⟩
theorem types_succ : ∃ m, Try.prog.types.size = m + 1 := Nat.exists_eq_succ_of_ne_zero (Nat.ne_of_gt (Nat.lt_of_le_of_lt (Nat.zero_le _) row133))
theorem key67 (p q : Nat) (hp : u32ok p) (hq : u32ok q) : keyOf Try.prog 133 (kV p q) = some (kl p q) := by
  have hf : (kV p q).formed Try.prog 133 = true := by simp [Value.formed, Try.underlying133, c67]
  unfold keyOf
  rw [Try.underlying133]
  simp only [kt67, hf, Bool.and_self, if_true]
  obtain ⟨m, hm⟩ := types_succ
  rw [hm]
  have : (Try.prog.keyLits (m + 1 + 1) 133 (Value.cells (kV p q)).toList) = some [.int .u32 (p : Int), .int .u32 (q : Int)] := by
    unfold Program.keyLits
    rw [Try.underlying133]
    simp [Value.cells, c67, c26, lits26 m hp, lits26 m hq]
  rw [this]
  rfl
theorem key67_inv {v : Value} {k : Lit} (h : keyOf Try.prog 133 v = some k) : ∃ p q : Nat, u32ok p ∧ u32ok q ∧ v = kV p q ∧ k = kl p q := by
  unfold keyOf at h
  rw [Try.underlying133] at h
  simp only [kt67, Bool.true_and] at h
  split at h
  · rename_i hf
    obtain ⟨m, hm⟩ := types_succ
    rw [hm] at h
    cases v <;> simp [Value.formed, Try.underlying133, c67] at hf
    rename_i cs
    obtain ⟨l⟩ := cs
    simp at hf
    match l, hf with
    | [a, b], _ =>
      rw [Option.map_eq_some_iff] at h
      obtain ⟨ls, h, rfl⟩ := h
      unfold Program.keyLits at h
      rw [Try.underlying133] at h
      simp [Value.cells, c67, c26] at h
      cases ha : Try.prog.keyLits (m + 1) 26 [a] with
      | none => rw [ha] at h; simp at h
      | some la =>
        cases hb : Try.prog.keyLits (m + 1) 26 [b] with
        | none => rw [ha, hb] at h; simp at h
        | some lb =>
          obtain ⟨p, hp, rfl, rfl⟩ := lits26_inv m ha
          obtain ⟨q, hq, rfl, rfl⟩ := lits26_inv m hb
          rw [ha, hb] at h
          simp at h
          subst h
          exact ⟨p, q, hp, hq, rfl, rfl⟩
  · cases h
theorem kl_inj {p q p' q' : Nat} (hp : u32ok p) (hq : u32ok q) (hp' : u32ok p') (hq' : u32ok q') (h : kl p q = kl p' q') : p = p' ∧ q = q' := by
  have h1 := key67 p q hp hq
  rw [h] at h1
  have := K133.inj h1 (key67 p' q' hp' hq')
  simp at this
  omega
theorem zero131 (w : World) : (zeroValue 131).run Try.prog w = .ok (.int .i64 0) w := by kernel_rfl
/-- How a tie reads. -/
def tD (t : Int) : DataW Unit := .lit (.int .i64 t)
def RT (v : Value) : Option (DataW Unit × List MemPlace) := match v with | .int .i64 t => some (.lit (.int .i64 t), []) | _ => none
theorem RT_mk (t : Int) : RT (.int .i64 t) = some (tD t, []) := rfl
theorem RT_shape {v : Value} {y : DataW Unit × List MemPlace} (h : RT v = some y) : ∃ t : Int, v = .int .i64 t := by
  unfold RT at h
  split at h
  · rename_i t
    exact ⟨t, rfl⟩
  · cases h
theorem tD_inj {s t : Int} (h : tD s = tD t) : s = t := by
  unfold tD at h
  injection h with h
  injection h
theorem RT_inv {v : Value} {t : Int} {ps : List MemPlace} (h : RT v = some (tD t, ps)) : v = .int .i64 t := by
  obtain ⟨s, rfl⟩ := RT_shape h
  rw [RT_mk] at h
  injection h with h
  injection h with h _
  rw [tD_inj h]
/-- The map reads as these ties. -/
def Rep (D : DataW Unit) (N : Nat → Nat → Int) : Prop := ∀ p q, u32ok p → u32ok q → D.atKey (kl p q) (tD 0) = tD (N p q) ∧ (has D (kl p q) = true ↔ N p q ≠ 0)
/-- A graph in block L, its map in block M. -/
def IsG (w : World) (L M cnt : Nat) (D : DataW Unit) : Prop :=
  w.heap[L]? = some (.cells #[.map (some M)] 128 (0, 0)) ∧ w.ownsMap Try.prog 133 RT M cnt D
theorem IsG.below {w w' : World} {L M cnt : Nat} {D : DataW Unit} (h : IsG w L M cnt D) (hb : Below w.heap.size w w') : IsG w' L M cnt D := by
  obtain ⟨h1, es, clock, hm, r⟩ := h
  exact ⟨(hb.block L (lt_of_block h1)).trans h1, es, clock, (hb.block M (lt_of_block hm)).trans hm, r⟩
theorem IsG.norm {w : World} {L M cnt : Nat} {D : DataW Unit} (h : IsG w L M cnt D) : IsG w L M (size D) D := by
  obtain ⟨h1, es, clock, hb, F, hs, rfl⟩ := h
  exact ⟨h1, es, clock, hb, F, by simp [Maps.size, length_sorted], rfl⟩
theorem IsG.ne {w : World} {L M cnt : Nat} {D : DataW Unit} (h : IsG w L M cnt D) : L ≠ M := fun e => by
  obtain ⟨h1, es, clock, hm, _⟩ := h
  rw [e] at h1
  rw [h1] at hm
  cases hm
/-- What a call may change that turns the map in block M. -/
def ChM (M : Nat) (w w' : World) : Prop := (∀ B, B ≤ M → B ≤ w.heap.size → Below B w w') ∧ (∀ g, g < w.heap.size → g ≠ M → w'.heap[g]? = w.heap[g]?) ∧ w.heap.size ≤ w'.heap.size
theorem ChM.of_below {M : Nat} {w w' : World} (h : Below w.heap.size w w') : ChM M w w' := ⟨fun _ _ h2 => h.mono h2, fun g hg _ => h.block g hg, h.size⟩
theorem ChM.of_grown {M : Nat} {w v w' : World} (h : Below w.heap.size w v) (hg : v.grownBy w' (some M)) : ChM M w w' :=
  ⟨fun B h1 h2 => (h.mono h2).grown hg (Nat.le_trans h2 h.size) (fun k hk => by injection hk with hk; omega), fun g hgs hne => (hg.block g (Nat.lt_of_lt_of_le hgs h.size) (fun e => by injection e with e; exact hne e)).trans (h.block g hgs), Nat.le_trans h.size hg.size⟩
theorem ChM.trans {M : Nat} {w v x : World} (h : ChM M w v) (h' : ChM M v x) : ChM M w x :=
  ⟨fun B h1 h2 => (h.1 B h1 h2).trans (h'.1 B h1 (Nat.le_trans h2 h.2.2)), fun g hg hne => (h'.2.1 g (Nat.lt_of_lt_of_le hg h.2.2) hne).trans (h.2.1 g hg hne), Nat.le_trans h.2.2 h'.2.2⟩
/-- The graph stands for the rows l, and has n ties at most. -/
def Gr (w : World) (L M n : Nat) (l : List Rw) : Prop := ∃ D, IsG w L M (size D) D ∧ Rep D (tie l) ∧ size D ≤ n
theorem Gr.below {w w' : World} {L M n : Nat} {l : List Rw} (h : Gr w L M n l) (hb : Below w.heap.size w w') : Gr w' L M n l := by
  obtain ⟨D, h1, h2⟩ := h
  exact ⟨D, h1.below hb, h2⟩
theorem Gr.up {w : World} {L M n n' : Nat} {l : List Rw} (h : Gr w L M n l) (hn : n ≤ n') : Gr w L M n' l := by
  obtain ⟨D, h1, h2, h3⟩ := h
  exact ⟨D, h1, h2, Nat.le_trans h3 hn⟩
theorem Gr.ne {w : World} {L M n : Nat} {l : List Rw} (h : Gr w L M n l) : L ≠ M := by
  obtain ⟨D, h1, _⟩ := h
  exact h1.ne
theorem kl_lit (p q : Nat) : WideAt.IsKeyLit (kl p q) := by simp [WideAt.IsKeyLit, kl]
theorem Rep.put {D : DataW Unit} {N : Nat → Nat → Int} (hD : IsMap D) (h : Rep D N) {a b : Nat} {t : Int} (ha : u32ok a) (hb : u32ok b) (ht : t ≠ 0) : Rep (D.put (kl a b) (tD t)) (upd N a b t) := fun p q hp hq => by
  unfold upd
  by_cases e : p = a ∧ q = b
  · obtain ⟨rfl, rfl⟩ := e
    rw [if_pos ⟨rfl, rfl⟩]
    exact ⟨atKey_put_same hD (kl_lit _ _) _ _, by rw [has_put_same hD (kl_lit _ _)]; simp [ht]⟩
  · rw [if_neg e]
    have hne : kl p q ≠ kl a b := fun h => e (kl_inj hp hq ha hb h)
    rw [atKey_put_other hne, has_put_other hne]
    exact h p q hp hq
theorem Rep.del {D : DataW Unit} {N : Nat → Nat → Int} (h : Rep D N) {a b : Nat} (ha : u32ok a) (hb : u32ok b) : Rep (D.del (kl a b)) (upd N a b 0) := fun p q hp hq => by
  unfold upd
  by_cases e : p = a ∧ q = b
  · obtain ⟨rfl, rfl⟩ := e
    rw [if_pos ⟨rfl, rfl⟩]
    exact ⟨atKey_del_same _, by rw [has_del_same]; simp⟩
  · rw [if_neg e]
    have hne : kl p q ≠ kl a b := fun h => e (kl_inj hp hq ha hb h)
    rw [atKey_del_other hne, has_del_other hne]
    exact h p q hp hq

set_option maxHeartbeats 1000000 in
theorem new_any (w : World) : Calls Try.prog 39 #[] w fun e w' => e = .returned (.pointer (some ⟨w.heap.size + 1, 0, none⟩)) ∧ Gr w' (w.heap.size + 1) w.heap.size 0 [] ∧ Below w.heap.size w w' := by
  have hm := World.ownsMap_made w Try.prog 133 RT
  have hb := ((Below.refl w.heap.size w).alloc (Nat.le_refl _) (.map #[] 0)).alloc (by simp) (.cells #[.map (some w.heap.size)] 128)
  have hq := heap_alloc_new (w.alloc (.map #[] 0)) (.cells #[.map (some w.heap.size)] 128)
  rw [World.size_alloc] at hq
  have hmk : ∀ W : World, (Instr.makeMap 126 none).run Try.prog W = .ok (.map (some W.heap.size)) (W.alloc (.map #[] 0)) := fun W => rfl
  have HR : Hid (Rep (.map []) (tie [])) := fun p q _ _ => by rw [tie_nil]; exact ⟨rfl, by simp [has]⟩
  go_enter Try.func39, Try.ntmps39
  go_wp2
  go_ret
  exact ⟨rfl, ⟨_, ⟨hq, hm.alloc _⟩, HR.out, Nat.le_refl _⟩, hb⟩

theorem look {w : World} {L M cnt : Nat} {D : DataW Unit} {N : Nat → Nat → Int} (h : IsG w L M cnt D) (hN : Rep D N) {p q : Nat} (hp : u32ok p) (hq : u32ok q) :
    (Instr.lookup 126 (.map (some M)) (kV p q) false).run Try.prog w = .ok (.int .i64 (N p q)) w := by
  obtain ⟨v, ps, hlk, hv⟩ := h.2.lookup K133 Try.underlying126 (zero131 w) (RT_mk 0) (key67 p q hp hq)
  rw [(hN p q hp hq).1] at hv
  obtain rfl := RT_inv hv
  exact hlk
set_option maxHeartbeats 1000000 in
theorem is_any (L M cnt p q : Nat) (t : Int) (D : DataW Unit) (N : Nat → Nat → Int) (w : World) (h : IsG w L M cnt D) (hN : Rep D N) (hp : u32ok p) (hq : u32ok q) :
    Calls Try.prog 57 #[.pointer (some ⟨L, 0, none⟩), .int .u32 (p : Int), .int .u32 (q : Int), .int .i64 t] w fun r w' => r = .returned (.bool (decide (N p q = t))) ∧ w' = w := by
  have hlk := look h hN hp hq
  have c1 := cell_of_row w L 0 _ _ _ h.1
  simp at c1
  obtain ⟨u, hu⟩ : ∃ u, u = N p q := ⟨_, rfl⟩
  rw [← hu] at hlk ⊢
  clear h hN hu
  by_cases e : u = t
  · subst e
    go_enter Try.func57, Try.ntmps57
    go_wp2
    go_ret
    simp
  · have e1 : (u == t) = false := by simp [e]
    go_enter Try.func57, Try.ntmps57
    go_wp2
    go_ret
    simp [e]
set_option maxHeartbeats 1000000 in
theorem is_nil (p q : Nat) (t : Int) (w : World) : Calls Try.prog 57 #[.pointer none, .int .u32 (p : Int), .int .u32 (q : Int), .int .i64 t] w fun r w' => r = .returned (.bool false) ∧ w' = w := by
  go_enter Try.func57, Try.ntmps57
  go_wp2
  go_ret
  exact ⟨rfl, rfl⟩
end Go.Proofs.Ytaoejkbockcneaa
