/- Board: a board in memory, of one player at most; keep. -/
import Derived.Test.YtaoejkbockcneaaRows
import Derived.WalkKit
import Derived.Below
import Derived.Carry
import Derived.OpenShut
import Derived.WalkSmall
import Derived.Outline
import Derived.BigQuiet
import Derived.Lib.Hide
import Derived.Laws.StructEq
import Derived.Maps.OwnSet
import Derived.Maps.Views
import Derived.OrdersHeld
import Derived.Deep.RegionLaw
import Derived.Deep.RegionHeld3
import Derived.Deep.DeepCutAuto
namespace Go.Proofs.Ytaoejkbockcneaa.Bd
open Go.RowKit
set_option maxRecDepth 20000

theorem lt_of_block {w : World} {G : Nat} {o : Obj} (h : w.heap[G]? = some o) : G < w.heap.size := (Array.getElem?_eq_some_iff.1 h).1
/-- A note's value, and how it reads. -/
abbrev nV (s t : Int) : Value := .agg #[.int .i64 s, .int .i64 t]
def nD (s t : Int) : DataW Unit := .agg [.lit (.int .i64 s), .lit (.int .i64 t)]
def R (v : Value) : Option (DataW Unit × List MemPlace) :=
  match v with
  | .agg cs => match cs.toList with
    | [.int .i64 s, .int .i64 t] => some (.agg [.lit (.int .i64 s), .lit (.int .i64 t)], [])
    | _ => none
  | _ => none
theorem R_mk (s t : Int) : R (nV s t) = some (nD s t, []) := rfl
theorem R_shape {v : Value} {y : DataW Unit × List MemPlace} (h : R v = some y) : ∃ st : Int × Int, v = nV st.1 st.2 := by
  unfold R at h
  split at h
  · rename_i cs
    split at h
    · rename_i s t hc
      obtain ⟨l⟩ := cs
      simp at hc
      exact ⟨(s, t), by rw [hc]⟩
    · cases h
  · cases h
theorem nD_inj {s t s' t' : Int} (h : nD s t = nD s' t') : s = s' ∧ t = t' := by
  unfold nD at h
  injection h with h
  simp at h
  exact h
theorem R_inv {v : Value} {s t : Int} {ps : List MemPlace} (h : R v = some (nD s t, ps)) : v = nV s t := by
  obtain ⟨⟨a, b⟩, rfl⟩ := R_shape h
  rw [R_mk] at h
  injection h with h
  injection h with h _
  obtain ⟨rfl, rfl⟩ := nD_inj h
  rfl
theorem K26 : Maps.Keyed Try.prog 26 := Maps.int_keyed Try.underlying26
theorem zero120 (w : World) : (zeroValue 120).run Try.prog w = .ok (nV 0 0) w := by kernel_rfl
abbrev kl (n : Nat) : Lit := .int .u32 (n : Int)
theorem key26 (n : Nat) (h : n < 4294967296) : keyOf Try.prog 26 (.int .u32 (n : Int)) = some (kl n) := Maps.keyOf_int_mk Try.underlying26 (by simp only [Lit.wf, Bool.and_eq_true, decide_eq_true_eq]; exact ⟨by show (0 : Int) ≤ _; omega, by show _ ≤ (4294967295 : Int); omega⟩)
/-- What the map reads as: one player's note, or none, where it is as at first. -/
def Dn (p : Nat) (s t : Int) : DataW Unit := if s = 0 ∧ t = 0 then .map [] else .map [(kl p, nD s t)]
theorem Dn_zero (p : Nat) : Dn p 0 0 = .map [] := by simp [Dn]
theorem Dn_some (p : Nat) (s t : Int) (h : ¬ (s = 0 ∧ t = 0)) : Dn p s t = .map [(kl p, nD s t)] := by simp [Dn, h]
theorem Dn_del (p : Nat) (s t : Int) : (Dn p s t).del (kl p) = .map [] := by
  unfold Dn
  split
  · rfl
  · simp [DataW.del, Lit.sameKey]
theorem Dn_put (p : Nat) (s t s' t' : Int) : (Dn p s t).put (kl p) (nD s' t') = .map [(kl p, nD s' t')] := by
  unfold Dn
  split
  · rfl
  · simp [DataW.put, Lit.sameKey, DataW.insert]
theorem Dn_at (p : Nat) (s t : Int) : (Dn p s t).atKey (kl p) (nD 0 0) = nD s t := by
  unfold Dn
  split
  · rename_i h
    rw [h.1, h.2]
    rfl
  · simp [DataW.atKey, Lit.sameKey]

/-- The board in block L, its map in block M. -/
def IsB (w : World) (L M cnt : Nat) (D : DataW Unit) : Prop :=
  w.heap[L]? = some (.cells #[.map (some M)] 116 (0, 0)) ∧ w.ownsMap Try.prog 26 R M cnt D
theorem IsB.below {w w' : World} {L M cnt : Nat} {D : DataW Unit} (h : IsB w L M cnt D) (hb : Below w.heap.size w w') : IsB w' L M cnt D := by
  obtain ⟨h1, es, clock, hm, r⟩ := h
  exact ⟨(hb.block L (lt_of_block h1)).trans h1, es, clock, (hb.block M (lt_of_block hm)).trans hm, r⟩
theorem IsB.ne {w : World} {L M cnt : Nat} {D : DataW Unit} (h : IsB w L M cnt D) : L ≠ M := fun e => by
  obtain ⟨h1, es, clock, hm, _⟩ := h
  rw [e] at h1
  rw [h1] at hm
  cases hm
/-- What a call may change that turns the map in block M. -/
def ChM (M : Nat) (w w' : World) : Prop := (∀ B, B ≤ M → B ≤ w.heap.size → Below B w w') ∧ (∀ g, g < w.heap.size → g ≠ M → w'.heap[g]? = w.heap[g]?) ∧ w.heap.size ≤ w'.heap.size
theorem ChM.of_below {M : Nat} {w w' : World} (h : Below w.heap.size w w') : ChM M w w' := ⟨fun _ _ h2 => h.mono h2, fun g hg _ => h.block g hg, h.size⟩
theorem ChM.of_grown {M : Nat} {w v w' : World} (h : Below w.heap.size w v) (hg : v.grownBy w' (some M)) : ChM M w w' :=
  ⟨fun B h1 h2 => (h.mono h2).grown hg (Nat.le_trans h2 h.size) (fun k hk => by injection hk with hk; omega), fun g hgs hne => (hg.block g (Nat.lt_of_lt_of_le hgs h.size) (fun e => by injection e with e; exact hne e)).trans (h.block g hgs), Nat.le_trans h.size hg.size⟩
theorem ChM.trans {M : Nat} {w v x : World} (h : ChM M w v) (h' : ChM M v x) : ChM M w x :=
  ⟨fun B h1 h2 => (h.1 B h1 h2).trans (h'.1 B h1 (Nat.le_trans h2 h.2.2)), fun g hg hne => (h'.2.1 g (Nat.lt_of_lt_of_le hg h.2.2) hne).trans (h.2.1 g hg hne), Nat.le_trans h.2.2 h'.2.2⟩

set_option maxHeartbeats 1000000 in
theorem new_any (w : World) : Calls Try.prog 28 #[] w fun e w' => e = .returned (.pointer (some ⟨w.heap.size + 1, 0, none⟩)) ∧ IsB w' (w.heap.size + 1) w.heap.size 0 (.map []) ∧ Below w.heap.size w w' := by
  have hm := World.ownsMap_made w Try.prog 26 R
  have hb := ((Below.refl w.heap.size w).alloc (Nat.le_refl _) (.map #[] 0)).alloc (by simp) (.cells #[.map (some w.heap.size)] 116)
  have hq := heap_alloc_new (w.alloc (.map #[] 0)) (.cells #[.map (some w.heap.size)] 116)
  rw [World.size_alloc] at hq
  have hmk : ∀ W : World, (Instr.makeMap 114 none).run Try.prog W = .ok (.map (some W.heap.size)) (W.alloc (.map #[] 0)) := fun W => rfl
  go_enter Try.func28, Try.ntmps28
  go_wp2
  go_ret
  exact ⟨rfl, ⟨hq, hm.alloc _⟩, hb⟩

set_option maxHeartbeats 1000000 in
theorem keep_zero (L M cnt p : Nat) (s0 t0 : Int) (w : World) (hL : IsB w L M cnt (Dn p s0 t0)) (hp : p < 4294967296) :
    Calls Try.prog 49 #[.pointer (some ⟨L, 0, none⟩), .int .u32 (p : Int), nV 0 0] w fun r w' => r = .returned (.tuple #[]) ∧ IsB w' L M cnt (Dn p 0 0) ∧ ChM M w w' := by
  obtain ⟨w0, hw0⟩ : ∃ w0, w0 = w.alloc (.cells #[.int .i64 0, .int .i64 0] 120) := ⟨_, rfl⟩
  have hb0 : Below w.heap.size w w0 := by rw [hw0]; exact (Below.refl _ _).alloc (Nat.le_refl _) _
  have hp0 : w0.heap[w.heap.size]? = some (.cells #[.int .i64 0, .int .i64 0] 120 (0, 0)) := by rw [hw0]; exact heap_alloc_new w _
  have hL0 := hL.below hb0
  have g0 := cell_of_row w0 w.heap.size 0 _ _ _ hp0
  have g1 := cell_of_row w0 w.heap.size 1 _ _ _ hp0
  have c1 := cell_of_row w0 L 0 _ _ _ hL0.1
  simp at g0 g1 c1
  have hown := hL0.2
  have hkey := key26 p hp
  have HNE := Lib.hid hL.ne
  have HL1 := Lib.hid hL0.1
  have H0 := Lib.hid hw0
  have HB0 := Lib.hid hb0
  clear hw0 hb0 hp0 hL hL0
  go_enter Try.func49, Try.ntmps49
  go_upto_region 1 with (fail)
  rw [← H0.out]
  go_wp2_with (first
    | (at_delete; refine wpList_delete_own _ rfl _ _ 114 26 rfl 120 K26 Try.underlying114 R M cnt _ rfl hown _ _ rfl hkey ?_; intro w1 hown1 hturn1)
    | go_in)
  (try simp only [Exit.inBlock, Exit.then])
  refine bodyPost_ret (results_none rfl _ _ _) rfl ?_
  have hg := hturn1.grown
  rw [Dn_del] at hown1
  exact ⟨rfl, ⟨(hg.block L (lt_of_block HL1.out) (fun e => by injection e with e; exact HNE.out e)).trans HL1.out, by rw [Dn_zero]; exact hown1⟩, ChM.of_grown HB0.out hg⟩

set_option maxHeartbeats 4000000 in
theorem keep_a (L M cnt p : Nat) (s0 t0 s t : Int) (w : World) (hL : IsB w L M cnt (Dn p s0 t0)) (hp : p < 4294967296) (hcnt : cnt ≤ 1000) (hs : ¬ s = 0) (hs1 : (s == 0) = false) :
    Calls Try.prog 49 #[.pointer (some ⟨L, 0, none⟩), .int .u32 (p : Int), nV s t] w fun r w' => r = .returned (.tuple #[]) ∧ IsB w' L M (cnt + 1) (Dn p s t) ∧ ChM M w w' := by
  obtain ⟨w0, hw0⟩ : ∃ w0, w0 = w.alloc (.cells #[.int .i64 s, .int .i64 t] 120) := ⟨_, rfl⟩
  have hb0 : Below w.heap.size w w0 := by rw [hw0]; exact (Below.refl _ _).alloc (Nat.le_refl _) _
  have hp0 : w0.heap[w.heap.size]? = some (.cells #[.int .i64 s, .int .i64 t] 120 (0, 0)) := by rw [hw0]; exact heap_alloc_new w _
  have hL0 := hL.below hb0
  have g0 := cell_of_row w0 w.heap.size 0 _ _ _ hp0
  have g1 := cell_of_row w0 w.heap.size 1 _ _ _ hp0
  simp at g0 g1
  have HNE := Lib.hid hL.ne
  have HDn : Hid (Dn p s t = .map [(kl p, nD s t)]) := Dn_some p s t (fun h => hs h.1)
  have HCE : Hid (∀ W, Below w0.heap.size w0 W → (fun W : World => W.cell? ⟨L, 0, none⟩ = some (.map (some M)) ∧ W.cell? ⟨w.heap.size, 0, none⟩ = some (.int .i64 s) ∧ W.cell? ⟨w.heap.size, 1, none⟩ = some (.int .i64 t)) W) := fun W hW => by
    have e1 := (hL0.below hW).1
    have e2 := (hW.block _ (lt_of_block hp0)).trans hp0
    exact ⟨cell_of_row W _ 0 _ _ _ e1, cell_of_row W _ 0 _ _ _ e2, cell_of_row W _ 1 _ _ _ e2⟩
  have HST : Hid (∀ W, Below w0.heap.size w0 W → ∃ w', (Instr.mapUpdate 114 (.map (some M)) (.int .u32 (p : Int)) (nV s t)).run Try.prog W = .ok () w' ∧ w'.ownsMap Try.prog 26 R M (cnt + 1) ((Dn p s0 t0).put (kl p) (nD s t)) ∧ W.mapTurned w' M) := fun W hW =>
    (hL0.below hW).2.store K26 Try.underlying114 (by unfold maxLen; omega) (key26 p hp) (R_mk s t)
  have HIL : Hid (∀ W, Below w0.heap.size w0 W → IsB W L M cnt (Dn p s0 t0)) := fun W hW => hL0.below hW
  have H0 := Lib.hid hw0
  have HB0 := Lib.hid hb0
  clear hw0 hb0 hp0 hL hL0 hp hcnt
  go_enter Try.func49, Try.ntmps49
  go_upto_region 1 with (fail)
  rw [← H0.out]
  go_upto_region 3 with (fail)
  have HD : Hid (Below w0.heap.size w0 w0.drew) := (Below.refl _ _).drew
  refine wp_region_held_drew (S := fun W : World => W.cell? ⟨L, 0, none⟩ = some (.map (some M)) ∧ W.cell? ⟨w.heap.size, 0, none⟩ = some (.int .i64 s) ∧ W.cell? ⟨w.heap.size, 1, none⟩ = some (.int .i64 t)) (by kernel_rfl) (HCE.out _ HD.out) (fun hHeld => ?_)
  obtain ⟨W0, hW0⟩ : ∃ W0, W0 = w0.drew := ⟨_, rfl⟩
  have HD0 : Hid (Below w0.heap.size w0 W0) := by rw [hW0]; exact HD.out
  rw [← hW0] at hHeld ⊢
  clear hW0 g0 g1
  obtain ⟨w', hrun, hown', hturn⟩ := HST.out W0 HD0.out
  rw [Dn_put, ← HDn.out] at hown'
  have HOW := Lib.hid hown'
  have HG := Lib.hid hturn.grown
  have HC' : Hid ((fun W : World => W.cell? ⟨L, 0, none⟩ = some (.map (some M)) ∧ W.cell? ⟨w.heap.size, 0, none⟩ = some (.int .i64 s) ∧ W.cell? ⟨w.heap.size, 1, none⟩ = some (.int .i64 t)) w') := by
    have hl0 := lt_of_block (HIL.out W0 HD0.out).1
    have hbx := World.block_lt_of_cell? W0 _ hHeld.2.1
    have hMb : M ≠ w.heap.size := fun e => by
      obtain ⟨es, clock, hm, _⟩ := (HIL.out W0 HD0.out).2
      have h1 := hHeld.2.1
      rw [← e] at h1
      unfold World.cell? at h1
      rw [hm] at h1
      cases h1
    have kL : ∀ i, w'.cell? ⟨L, i, none⟩ = W0.cell? ⟨L, i, none⟩ := fun i => by
      unfold World.cell?
      rw [HG.out.block L hl0 (fun e => by injection e with e; exact HNE.out e)]
    have kB : ∀ i, w'.cell? ⟨w.heap.size, i, none⟩ = W0.cell? ⟨w.heap.size, i, none⟩ := fun i => by
      unfold World.cell?
      rw [HG.out.block w.heap.size hbx (fun e => by injection e with e; exact hMb e.symm)]
    exact ⟨(kL 0).trans hHeld.1, (kB 0).trans hHeld.2.1, (kB 1).trans hHeld.2.2⟩
  have HL' : Hid (w'.heap[L]? = some (.cells #[.map (some M)] 116 (0, 0))) := (HG.out.block L (lt_of_block (HIL.out W0 HD0.out).1) (fun e => by injection e with e; exact HNE.out e)).trans (HIL.out W0 HD0.out).1
  clear hown' hturn
  refine wpAnyH_take (i := 0) (oi := ?oi0b) (v := ?v0b) ?hi0b ?hs0b ?hf0b ?hr0b ?hQ0b ?hy0b ?hS0b ?h0b
  case hi0b => exact (by simp only [List.getElem?_toArray, List.getElem?_cons_zero]; rfl)
  case hs0b => kernel_rfl
  case hf0b => kernel_rfl
  case hr0b => kernel_rfl
  case hQ0b => exact fun _ _ _ h => h
  case hy0b =>
    refine Or.inl ⟨rfl, ?_⟩
    intro W hSw
    obtain ⟨y1, y2, y3⟩ := hSw
    go_simp
    try with_reducible rfl
  case hS0b => assumption
  try simp only [Act.put, List.setIfInBounds_toArray, List.set_cons_zero, List.set_cons_succ]
  refine wpAnyH_take (i := 1) (oi := ?oi1b) (v := ?v1b) ?hi1b ?hs1b ?hf1b ?hr1b ?hQ1b ?hy1b ?hS1b ?h1b
  case hi1b => exact (by simp only [List.getElem?_toArray, List.getElem?_cons_succ, List.getElem?_cons_zero]; rfl)
  case hs1b => kernel_rfl
  case hf1b => kernel_rfl
  case hr1b => kernel_rfl
  case hQ1b => exact fun _ _ _ h => h
  case hy1b =>
    refine Or.inl ⟨rfl, ?_⟩
    intro W hSw
    obtain ⟨y1, y2, y3⟩ := hSw
    go_simp
    try with_reducible rfl
  case hS1b => assumption
  try simp only [Act.put, List.setIfInBounds_toArray, List.set_cons_zero, List.set_cons_succ]
  refine wpAnyH_take (i := 2) (oi := ?oi2b) (v := ?v2b) ?hi2b ?hs2b ?hf2b ?hr2b ?hQ2b ?hy2b ?hS2b ?h2b
  case hi2b => exact (by simp only [List.getElem?_toArray, List.getElem?_cons_succ, List.getElem?_cons_zero]; rfl)
  case hs2b => kernel_rfl
  case hf2b => kernel_rfl
  case hr2b => kernel_rfl
  case hQ2b => exact fun _ _ _ h => h
  case hy2b =>
    refine Or.inl ⟨rfl, ?_⟩
    intro W hSw
    obtain ⟨y1, y2, y3⟩ := hSw
    go_simp
    try with_reducible rfl
  case hS2b => assumption
  try simp only [Act.put, List.setIfInBounds_toArray, List.set_cons_zero, List.set_cons_succ]
  refine wpAnyH_take (i := 3) (oi := ?oi3b) (v := ?v3b) ?hi3b ?hs3b ?hf3b ?hr3b ?hQ3b ?hy3b ?hS3b ?h3b
  case hi3b => exact (by simp only [List.getElem?_toArray, List.getElem?_cons_succ, List.getElem?_cons_zero]; rfl)
  case hs3b => kernel_rfl
  case hf3b => kernel_rfl
  case hr3b => kernel_rfl
  case hQ3b => exact fun _ _ _ h => h
  case hy3b =>
    refine Or.inl ⟨rfl, ?_⟩
    intro W hSw
    obtain ⟨y1, y2, y3⟩ := hSw
    go_simp
    try with_reducible rfl
  case hS3b => assumption
  try simp only [Act.put, List.setIfInBounds_toArray, List.set_cons_zero, List.set_cons_succ]
  refine wpAnyH_take (i := 4) (oi := ?oi4b) (v := ?v4b) ?hi4b ?hs4b ?hf4b ?hr4b ?hQ4b ?hy4b ?hS4b ?h4b
  case hi4b => exact (by simp only [List.getElem?_toArray, List.getElem?_cons_succ, List.getElem?_cons_zero]; rfl)
  case hs4b => kernel_rfl
  case hf4b => kernel_rfl
  case hr4b => kernel_rfl
  case hQ4b => exact fun _ _ _ h => h
  case hy4b =>
    refine Or.inl ⟨rfl, ?_⟩
    intro W hSw
    obtain ⟨y1, y2, y3⟩ := hSw
    go_simp
    try with_reducible rfl
  case hS4b => assumption
  try simp only [Act.put, List.setIfInBounds_toArray, List.set_cons_zero, List.set_cons_succ]
  refine wpAnyH_take (i := 5) (oi := ?oi5b) (v := ?v5b) ?hi5b ?hs5b ?hf5b ?hr5b ?hQ5b ?hy5b ?hS5b ?h5b
  case hi5b => exact (by simp only [List.getElem?_toArray, List.getElem?_cons_succ, List.getElem?_cons_zero]; rfl)
  case hs5b => kernel_rfl
  case hf5b => kernel_rfl
  case hr5b => kernel_rfl
  case hQ5b => exact fun _ _ _ h => h
  case hy5b =>
    refine Or.inl ⟨rfl, ?_⟩
    intro W hSw
    obtain ⟨y1, y2, y3⟩ := hSw
    go_simp
    try with_reducible rfl
  case hS5b => assumption
  try simp only [Act.put, List.setIfInBounds_toArray, List.set_cons_zero, List.set_cons_succ]
  refine wpAnyH_ready (rs := [6]) (by kernel_rfl) (by simp) ?_
  refine AllReadyH.cons (o := _) rfl (fun K hK => ?_) AllReadyH.nil
  go_simp
  refine hK.out _ _ HC'.out (fun hHeld => ?_)
  clear hK K
  try simp only [Act.put, List.setIfInBounds_toArray, List.set_cons_zero, List.set_cons_succ]
  refine wpAnyH_done (by kernel_rfl) ?_ _
  go_wp2
  go_end0
  exact ⟨rfl, ⟨HL'.out, HOW.out⟩, ChM.of_grown (HB0.out.trans (HD0.out.mono HB0.out.size)) HG.out⟩
set_option maxHeartbeats 4000000 in
theorem keep_b (L M cnt p : Nat) (s0 t0 t : Int) (w : World) (hL : IsB w L M cnt (Dn p s0 t0)) (hp : p < 4294967296) (hcnt : cnt ≤ 1000) (ht : ¬ t = 0) (ht1 : (t == 0) = false) :
    Calls Try.prog 49 #[.pointer (some ⟨L, 0, none⟩), .int .u32 (p : Int), nV 0 t] w fun r w' => r = .returned (.tuple #[]) ∧ IsB w' L M (cnt + 1) (Dn p 0 t) ∧ ChM M w w' := by
  obtain ⟨w0, hw0⟩ : ∃ w0, w0 = w.alloc (.cells #[.int .i64 0, .int .i64 t] 120) := ⟨_, rfl⟩
  have hb0 : Below w.heap.size w w0 := by rw [hw0]; exact (Below.refl _ _).alloc (Nat.le_refl _) _
  have hp0 : w0.heap[w.heap.size]? = some (.cells #[.int .i64 0, .int .i64 t] 120 (0, 0)) := by rw [hw0]; exact heap_alloc_new w _
  have hL0 := hL.below hb0
  have g0 := cell_of_row w0 w.heap.size 0 _ _ _ hp0
  have g1 := cell_of_row w0 w.heap.size 1 _ _ _ hp0
  simp at g0 g1
  have HNE := Lib.hid hL.ne
  have HDn : Hid (Dn p 0 t = .map [(kl p, nD 0 t)]) := Dn_some p 0 t (fun h => ht h.2)
  have HCE : Hid (∀ W, Below w0.heap.size w0 W → (fun W : World => W.cell? ⟨L, 0, none⟩ = some (.map (some M)) ∧ W.cell? ⟨w.heap.size, 0, none⟩ = some (.int .i64 0) ∧ W.cell? ⟨w.heap.size, 1, none⟩ = some (.int .i64 t)) W) := fun W hW => by
    have e1 := (hL0.below hW).1
    have e2 := (hW.block _ (lt_of_block hp0)).trans hp0
    exact ⟨cell_of_row W _ 0 _ _ _ e1, cell_of_row W _ 0 _ _ _ e2, cell_of_row W _ 1 _ _ _ e2⟩
  have HST : Hid (∀ W, Below w0.heap.size w0 W → ∃ w', (Instr.mapUpdate 114 (.map (some M)) (.int .u32 (p : Int)) (nV 0 t)).run Try.prog W = .ok () w' ∧ w'.ownsMap Try.prog 26 R M (cnt + 1) ((Dn p s0 t0).put (kl p) (nD 0 t)) ∧ W.mapTurned w' M) := fun W hW =>
    (hL0.below hW).2.store K26 Try.underlying114 (by unfold maxLen; omega) (key26 p hp) (R_mk 0 t)
  have HIL : Hid (∀ W, Below w0.heap.size w0 W → IsB W L M cnt (Dn p s0 t0)) := fun W hW => hL0.below hW
  have H0 := Lib.hid hw0
  have HB0 := Lib.hid hb0
  clear hw0 hb0 hp0 hL hL0 hp hcnt
  go_enter Try.func49, Try.ntmps49
  go_upto_region 1 with (fail)
  rw [← H0.out]
  go_upto_region 3 with (fail)
  have HD : Hid (Below w0.heap.size w0 w0.drew) := (Below.refl _ _).drew
  refine wp_region_held_drew (S := fun W : World => W.cell? ⟨L, 0, none⟩ = some (.map (some M)) ∧ W.cell? ⟨w.heap.size, 0, none⟩ = some (.int .i64 0) ∧ W.cell? ⟨w.heap.size, 1, none⟩ = some (.int .i64 t)) (by kernel_rfl) (HCE.out _ HD.out) (fun hHeld => ?_)
  obtain ⟨W0, hW0⟩ : ∃ W0, W0 = w0.drew := ⟨_, rfl⟩
  have HD0 : Hid (Below w0.heap.size w0 W0) := by rw [hW0]; exact HD.out
  rw [← hW0] at hHeld ⊢
  clear hW0 g0 g1
  obtain ⟨w', hrun, hown', hturn⟩ := HST.out W0 HD0.out
  rw [Dn_put, ← HDn.out] at hown'
  have HOW := Lib.hid hown'
  have HG := Lib.hid hturn.grown
  have HC' : Hid ((fun W : World => W.cell? ⟨L, 0, none⟩ = some (.map (some M)) ∧ W.cell? ⟨w.heap.size, 0, none⟩ = some (.int .i64 0) ∧ W.cell? ⟨w.heap.size, 1, none⟩ = some (.int .i64 t)) w') := by
    have hl0 := lt_of_block (HIL.out W0 HD0.out).1
    have hbx := World.block_lt_of_cell? W0 _ hHeld.2.1
    have hMb : M ≠ w.heap.size := fun e => by
      obtain ⟨es, clock, hm, _⟩ := (HIL.out W0 HD0.out).2
      have h1 := hHeld.2.1
      rw [← e] at h1
      unfold World.cell? at h1
      rw [hm] at h1
      cases h1
    have kL : ∀ i, w'.cell? ⟨L, i, none⟩ = W0.cell? ⟨L, i, none⟩ := fun i => by
      unfold World.cell?
      rw [HG.out.block L hl0 (fun e => by injection e with e; exact HNE.out e)]
    have kB : ∀ i, w'.cell? ⟨w.heap.size, i, none⟩ = W0.cell? ⟨w.heap.size, i, none⟩ := fun i => by
      unfold World.cell?
      rw [HG.out.block w.heap.size hbx (fun e => by injection e with e; exact hMb e.symm)]
    exact ⟨(kL 0).trans hHeld.1, (kB 0).trans hHeld.2.1, (kB 1).trans hHeld.2.2⟩
  have HL' : Hid (w'.heap[L]? = some (.cells #[.map (some M)] 116 (0, 0))) := (HG.out.block L (lt_of_block (HIL.out W0 HD0.out).1) (fun e => by injection e with e; exact HNE.out e)).trans (HIL.out W0 HD0.out).1
  clear hown' hturn
  refine wpAnyH_take (i := 0) (oi := ?oi0b) (v := ?v0b) ?hi0b ?hs0b ?hf0b ?hr0b ?hQ0b ?hy0b ?hS0b ?h0b
  case hi0b => exact (by simp only [List.getElem?_toArray, List.getElem?_cons_zero]; rfl)
  case hs0b => kernel_rfl
  case hf0b => kernel_rfl
  case hr0b => kernel_rfl
  case hQ0b => exact fun _ _ _ h => h
  case hy0b =>
    refine Or.inl ⟨rfl, ?_⟩
    intro W hSw
    obtain ⟨y1, y2, y3⟩ := hSw
    go_simp
    try with_reducible rfl
  case hS0b => assumption
  try simp only [Act.put, List.setIfInBounds_toArray, List.set_cons_zero, List.set_cons_succ]
  refine wpAnyH_take (i := 1) (oi := ?oi1b) (v := ?v1b) ?hi1b ?hs1b ?hf1b ?hr1b ?hQ1b ?hy1b ?hS1b ?h1b
  case hi1b => exact (by simp only [List.getElem?_toArray, List.getElem?_cons_succ, List.getElem?_cons_zero]; rfl)
  case hs1b => kernel_rfl
  case hf1b => kernel_rfl
  case hr1b => kernel_rfl
  case hQ1b => exact fun _ _ _ h => h
  case hy1b =>
    refine Or.inl ⟨rfl, ?_⟩
    intro W hSw
    obtain ⟨y1, y2, y3⟩ := hSw
    go_simp
    try with_reducible rfl
  case hS1b => assumption
  try simp only [Act.put, List.setIfInBounds_toArray, List.set_cons_zero, List.set_cons_succ]
  refine wpAnyH_take (i := 2) (oi := ?oi2b) (v := ?v2b) ?hi2b ?hs2b ?hf2b ?hr2b ?hQ2b ?hy2b ?hS2b ?h2b
  case hi2b => exact (by simp only [List.getElem?_toArray, List.getElem?_cons_succ, List.getElem?_cons_zero]; rfl)
  case hs2b => kernel_rfl
  case hf2b => kernel_rfl
  case hr2b => kernel_rfl
  case hQ2b => exact fun _ _ _ h => h
  case hy2b =>
    refine Or.inl ⟨rfl, ?_⟩
    intro W hSw
    obtain ⟨y1, y2, y3⟩ := hSw
    go_simp
    try with_reducible rfl
  case hS2b => assumption
  try simp only [Act.put, List.setIfInBounds_toArray, List.set_cons_zero, List.set_cons_succ]
  refine wpAnyH_take (i := 3) (oi := ?oi3b) (v := ?v3b) ?hi3b ?hs3b ?hf3b ?hr3b ?hQ3b ?hy3b ?hS3b ?h3b
  case hi3b => exact (by simp only [List.getElem?_toArray, List.getElem?_cons_succ, List.getElem?_cons_zero]; rfl)
  case hs3b => kernel_rfl
  case hf3b => kernel_rfl
  case hr3b => kernel_rfl
  case hQ3b => exact fun _ _ _ h => h
  case hy3b =>
    refine Or.inl ⟨rfl, ?_⟩
    intro W hSw
    obtain ⟨y1, y2, y3⟩ := hSw
    go_simp
    try with_reducible rfl
  case hS3b => assumption
  try simp only [Act.put, List.setIfInBounds_toArray, List.set_cons_zero, List.set_cons_succ]
  refine wpAnyH_take (i := 4) (oi := ?oi4b) (v := ?v4b) ?hi4b ?hs4b ?hf4b ?hr4b ?hQ4b ?hy4b ?hS4b ?h4b
  case hi4b => exact (by simp only [List.getElem?_toArray, List.getElem?_cons_succ, List.getElem?_cons_zero]; rfl)
  case hs4b => kernel_rfl
  case hf4b => kernel_rfl
  case hr4b => kernel_rfl
  case hQ4b => exact fun _ _ _ h => h
  case hy4b =>
    refine Or.inl ⟨rfl, ?_⟩
    intro W hSw
    obtain ⟨y1, y2, y3⟩ := hSw
    go_simp
    try with_reducible rfl
  case hS4b => assumption
  try simp only [Act.put, List.setIfInBounds_toArray, List.set_cons_zero, List.set_cons_succ]
  refine wpAnyH_take (i := 5) (oi := ?oi5b) (v := ?v5b) ?hi5b ?hs5b ?hf5b ?hr5b ?hQ5b ?hy5b ?hS5b ?h5b
  case hi5b => exact (by simp only [List.getElem?_toArray, List.getElem?_cons_succ, List.getElem?_cons_zero]; rfl)
  case hs5b => kernel_rfl
  case hf5b => kernel_rfl
  case hr5b => kernel_rfl
  case hQ5b => exact fun _ _ _ h => h
  case hy5b =>
    refine Or.inl ⟨rfl, ?_⟩
    intro W hSw
    obtain ⟨y1, y2, y3⟩ := hSw
    go_simp
    try with_reducible rfl
  case hS5b => assumption
  try simp only [Act.put, List.setIfInBounds_toArray, List.set_cons_zero, List.set_cons_succ]
  refine wpAnyH_ready (rs := [6]) (by kernel_rfl) (by simp) ?_
  refine AllReadyH.cons (o := _) rfl (fun K hK => ?_) AllReadyH.nil
  go_simp
  refine hK.out _ _ HC'.out (fun hHeld => ?_)
  clear hK K
  try simp only [Act.put, List.setIfInBounds_toArray, List.set_cons_zero, List.set_cons_succ]
  refine wpAnyH_done (by kernel_rfl) ?_ _
  go_wp2
  go_end0
  exact ⟨rfl, ⟨HL'.out, HOW.out⟩, ChM.of_grown (HB0.out.trans (HD0.out.mono HB0.out.size)) HG.out⟩
theorem keep_any (L M cnt p : Nat) (s0 t0 s t : Int) (w : World) (hL : IsB w L M cnt (Dn p s0 t0)) (hp : p < 4294967296) (hcnt : cnt ≤ 1000) :
    Calls Try.prog 49 #[.pointer (some ⟨L, 0, none⟩), .int .u32 (p : Int), nV s t] w fun r w' => r = .returned (.tuple #[]) ∧ IsB w' L M (cnt + 1) (Dn p s t) ∧ ChM M w w' := by
  by_cases h : s = 0 ∧ t = 0
  · obtain ⟨rfl, rfl⟩ := h
    exact (keep_zero L M cnt p s0 t0 w hL hp).mono fun r w' ⟨h1, h2, h3⟩ => ⟨h1, ⟨h2.1, h2.2.mono (by omega)⟩, h3⟩
  · by_cases h1 : s = 0
    · subst h1
      have h2 : ¬ t = 0 := fun e => h ⟨rfl, e⟩
      exact keep_b L M cnt p s0 t0 t w hL hp hcnt h2 (by simp [h2])
    · exact keep_a L M cnt p s0 t0 s t w hL hp hcnt h1 (by simp [h1])
end Go.Proofs.Ytaoejkbockcneaa.Bd
