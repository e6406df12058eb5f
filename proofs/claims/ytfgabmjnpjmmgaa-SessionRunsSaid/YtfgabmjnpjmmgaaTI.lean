/- Session: the document's Players. -/
import Derived.Test.YtfgabmjnpjmmgaaTF
import Derived.Test.YtfgabmjnpjmmgaaTH
namespace Go.Proofs.Ytfgabmjnpjmmgaa.T
open Go.RowKit
set_option maxRecDepth 20000
set_option linter.unusedVariables false
set_option linter.unusedSimpArgs false

theorem up_tail {x : Nat} {a : List Nat} (h : Up (x :: a)) : Up a := fun i j u v hij hi hj => h (i + 1) (j + 1) u v (by omega) (by simpa using hi) (by simpa using hj)
theorem up_head {x : Nat} {a : List Nat} (h : Up (x :: a)) : ∀ z ∈ a, x < z := fun z hz => by
  obtain ⟨j, hj⟩ := List.getElem?_of_mem hz
  exact h 0 (j + 1) x z (by omega) (by simp) (by simpa using hj)
theorem up_ext : ∀ {a b : List Nat}, Up a → Up b → (∀ y, y ∈ a ↔ y ∈ b) → a = b
  | [], [], _, _, _ => rfl
  | [], y :: b, _, _, h => absurd ((h y).2 (by simp)) (by simp)
  | x :: a, [], _, _, h => absurd ((h x).1 (by simp)) (by simp)
  | x :: a, y :: b, ha, hb, h => by
    have hla := up_head ha
    have hlb := up_head hb
    have hxy : x = y := by
      have h1 := (h x).1 (by simp)
      have h2 := (h y).2 (by simp)
      simp only [List.mem_cons] at h1 h2
      rcases h1 with e | h1
      · exact e
      rcases h2 with e | h2
      · exact e.symm
      have := hlb x h1
      have := hla y h2
      omega
    subst hxy
    have : a = b := up_ext (up_tail ha) (up_tail hb) fun z => ⟨fun hz => by
      have := hla z hz
      have h1 := (h z).1 (List.mem_cons_of_mem _ hz)
      simp only [List.mem_cons] at h1
      rcases h1 with e | h1
      · omega
      · exact h1, fun hz => by
      have := hlb z hz
      have h1 := (h z).2 (List.mem_cons_of_mem _ hz)
      simp only [List.mem_cons] at h1
      rcases h1 with e | h1
      · omega
      · exact h1⟩
    rw [this]

theorem pl_exists {ids : List Nat} (hu : Up ids) (x : Nat) : ∃ p, Pl ids x p := by
  have step : ∀ k, k ≤ ids.length → (∀ j y, j < k → ids[j]? = some y → y < x) ∨ ∃ p z, p < ids.length ∧ (∀ j y, j < p → ids[j]? = some y → y < x) ∧ ids[p]? = some z ∧ x ≤ z := fun k => by
    induction k with
    | zero => exact fun _ => .inl fun j y hj => absurd hj (Nat.not_lt_zero j)
    | succ k ih =>
      intro hk
      rcases ih (by omega) with h | h
      · obtain ⟨y, hy⟩ : ∃ y, ids[k]? = some y := ⟨ids[k]'(by omega), List.getElem?_eq_getElem _⟩
        by_cases hx : y < x
        · exact .inl fun j z hj hz => by
            rcases Nat.lt_or_ge j k with h1 | h1
            · exact h j z h1 hz
            · have e : j = k := by omega
              rw [e, hy] at hz
              injection hz with hz
              omega
        · exact .inr ⟨k, y, by omega, h, hy, by omega⟩
      · exact .inr h
  rcases step ids.length (Nat.le_refl _) with h | ⟨p, z, h1, h2, h3, h4⟩
  · exact ⟨ids.length, Nat.le_refl _, h, fun j y hj hy => by have := (List.getElem?_eq_some_iff.1 hy).1; omega⟩
  · refine ⟨p, by omega, h2, fun j y hj hy => ?_⟩
    rcases Nat.lt_or_ge p j with h5 | h5
    · have := hu p j z y h5 h3 hy
      omega
    · have e : j = p := by omega
      rw [e, h3] at hy
      injection hy with hy
      omega
theorem nd_take {L : List Lk} (h : Nd L) (k : Nat) : Nd (L.take k) := ⟨h.1.sublist (List.take_sublist _ _), fun e he => h.2 e (List.mem_of_mem_take he)⟩
theorem sorted_up (l : List Nat) (hn : l.Nodup) : Up (sortedN l) := fun i j x y hij hi hj => by
  obtain ⟨h1, rfl⟩ := List.getElem?_eq_some_iff.1 hi
  obtain ⟨h2, rfl⟩ := List.getElem?_eq_some_iff.1 hj
  exact List.pairwise_iff_getElem.1 (sortedN_lt l hn) i j h1 h2 hij
/-- The rack of players when k links were looked at. -/
structure PSt (w0 : World) (Q : Nat) (n : Int) (pl : List Nat) (B : Option Addr) (m c : Nat) (l ps : V.Ps) (wr : World) : Prop where
  own : wr.ownsRow (Q + 1) 96 2 (.slice B m c) m (V.rr l)
  len : m = l.length
  perm : l.Perm ps
  up : Up (ps.map (·.1))
  ids : (ps.map (·.1)).Perm pl
  var : wr.heap[Q]? = some (.cells #[.slice B m c, .int .i64 n] 82 (0, 0))
  below : Below Q w0 wr
theorem PSt.count {w0 wr : World} {Q m c : Nat} {n : Int} {pl : List Nat} {B : Option Addr} {l ps : V.Ps} (h : PSt w0 Q n pl B m c l ps wr) : m = pl.length := by
  rw [h.len, h.perm.length_eq, ← h.ids.length_eq, List.length_map]
/-- What one Put is to do. -/
theorem put_one {n : Int} {pl : List Nat} {ps : V.Ps} {x : Nat} (hu : Up (ps.map (·.1))) (hi : (ps.map (·.1)).Perm pl) (hx : x ∉ pl) (hok : 1 ≤ x ∧ x ≤ 2147483647) (hr : (pl.length : Int) < n) :
    ∃ qs, V.PutR n ps x 0 0 qs ∧ Up (qs.map (·.1)) ∧ (qs.map (·.1)).Perm (pl ++ [x]) := by
  obtain ⟨p, hp⟩ := pl_exists hu x
  have hx2 : x ∉ ps.map (·.1) := fun h => hx (hi.mem_iff.1 h)
  have hl : ps.length = pl.length := by rw [← hi.length_eq, List.length_map]
  refine ⟨ps.take p ++ [(x, 0)] ++ ps.drop p, .inr (.inr (.inr ⟨rfl, hx2, hok, by omega, p, hp, rfl⟩)), ?_, ?_⟩
  · have := pl_up hu hp (fun h => hx2 (List.mem_of_getElem? h))
    simpa [List.map_take, List.map_drop] using this
  · refine List.Perm.trans ?_ (hi.append_right [x])
    have e : (ps.take p ++ [(x, (0 : Int))] ++ ps.drop p).map (·.1) = (ps.map (·.1)).take p ++ [x] ++ (ps.map (·.1)).drop p := by simp [List.map_take, List.map_drop]
    rw [e]
    conv => rhs; rw [← List.take_append_drop p (ps.map (·.1))]
    rw [List.append_assoc, List.append_assoc]
    exact List.Perm.append_left _ List.perm_append_comm

set_option maxHeartbeats 8000000 in
theorem rplayers_any (A : Option Addr) (n c : Nat) (most idle : Int) (l : List Lk) (w : World) (hn : n = l.length) (hR : Rs w w.heap.size A l) (hl : n ≤ 100) (hN : Nd l) :
    Calls Try.prog 37 #[rV A n c most idle] w fun r w' => ∃ v', r = .returned v' ∧ w'.ownsRow w.heap.size 28 1 v' (playersQ l).length (un (sortedN (playersQ l))) ∧ Below w.heap.size w w' := by
  obtain ⟨Q, hQ⟩ : ∃ Q, Q = w.heap.size + 1 := ⟨_, rfl⟩
  obtain ⟨w0, hw0⟩ : ∃ w0, w0 = (w.alloc (.cells (rC A n c most idle) 27)).alloc (.cells #[.slice none 0 0, .int .i64 (n : Int)] 82) := ⟨_, rfl⟩
  have hb0 : Below w.heap.size w w0 := by rw [hw0]; exact ((Below.refl _ _).alloc (Nat.le_refl _) _).alloc (by simp) _
  have hq0 : w0.heap[w.heap.size]? = some (.cells (rC A n c most idle) 27 (0, 0)) := by
    rw [hw0]
    exact (Below.heap_alloc _ _ _ (by simp)).trans (heap_alloc_new w _)
  have hv0 : w0.heap[Q]? = some (.cells #[.slice none 0 0, .int .i64 (n : Int)] 82 (0, 0)) := by
    have h := heap_alloc_new (w.alloc (.cells (rC A n c most idle) 27)) (.cells #[.slice none 0 0, .int .i64 (n : Int)] 82)
    rw [World.size_alloc] at h
    rw [hw0, hQ]
    exact h
  have HQ := Lib.hid hQ
  have HR : Hid (Rs w0 w.heap.size A l) := hR.below hb0
  have HB0 := Lib.hid hb0
  have H0 := Lib.hid hw0
  have HN := Lib.hid hn
  have HND := Lib.hid hN
  have HCT : Hid (∀ W, Below Q w0 W → W.cell? ⟨w.heap.size, 0, none⟩ = some (.slice A n c)) := fun W hW => by
    have e1 := (hW.block w.heap.size (by omega)).trans hq0
    exact cell_of_row W _ 0 _ _ _ e1
  have HS : Hid (∃ B m c l2 ps, PSt w0 Q (n : Int) (playersQ (l.take 0)) B m c l2 ps w0) := ⟨none, 0, 0, [], [], World.ownsRow_nil w0 _ 96 2, rfl, List.Perm.refl _, fun i j x y _ h => by simp at h, List.Perm.refl _, hv0, Below.refl _ _⟩
  have t0 := HCT.out w0 (Below.refl _ _)
  have s0 := cell_of_row (w.alloc (.cells (rC A n c most idle) 27)) w.heap.size 0 _ _ _ (heap_alloc_new w _)
  simp at s0
  clear hQ hw0 hb0 hq0 hv0 hn hR hN
  go_enter Try.func37, Try.ntmps37
  go_upto_region 2 with (fail)
  rw [← H0.out, ← HQ.out]
  clear s0
  go_wp2_with fail
  go_loopw [4] (fun u wr => ∃ (k : Nat), k ≤ n ∧ u = .int .i64 (k : Int) ∧ Hid (∃ B m c l2 ps, PSt w0 Q (n : Int) (playersQ (l.take k)) B m c l2 ps wr)) (fun u _ => n - (intOf u).toNat)
  case atStart => exact ⟨0, by omega, rfl, HS.out⟩
  case round =>
    clear t0
    obtain ⟨k, hk, rfl, HVV⟩ := hrel
    obtain ⟨B, m, c2, l2, ps, hV⟩ := HVV.out
    have HV := Lib.hid hV
    clear hV HVV
    have t0 := HCT.out wr HV.out.below
    have hmk : m ≤ 100 := by
      have h1 := HV.out.count
      have h2 := playersQ_len (l.take k)
      rw [List.length_take] at h2
      omega
    by_cases hlt : k < n
    · obtain ⟨⟨s, a, p⟩, hy⟩ : ∃ e, l[k]? = some e := ⟨l[k]'(by rw [← HN.out]; exact hlt), List.getElem?_eq_getElem _⟩
      obtain ⟨b1, o1, rfl, hb1, ha1⟩ := HR.out (by have := HN.out; omega)
      have hgood := (HND.out.2 _ (List.mem_of_getElem? hy)).2.2
      simp only at hgood
      have hrow : ∀ W, Below Q w0 W → W.cell? ⟨b1, o1 + k * 3 + 1, none⟩ = some (.int .u32 p) := fun W hW => (hW.cell (p := ⟨b1, _, none⟩) (by show b1 < Q; have := HQ.out; omega)).trans (ha1 k _ hy).2.1
      have d1 := hrow wr HV.out.below
      by_cases hp0 : p = 0
      · have HTK : Hid (playersQ (l.take (k + 1)) = playersQ (l.take k)) := by
          simp only [Hid]
          rw [playersQ_snoc l k _ hy]
          simp [hp0]
        rw [hp0] at d1
        clear hrow ha1 hb1 hy hgood hp0
        go_wp2
        go_roundw
        case rel => exact ⟨k + 1, by omega, by go_num, B, m, c2, l2, ps, by rw [HTK.out]; exact HV.out⟩
        case measure => simp [intOf] <;> omega
      · obtain ⟨pn, hpn⟩ : ∃ pn : Nat, p = (pn : Int) := ⟨p.toNat, by omega⟩
        subst hpn
        have HPK : Hid (playersQ (l.take (k + 1)) = playersQ (l.take k) ++ [pn]) := by
          simp only [Hid]
          rw [playersQ_snoc l k _ hy]
          simp [hp0]
          omega
        have hnin : pn ∉ playersQ (l.take k) := by
          have h1 := playersQ_nodup (nd_take HND.out (k + 1))
          rw [HPK.out, List.nodup_append] at h1
          exact fun hm => h1.2.2 pn hm pn (List.mem_singleton.2 rfl) rfl
        have hroom : ((playersQ (l.take k)).length : Int) < (n : Int) := by
          have h2 := playersQ_len (l.take k)
          rw [List.length_take] at h2
          omega
        obtain ⟨qs, hqs⟩ := put_one (n := (n : Int)) HV.out.up HV.out.ids hnin ⟨by omega, by omega⟩ hroom
        have HPT := Lib.hid hqs
        have HOKS : Hid (∀ ps : V.Ps, (ps.map (·.1)).Perm (playersQ (l.take k)) → ∀ y ∈ ps.map (·.1), V.okN y) := fun ps hps y hy => by
          obtain ⟨h0, j, e, h1, h2, -⟩ := playersQ_at (nd_take HND.out k) (hps.mem_iff.1 hy)
          have h3 := ((nd_take HND.out k).2 e (List.mem_of_getElem? h1)).2.2
          show 1 ≤ y ∧ y ≤ 2147483647
          omega
        have HSS : Hid (∀ W, Below Q w0 W → (fun W : World => W.cell? ⟨w.heap.size, 0, none⟩ = some (.slice (some ⟨b1, o1, none⟩) n c) ∧ W.cell? ⟨b1, o1 + k * 3 + 1, none⟩ = some (.int .u32 (pn : Int))) W) := fun W hW => ⟨HCT.out W hW, hrow W hW⟩
        clear hrow ha1 hb1 hy hgood hnin hroom hqs
        go_upto_region 6 with (fail)
        clear d1 t0
        refine wp_region_held_drew (S := fun W : World => W.cell? ⟨w.heap.size, 0, none⟩ = some (.slice (some ⟨b1, o1, none⟩) n c) ∧ W.cell? ⟨b1, o1 + k * 3 + 1, none⟩ = some (.int .u32 (pn : Int))) (by kernel_rfl) (HSS.out _ HV.out.below.drew) (fun hHeld => ?_)
        obtain ⟨W0, hW0⟩ : ∃ W0, W0 = wr.drew := ⟨_, rfl⟩
        have HV0 : Hid (PSt w0 Q (n : Int) (playersQ (l.take k)) B m c2 l2 ps W0) := by rw [hW0]; exact ⟨HV.out.own, HV.out.len, HV.out.perm, HV.out.up, HV.out.ids, HV.out.var, HV.out.below.drew⟩
        rw [← hW0] at hHeld ⊢
        clear hW0 HV
        refine wpAnyH_take (i := 1) (oi := ?oi1a) (v := ?v1a) ?hi1a ?hs1a ?hf1a ?hr1a ?hQ1a ?hy1a ?hS1a ?h1a
        case hi1a => exact (by simp only [List.getElem?_toArray, List.getElem?_cons_succ, List.getElem?_cons_zero]; rfl)
        case hs1a => kernel_rfl
        case hf1a => kernel_rfl
        case hr1a => kernel_rfl
        case hQ1a => exact fun _ _ _ h => h
        case hy1a =>
          refine Or.inl ⟨rfl, ?_⟩
          intro W hSw
          obtain ⟨y0, y1⟩ := hSw
          go_simp
          try with_reducible rfl
        case hS1a => assumption
        try simp only [Act.put, List.setIfInBounds_toArray, List.set_cons_zero, List.set_cons_succ]
        refine wpAnyH_take (i := 2) (oi := ?oi2a) (v := ?v2a) ?hi2a ?hs2a ?hf2a ?hr2a ?hQ2a ?hy2a ?hS2a ?h2a
        case hi2a => exact (by simp only [List.getElem?_toArray, List.getElem?_cons_succ, List.getElem?_cons_zero]; rfl)
        case hs2a => kernel_rfl
        case hf2a => kernel_rfl
        case hr2a => kernel_rfl
        case hQ2a => exact fun _ _ _ h => h
        case hy2a =>
          refine Or.inl ⟨rfl, ?_⟩
          intro W hSw
          obtain ⟨y0, y1⟩ := hSw
          go_simp
          try with_reducible rfl
        case hS2a => assumption
        try simp only [Act.put, List.setIfInBounds_toArray, List.set_cons_zero, List.set_cons_succ]
        refine wpAnyH_take (i := 3) (oi := ?oi3a) (v := ?v3a) ?hi3a ?hs3a ?hf3a ?hr3a ?hQ3a ?hy3a ?hS3a ?h3a
        case hi3a => exact (by simp only [List.getElem?_toArray, List.getElem?_cons_succ, List.getElem?_cons_zero]; rfl)
        case hs3a => kernel_rfl
        case hf3a => kernel_rfl
        case hr3a => kernel_rfl
        case hQ3a => exact fun _ _ _ h => h
        case hy3a =>
          refine Or.inl ⟨rfl, ?_⟩
          intro W hSw
          obtain ⟨y0, y1⟩ := hSw
          go_simp
          try with_reducible rfl
        case hS3a => assumption
        try simp only [Act.put, List.setIfInBounds_toArray, List.set_cons_zero, List.set_cons_succ]
        refine wpAnyH_take (i := 4) (oi := ?oi4a) (v := ?v4a) ?hi4a ?hs4a ?hf4a ?hr4a ?hQ4a ?hy4a ?hS4a ?h4a
        case hi4a => exact (by simp only [List.getElem?_toArray, List.getElem?_cons_succ, List.getElem?_cons_zero]; rfl)
        case hs4a => kernel_rfl
        case hf4a => kernel_rfl
        case hr4a => kernel_rfl
        case hQ4a => exact fun _ _ _ h => h
        case hy4a =>
          refine Or.inl ⟨rfl, ?_⟩
          intro W hSw
          obtain ⟨y0, y1⟩ := hSw
          go_simp
          try with_reducible rfl
        case hS4a => assumption
        try simp only [Act.put, List.setIfInBounds_toArray, List.set_cons_zero, List.set_cons_succ]
        refine wpAnyH_take (i := 5) (oi := ?oi5a) (v := ?v5a) ?hi5a ?hs5a ?hf5a ?hr5a ?hQ5a ?hy5a ?hS5a ?h5a
        case hi5a => exact (by simp only [List.getElem?_toArray, List.getElem?_cons_succ, List.getElem?_cons_zero]; rfl)
        case hs5a => kernel_rfl
        case hf5a => kernel_rfl
        case hr5a => kernel_rfl
        case hQ5a => exact fun _ _ _ h => h
        case hy5a =>
          refine Or.inl ⟨rfl, ?_⟩
          intro W hSw
          obtain ⟨y0, y1⟩ := hSw
          go_simp
          try with_reducible rfl
        case hS5a => assumption
        try simp only [Act.put, List.setIfInBounds_toArray, List.set_cons_zero, List.set_cons_succ]
        refine wpAnyH_take (i := 6) (oi := ?oi6a) (v := ?v6a) ?hi6a ?hs6a ?hf6a ?hr6a ?hQ6a ?hy6a ?hS6a ?h6a
        case hi6a => exact (by simp only [List.getElem?_toArray, List.getElem?_cons_succ, List.getElem?_cons_zero]; rfl)
        case hs6a => kernel_rfl
        case hf6a => kernel_rfl
        case hr6a => kernel_rfl
        case hQ6a => exact fun _ _ _ h => h
        case hy6a =>
          refine Or.inl ⟨rfl, ?_⟩
          intro W hSw
          obtain ⟨y0, y1⟩ := hSw
          go_simp
          try with_reducible rfl
        case hS6a => assumption
        try simp only [Act.put, List.setIfInBounds_toArray, List.set_cons_zero, List.set_cons_succ]
        refine wpAnyH_ready (rs := [0]) (by kernel_rfl) (by simp) ?_
        refine AllReadyH.cons (o := _) rfl (fun K hK => ?_) AllReadyH.nil
        have q0 := cell_of_row W0 Q 0 _ _ _ HV0.out.var
        have q1 := cell_of_row W0 Q 1 _ _ _ HV0.out.var
        simp at q0 q1
        go_simp
        clear q0 q1
        refine hK.out _ _ hHeld (fun hHeld => ?_)
        clear hK K
        try simp only [Act.put, List.setIfInBounds_toArray, List.set_cons_zero, List.set_cons_succ]
        have HP : Hid (Calls Try.prog 47 #[.agg #[.slice B m c2, .int .i64 (n : Int)], .int .u32 (pn : Int), .int .i64 0] W0 fun r w' => ∃ B' m' c' l', r = .returned (.tuple #[.agg #[.slice B' m' c', .int .i64 (n : Int)], .int .i64 0]) ∧ m' = l'.length ∧ l'.Perm qs ∧ w'.ownsRow (Q + 1) 96 2 (.slice B' m' c') m' (V.rr l') ∧ Below W0.heap.size W0 w') := V.rput_any (Q + 1) B m c2 (n : Int) pn 0 0 l2 ps qs W0 HV0.out.len HV0.out.own (lt_of_block HV0.out.var) (by omega) HV0.out.perm HV0.out.up (HOKS.out ps HV0.out.ids) HPT.out.1
        refine wpAnyH_ready (rs := [7]) (by kernel_rfl) (by simp) ?_
        refine AllReadyH.cons (o := _) rfl (fun K hK => ?_) AllReadyH.nil
        go_simp
        refine HP.out.mono ?_
        rintro r w3 ⟨B3, m3, c3, l3, rfl, hm3, hp3, ho3, hb3⟩
        have HV3 := Lib.hid (And.intro hm3 (And.intro hp3 ho3))
        have hv3 : w3.heap[Q]? = some (.cells #[.slice B m c2, .int .i64 (n : Int)] 82 (0, 0)) := (hb3.block _ (lt_of_block HV0.out.var)).trans HV0.out.var
        have HW3 := Lib.hid hv3
        have HB3 : Hid (Below Q w0 w3) := HV0.out.below.trans (hb3.mono (Nat.le_of_lt (lt_of_block HV0.out.var)))
        clear hm3 hp3 ho3 hb3 hv3
        refine hK.out _ _ (HSS.out _ HB3.out) (fun hHeld => ?_)
        clear hK K
        try simp only [Act.put, List.setIfInBounds_toArray, List.set_cons_zero, List.set_cons_succ]
        refine wpAnyH_take (i := 8) (oi := ?oi8a) (v := ?v8a) ?hi8a ?hs8a ?hf8a ?hr8a ?hQ8a ?hy8a ?hS8a ?h8a
        case hi8a => exact (by simp only [List.getElem?_toArray, List.getElem?_cons_succ, List.getElem?_cons_zero]; rfl)
        case hs8a => kernel_rfl
        case hf8a => kernel_rfl
        case hr8a => kernel_rfl
        case hQ8a => exact fun _ _ _ h => h
        case hy8a =>
          refine Or.inl ⟨rfl, ?_⟩
          intro W hSw
          obtain ⟨y0, y1⟩ := hSw
          go_simp
          try with_reducible rfl
        case hS8a => assumption
        try simp only [Act.put, List.setIfInBounds_toArray, List.set_cons_zero, List.set_cons_succ]
        refine wpAnyH_take (i := 9) (oi := ?oi9a) (v := ?v9a) ?hi9a ?hs9a ?hf9a ?hr9a ?hQ9a ?hy9a ?hS9a ?h9a
        case hi9a => exact (by simp only [List.getElem?_toArray, List.getElem?_cons_succ, List.getElem?_cons_zero]; rfl)
        case hs9a => kernel_rfl
        case hf9a => kernel_rfl
        case hr9a => kernel_rfl
        case hQ9a => exact fun _ _ _ h => h
        case hy9a =>
          refine Or.inl ⟨rfl, ?_⟩
          intro W hSw
          obtain ⟨y0, y1⟩ := hSw
          go_simp
          try with_reducible rfl
        case hS9a => assumption
        try simp only [Act.put, List.setIfInBounds_toArray, List.set_cons_zero, List.set_cons_succ]
        refine wpAnyH_take (i := 10) (oi := ?oi10a) (v := ?v10a) ?hi10a ?hs10a ?hf10a ?hr10a ?hQ10a ?hy10a ?hS10a ?h10a
        case hi10a => exact (by simp only [List.getElem?_toArray, List.getElem?_cons_succ, List.getElem?_cons_zero]; rfl)
        case hs10a => kernel_rfl
        case hf10a => kernel_rfl
        case hr10a => kernel_rfl
        case hQ10a => exact fun _ _ _ h => h
        case hy10a =>
          refine Or.inl ⟨rfl, ?_⟩
          intro W hSw
          obtain ⟨y0, y1⟩ := hSw
          go_simp
          try with_reducible rfl
        case hS10a => assumption
        try simp only [Act.put, List.setIfInBounds_toArray, List.set_cons_zero, List.set_cons_succ]
        refine wpAnyH_ready (rs := [11]) (by kernel_rfl) (by simp) ?_
        refine AllReadyH.cons (o := _) rfl (fun K hK => ?_) AllReadyH.nil
        have q0 := cell_of_row w3 Q 0 _ _ _ HW3.out
        have q1 := cell_of_row w3 Q 1 _ _ _ HW3.out
        have qf : ∀ i, w3.frozen? ⟨Q, i, none⟩ = false := fun i => frozen_of_row w3 _ i _ _ HW3.out
        simp at q0 q1
        go_simp
        clear q0 q1 qf
        have HV5 : Hid (PSt w0 Q (n : Int) (playersQ (l.take (k + 1))) B3 m3 c3 l3 qs ((w3.setCell ⟨Q, 0, none⟩ (.slice B3 m3 c3)).setCell ⟨Q, 1, none⟩ (.int .i64 (n : Int)))) := by
          refine ⟨?_, HV3.out.1, HV3.out.2.1, HPT.out.2.1, by rw [HPK.out]; exact HPT.out.2.2, ?_, (HB3.out.setCell (Nat.le_refl _) _).setCell (Nat.le_refl _) _⟩
          · exact own_after HV3.out.2.2 fun g hg => by
              have := (ownlt HV3.out.2.2 g hg).1
              exact (Below.heap_setCell _ _ _ _ (by show g ≠ Q; omega)).trans (Below.heap_setCell _ _ _ _ (by show g ≠ Q; omega))
          · exact heap_setCell_same _ Q 1 _ 82 _ (heap_setCell_same w3 Q 0 _ 82 _ HW3.out)
        obtain ⟨W5, hW5⟩ : ∃ W5, W5 = (w3.setCell ⟨Q, 0, none⟩ (.slice B3 m3 c3)).setCell ⟨Q, 1, none⟩ (.int .i64 (n : Int)) := ⟨_, rfl⟩
        rw [← hW5] at HV5 ⊢
        clear hW5
        refine hK.out _ _ (HSS.out _ HV5.out.below) (fun hHeld => ?_)
        clear hK K
        try simp only [Act.put, List.setIfInBounds_toArray, List.set_cons_zero, List.set_cons_succ]
        refine wpAnyH_done (by kernel_rfl) ?_ _
        clear hHeld
        go_wp2_with fail
        go_roundw
        case rel => exact ⟨k + 1, by omega, by go_num, B3, m3, c3, l3, qs, HV5.out⟩
        case measure => simp [intOf] <;> omega
    · obtain rfl : k = n := by omega
      have HLL : Hid (l.take k = l) := List.take_of_length_le (by rw [← HN.out]; exact Nat.le_refl _)
      rw [HLL.out] at HV
      have HOKS : Hid (∀ y ∈ ps.map (·.1), V.okN y) := fun y hy => by
        obtain ⟨h0, j, e, h1, h2, -⟩ := playersQ_at HND.out (HV.out.ids.mem_iff.1 hy)
        have h3 := (HND.out.2 e (List.mem_of_getElem? h1)).2.2
        show 1 ≤ y ∧ y ≤ 2147483647
        omega
      have HSO : Hid (ps.map (·.1) = sortedN (playersQ l)) := up_ext HV.out.up (sorted_up _ (playersQ_nodup HND.out)) fun y => by
        rw [HV.out.ids.mem_iff, sortedN_mem]
      have HI : Hid (Calls Try.prog 48 #[.agg #[.slice B m c2, .int .i64 (k : Int)]] wr fun r w' => ∃ v', r = .returned v' ∧ w'.ownsRow wr.heap.size 28 1 v' (ps.map (·.1)).length (un (ps.map (·.1))) ∧ Below wr.heap.size wr w') := V.rids_any B m c2 (k : Int) l2 ps wr HV.out.len (V.Rs.of_own HV.out.own) (by omega) HV.out.perm HV.out.up HOKS.out
      have q0 := cell_of_row wr Q 0 _ _ _ HV.out.var
      have q1 := cell_of_row wr Q 1 _ _ _ HV.out.var
      simp at q0 q1
      go_wp2_with fail
      refine HI.out.mono ?_
      rintro r w3 ⟨v3, rfl, ho3, hb3⟩
      have HBW : Hid (Below w.heap.size w wr) := HB0.out.trans (HV.out.below.mono (by have := HQ.out; omega))
      have HRES : Hid (w3.ownsRow w.heap.size 28 1 v3 (playersQ l).length (un (sortedN (playersQ l))) ∧ Below w.heap.size w w3) := by
        refine ⟨?_, HBW.out.trans (hb3.mono HBW.out.size)⟩
        have h4 := V.own1_baseV HBW.out.size ho3
        rw [HSO.out, sortedN_len] at h4
        exact h4
      clear q0 q1 ho3 hb3
      go_wp2
      go_ret
      exact ⟨v3, rfl, HRES.out⟩
end Go.Proofs.Ytfgabmjnpjmmgaa.T
