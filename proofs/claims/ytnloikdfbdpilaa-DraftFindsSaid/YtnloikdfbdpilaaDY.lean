/- Draft: the document's Teams. -/
import Derived.Test.YtnloikdfbdpilaaDW
import Derived.Test.YtnloikdfbdpilaaD4
namespace Go.Proofs.Ytnloikdfbdpilaa
open Go.RowKit
set_option maxRecDepth 20000
set_option linter.unusedVariables false

/-- What the search through odd masks below a bound has found. -/
def InvT (k : Int) (es : List En) (mask : Nat) (best : Int) : Option Nat → Prop
  | none => ∀ mk, mk < mask → mk % 2 = 1 → ¬ goodM k es mk
  | some m0 => (m0 < 2 ^ es.length ∧ m0 % 2 = 1 ∧ goodM k es m0) ∧ best = dM es m0 ∧ ∀ mk, mk < mask → mk % 2 = 1 → goodM k es mk → dM es m0 < dM es mk ∨ (dM es m0 = dM es mk ∧ aheadP ((mX mk es).map (·.p)) ((mX m0 es).map (·.p)) = false)
def tA (es : List En) : Option Nat → List Int
  | none => []
  | some m0 => (mX m0 es).map (·.p)
def tB (es : List En) : Option Nat → List Int
  | none => []
  | some m0 => (mY m0 es).map (·.p)
theorem odd_lt {mk mask : Nat} (h1 : mk < mask + 2) (h2 : mk % 2 = 1) (h3 : mask % 2 = 1) : mk < mask ∨ mk = mask := by omega
/-- Nothing is won by a mask that is not good, or not better. -/
theorem inv_skip {k : Int} {es : List En} {mask : Nat} {best : Int} {o : Option Nat} (h : InvT k es mask best o) (hm : mask % 2 = 1) (hb : ¬ goodM k es mask ∨ ∃ m0, o = some m0 ∧ (best < dM es mask ∨ (best = dM es mask ∧ aheadP ((mX mask es).map (·.p)) (tA es o) = false))) : InvT k es (mask + 2) best o := by
  cases o with
  | none =>
    rcases hb with hb | ⟨m0, e, _⟩
    · intro mk h1 h2
      rcases odd_lt h1 h2 hm with h3 | rfl
      · exact h mk h3 h2
      · exact hb
    · cases e
  | some m0 =>
    refine ⟨h.1, h.2.1, fun mk h1 h2 h3 => ?_⟩
    rcases odd_lt h1 h2 hm with h4 | rfl
    · exact h.2.2 mk h4 h2 h3
    · rcases hb with hb | ⟨m1, e, hb⟩
      · exact absurd h3 hb
      · injection e with e
        subst e
        rw [h.2.1] at hb
        exact hb
theorem ahead_anti : ∀ a b : List Int, aheadP a b = true → aheadP b a = false
  | [], [], h => by cases h
  | [], y :: b, _ => rfl
  | x :: a, [], h => by cases h
  | x :: a, y :: b, h => by
    unfold aheadP at h ⊢
    by_cases e : x = y
    · rw [if_pos e] at h
      rw [if_pos e.symm]
      exact ahead_anti a b h
    · rw [if_neg e, decide_eq_true_iff] at h
      rw [if_neg (fun e' => e e'.symm), decide_eq_false_iff_not]
      omega
theorem ahead_irr : ∀ a : List Int, aheadP a a = false
  | [] => rfl
  | x :: a => by unfold aheadP; rw [if_pos rfl]; exact ahead_irr a
theorem ahead_trans : ∀ a b c : List Int, aheadP a b = false → aheadP b c = false → aheadP a c = false
  | [], [], c, _, h => h
  | [], y :: b, c, h, _ => by cases h
  | x :: a, [], [], _, _ => rfl
  | x :: a, [], z :: c, _, h => by cases h
  | x :: a, y :: b, [], _, _ => rfl
  | x :: a, y :: b, z :: c, h1, h2 => by
    unfold aheadP at h1 h2 ⊢
    by_cases e1 : x = y
    · rw [if_pos e1] at h1
      by_cases e2 : y = z
      · rw [if_pos e2] at h2
        rw [if_pos (e1.trans e2)]
        exact ahead_trans a b c h1 h2
      · rw [if_neg e2, decide_eq_false_iff_not] at h2
        rw [if_neg (fun e => e2 (e1.symm.trans e)), decide_eq_false_iff_not]
        omega
    · rw [if_neg e1, decide_eq_false_iff_not] at h1
      by_cases e2 : y = z
      · rw [if_neg (fun e => e1 (e.trans e2.symm)), decide_eq_false_iff_not]
        omega
      · rw [if_neg e2, decide_eq_false_iff_not] at h2
        by_cases e3 : x = z
        · omega
        · rw [if_neg e3, decide_eq_false_iff_not]
          omega
/-- A good mask that is better takes its place. -/
theorem inv_take {k : Int} {es : List En} {mask : Nat} {best : Int} {o : Option Nat} (h : InvT k es mask best o) (hm : mask % 2 = 1) (hl : mask < 2 ^ es.length) (hg : goodM k es mask) (hb : o = none ∨ dM es mask < best ∨ (dM es mask = best ∧ aheadP ((mX mask es).map (·.p)) (tA es o) = true)) : InvT k es (mask + 2) (dM es mask) (some mask) := by
  refine ⟨⟨hl, hm, hg⟩, rfl, fun mk h1 h2 h3 => ?_⟩
  rcases odd_lt h1 h2 hm with h4 | rfl
  · cases o with
    | none => exact absurd h3 (h mk h4 h2)
    | some m0 =>
      have h5 := h.2.2 mk h4 h2 h3
      have h6 := h.2.1
      rcases hb with hb | hb | ⟨hb, ha⟩
      · cases hb
      · left; omega
      · rcases h5 with h5 | ⟨h5, h7⟩
        · left; omega
        · exact .inr ⟨by omega, ahead_trans _ _ _ h7 (ahead_anti _ _ ha)⟩
  · exact .inr ⟨rfl, ahead_irr _⟩
theorem ents_p (m : Mo) (now : Int) (l : List Tk) : (entsP m now l).map (·.p) = ints l.length := by
  apply List.ext_getElem?
  intro i
  rw [List.getElem?_map]
  unfold entsP ints
  rw [List.getElem?_mapIdx, List.getElem?_map]
  by_cases h : i < l.length
  · rw [List.getElem?_eq_getElem h, List.getElem?_range h]; rfl
  · rw [List.getElem?_eq_none (by omega), List.getElem?_eq_none (by rw [List.length_range]; omega)]; rfl
theorem of_X (m : Mo) (now : Int) (l : List Tk) (mask : Nat) : sel (fM mask true) (ints l.length) = (mX mask (entsP m now l)).map (·.p) := by
  rw [← ents_p m now l, sel_map]
  unfold mX
  rw [sel_congr (fM mask true) (bitM mask) _ (fun i _ => by unfold fM; cases bitM mask i <;> rfl)]
theorem of_Y (m : Mo) (now : Int) (l : List Tk) (mask : Nat) : sel (fM mask false) (ints l.length) = (mY mask (entsP m now l)).map (·.p) := by
  rw [← ents_p m now l, sel_map]
  unfold mY
  rw [sel_congr (fM mask false) (fun i => !bitM mask i) _ (fun i _ => by unfold fM; cases bitM mask i <;> rfl)]
theorem wrap_pow {n : Nat} (h : n ≤ 16) : wrap64 ((2 : Int) ^ n) = ((2 ^ n : Nat) : Int) := by
  have h1 : 2 ^ n ≤ 2 ^ 16 := Nat.pow_le_pow_right (by decide) h
  have h2 : ((2 : Int) ^ n) = ((2 ^ n : Nat) : Int) := by push_cast; rfl
  rw [h2]
  generalize 2 ^ n = p at h1
  exact wr64 (by omega) (by omega)

/-- Two rows of places, and whether there are any. -/
def TPost (w : World) (o : Option (List Int × List Int)) (r : Ending) (w' : World) : Prop :=
  (∃ A1 c1 A2 c2, r = .returned (.tuple #[.slice A1 (o.getD ([], [])).1.length c1, .slice A2 (o.getD ([], [])).2.length c2, .bool o.isSome]) ∧ Zs w' w'.heap.size A1 (o.getD ([], [])).1 ∧ Zs w' w'.heap.size A2 (o.getD ([], [])).2) ∧ Below w.heap.size w w'

set_option linter.unusedSimpArgs false in
set_option maxHeartbeats 16000000 in
theorem rteams_any (m : Mo) (A : Option Addr) (n c : Nat) (l : List Tk) (w : World) (hn : n = l.length) (hE : Ts w w.heap.size A l) (hl : n ≤ 20) (hs : Sm l) :
    Calls Try.prog 18 #[m.v, .slice A n c] w fun r w' => TPost w (teamsP m l) r w' := by
  obtain ⟨w0, hw0⟩ : ∃ w0, w0 = w.alloc (.cells m.cells 23) := ⟨_, rfl⟩
  have hb0 : Below w.heap.size w w0 := by rw [hw0]; exact (Below.refl _ _).alloc (Nat.le_refl _) _
  have hq0 : w0.heap[w.heap.size]? = some (.cells m.cells 23 (0, 0)) := by rw [hw0]; exact heap_alloc_new w _
  have HWR : Hid (∀ W, Calls Try.prog 30 #[m.v] W fun r w' => r = .returned (sV m.wr) ∧ Below W.heap.size W w') := fun W => rwrongM_any m.k m.b m.s m.c m.e W
  have HCE : Hid (∀ W, Below w0.heap.size w0 W → W.cell? ⟨w.heap.size, 0, none⟩ = some (.int .i64 m.k) ∧ W.cell? ⟨w.heap.size, 1, none⟩ = some (.int .i64 m.b) ∧ W.cell? ⟨w.heap.size, 2, none⟩ = some (.int .i64 m.s) ∧ W.cell? ⟨w.heap.size, 3, none⟩ = some (.int .i64 m.c) ∧ W.cell? ⟨w.heap.size, 4, none⟩ = some (.int .i64 m.e)) := fun W hW => by
    have e2 := (hW.block _ (lt_of_block hq0)).trans hq0
    exact ⟨cell_of_row W _ 0 _ _ _ e2, cell_of_row W _ 1 _ _ _ e2, cell_of_row W _ 2 _ _ _ e2, cell_of_row W _ 3 _ _ _ e2, cell_of_row W _ 4 _ _ _ e2⟩
  obtain ⟨o, ho⟩ : ∃ o, o = teamsP m l := ⟨_, rfl⟩
  rw [← ho]
  unfold teamsP at ho
  obtain ⟨mw, hmw⟩ : ∃ mw, mw = m.wr := ⟨_, rfl⟩
  rw [← hmw] at HWR
  rw [← hmw, ← hn] at ho
  have H0 := Lib.hid hw0
  have HB0 := Lib.hid hb0
  have HE := Lib.hid (hE.later hb0 (Nat.le_refl _))
  have HN := Lib.hid hn
  have HS := Lib.hid hs
  obtain ⟨c0, c1, c2, c3, c4⟩ := HCE.out w0 (Below.refl _ _)
  have HNONE : Hid (∀ W, o = none → Below w.heap.size w W → TPost w o (.returned (.tuple #[.slice none 0 0, .slice none 0 0, .bool false])) W) := fun W h hb => by
    subst h
    exact ⟨⟨none, 0, none, 0, rfl, Zs.nil, Zs.nil⟩, hb⟩
  by_cases hbad : mw.isEmpty = false ∨ 8 < n ∨ n < 1
  · have HON : Hid (o = none) := by
      simp only [Hid]
      rw [ho]
      rcases hbad with h | h | h
      · rw [if_pos (.inl h)]
      · rw [if_pos (.inr h)]
      · split
        · rfl
        · have hl0 : l = [] := List.eq_nil_of_length_eq_zero (by omega)
          cases hp : partP m.k (entsP m 0 l) with
          | none => rfl
          | some r => have := (part_small (k := m.k) (l := entsP m 0 l) (by rw [hp]; rfl)).1; rw [entsP_len] at this; omega
    clear hw0 hb0 hq0 hn hE hs ho hmw
    by_cases he : mw.isEmpty = true
    · rcases hbad with h | h | h
      · rw [he] at h; cases h
      all_goals
        go_enter Try.func18, Try.ntmps18
        go_upto_region 1 with (fail)
        rw [← H0.out]
        go_wp2_with fail
        refine (HWR.out w0).mono ?_
        rintro r w1 ⟨rfl, hb⟩
        have HB1 := Lib.hid (HB0.out.trans (hb.mono HB0.out.size))
        clear hb
        go_wp2
        exact bodyPost_ret (v := .tuple #[.slice none 0 0, .slice none 0 0, .bool false]) (by simp [results, Try.results18, go_sem]) rfl (HNONE.out _ HON.out HB1.out)
    · have hef : mw.isEmpty = false := by simpa using he
      clear hbad
      go_enter Try.func18, Try.ntmps18
      go_upto_region 1 with (fail)
      rw [← H0.out]
      go_wp2_with fail
      refine (HWR.out w0).mono ?_
      rintro r w1 ⟨rfl, hb⟩
      have HB1 := Lib.hid (HB0.out.trans (hb.mono HB0.out.size))
      clear hb
      go_wp2
      exact bodyPost_ret (v := .tuple #[.slice none 0 0, .slice none 0 0, .bool false]) (by simp [results, Try.results18, go_sem]) rfl (HNONE.out _ HON.out HB1.out)
  · have he : mw.isEmpty = true := by
      cases h : mw.isEmpty
      · exact absurd (.inl h) hbad
      · rfl
    have h8 : ¬ 8 < n := fun h => hbad (.inr (.inl h))
    have h1 : ¬ n < 1 := fun h => hbad (.inr (.inr h))
    rw [if_neg (fun h => h.elim (fun h => by rw [he] at h; cases h) h8)] at ho
    have hbd := wrongM_bounds (k := m.k) (b := m.b) (s := m.s) (c := m.c) (e := m.e) (by rw [← he, hmw]; rfl)
    have hk1 := hbd.1
    obtain ⟨es, hes⟩ : ∃ es, es = entsP m 0 l := ⟨_, rfl⟩
    have HEL : Hid (es.length = n) := by simp only [Hid]; rw [hes, entsP_len, hn]
    have HOK : Hid (∀ e ∈ es, Ok e) := by rw [hes]; exact ents_ok hs
    have HUP : Hid (es.Pairwise fun a b => a.p < b.p) := by rw [hes]; exact ents_up m 0 l
    have HEG : Hid (∀ (i : Nat) (t : Tk), l[i]? = some t → ∃ e, es[i]? = some e ∧ e.n = (t.n : Int)) := fun i t h => ⟨entP m 0 i t, by rw [hes]; exact entsP_get m 0 l i t h, rfl⟩
    have HEM : Hid (∀ e ∈ es, ∃ (i : Nat) (t : Tk), l[i]? = some t ∧ e.p = (i : Int) ∧ e.n = (t.n : Int) ∧ e.r = rt t.r) := fun e h => by
      rw [hes] at h
      obtain ⟨i, t, hi, rfl⟩ := ents_mem h
      exact ⟨i, t, hi, rfl, rfl, rfl⟩
    have HOF : Hid (∀ mask, sel (fM mask true) (ints n) = (mX mask es).map (·.p) ∧ sel (fM mask false) (ints n) = (mY mask es).map (·.p)) := fun mask => by rw [hn, hes]; exact ⟨of_X m 0 l mask, of_Y m 0 l mask⟩
    rw [← hes] at ho
    have HO := Lib.hid ho
    have HKB : Hid (1 ≤ m.k ∧ m.k ≤ 4) := hk1
    have HXB : Hid (∀ mask, (mX mask es).length ≤ n ∧ (mY mask es).length ≤ n ∧ (∀ e ∈ mX mask es, e ∈ es) ∧ ∀ e ∈ mY mask es, e ∈ es) := fun mask => by
      have a1 := (sel_sub (bitM mask) es).length_le
      have a2 := (sel_sub (fun i => !bitM mask i) es).length_le
      rw [HEL.out] at a1 a2
      exact ⟨a1, a2, fun e h => (sel_sub _ _).subset h, fun e h => (sel_sub _ _).subset h⟩
    have HWP : Hid (wrap64 ((2 : Int) ^ n) = ((2 ^ n : Nat) : Int) ∧ 2 ^ n ≤ 256) := ⟨wrap_pow (by omega), by
      have := Nat.pow_le_pow_right (n := 2) (by decide) (show n ≤ 8 by omega)
      simpa using this⟩
    clear hw0 hb0 hq0 hn hE hs hmw ho hbad hes hbd
    go_enter Try.func18, Try.ntmps18
    go_upto_region 1 with (fail)
    rw [← H0.out]
    go_wp2_with fail
    refine (HWR.out w0).mono ?_
    rintro r w1 ⟨rfl, hb⟩
    have HB1 := Lib.hid hb
    clear hb c0 c1 c2 c3 c4
    go_wp2_with fail
    go_loopw [7] (fun u wr => ∃ i : Nat, i ≤ n ∧ u = .int .i64 (i : Int) ∧ Hid ((∀ e ∈ es.take i, 1 ≤ e.n) ∧ Below w0.heap.size w0 wr)) (fun u _ => n - (intOf u).toNat)
    case atStart => exact ⟨0, by omega, rfl, by simp, HB1.out⟩
    case round =>
      obtain ⟨i, hi, rfl, HV⟩ := hrel
      by_cases hlt : i < n
      · obtain ⟨t, hy⟩ : ∃ t, l[i]? = some t := ⟨l[i]'(by rw [← HN.out]; exact hlt), List.getElem?_eq_getElem _⟩
        obtain ⟨e, hye, hen⟩ := HEG.out i t hy
        have HTK : Hid (es.take (i + 1) = es.take i ++ [e]) := by simp only [Hid]; rw [List.take_add_one, hye]; rfl
        have HME : Hid (e ∈ es) := List.mem_of_getElem? hye
        obtain ⟨b1, o1, rfl, hb1, ha1⟩ := (HE.out.below HV.out.2) (by have := HN.out; omega)
        obtain ⟨x, y, P, cp, d0, d1, d2, d3, d4⟩ := ha1 i t hy
        obtain ⟨tn, tr, ts⟩ := t
        simp only at d2 hen
        have HCF : Hid (∀ W, Below wr.heap.size wr W → W.cell? ⟨b1, o1 + i * 5 + 2, none⟩ = some (.slice P tn cp) ∧ W.cell? ⟨w.heap.size, 0, none⟩ = some (.int .i64 m.k) ∧ W.cell? ⟨w.heap.size, 1, none⟩ = some (.int .i64 m.b) ∧ W.cell? ⟨w.heap.size, 2, none⟩ = some (.int .i64 m.s) ∧ W.cell? ⟨w.heap.size, 3, none⟩ = some (.int .i64 m.c) ∧ W.cell? ⟨w.heap.size, 4, none⟩ = some (.int .i64 m.e)) := fun W hW => ⟨(hW.cell (p := ⟨b1, _, none⟩) (World.block_lt_of_cell? wr _ d2)).trans d2, HCE.out W (HV.out.2.trans (hW.mono HV.out.2.size))⟩
        have HBS : Hid (Below wr.heap.size wr wr) := Below.refl _ _
        have HIN : Hid (i < n) := hlt
        have HEN : Hid (e.n = (tn : Int)) := hen
        clear hy hye ha1 hb1 d0 d1 d2 d3 d4 hen
        by_cases ht1 : tn < 1
        · have HT1 : Hid (tn < 1) := ht1
          have HON : Hid (o = none) := by
            simp only [Hid]
            cases h : o with
            | none => rfl
            | some r =>
              have h2 := (part_small (k := m.k) (l := es) (by rw [← HO.out, h]; rfl)).2 e HME.out
              rw [HEN.out] at h2
              omega
          go_upto_region 6 with (fail)
          have HDa : Hid (Below wr.heap.size wr wr.drew) := HBS.out.drew
          refine wp_region_held_drew (S := fun W : World => W.cell? ⟨b1, o1 + i * 5 + 2, none⟩ = some (.slice P tn cp) ∧ W.cell? ⟨w.heap.size, 0, none⟩ = some (.int .i64 m.k) ∧ W.cell? ⟨w.heap.size, 1, none⟩ = some (.int .i64 m.b) ∧ W.cell? ⟨w.heap.size, 2, none⟩ = some (.int .i64 m.s) ∧ W.cell? ⟨w.heap.size, 3, none⟩ = some (.int .i64 m.c) ∧ W.cell? ⟨w.heap.size, 4, none⟩ = some (.int .i64 m.e)) (by kernel_rfl) (HCF.out _ HDa.out) (fun hHeld => ?_)
          obtain ⟨Wa0, hW0⟩ : ∃ W0, W0 = wr.drew := ⟨_, rfl⟩
          rw [← hW0] at hHeld HDa ⊢
          clear hW0
          refine wpAnyH_take (i := 0) (oi := ?oi0a) (v := ?v0a) ?hi0a ?hs0a ?hf0a ?hr0a ?hQ0a ?hy0a ?hS0a ?h0a
          case hi0a => exact (by simp only [List.getElem?_toArray, List.getElem?_cons_zero]; rfl)
          case hs0a => kernel_rfl
          case hf0a => kernel_rfl
          case hr0a => kernel_rfl
          case hQ0a => exact fun _ _ _ h => h
          case hy0a =>
            refine Or.inl ⟨rfl, ?_⟩
            intro W hSw
            obtain ⟨y5, y0, y1, y2, y3, y4⟩ := hSw
            have z1 := HIN.out
            go_simp
            try with_reducible rfl
          case hS0a => assumption
          try simp only [Act.put, List.setIfInBounds_toArray, List.set_cons_zero, List.set_cons_succ]
          refine wpAnyH_take (i := 1) (oi := ?oi1a) (v := ?v1a) ?hi1a ?hs1a ?hf1a ?hr1a ?hQ1a ?hy1a ?hS1a ?h1a
          case hi1a => exact (by simp only [List.getElem?_toArray, List.getElem?_cons_succ, List.getElem?_cons_zero]; rfl)
          case hs1a => kernel_rfl
          case hf1a => kernel_rfl
          case hr1a => kernel_rfl
          case hQ1a => exact fun _ _ _ h => h
          case hy1a =>
            refine Or.inl ⟨rfl, ?_⟩
            intro W hSw
            obtain ⟨y5, y0, y1, y2, y3, y4⟩ := hSw
            have z1 := HIN.out
            go_simp
            try with_reducible rfl
          case hS1a => assumption
          try simp only [Act.put, List.setIfInBounds_toArray, List.set_cons_zero, List.set_cons_succ]
          refine wpAnyH_take (i := 2) (oi := ?oi2a) (v := ?v2a) ?hi2a ?hs2a ?hf2a ?hr2a ?hQ2a ?hy2a ?hS2a ?h2a
          case hi2a => exact (by simp only [List.getElem?_toArray, List.getElem?_cons_succ, List.getElem?_cons_zero]; rfl)
          case hs2a => kernel_rfl
          case hf2a => kernel_rfl
          case hr2a => kernel_rfl
          case hQ2a => exact fun _ _ _ h => h
          case hy2a =>
            refine Or.inl ⟨rfl, ?_⟩
            intro W hSw
            obtain ⟨y5, y0, y1, y2, y3, y4⟩ := hSw
            have z1 := HIN.out
            go_simp
            try with_reducible rfl
          case hS2a => assumption
          try simp only [Act.put, List.setIfInBounds_toArray, List.set_cons_zero, List.set_cons_succ]
          refine wpAnyH_take (i := 3) (oi := ?oi3a) (v := ?v3a) ?hi3a ?hs3a ?hf3a ?hr3a ?hQ3a ?hy3a ?hS3a ?h3a
          case hi3a => exact (by simp only [List.getElem?_toArray, List.getElem?_cons_succ, List.getElem?_cons_zero]; rfl)
          case hs3a => kernel_rfl
          case hf3a => kernel_rfl
          case hr3a => kernel_rfl
          case hQ3a => exact fun _ _ _ h => h
          case hy3a =>
            refine Or.inl ⟨rfl, ?_⟩
            intro W hSw
            obtain ⟨y5, y0, y1, y2, y3, y4⟩ := hSw
            have z1 := HIN.out
            go_simp
            try with_reducible rfl
          case hS3a => assumption
          try simp only [Act.put, List.setIfInBounds_toArray, List.set_cons_zero, List.set_cons_succ]
          refine wpAnyH_take (i := 4) (oi := ?oi4a) (v := ?v4a) ?hi4a ?hs4a ?hf4a ?hr4a ?hQ4a ?hy4a ?hS4a ?h4a
          case hi4a => exact (by simp only [List.getElem?_toArray, List.getElem?_cons_succ, List.getElem?_cons_zero]; rfl)
          case hs4a => kernel_rfl
          case hf4a => kernel_rfl
          case hr4a => kernel_rfl
          case hQ4a => exact fun _ _ _ h => h
          case hy4a =>
            refine Or.inl ⟨rfl, ?_⟩
            intro W hSw
            obtain ⟨y5, y0, y1, y2, y3, y4⟩ := hSw
            have z1 := HIN.out
            go_simp
            try with_reducible rfl
          case hS4a => assumption
          try simp only [Act.put, List.setIfInBounds_toArray, List.set_cons_zero, List.set_cons_succ]
          refine wpAnyH_take (i := 5) (oi := ?oi5a) (v := ?v5a) ?hi5a ?hs5a ?hf5a ?hr5a ?hQ5a ?hy5a ?hS5a ?h5a
          case hi5a => exact (by simp only [List.getElem?_toArray, List.getElem?_cons_succ, List.getElem?_cons_zero]; rfl)
          case hs5a => kernel_rfl
          case hf5a => kernel_rfl
          case hr5a => kernel_rfl
          case hQ5a => exact fun _ _ _ h => h
          case hy5a =>
            refine Or.inl ⟨rfl, ?_⟩
            intro W hSw
            obtain ⟨y5, y0, y1, y2, y3, y4⟩ := hSw
            have z1 := HIN.out
            go_simp
            try with_reducible rfl
          case hS5a => assumption
          try simp only [Act.put, List.setIfInBounds_toArray, List.set_cons_zero, List.set_cons_succ]
          refine wpAnyH_take (i := 6) (oi := ?oi6a) (v := (.bool true)) ?hi6a ?hs6a ?hf6a ?hr6a ?hQ6a ?hy6a ?hS6a ?h6a
          case hi6a => exact (by simp only [List.getElem?_toArray, List.getElem?_cons_succ, List.getElem?_cons_zero]; rfl)
          case hs6a => kernel_rfl
          case hf6a => kernel_rfl
          case hr6a => kernel_rfl
          case hQ6a => exact fun _ _ _ h => h
          case hy6a =>
            refine Or.inl ⟨rfl, ?_⟩
            intro W hSw
            obtain ⟨y5, y0, y1, y2, y3, y4⟩ := hSw
            have z1 := HIN.out
            have z2 := HT1.out
            go_simp
            all_goals first | with_reducible rfl | (simp; done) | (simp; omega) | omega
          case hS6a => assumption
          try simp only [Act.put, List.setIfInBounds_toArray, List.set_cons_zero, List.set_cons_succ]
          refine wpAnyH_take (i := 7) (oi := ?oi7a) (v := ?v7a) ?hi7a ?hs7a ?hf7a ?hr7a ?hQ7a ?hy7a ?hS7a ?h7a
          case hi7a => exact (by simp only [List.getElem?_toArray, List.getElem?_cons_succ, List.getElem?_cons_zero]; rfl)
          case hs7a => kernel_rfl
          case hf7a => kernel_rfl
          case hr7a => kernel_rfl
          case hQ7a => exact fun _ _ _ h => h
          case hy7a =>
            refine Or.inl ⟨rfl, ?_⟩
            intro W hSw
            obtain ⟨y5, y0, y1, y2, y3, y4⟩ := hSw
            have z1 := HIN.out
            go_simp
            try with_reducible rfl
          case hS7a => assumption
          try simp only [Act.put, List.setIfInBounds_toArray, List.set_cons_zero, List.set_cons_succ]
          refine wpAnyH_take (i := 8) (oi := ?oi8a) (v := undef) ?hi8a ?hs8a ?hf8a ?hr8a ?hQ8a ?hy8a ?hS8a ?h8a
          case hi8a => exact (by simp only [List.getElem?_toArray, List.getElem?_cons_succ, List.getElem?_cons_zero]; rfl)
          case hs8a => kernel_rfl
          case hf8a => kernel_rfl
          case hr8a => kernel_rfl
          case hQ8a => exact fun _ _ _ h => h
          case hy8a =>
            exact Or.inr ⟨rfl, rfl⟩
          case hS8a => assumption
          try simp only [Act.put, List.setIfInBounds_toArray, List.set_cons_zero, List.set_cons_succ]
          refine wpAnyH_take (i := 9) (oi := ?oi9a) (v := undef) ?hi9a ?hs9a ?hf9a ?hr9a ?hQ9a ?hy9a ?hS9a ?h9a
          case hi9a => exact (by simp only [List.getElem?_toArray, List.getElem?_cons_succ, List.getElem?_cons_zero]; rfl)
          case hs9a => kernel_rfl
          case hf9a => kernel_rfl
          case hr9a => kernel_rfl
          case hQ9a => exact fun _ _ _ h => h
          case hy9a =>
            exact Or.inr ⟨rfl, rfl⟩
          case hS9a => assumption
          try simp only [Act.put, List.setIfInBounds_toArray, List.set_cons_zero, List.set_cons_succ]
          refine wpAnyH_take (i := 10) (oi := ?oi10a) (v := undef) ?hi10a ?hs10a ?hf10a ?hr10a ?hQ10a ?hy10a ?hS10a ?h10a
          case hi10a => exact (by simp only [List.getElem?_toArray, List.getElem?_cons_succ, List.getElem?_cons_zero]; rfl)
          case hs10a => kernel_rfl
          case hf10a => kernel_rfl
          case hr10a => kernel_rfl
          case hQ10a => exact fun _ _ _ h => h
          case hy10a =>
            exact Or.inr ⟨rfl, rfl⟩
          case hS10a => assumption
          try simp only [Act.put, List.setIfInBounds_toArray, List.set_cons_zero, List.set_cons_succ]
          refine wpAnyH_take (i := 11) (oi := ?oi11a) (v := undef) ?hi11a ?hs11a ?hf11a ?hr11a ?hQ11a ?hy11a ?hS11a ?h11a
          case hi11a => exact (by simp only [List.getElem?_toArray, List.getElem?_cons_succ, List.getElem?_cons_zero]; rfl)
          case hs11a => kernel_rfl
          case hf11a => kernel_rfl
          case hr11a => kernel_rfl
          case hQ11a => exact fun _ _ _ h => h
          case hy11a =>
            exact Or.inr ⟨rfl, rfl⟩
          case hS11a => assumption
          try simp only [Act.put, List.setIfInBounds_toArray, List.set_cons_zero, List.set_cons_succ]
          refine wpAnyH_take (i := 12) (oi := ?oi12a) (v := undef) ?hi12a ?hs12a ?hf12a ?hr12a ?hQ12a ?hy12a ?hS12a ?h12a
          case hi12a => exact (by simp only [List.getElem?_toArray, List.getElem?_cons_succ, List.getElem?_cons_zero]; rfl)
          case hs12a => kernel_rfl
          case hf12a => kernel_rfl
          case hr12a => kernel_rfl
          case hQ12a => exact fun _ _ _ h => h
          case hy12a =>
            exact Or.inr ⟨rfl, rfl⟩
          case hS12a => assumption
          try simp only [Act.put, List.setIfInBounds_toArray, List.set_cons_zero, List.set_cons_succ]
          refine wpAnyH_take (i := 13) (oi := ?oi13a) (v := undef) ?hi13a ?hs13a ?hf13a ?hr13a ?hQ13a ?hy13a ?hS13a ?h13a
          case hi13a => exact (by simp only [List.getElem?_toArray, List.getElem?_cons_succ, List.getElem?_cons_zero]; rfl)
          case hs13a => kernel_rfl
          case hf13a => kernel_rfl
          case hr13a => kernel_rfl
          case hQ13a => exact fun _ _ _ h => h
          case hy13a =>
            exact Or.inr ⟨rfl, rfl⟩
          case hS13a => assumption
          try simp only [Act.put, List.setIfInBounds_toArray, List.set_cons_zero, List.set_cons_succ]
          refine wpAnyH_take (i := 14) (oi := ?oi14a) (v := undef) ?hi14a ?hs14a ?hf14a ?hr14a ?hQ14a ?hy14a ?hS14a ?h14a
          case hi14a => exact (by simp only [List.getElem?_toArray, List.getElem?_cons_succ, List.getElem?_cons_zero]; rfl)
          case hs14a => kernel_rfl
          case hf14a => kernel_rfl
          case hr14a => kernel_rfl
          case hQ14a => exact fun _ _ _ h => h
          case hy14a =>
            exact Or.inr ⟨rfl, rfl⟩
          case hS14a => assumption
          try simp only [Act.put, List.setIfInBounds_toArray, List.set_cons_zero, List.set_cons_succ]
          refine wpAnyH_take (i := 15) (oi := ?oi15a) (v := undef) ?hi15a ?hs15a ?hf15a ?hr15a ?hQ15a ?hy15a ?hS15a ?h15a
          case hi15a => exact (by simp only [List.getElem?_toArray, List.getElem?_cons_succ, List.getElem?_cons_zero]; rfl)
          case hs15a => kernel_rfl
          case hf15a => kernel_rfl
          case hr15a => kernel_rfl
          case hQ15a => exact fun _ _ _ h => h
          case hy15a =>
            exact Or.inr ⟨rfl, rfl⟩
          case hS15a => assumption
          try simp only [Act.put, List.setIfInBounds_toArray, List.set_cons_zero, List.set_cons_succ]
          refine wpAnyH_take (i := 16) (oi := ?oi16a) (v := undef) ?hi16a ?hs16a ?hf16a ?hr16a ?hQ16a ?hy16a ?hS16a ?h16a
          case hi16a => exact (by simp only [List.getElem?_toArray, List.getElem?_cons_succ, List.getElem?_cons_zero]; rfl)
          case hs16a => kernel_rfl
          case hf16a => kernel_rfl
          case hr16a => kernel_rfl
          case hQ16a => exact fun _ _ _ h => h
          case hy16a =>
            exact Or.inr ⟨rfl, rfl⟩
          case hS16a => assumption
          try simp only [Act.put, List.setIfInBounds_toArray, List.set_cons_zero, List.set_cons_succ]
          refine wpAnyH_take (i := 17) (oi := ?oi17a) (v := (.bool true)) ?hi17a ?hs17a ?hf17a ?hr17a ?hQ17a ?hy17a ?hS17a ?h17a
          case hi17a => exact (by simp only [List.getElem?_toArray, List.getElem?_cons_succ, List.getElem?_cons_zero]; rfl)
          case hs17a => kernel_rfl
          case hf17a => kernel_rfl
          case hr17a => kernel_rfl
          case hQ17a => exact fun _ _ _ h => h
          case hy17a =>
            refine Or.inl ⟨rfl, ?_⟩
            intro W hSw
            obtain ⟨y5, y0, y1, y2, y3, y4⟩ := hSw
            have z1 := HIN.out
            go_simp
            try with_reducible rfl
          case hS17a => assumption
          try simp only [Act.put, List.setIfInBounds_toArray, List.set_cons_zero, List.set_cons_succ]
          refine wpAnyH_done (by kernel_rfl) ?_ _
          go_wp2
          exact bodyPost_ret (v := .tuple #[.slice none 0 0, .slice none 0 0, .bool false]) (by simp [results, Try.results18, go_sem]) rfl (HNONE.out _ HON.out (HB0.out.trans ((HV.out.2.trans (HDa.out.mono HV.out.2.size)).mono HB0.out.size)))
        · by_cases ht2 : m.k < (tn : Int)
          · have HT1 : Hid (¬ tn < 1 ∧ m.k < (tn : Int)) := ⟨ht1, ht2⟩
            have HON : Hid (o = none) := by
              simp only [Hid]
              cases h : o with
              | none => rfl
              | some r =>
                have h2 := (part_small (k := m.k) (l := es) (by rw [← HO.out, h]; rfl)).2 e HME.out
                rw [HEN.out] at h2
                omega
            go_upto_region 6 with (fail)
            have HDb : Hid (Below wr.heap.size wr wr.drew) := HBS.out.drew
            refine wp_region_held_drew (S := fun W : World => W.cell? ⟨b1, o1 + i * 5 + 2, none⟩ = some (.slice P tn cp) ∧ W.cell? ⟨w.heap.size, 0, none⟩ = some (.int .i64 m.k) ∧ W.cell? ⟨w.heap.size, 1, none⟩ = some (.int .i64 m.b) ∧ W.cell? ⟨w.heap.size, 2, none⟩ = some (.int .i64 m.s) ∧ W.cell? ⟨w.heap.size, 3, none⟩ = some (.int .i64 m.c) ∧ W.cell? ⟨w.heap.size, 4, none⟩ = some (.int .i64 m.e)) (by kernel_rfl) (HCF.out _ HDb.out) (fun hHeld => ?_)
            obtain ⟨Wb0, hW0⟩ : ∃ W0, W0 = wr.drew := ⟨_, rfl⟩
            rw [← hW0] at hHeld HDb ⊢
            clear hW0
            refine wpAnyH_take (i := 0) (oi := ?oi0b) (v := ?v0b) ?hi0b ?hs0b ?hf0b ?hr0b ?hQ0b ?hy0b ?hS0b ?h0b
            case hi0b => exact (by simp only [List.getElem?_toArray, List.getElem?_cons_zero]; rfl)
            case hs0b => kernel_rfl
            case hf0b => kernel_rfl
            case hr0b => kernel_rfl
            case hQ0b => exact fun _ _ _ h => h
            case hy0b =>
              refine Or.inl ⟨rfl, ?_⟩
              intro W hSw
              obtain ⟨y5, y0, y1, y2, y3, y4⟩ := hSw
              have z1 := HIN.out
              go_simp
              try with_reducible rfl
            case hS0b => assumption
            try simp only [Act.put, List.setIfInBounds_toArray, List.set_cons_zero, List.set_cons_succ]
            refine wpAnyH_take (i := 1) (oi := ?oi1b) (v := ?v1b) ?hi1b ?hs1b ?hf1b ?hr1b ?hQ1b ?hy1b ?hS1b ?h1b
            case hi1b => exact (by simp only [List.getElem?_toArray, List.getElem?_cons_succ, List.getElem?_cons_zero]; rfl)
            case hs1b => kernel_rfl
            case hf1b => kernel_rfl
            case hr1b => kernel_rfl
            case hQ1b => exact fun _ _ _ h => h
            case hy1b =>
              refine Or.inl ⟨rfl, ?_⟩
              intro W hSw
              obtain ⟨y5, y0, y1, y2, y3, y4⟩ := hSw
              have z1 := HIN.out
              go_simp
              try with_reducible rfl
            case hS1b => assumption
            try simp only [Act.put, List.setIfInBounds_toArray, List.set_cons_zero, List.set_cons_succ]
            refine wpAnyH_take (i := 2) (oi := ?oi2b) (v := ?v2b) ?hi2b ?hs2b ?hf2b ?hr2b ?hQ2b ?hy2b ?hS2b ?h2b
            case hi2b => exact (by simp only [List.getElem?_toArray, List.getElem?_cons_succ, List.getElem?_cons_zero]; rfl)
            case hs2b => kernel_rfl
            case hf2b => kernel_rfl
            case hr2b => kernel_rfl
            case hQ2b => exact fun _ _ _ h => h
            case hy2b =>
              refine Or.inl ⟨rfl, ?_⟩
              intro W hSw
              obtain ⟨y5, y0, y1, y2, y3, y4⟩ := hSw
              have z1 := HIN.out
              go_simp
              try with_reducible rfl
            case hS2b => assumption
            try simp only [Act.put, List.setIfInBounds_toArray, List.set_cons_zero, List.set_cons_succ]
            refine wpAnyH_take (i := 3) (oi := ?oi3b) (v := ?v3b) ?hi3b ?hs3b ?hf3b ?hr3b ?hQ3b ?hy3b ?hS3b ?h3b
            case hi3b => exact (by simp only [List.getElem?_toArray, List.getElem?_cons_succ, List.getElem?_cons_zero]; rfl)
            case hs3b => kernel_rfl
            case hf3b => kernel_rfl
            case hr3b => kernel_rfl
            case hQ3b => exact fun _ _ _ h => h
            case hy3b =>
              refine Or.inl ⟨rfl, ?_⟩
              intro W hSw
              obtain ⟨y5, y0, y1, y2, y3, y4⟩ := hSw
              have z1 := HIN.out
              go_simp
              try with_reducible rfl
            case hS3b => assumption
            try simp only [Act.put, List.setIfInBounds_toArray, List.set_cons_zero, List.set_cons_succ]
            refine wpAnyH_take (i := 4) (oi := ?oi4b) (v := ?v4b) ?hi4b ?hs4b ?hf4b ?hr4b ?hQ4b ?hy4b ?hS4b ?h4b
            case hi4b => exact (by simp only [List.getElem?_toArray, List.getElem?_cons_succ, List.getElem?_cons_zero]; rfl)
            case hs4b => kernel_rfl
            case hf4b => kernel_rfl
            case hr4b => kernel_rfl
            case hQ4b => exact fun _ _ _ h => h
            case hy4b =>
              refine Or.inl ⟨rfl, ?_⟩
              intro W hSw
              obtain ⟨y5, y0, y1, y2, y3, y4⟩ := hSw
              have z1 := HIN.out
              go_simp
              try with_reducible rfl
            case hS4b => assumption
            try simp only [Act.put, List.setIfInBounds_toArray, List.set_cons_zero, List.set_cons_succ]
            refine wpAnyH_take (i := 5) (oi := ?oi5b) (v := ?v5b) ?hi5b ?hs5b ?hf5b ?hr5b ?hQ5b ?hy5b ?hS5b ?h5b
            case hi5b => exact (by simp only [List.getElem?_toArray, List.getElem?_cons_succ, List.getElem?_cons_zero]; rfl)
            case hs5b => kernel_rfl
            case hf5b => kernel_rfl
            case hr5b => kernel_rfl
            case hQ5b => exact fun _ _ _ h => h
            case hy5b =>
              refine Or.inl ⟨rfl, ?_⟩
              intro W hSw
              obtain ⟨y5, y0, y1, y2, y3, y4⟩ := hSw
              have z1 := HIN.out
              go_simp
              try with_reducible rfl
            case hS5b => assumption
            try simp only [Act.put, List.setIfInBounds_toArray, List.set_cons_zero, List.set_cons_succ]
            refine wpAnyH_take (i := 6) (oi := ?oi6b) (v := (.bool false)) ?hi6b ?hs6b ?hf6b ?hr6b ?hQ6b ?hy6b ?hS6b ?h6b
            case hi6b => exact (by simp only [List.getElem?_toArray, List.getElem?_cons_succ, List.getElem?_cons_zero]; rfl)
            case hs6b => kernel_rfl
            case hf6b => kernel_rfl
            case hr6b => kernel_rfl
            case hQ6b => exact fun _ _ _ h => h
            case hy6b =>
              refine Or.inl ⟨rfl, ?_⟩
              intro W hSw
              obtain ⟨y5, y0, y1, y2, y3, y4⟩ := hSw
              have z1 := HIN.out
              have z2 := HT1.out.1
              go_simp
              all_goals first | with_reducible rfl | (simp; done) | (simp; omega) | omega
            case hS6b => assumption
            try simp only [Act.put, List.setIfInBounds_toArray, List.set_cons_zero, List.set_cons_succ]
            refine wpAnyH_take (i := 7) (oi := ?oi7b) (v := ?v7b) ?hi7b ?hs7b ?hf7b ?hr7b ?hQ7b ?hy7b ?hS7b ?h7b
            case hi7b => exact (by simp only [List.getElem?_toArray, List.getElem?_cons_succ, List.getElem?_cons_zero]; rfl)
            case hs7b => kernel_rfl
            case hf7b => kernel_rfl
            case hr7b => kernel_rfl
            case hQ7b => exact fun _ _ _ h => h
            case hy7b =>
              refine Or.inl ⟨rfl, ?_⟩
              intro W hSw
              obtain ⟨y5, y0, y1, y2, y3, y4⟩ := hSw
              have z1 := HIN.out
              go_simp
              try with_reducible rfl
            case hS7b => assumption
            try simp only [Act.put, List.setIfInBounds_toArray, List.set_cons_zero, List.set_cons_succ]
            refine wpAnyH_take (i := 8) (oi := ?oi8b) (v := ?v8b) ?hi8b ?hs8b ?hf8b ?hr8b ?hQ8b ?hy8b ?hS8b ?h8b
            case hi8b => exact (by simp only [List.getElem?_toArray, List.getElem?_cons_succ, List.getElem?_cons_zero]; rfl)
            case hs8b => kernel_rfl
            case hf8b => kernel_rfl
            case hr8b => kernel_rfl
            case hQ8b => exact fun _ _ _ h => h
            case hy8b =>
              refine Or.inl ⟨rfl, ?_⟩
              intro W hSw
              obtain ⟨y5, y0, y1, y2, y3, y4⟩ := hSw
              have z1 := HIN.out
              go_simp
              try with_reducible rfl
            case hS8b => assumption
            try simp only [Act.put, List.setIfInBounds_toArray, List.set_cons_zero, List.set_cons_succ]
            refine wpAnyH_take (i := 9) (oi := ?oi9b) (v := ?v9b) ?hi9b ?hs9b ?hf9b ?hr9b ?hQ9b ?hy9b ?hS9b ?h9b
            case hi9b => exact (by simp only [List.getElem?_toArray, List.getElem?_cons_succ, List.getElem?_cons_zero]; rfl)
            case hs9b => kernel_rfl
            case hf9b => kernel_rfl
            case hr9b => kernel_rfl
            case hQ9b => exact fun _ _ _ h => h
            case hy9b =>
              refine Or.inl ⟨rfl, ?_⟩
              intro W hSw
              obtain ⟨y5, y0, y1, y2, y3, y4⟩ := hSw
              have z1 := HIN.out
              go_simp
              try with_reducible rfl
            case hS9b => assumption
            try simp only [Act.put, List.setIfInBounds_toArray, List.set_cons_zero, List.set_cons_succ]
            refine wpAnyH_take (i := 10) (oi := ?oi10b) (v := ?v10b) ?hi10b ?hs10b ?hf10b ?hr10b ?hQ10b ?hy10b ?hS10b ?h10b
            case hi10b => exact (by simp only [List.getElem?_toArray, List.getElem?_cons_succ, List.getElem?_cons_zero]; rfl)
            case hs10b => kernel_rfl
            case hf10b => kernel_rfl
            case hr10b => kernel_rfl
            case hQ10b => exact fun _ _ _ h => h
            case hy10b =>
              refine Or.inl ⟨rfl, ?_⟩
              intro W hSw
              obtain ⟨y5, y0, y1, y2, y3, y4⟩ := hSw
              have z1 := HIN.out
              go_simp
              try with_reducible rfl
            case hS10b => assumption
            try simp only [Act.put, List.setIfInBounds_toArray, List.set_cons_zero, List.set_cons_succ]
            refine wpAnyH_take (i := 11) (oi := ?oi11b) (v := ?v11b) ?hi11b ?hs11b ?hf11b ?hr11b ?hQ11b ?hy11b ?hS11b ?h11b
            case hi11b => exact (by simp only [List.getElem?_toArray, List.getElem?_cons_succ, List.getElem?_cons_zero]; rfl)
            case hs11b => kernel_rfl
            case hf11b => kernel_rfl
            case hr11b => kernel_rfl
            case hQ11b => exact fun _ _ _ h => h
            case hy11b =>
              refine Or.inl ⟨rfl, ?_⟩
              intro W hSw
              obtain ⟨y5, y0, y1, y2, y3, y4⟩ := hSw
              have z1 := HIN.out
              go_simp
              try with_reducible rfl
            case hS11b => assumption
            try simp only [Act.put, List.setIfInBounds_toArray, List.set_cons_zero, List.set_cons_succ]
            refine wpAnyH_take (i := 12) (oi := ?oi12b) (v := ?v12b) ?hi12b ?hs12b ?hf12b ?hr12b ?hQ12b ?hy12b ?hS12b ?h12b
            case hi12b => exact (by simp only [List.getElem?_toArray, List.getElem?_cons_succ, List.getElem?_cons_zero]; rfl)
            case hs12b => kernel_rfl
            case hf12b => kernel_rfl
            case hr12b => kernel_rfl
            case hQ12b => exact fun _ _ _ h => h
            case hy12b =>
              refine Or.inl ⟨rfl, ?_⟩
              intro W hSw
              obtain ⟨y5, y0, y1, y2, y3, y4⟩ := hSw
              have z1 := HIN.out
              go_simp
              try with_reducible rfl
            case hS12b => assumption
            try simp only [Act.put, List.setIfInBounds_toArray, List.set_cons_zero, List.set_cons_succ]
            refine wpAnyH_take (i := 13) (oi := ?oi13b) (v := ?v13b) ?hi13b ?hs13b ?hf13b ?hr13b ?hQ13b ?hy13b ?hS13b ?h13b
            case hi13b => exact (by simp only [List.getElem?_toArray, List.getElem?_cons_succ, List.getElem?_cons_zero]; rfl)
            case hs13b => kernel_rfl
            case hf13b => kernel_rfl
            case hr13b => kernel_rfl
            case hQ13b => exact fun _ _ _ h => h
            case hy13b =>
              refine Or.inl ⟨rfl, ?_⟩
              intro W hSw
              obtain ⟨y5, y0, y1, y2, y3, y4⟩ := hSw
              have z1 := HIN.out
              go_simp
              try with_reducible rfl
            case hS13b => assumption
            try simp only [Act.put, List.setIfInBounds_toArray, List.set_cons_zero, List.set_cons_succ]
            refine wpAnyH_take (i := 14) (oi := ?oi14b) (v := ?v14b) ?hi14b ?hs14b ?hf14b ?hr14b ?hQ14b ?hy14b ?hS14b ?h14b
            case hi14b => exact (by simp only [List.getElem?_toArray, List.getElem?_cons_succ, List.getElem?_cons_zero]; rfl)
            case hs14b => kernel_rfl
            case hf14b => kernel_rfl
            case hr14b => kernel_rfl
            case hQ14b => exact fun _ _ _ h => h
            case hy14b =>
              refine Or.inl ⟨rfl, ?_⟩
              intro W hSw
              obtain ⟨y5, y0, y1, y2, y3, y4⟩ := hSw
              have z1 := HIN.out
              go_simp
              try with_reducible rfl
            case hS14b => assumption
            try simp only [Act.put, List.setIfInBounds_toArray, List.set_cons_zero, List.set_cons_succ]
            refine wpAnyH_take (i := 15) (oi := ?oi15b) (v := ?v15b) ?hi15b ?hs15b ?hf15b ?hr15b ?hQ15b ?hy15b ?hS15b ?h15b
            case hi15b => exact (by simp only [List.getElem?_toArray, List.getElem?_cons_succ, List.getElem?_cons_zero]; rfl)
            case hs15b => kernel_rfl
            case hf15b => kernel_rfl
            case hr15b => kernel_rfl
            case hQ15b => exact fun _ _ _ h => h
            case hy15b =>
              refine Or.inl ⟨rfl, ?_⟩
              intro W hSw
              obtain ⟨y5, y0, y1, y2, y3, y4⟩ := hSw
              have z1 := HIN.out
              go_simp
              try with_reducible rfl
            case hS15b => assumption
            try simp only [Act.put, List.setIfInBounds_toArray, List.set_cons_zero, List.set_cons_succ]
            refine wpAnyH_take (i := 16) (oi := ?oi16b) (v := (.bool true)) ?hi16b ?hs16b ?hf16b ?hr16b ?hQ16b ?hy16b ?hS16b ?h16b
            case hi16b => exact (by simp only [List.getElem?_toArray, List.getElem?_cons_succ, List.getElem?_cons_zero]; rfl)
            case hs16b => kernel_rfl
            case hf16b => kernel_rfl
            case hr16b => kernel_rfl
            case hQ16b => exact fun _ _ _ h => h
            case hy16b =>
              refine Or.inl ⟨rfl, ?_⟩
              intro W hSw
              obtain ⟨y5, y0, y1, y2, y3, y4⟩ := hSw
              have z1 := HIN.out
              have z2 := HT1.out.2
              go_simp
              all_goals first | with_reducible rfl | (simp; done) | (simp; omega) | omega
            case hS16b => assumption
            try simp only [Act.put, List.setIfInBounds_toArray, List.set_cons_zero, List.set_cons_succ]
            refine wpAnyH_take (i := 17) (oi := ?oi17b) (v := (.bool true)) ?hi17b ?hs17b ?hf17b ?hr17b ?hQ17b ?hy17b ?hS17b ?h17b
            case hi17b => exact (by simp only [List.getElem?_toArray, List.getElem?_cons_succ, List.getElem?_cons_zero]; rfl)
            case hs17b => kernel_rfl
            case hf17b => kernel_rfl
            case hr17b => kernel_rfl
            case hQ17b => exact fun _ _ _ h => h
            case hy17b =>
              refine Or.inl ⟨rfl, ?_⟩
              intro W hSw
              obtain ⟨y5, y0, y1, y2, y3, y4⟩ := hSw
              have z1 := HIN.out
              go_simp
              try with_reducible rfl
            case hS17b => assumption
            try simp only [Act.put, List.setIfInBounds_toArray, List.set_cons_zero, List.set_cons_succ]
            refine wpAnyH_done (by kernel_rfl) ?_ _
            go_wp2
            exact bodyPost_ret (v := .tuple #[.slice none 0 0, .slice none 0 0, .bool false]) (by simp [results, Try.results18, go_sem]) rfl (HNONE.out _ HON.out (HB0.out.trans ((HV.out.2.trans (HDb.out.mono HV.out.2.size)).mono HB0.out.size)))
          · have HT1 : Hid (¬ tn < 1 ∧ ¬ m.k < (tn : Int)) := ⟨ht1, ht2⟩
            go_upto_region 6 with (fail)
            have HDc : Hid (Below wr.heap.size wr wr.drew) := HBS.out.drew
            refine wp_region_held_drew (S := fun W : World => W.cell? ⟨b1, o1 + i * 5 + 2, none⟩ = some (.slice P tn cp) ∧ W.cell? ⟨w.heap.size, 0, none⟩ = some (.int .i64 m.k) ∧ W.cell? ⟨w.heap.size, 1, none⟩ = some (.int .i64 m.b) ∧ W.cell? ⟨w.heap.size, 2, none⟩ = some (.int .i64 m.s) ∧ W.cell? ⟨w.heap.size, 3, none⟩ = some (.int .i64 m.c) ∧ W.cell? ⟨w.heap.size, 4, none⟩ = some (.int .i64 m.e)) (by kernel_rfl) (HCF.out _ HDc.out) (fun hHeld => ?_)
            obtain ⟨Wc0, hW0⟩ : ∃ W0, W0 = wr.drew := ⟨_, rfl⟩
            rw [← hW0] at hHeld HDc ⊢
            clear hW0
            refine wpAnyH_take (i := 0) (oi := ?oi0c) (v := ?v0c) ?hi0c ?hs0c ?hf0c ?hr0c ?hQ0c ?hy0c ?hS0c ?h0c
            case hi0c => exact (by simp only [List.getElem?_toArray, List.getElem?_cons_zero]; rfl)
            case hs0c => kernel_rfl
            case hf0c => kernel_rfl
            case hr0c => kernel_rfl
            case hQ0c => exact fun _ _ _ h => h
            case hy0c =>
              refine Or.inl ⟨rfl, ?_⟩
              intro W hSw
              obtain ⟨y5, y0, y1, y2, y3, y4⟩ := hSw
              have z1 := HIN.out
              go_simp
              try with_reducible rfl
            case hS0c => assumption
            try simp only [Act.put, List.setIfInBounds_toArray, List.set_cons_zero, List.set_cons_succ]
            refine wpAnyH_take (i := 1) (oi := ?oi1c) (v := ?v1c) ?hi1c ?hs1c ?hf1c ?hr1c ?hQ1c ?hy1c ?hS1c ?h1c
            case hi1c => exact (by simp only [List.getElem?_toArray, List.getElem?_cons_succ, List.getElem?_cons_zero]; rfl)
            case hs1c => kernel_rfl
            case hf1c => kernel_rfl
            case hr1c => kernel_rfl
            case hQ1c => exact fun _ _ _ h => h
            case hy1c =>
              refine Or.inl ⟨rfl, ?_⟩
              intro W hSw
              obtain ⟨y5, y0, y1, y2, y3, y4⟩ := hSw
              have z1 := HIN.out
              go_simp
              try with_reducible rfl
            case hS1c => assumption
            try simp only [Act.put, List.setIfInBounds_toArray, List.set_cons_zero, List.set_cons_succ]
            refine wpAnyH_take (i := 2) (oi := ?oi2c) (v := ?v2c) ?hi2c ?hs2c ?hf2c ?hr2c ?hQ2c ?hy2c ?hS2c ?h2c
            case hi2c => exact (by simp only [List.getElem?_toArray, List.getElem?_cons_succ, List.getElem?_cons_zero]; rfl)
            case hs2c => kernel_rfl
            case hf2c => kernel_rfl
            case hr2c => kernel_rfl
            case hQ2c => exact fun _ _ _ h => h
            case hy2c =>
              refine Or.inl ⟨rfl, ?_⟩
              intro W hSw
              obtain ⟨y5, y0, y1, y2, y3, y4⟩ := hSw
              have z1 := HIN.out
              go_simp
              try with_reducible rfl
            case hS2c => assumption
            try simp only [Act.put, List.setIfInBounds_toArray, List.set_cons_zero, List.set_cons_succ]
            refine wpAnyH_take (i := 3) (oi := ?oi3c) (v := ?v3c) ?hi3c ?hs3c ?hf3c ?hr3c ?hQ3c ?hy3c ?hS3c ?h3c
            case hi3c => exact (by simp only [List.getElem?_toArray, List.getElem?_cons_succ, List.getElem?_cons_zero]; rfl)
            case hs3c => kernel_rfl
            case hf3c => kernel_rfl
            case hr3c => kernel_rfl
            case hQ3c => exact fun _ _ _ h => h
            case hy3c =>
              refine Or.inl ⟨rfl, ?_⟩
              intro W hSw
              obtain ⟨y5, y0, y1, y2, y3, y4⟩ := hSw
              have z1 := HIN.out
              go_simp
              try with_reducible rfl
            case hS3c => assumption
            try simp only [Act.put, List.setIfInBounds_toArray, List.set_cons_zero, List.set_cons_succ]
            refine wpAnyH_take (i := 4) (oi := ?oi4c) (v := ?v4c) ?hi4c ?hs4c ?hf4c ?hr4c ?hQ4c ?hy4c ?hS4c ?h4c
            case hi4c => exact (by simp only [List.getElem?_toArray, List.getElem?_cons_succ, List.getElem?_cons_zero]; rfl)
            case hs4c => kernel_rfl
            case hf4c => kernel_rfl
            case hr4c => kernel_rfl
            case hQ4c => exact fun _ _ _ h => h
            case hy4c =>
              refine Or.inl ⟨rfl, ?_⟩
              intro W hSw
              obtain ⟨y5, y0, y1, y2, y3, y4⟩ := hSw
              have z1 := HIN.out
              go_simp
              try with_reducible rfl
            case hS4c => assumption
            try simp only [Act.put, List.setIfInBounds_toArray, List.set_cons_zero, List.set_cons_succ]
            refine wpAnyH_take (i := 5) (oi := ?oi5c) (v := ?v5c) ?hi5c ?hs5c ?hf5c ?hr5c ?hQ5c ?hy5c ?hS5c ?h5c
            case hi5c => exact (by simp only [List.getElem?_toArray, List.getElem?_cons_succ, List.getElem?_cons_zero]; rfl)
            case hs5c => kernel_rfl
            case hf5c => kernel_rfl
            case hr5c => kernel_rfl
            case hQ5c => exact fun _ _ _ h => h
            case hy5c =>
              refine Or.inl ⟨rfl, ?_⟩
              intro W hSw
              obtain ⟨y5, y0, y1, y2, y3, y4⟩ := hSw
              have z1 := HIN.out
              go_simp
              try with_reducible rfl
            case hS5c => assumption
            try simp only [Act.put, List.setIfInBounds_toArray, List.set_cons_zero, List.set_cons_succ]
            refine wpAnyH_take (i := 6) (oi := ?oi6c) (v := (.bool false)) ?hi6c ?hs6c ?hf6c ?hr6c ?hQ6c ?hy6c ?hS6c ?h6c
            case hi6c => exact (by simp only [List.getElem?_toArray, List.getElem?_cons_succ, List.getElem?_cons_zero]; rfl)
            case hs6c => kernel_rfl
            case hf6c => kernel_rfl
            case hr6c => kernel_rfl
            case hQ6c => exact fun _ _ _ h => h
            case hy6c =>
              refine Or.inl ⟨rfl, ?_⟩
              intro W hSw
              obtain ⟨y5, y0, y1, y2, y3, y4⟩ := hSw
              have z1 := HIN.out
              have z2 := HT1.out.1
              go_simp
              all_goals first | with_reducible rfl | (simp; done) | (simp; omega) | omega
            case hS6c => assumption
            try simp only [Act.put, List.setIfInBounds_toArray, List.set_cons_zero, List.set_cons_succ]
            refine wpAnyH_take (i := 7) (oi := ?oi7c) (v := ?v7c) ?hi7c ?hs7c ?hf7c ?hr7c ?hQ7c ?hy7c ?hS7c ?h7c
            case hi7c => exact (by simp only [List.getElem?_toArray, List.getElem?_cons_succ, List.getElem?_cons_zero]; rfl)
            case hs7c => kernel_rfl
            case hf7c => kernel_rfl
            case hr7c => kernel_rfl
            case hQ7c => exact fun _ _ _ h => h
            case hy7c =>
              refine Or.inl ⟨rfl, ?_⟩
              intro W hSw
              obtain ⟨y5, y0, y1, y2, y3, y4⟩ := hSw
              have z1 := HIN.out
              go_simp
              try with_reducible rfl
            case hS7c => assumption
            try simp only [Act.put, List.setIfInBounds_toArray, List.set_cons_zero, List.set_cons_succ]
            refine wpAnyH_take (i := 8) (oi := ?oi8c) (v := ?v8c) ?hi8c ?hs8c ?hf8c ?hr8c ?hQ8c ?hy8c ?hS8c ?h8c
            case hi8c => exact (by simp only [List.getElem?_toArray, List.getElem?_cons_succ, List.getElem?_cons_zero]; rfl)
            case hs8c => kernel_rfl
            case hf8c => kernel_rfl
            case hr8c => kernel_rfl
            case hQ8c => exact fun _ _ _ h => h
            case hy8c =>
              refine Or.inl ⟨rfl, ?_⟩
              intro W hSw
              obtain ⟨y5, y0, y1, y2, y3, y4⟩ := hSw
              have z1 := HIN.out
              go_simp
              try with_reducible rfl
            case hS8c => assumption
            try simp only [Act.put, List.setIfInBounds_toArray, List.set_cons_zero, List.set_cons_succ]
            refine wpAnyH_take (i := 9) (oi := ?oi9c) (v := ?v9c) ?hi9c ?hs9c ?hf9c ?hr9c ?hQ9c ?hy9c ?hS9c ?h9c
            case hi9c => exact (by simp only [List.getElem?_toArray, List.getElem?_cons_succ, List.getElem?_cons_zero]; rfl)
            case hs9c => kernel_rfl
            case hf9c => kernel_rfl
            case hr9c => kernel_rfl
            case hQ9c => exact fun _ _ _ h => h
            case hy9c =>
              refine Or.inl ⟨rfl, ?_⟩
              intro W hSw
              obtain ⟨y5, y0, y1, y2, y3, y4⟩ := hSw
              have z1 := HIN.out
              go_simp
              try with_reducible rfl
            case hS9c => assumption
            try simp only [Act.put, List.setIfInBounds_toArray, List.set_cons_zero, List.set_cons_succ]
            refine wpAnyH_take (i := 10) (oi := ?oi10c) (v := ?v10c) ?hi10c ?hs10c ?hf10c ?hr10c ?hQ10c ?hy10c ?hS10c ?h10c
            case hi10c => exact (by simp only [List.getElem?_toArray, List.getElem?_cons_succ, List.getElem?_cons_zero]; rfl)
            case hs10c => kernel_rfl
            case hf10c => kernel_rfl
            case hr10c => kernel_rfl
            case hQ10c => exact fun _ _ _ h => h
            case hy10c =>
              refine Or.inl ⟨rfl, ?_⟩
              intro W hSw
              obtain ⟨y5, y0, y1, y2, y3, y4⟩ := hSw
              have z1 := HIN.out
              go_simp
              try with_reducible rfl
            case hS10c => assumption
            try simp only [Act.put, List.setIfInBounds_toArray, List.set_cons_zero, List.set_cons_succ]
            refine wpAnyH_take (i := 11) (oi := ?oi11c) (v := ?v11c) ?hi11c ?hs11c ?hf11c ?hr11c ?hQ11c ?hy11c ?hS11c ?h11c
            case hi11c => exact (by simp only [List.getElem?_toArray, List.getElem?_cons_succ, List.getElem?_cons_zero]; rfl)
            case hs11c => kernel_rfl
            case hf11c => kernel_rfl
            case hr11c => kernel_rfl
            case hQ11c => exact fun _ _ _ h => h
            case hy11c =>
              refine Or.inl ⟨rfl, ?_⟩
              intro W hSw
              obtain ⟨y5, y0, y1, y2, y3, y4⟩ := hSw
              have z1 := HIN.out
              go_simp
              try with_reducible rfl
            case hS11c => assumption
            try simp only [Act.put, List.setIfInBounds_toArray, List.set_cons_zero, List.set_cons_succ]
            refine wpAnyH_take (i := 12) (oi := ?oi12c) (v := ?v12c) ?hi12c ?hs12c ?hf12c ?hr12c ?hQ12c ?hy12c ?hS12c ?h12c
            case hi12c => exact (by simp only [List.getElem?_toArray, List.getElem?_cons_succ, List.getElem?_cons_zero]; rfl)
            case hs12c => kernel_rfl
            case hf12c => kernel_rfl
            case hr12c => kernel_rfl
            case hQ12c => exact fun _ _ _ h => h
            case hy12c =>
              refine Or.inl ⟨rfl, ?_⟩
              intro W hSw
              obtain ⟨y5, y0, y1, y2, y3, y4⟩ := hSw
              have z1 := HIN.out
              go_simp
              try with_reducible rfl
            case hS12c => assumption
            try simp only [Act.put, List.setIfInBounds_toArray, List.set_cons_zero, List.set_cons_succ]
            refine wpAnyH_take (i := 13) (oi := ?oi13c) (v := ?v13c) ?hi13c ?hs13c ?hf13c ?hr13c ?hQ13c ?hy13c ?hS13c ?h13c
            case hi13c => exact (by simp only [List.getElem?_toArray, List.getElem?_cons_succ, List.getElem?_cons_zero]; rfl)
            case hs13c => kernel_rfl
            case hf13c => kernel_rfl
            case hr13c => kernel_rfl
            case hQ13c => exact fun _ _ _ h => h
            case hy13c =>
              refine Or.inl ⟨rfl, ?_⟩
              intro W hSw
              obtain ⟨y5, y0, y1, y2, y3, y4⟩ := hSw
              have z1 := HIN.out
              go_simp
              try with_reducible rfl
            case hS13c => assumption
            try simp only [Act.put, List.setIfInBounds_toArray, List.set_cons_zero, List.set_cons_succ]
            refine wpAnyH_take (i := 14) (oi := ?oi14c) (v := ?v14c) ?hi14c ?hs14c ?hf14c ?hr14c ?hQ14c ?hy14c ?hS14c ?h14c
            case hi14c => exact (by simp only [List.getElem?_toArray, List.getElem?_cons_succ, List.getElem?_cons_zero]; rfl)
            case hs14c => kernel_rfl
            case hf14c => kernel_rfl
            case hr14c => kernel_rfl
            case hQ14c => exact fun _ _ _ h => h
            case hy14c =>
              refine Or.inl ⟨rfl, ?_⟩
              intro W hSw
              obtain ⟨y5, y0, y1, y2, y3, y4⟩ := hSw
              have z1 := HIN.out
              go_simp
              try with_reducible rfl
            case hS14c => assumption
            try simp only [Act.put, List.setIfInBounds_toArray, List.set_cons_zero, List.set_cons_succ]
            refine wpAnyH_take (i := 15) (oi := ?oi15c) (v := ?v15c) ?hi15c ?hs15c ?hf15c ?hr15c ?hQ15c ?hy15c ?hS15c ?h15c
            case hi15c => exact (by simp only [List.getElem?_toArray, List.getElem?_cons_succ, List.getElem?_cons_zero]; rfl)
            case hs15c => kernel_rfl
            case hf15c => kernel_rfl
            case hr15c => kernel_rfl
            case hQ15c => exact fun _ _ _ h => h
            case hy15c =>
              refine Or.inl ⟨rfl, ?_⟩
              intro W hSw
              obtain ⟨y5, y0, y1, y2, y3, y4⟩ := hSw
              have z1 := HIN.out
              go_simp
              try with_reducible rfl
            case hS15c => assumption
            try simp only [Act.put, List.setIfInBounds_toArray, List.set_cons_zero, List.set_cons_succ]
            refine wpAnyH_take (i := 16) (oi := ?oi16c) (v := (.bool false)) ?hi16c ?hs16c ?hf16c ?hr16c ?hQ16c ?hy16c ?hS16c ?h16c
            case hi16c => exact (by simp only [List.getElem?_toArray, List.getElem?_cons_succ, List.getElem?_cons_zero]; rfl)
            case hs16c => kernel_rfl
            case hf16c => kernel_rfl
            case hr16c => kernel_rfl
            case hQ16c => exact fun _ _ _ h => h
            case hy16c =>
              refine Or.inl ⟨rfl, ?_⟩
              intro W hSw
              obtain ⟨y5, y0, y1, y2, y3, y4⟩ := hSw
              have z1 := HIN.out
              have z2 := HT1.out.2
              go_simp
              all_goals first | with_reducible rfl | (simp; done) | (simp; omega) | omega
            case hS16c => assumption
            try simp only [Act.put, List.setIfInBounds_toArray, List.set_cons_zero, List.set_cons_succ]
            refine wpAnyH_take (i := 17) (oi := ?oi17c) (v := (.bool false)) ?hi17c ?hs17c ?hf17c ?hr17c ?hQ17c ?hy17c ?hS17c ?h17c
            case hi17c => exact (by simp only [List.getElem?_toArray, List.getElem?_cons_succ, List.getElem?_cons_zero]; rfl)
            case hs17c => kernel_rfl
            case hf17c => kernel_rfl
            case hr17c => kernel_rfl
            case hQ17c => exact fun _ _ _ h => h
            case hy17c =>
              refine Or.inl ⟨rfl, ?_⟩
              intro W hSw
              obtain ⟨y5, y0, y1, y2, y3, y4⟩ := hSw
              have z1 := HIN.out
              go_simp
              try with_reducible rfl
            case hS17c => assumption
            try simp only [Act.put, List.setIfInBounds_toArray, List.set_cons_zero, List.set_cons_succ]
            refine wpAnyH_done (by kernel_rfl) ?_ _
            go_wp2
            go_roundw
            case rel => exact ⟨i + 1, by omega, by go_num, fun x hx => by
              rw [HTK.out] at hx
              rcases List.mem_append.1 hx with h | h
              · exact HV.out.1 x h
              · simp at h
                subst h
                rw [HEN.out]
                omega, HV.out.2.trans (HDc.out.mono HV.out.2.size)⟩
            case measure => simp [intOf] <;> omega
      · have hkn : i = n := by omega
        subst hkn
        have HGE : Hid (∀ e ∈ es, 1 ≤ e.n) := by
          have h := HV.out.1
          rw [List.take_of_length_le (by rw [HEL.out]; exact Nat.le_refl _)] at h
          exact h
        have HBV := Lib.hid HV.out.2
        clear HV
        obtain ⟨wL, rfl⟩ : ∃ wL, wL = wr := ⟨wr, rfl⟩
        go_wp2_with fail
        go_loopw [8, 9, 10, 11, 12] (fun ua ub um ui u wq => ∃ (mk : Nat) (oM : Option Nat) (Aa : Option Addr) (ca : Nat) (Ab : Option Addr) (cb : Nat) (bs : Int), u = .int .i64 (mk : Int) ∧ mk ≤ 300 ∧ ua = .slice Aa (tA es oM).length ca ∧ ub = .slice Ab (tB es oM).length cb ∧ um = .int .i64 bs ∧ ui = .bool oM.isSome ∧ Hid (mk % 2 = 1 ∧ InvT m.k es mk bs oM ∧ Zs wq wq.heap.size Aa (tA es oM) ∧ Zs wq wq.heap.size Ab (tB es oM) ∧ Below wL.heap.size wL wq)) (fun _ _ _ _ u _ => 1000 - (intOf u).toNat)
        case atStart => exact ⟨1, none, none, 0, none, 0, 0, rfl, by omega, rfl, rfl, rfl, rfl, rfl, fun mk h1 h2 => by omega, Zs.nil, Zs.nil, Below.refl _ _⟩
        case round =>
          obtain ⟨mk, oM, Aa, ca, Ab, cb, bs, rfl, hmk, rfl, rfl, rfl, rfl, HJ⟩ := hrel
          by_cases hlt2 : (mk : Int) < wrap64 (2 ^ i)
          · have HLT : Hid (mk < 2 ^ es.length) := by
              have h := HWP.out.1
              rw [h] at hlt2
              simp only [Hid]
              rw [HEL.out]
              omega
            have HX := Lib.hid (HXB.out mk)
            have HXO := Lib.hid (HOF.out mk)
            have HBQ : Hid (Below w0.heap.size w0 wr) := HBV.out.trans (HJ.out.2.2.2.2.mono HBV.out.size)
            have HL3 : Hid (mk < 256) := by have := HLT.out; rw [HEL.out] at this; have := HWP.out.2; simp only [Hid]; omega
            obtain ⟨pX, hpX⟩ : ∃ pX, pX = (mX mk es).map (·.p) := ⟨_, rfl⟩
            obtain ⟨pY, hpY⟩ : ∃ pY, pY = (mY mk es).map (·.p) := ⟨_, rfl⟩
            obtain ⟨nX, hnX⟩ : ∃ nX, nX = pX.length := ⟨_, rfl⟩
            obtain ⟨nY, hnY⟩ : ∃ nY, nY = pY.length := ⟨_, rfl⟩
            obtain ⟨p1, hp1⟩ : ∃ p1, p1 = sumN (mX mk es) := ⟨_, rfl⟩
            obtain ⟨p2, hp2⟩ : ∃ p2, p2 = sumN (mY mk es) := ⟨_, rfl⟩
            obtain ⟨v1, hv1⟩ : ∃ v1, v1 = sumW (mX mk es) := ⟨_, rfl⟩
            obtain ⟨v2, hv2⟩ : ∃ v2, v2 = sumW (mY mk es) := ⟨_, rfl⟩
            have hmkn : mk < 4294967296 := by omega
            have HC1 : Hid (∀ W, Calls Try.prog 33 #[.int .i64 (mk : Int), .int .i64 (i : Int), .bool true] W fun r w' => (∃ A' c', r = .returned (.slice A' nX c') ∧ Zs w' w'.heap.size A' pX) ∧ Below W.heap.size W w') := fun W => by
              rw [hnX, hpX, ← HXO.out.1]
              exact of_any mk i true W (by omega) hmkn
            have HC2 : Hid (∀ W, Calls Try.prog 33 #[.int .i64 (mk : Int), .int .i64 (i : Int), .bool false] W fun r w' => (∃ A' c', r = .returned (.slice A' nY c') ∧ Zs w' w'.heap.size A' pY) ∧ Below W.heap.size W w') := fun W => by
              rw [hnY, hpY, ← HXO.out.2]
              exact of_any mk i false W (by omega) hmkn
            have hX8 := HX.out.1
            have hY8 := HX.out.2.1
            have hnX8 : nX ≤ 8 := by rw [hnX, hpX, List.length_map]; omega
            have hnY8 : nY ≤ 8 := by rw [hnY, hpY, List.length_map]; omega
            have HG1 : Hid (∀ W A' c', Below w0.heap.size w0 W → Zs W W.heap.size A' pX → Calls Try.prog 34 #[.slice A i c, .slice A' nX c'] W fun r w' => r = .returned (.tuple #[.int .i64 p1, .int .i64 v1]) ∧ Below W.heap.size W w') := fun W A' c' hb hz => by
              rw [hp1, hv1]
              exact weigh_any A i c l A' nX c' (mX mk es) W HN.out (HE.out.later hb (Nat.le_refl _)) (by rw [hnX, hpX, List.length_map]) (by rw [← hpX]; exact hz) (fun e h => HEM.out e (HX.out.2.2.1 e h)) (fun e h => HOK.out e (HX.out.2.2.1 e h)) (by omega) (by omega)
            have HG2 : Hid (∀ W A' c', Below w0.heap.size w0 W → Zs W W.heap.size A' pY → Calls Try.prog 34 #[.slice A i c, .slice A' nY c'] W fun r w' => r = .returned (.tuple #[.int .i64 p2, .int .i64 v2]) ∧ Below W.heap.size W w') := fun W A' c' hb hz => by
              rw [hp2, hv2]
              exact weigh_any A i c l A' nY c' (mY mk es) W HN.out (HE.out.later hb (Nat.le_refl _)) (by rw [hnY, hpY, List.length_map]) (by rw [← hpY]; exact hz) (fun e h => HEM.out e (HX.out.2.2.2 e h)) (fun e h => HOK.out e (HX.out.2.2.2 e h)) (by omega) (by omega)
            have hs1 := sum_bd (mX mk es) fun e h => HOK.out e (HX.out.2.2.1 e h)
            have hs2 := sum_bd (mY mk es) fun e h => HOK.out e (HX.out.2.2.2 e h)
            have hv1b : 0 ≤ v1 ∧ v1 ≤ 800000 := by rw [hv1]; omega
            have hv2b : 0 ≤ v2 ∧ v2 ≤ 800000 := by rw [hv2]; omega
            obtain ⟨d, hd⟩ : ∃ d, d = dist v1 v2 := ⟨_, rfl⟩
            have HDM : Hid (dM es mk = d) := by simp only [Hid]; rw [hd, hv1, hv2]; rfl
            have HDV : Hid (d = dist v1 v2) := hd
            have HPX : Hid (pX = tA es (some mk)) := hpX
            have HPY : Hid (pY = tB es (some mk)) := hpY
            have HNX := Lib.hid hnX
            have HNY := Lib.hid hnY
            have HGE2 : Hid (goodM m.k es mk ↔ p1 = m.k ∧ p2 = m.k) := by rw [hp1, hp2]; exact Iff.rfl
            obtain ⟨na, hna⟩ : ∃ na, na = (tA es oM).length := ⟨_, rfl⟩
            obtain ⟨nb, hnb⟩ : ∃ nb, nb = (tB es oM).length := ⟨_, rfl⟩
            rw [← hna, ← hnb]
            have HAB : Hid (na ≤ 8) := by
              simp only [Hid]
              rw [hna]
              cases oM with
              | none => simp [tA]
              | some m0 => unfold tA; rw [List.length_map]; have := (HXB.out m0).1; omega
            have HNA := Lib.hid hna
            have HNB := Lib.hid hnb
            clear hpX hpY hnX hnY hp1 hp2 hv1 hv2 hd hna hnb hX8 hY8 hs1 hs2 hmkn
            go_wp2_with fail
            refine (HC1.out wr).mono ?_
            rintro r w2 ⟨⟨AX, cX, rfl, hzx⟩, hb⟩
            have HB2 := Lib.hid hb
            have HZX2 := Lib.hid hzx
            clear hb hzx
            go_wp2_with fail
            refine (HC2.out w2).mono ?_
            rintro r w3 ⟨⟨AY, cY, rfl, hzy⟩, hb⟩
            have HB3 := Lib.hid (HB2.out.trans (hb.mono HB2.out.size))
            have HZX3 := Lib.hid (HZX2.out.later hb (Nat.le_refl _))
            have HZY3 := Lib.hid hzy
            clear hb hzy
            go_wp2_with fail
            refine (HG1.out w3 AX cX (HBQ.out.trans (HB3.out.mono HBQ.out.size)) HZX3.out).mono ?_
            rintro r w4 ⟨rfl, hb⟩
            have HB4 := Lib.hid (HB3.out.trans (hb.mono HB3.out.size))
            have HZX4 := Lib.hid (HZX3.out.later hb (Nat.le_refl _))
            have HZY4 := Lib.hid (HZY3.out.later hb (Nat.le_refl _))
            clear hb
            go_wp2_with fail
            refine (HG2.out w4 AY cY (HBQ.out.trans (HB4.out.mono HBQ.out.size)) HZY4.out).mono ?_
            rintro r w5 ⟨rfl, hb⟩
            have HB5 := Lib.hid (HB4.out.trans (hb.mono HB4.out.size))
            have HZX5 := Lib.hid (HZX4.out.later hb (Nat.le_refl _))
            have HZY5 := Lib.hid (HZY4.out.later hb (Nat.le_refl _))
            clear hb
            obtain ⟨z0, z1, z2, z3, z4⟩ := HCE.out w5 (HBQ.out.trans (HB5.out.mono HBQ.out.size))
            by_cases hg1 : p1 = m.k
            · have hb1 : (p1 != m.k) = false := by simp [hg1]
              by_cases hg2 : p2 = m.k
              · have hb2 : (p2 != m.k) = false := by simp [hg2]
                have HGD : Hid (goodM m.k es mk) := HGE2.out.2 ⟨hg1, hg2⟩
                clear hg1 hg2
                by_cases hneg : v1 - v2 < 0
                · have hvw : v1 - v2 = -d := by have := HDV.out; unfold dist at this; omega
                  have hd0 : 0 < d := by omega
                  have hd1 : d ≤ 800000 := by omega
                  cases oM with
                  | none =>
                    have HTK2 : Hid (InvT m.k es (mk + 2) d (some mk)) := by
                      have h := inv_take HJ.out.2.1 HJ.out.1 HLT.out HGD.out (.inl rfl)
                      rw [HDM.out] at h
                      exact h
                    go_wp2
                    go_roundw
                    case rel => exact ⟨mk + 2, some mk, AX, cX, AY, cY, d, by go_num, by have := HL3.out; omega, by rw [HNX.out, HPX.out], by rw [HNY.out, HPY.out], rfl, rfl, by have := HJ.out.1; omega, HTK2.out, by rw [← HPX.out]; exact HZX5.out, by rw [← HPY.out]; exact HZY5.out, HJ.out.2.2.2.2.trans ((HB5.out).mono HJ.out.2.2.2.2.size)⟩
                    case measure => simp [intOf] <;> omega
                  | some m0 =>
                    by_cases hdb : d < bs
                    · have HTK2 : Hid (InvT m.k es (mk + 2) d (some mk)) := by
                        have h := inv_take HJ.out.2.1 HJ.out.1 HLT.out HGD.out (.inr (.inl (by rw [HDM.out]; exact hdb)))
                        rw [HDM.out] at h
                        exact h
                      go_wp2
                      go_roundw
                      case rel => exact ⟨mk + 2, some mk, AX, cX, AY, cY, d, by go_num, by have := HL3.out; omega, by rw [HNX.out, HPX.out], by rw [HNY.out, HPY.out], rfl, rfl, by have := HJ.out.1; omega, HTK2.out, by rw [← HPX.out]; exact HZX5.out, by rw [← HPY.out]; exact HZY5.out, HJ.out.2.2.2.2.trans ((HB5.out).mono HJ.out.2.2.2.2.size)⟩
                      case measure => simp [intOf] <;> omega
                    · by_cases hde : d = bs
                      · have HAH := Lib.hid (ahead_any AX Aa nX cX na ca pX (tA es (some m0)) w5 HNX.out HNA.out HZX5.out (HJ.out.2.2.1.later HB5.out (Nat.le_refl _)) (by omega) (by have := HAB.out; omega))
                        have hdbe : (d == bs) = true := by simp [hde]
                        have HDE : Hid (d = bs) := hde
                        clear hde
                        obtain ⟨ah, hah⟩ : ∃ ah, ah = aheadP pX (tA es (some m0)) := ⟨_, rfl⟩
                        rw [← hah] at HAH
                        have HAE := Lib.hid hah
                        clear hah
                        go_wp2_with fail
                        refine HAH.out.mono ?_
                        rintro r w6 ⟨rfl, hb⟩
                        have HB6 := Lib.hid (HB5.out.trans (hb.mono HB5.out.size))
                        have HZX6 := Lib.hid (HZX5.out.later hb (Nat.le_refl _))
                        have HZY6 := Lib.hid (HZY5.out.later hb (Nat.le_refl _))
                        clear hb
                        cases ah
                        · have HSK : Hid (InvT m.k es (mk + 2) bs (some m0)) := inv_skip HJ.out.2.1 HJ.out.1 (.inr ⟨m0, rfl, .inr ⟨by rw [HDM.out]; exact HDE.out.symm, by rw [show (mX mk es).map (·.p) = pX from HPX.out.symm]; exact HAE.out.symm⟩⟩)
                          go_wp2
                          go_roundw
                          case rel => exact ⟨mk + 2, some m0, Aa, ca, Ab, cb, bs, by go_num, by have := HL3.out; omega, by rw [HNA.out], by rw [HNB.out], rfl, rfl, by have := HJ.out.1; omega, HSK.out, HJ.out.2.2.1.later (HB6.out) (Nat.le_refl _), HJ.out.2.2.2.1.later (HB6.out) (Nat.le_refl _), HJ.out.2.2.2.2.trans ((HB6.out).mono HJ.out.2.2.2.2.size)⟩
                          case measure => simp [intOf] <;> omega
                        · have HTK2 : Hid (InvT m.k es (mk + 2) d (some mk)) := by
                            have h := inv_take HJ.out.2.1 HJ.out.1 HLT.out HGD.out (.inr (.inr ⟨by rw [HDM.out]; exact HDE.out, by rw [show (mX mk es).map (·.p) = pX from HPX.out.symm]; exact HAE.out.symm⟩))
                            rw [HDM.out] at h
                            exact h
                          go_wp2
                          go_roundw
                          case rel => exact ⟨mk + 2, some mk, AX, cX, AY, cY, d, by go_num, by have := HL3.out; omega, by rw [HNX.out, HPX.out], by rw [HNY.out, HPY.out], rfl, rfl, by have := HJ.out.1; omega, HTK2.out, by rw [← HPX.out]; exact HZX6.out, by rw [← HPY.out]; exact HZY6.out, HJ.out.2.2.2.2.trans ((HB6.out).mono HJ.out.2.2.2.2.size)⟩
                          case measure => simp [intOf] <;> omega
                      · have hdbe : (d == bs) = false := by simp [hde]
                        have HSK : Hid (InvT m.k es (mk + 2) bs (some m0)) := inv_skip HJ.out.2.1 HJ.out.1 (.inr ⟨m0, rfl, .inl (by rw [HDM.out]; omega)⟩)
                        go_wp2
                        go_roundw
                        case rel => exact ⟨mk + 2, some m0, Aa, ca, Ab, cb, bs, by go_num, by have := HL3.out; omega, by rw [HNA.out], by rw [HNB.out], rfl, rfl, by have := HJ.out.1; omega, HSK.out, HJ.out.2.2.1.later (HB5.out) (Nat.le_refl _), HJ.out.2.2.2.1.later (HB5.out) (Nat.le_refl _), HJ.out.2.2.2.2.trans ((HB5.out).mono HJ.out.2.2.2.2.size)⟩
                        case measure => simp [intOf] <;> omega
                · have hvw : v1 - v2 = d := by have := HDV.out; unfold dist at this; omega
                  have hd0 : ¬ d < 0 := by omega
                  have hd1 : d ≤ 800000 := by omega
                  cases oM with
                  | none =>
                    have HTK2 : Hid (InvT m.k es (mk + 2) d (some mk)) := by
                      have h := inv_take HJ.out.2.1 HJ.out.1 HLT.out HGD.out (.inl rfl)
                      rw [HDM.out] at h
                      exact h
                    go_wp2
                    go_roundw
                    case rel => exact ⟨mk + 2, some mk, AX, cX, AY, cY, d, by go_num, by have := HL3.out; omega, by rw [HNX.out, HPX.out], by rw [HNY.out, HPY.out], rfl, rfl, by have := HJ.out.1; omega, HTK2.out, by rw [← HPX.out]; exact HZX5.out, by rw [← HPY.out]; exact HZY5.out, HJ.out.2.2.2.2.trans ((HB5.out).mono HJ.out.2.2.2.2.size)⟩
                    case measure => simp [intOf] <;> omega
                  | some m0 =>
                    by_cases hdb : d < bs
                    · have HTK2 : Hid (InvT m.k es (mk + 2) d (some mk)) := by
                        have h := inv_take HJ.out.2.1 HJ.out.1 HLT.out HGD.out (.inr (.inl (by rw [HDM.out]; exact hdb)))
                        rw [HDM.out] at h
                        exact h
                      go_wp2
                      go_roundw
                      case rel => exact ⟨mk + 2, some mk, AX, cX, AY, cY, d, by go_num, by have := HL3.out; omega, by rw [HNX.out, HPX.out], by rw [HNY.out, HPY.out], rfl, rfl, by have := HJ.out.1; omega, HTK2.out, by rw [← HPX.out]; exact HZX5.out, by rw [← HPY.out]; exact HZY5.out, HJ.out.2.2.2.2.trans ((HB5.out).mono HJ.out.2.2.2.2.size)⟩
                      case measure => simp [intOf] <;> omega
                    · by_cases hde : d = bs
                      · have HAH := Lib.hid (ahead_any AX Aa nX cX na ca pX (tA es (some m0)) w5 HNX.out HNA.out HZX5.out (HJ.out.2.2.1.later HB5.out (Nat.le_refl _)) (by omega) (by have := HAB.out; omega))
                        have hdbe : (d == bs) = true := by simp [hde]
                        have HDE : Hid (d = bs) := hde
                        clear hde
                        obtain ⟨ah, hah⟩ : ∃ ah, ah = aheadP pX (tA es (some m0)) := ⟨_, rfl⟩
                        rw [← hah] at HAH
                        have HAE := Lib.hid hah
                        clear hah
                        go_wp2_with fail
                        refine HAH.out.mono ?_
                        rintro r w6 ⟨rfl, hb⟩
                        have HB6 := Lib.hid (HB5.out.trans (hb.mono HB5.out.size))
                        have HZX6 := Lib.hid (HZX5.out.later hb (Nat.le_refl _))
                        have HZY6 := Lib.hid (HZY5.out.later hb (Nat.le_refl _))
                        clear hb
                        cases ah
                        · have HSK : Hid (InvT m.k es (mk + 2) bs (some m0)) := inv_skip HJ.out.2.1 HJ.out.1 (.inr ⟨m0, rfl, .inr ⟨by rw [HDM.out]; exact HDE.out.symm, by rw [show (mX mk es).map (·.p) = pX from HPX.out.symm]; exact HAE.out.symm⟩⟩)
                          go_wp2
                          go_roundw
                          case rel => exact ⟨mk + 2, some m0, Aa, ca, Ab, cb, bs, by go_num, by have := HL3.out; omega, by rw [HNA.out], by rw [HNB.out], rfl, rfl, by have := HJ.out.1; omega, HSK.out, HJ.out.2.2.1.later (HB6.out) (Nat.le_refl _), HJ.out.2.2.2.1.later (HB6.out) (Nat.le_refl _), HJ.out.2.2.2.2.trans ((HB6.out).mono HJ.out.2.2.2.2.size)⟩
                          case measure => simp [intOf] <;> omega
                        · have HTK2 : Hid (InvT m.k es (mk + 2) d (some mk)) := by
                            have h := inv_take HJ.out.2.1 HJ.out.1 HLT.out HGD.out (.inr (.inr ⟨by rw [HDM.out]; exact HDE.out, by rw [show (mX mk es).map (·.p) = pX from HPX.out.symm]; exact HAE.out.symm⟩))
                            rw [HDM.out] at h
                            exact h
                          go_wp2
                          go_roundw
                          case rel => exact ⟨mk + 2, some mk, AX, cX, AY, cY, d, by go_num, by have := HL3.out; omega, by rw [HNX.out, HPX.out], by rw [HNY.out, HPY.out], rfl, rfl, by have := HJ.out.1; omega, HTK2.out, by rw [← HPX.out]; exact HZX6.out, by rw [← HPY.out]; exact HZY6.out, HJ.out.2.2.2.2.trans ((HB6.out).mono HJ.out.2.2.2.2.size)⟩
                          case measure => simp [intOf] <;> omega
                      · have hdbe : (d == bs) = false := by simp [hde]
                        have HSK : Hid (InvT m.k es (mk + 2) bs (some m0)) := inv_skip HJ.out.2.1 HJ.out.1 (.inr ⟨m0, rfl, .inl (by rw [HDM.out]; omega)⟩)
                        go_wp2
                        go_roundw
                        case rel => exact ⟨mk + 2, some m0, Aa, ca, Ab, cb, bs, by go_num, by have := HL3.out; omega, by rw [HNA.out], by rw [HNB.out], rfl, rfl, by have := HJ.out.1; omega, HSK.out, HJ.out.2.2.1.later (HB5.out) (Nat.le_refl _), HJ.out.2.2.2.1.later (HB5.out) (Nat.le_refl _), HJ.out.2.2.2.2.trans ((HB5.out).mono HJ.out.2.2.2.2.size)⟩
                        case measure => simp [intOf] <;> omega
              · have hb2 : (p2 != m.k) = true := by simp [hg2]
                have HSK : Hid (InvT m.k es (mk + 2) bs oM) := inv_skip HJ.out.2.1 HJ.out.1 (.inl fun h => hg2 (HGE2.out.1 h).2)
                clear hg1 hg2
                go_wp2
                go_roundw
                case rel => exact ⟨mk + 2, oM, Aa, ca, Ab, cb, bs, by go_num, by have := HL3.out; omega, by rw [HNA.out], by rw [HNB.out], rfl, rfl, by have := HJ.out.1; omega, HSK.out, HJ.out.2.2.1.later (HB5.out) (Nat.le_refl _), HJ.out.2.2.2.1.later (HB5.out) (Nat.le_refl _), HJ.out.2.2.2.2.trans ((HB5.out).mono HJ.out.2.2.2.2.size)⟩
                case measure => simp [intOf] <;> omega
            · have hb1 : (p1 != m.k) = true := by simp [hg1]
              have HSK : Hid (InvT m.k es (mk + 2) bs oM) := inv_skip HJ.out.2.1 HJ.out.1 (.inl fun h => hg1 (HGE2.out.1 h).1)
              clear hg1
              go_wp2
              go_roundw
              case rel => exact ⟨mk + 2, oM, Aa, ca, Ab, cb, bs, by go_num, by have := HL3.out; omega, by rw [HNA.out], by rw [HNB.out], rfl, rfl, by have := HJ.out.1; omega, HSK.out, HJ.out.2.2.1.later (HB5.out) (Nat.le_refl _), HJ.out.2.2.2.1.later (HB5.out) (Nat.le_refl _), HJ.out.2.2.2.2.trans ((HB5.out).mono HJ.out.2.2.2.2.size)⟩
              case measure => simp [intOf] <;> omega
          · have hskip : True := trivial
            have HGEN : Hid (2 ^ es.length ≤ mk) := by
              have h := HWP.out.1
              rw [h] at hlt2
              simp only [Hid]
              rw [HEL.out]
              omega
            have HOO : Hid ((o.getD ([], [])).1 = tA es oM ∧ (o.getD ([], [])).2 = tB es oM ∧ o.isSome = oM.isSome) := by
              have h := HJ.out.2.1
              have h2 := HGEN.out
              simp only [Hid]
              rw [HO.out]
              cases oM with
              | none =>
                rw [part_not HGE.out fun q h3 h4 => h q (by omega) h4]
                exact ⟨rfl, rfl, rfl⟩
              | some m0 =>
                rw [part_best HUP.out HGE.out ⟨h.1.1, h.1.2.1, h.1.2.2, fun q h3 h4 h5 => h.2.2 q (by omega) h4 h5⟩]
                exact ⟨rfl, rfl, rfl⟩
            have HRES : Hid (TPost w o (.returned (.tuple #[.slice Aa (tA es oM).length ca, .slice Ab (tB es oM).length cb, .bool oM.isSome])) wr) := by
              refine ⟨⟨Aa, ca, Ab, cb, ?_, ?_, ?_⟩, HB0.out.trans ((HBV.out.trans (HJ.out.2.2.2.2.mono HBV.out.size)).mono HB0.out.size)⟩
              · rw [HOO.out.1, HOO.out.2.1, HOO.out.2.2]
              · rw [HOO.out.1]; exact HJ.out.2.2.1
              · rw [HOO.out.2.1]; exact HJ.out.2.2.2.1
            obtain ⟨na, hna⟩ : ∃ na, na = (tA es oM).length := ⟨_, rfl⟩
            obtain ⟨nb, hnb⟩ : ∃ nb, nb = (tB es oM).length := ⟨_, rfl⟩
            obtain ⟨iso, hiso⟩ : ∃ iso, iso = oM.isSome := ⟨_, rfl⟩
            rw [← hna, ← hnb, ← hiso] at HRES ⊢
            clear hna hnb hiso
            go_wp2
            exact bodyPost_ret (v := .tuple #[.slice Aa na ca, .slice Ab nb cb, .bool iso]) (by simp [results, Try.results18, go_sem]) rfl HRES.out
end Go.Proofs.Ytnloikdfbdpilaa
