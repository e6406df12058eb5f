/- The document's own answer for reading: a contract for the reference's Read. -/
import Derived.Test.YtkhhbmbjmfdgdaaDoorD1
import Derived.Test.YtkhhbmbjmfdgdaaDoorC4
namespace Go.Proofs.YtkhhbmbjmfdgdaaDoor
set_option maxRecDepth 4000
open Go.RowKit

/-- The values are the call's own lists, grown by appends. -/
def Lq (w : World) (B : Nat) : List Value → List (List Nat) → Prop
  | [], [] => True
  | v :: vs, u :: us => (w.ownsRow B 67 1 v u.length (uv .u32 u) ∧ ∀ n ∈ u, n < 4294967296) ∧ Lq w B vs us
  | _, _ => False

theorem Lq.snoc {w : World} {B : Nat} {v : Value} {u : List Nat} (hv : w.ownsRow B 67 1 v u.length (uv .u32 u)) (hu : ∀ n ∈ u, n < 4294967296) : ∀ {vs : List Value} {us : List (List Nat)}, Lq w B vs us → Lq w B (vs ++ [v]) (us ++ [u])
  | [], [], _ => ⟨⟨hv, hu⟩, trivial⟩
  | _ :: _, _ :: _, ⟨h1, h2⟩ => ⟨h1, Lq.snoc hv hu h2⟩
theorem Lq.below {w w' : World} {B : Nat} (hb : Below w.heap.size w w') : ∀ {vs : List Value} {us : List (List Nat)}, Lq w B vs us → Lq w' B vs us
  | [], [], _ => trivial
  | _ :: _, _ :: _, ⟨⟨h1, h3⟩, h2⟩ => ⟨⟨own_below h1 hb, h3⟩, Lq.below hb h2⟩
theorem Kp.lq {ts : List TypeId} {w w' : World} {B : Nat} (k : Kp ts w w') (he : 67 ∉ ts) : ∀ {vs : List Value} {us : List (List Nat)}, Lq w B vs us → Lq w' B vs us
  | [], [], _ => trivial
  | _ :: _, _ :: _, ⟨⟨h1, h3⟩, h2⟩ => ⟨⟨k.own h1 he, h3⟩, Kp.lq k he h2⟩
theorem lss_q {w : World} {B : Nat} : ∀ {vs : List Value} {us : List (List Nat)}, Lq w B vs us → Lss w w.heap.size vs us
  | [], [], _ => trivial
  | _ :: _, _ :: _, ⟨⟨h1, h3⟩, h2⟩ => by
    obtain ⟨A, c, hv, hr, _, _⟩ := own_rd h1
    exact ⟨⟨A, c, hv, hr, h3⟩, lss_q h2⟩

def RPost (w : World) (r : Nat × List Nat × List ByteArray × List (List Nat)) (e : Ending) (w' : World) : Prop :=
  ∃ vN vS vL vs, e = .returned (.tuple #[.agg #[vN, vS, vL], .int .i64 (r.1 : Int)]) ∧ Below w.heap.size w w' ∧
    w'.ownsRow w.heap.size 66 1 vN r.2.1.length (uv .u64 r.2.1) ∧ w'.ownsRow w.heap.size 9 1 vS r.2.2.1.length (sv r.2.2.1) ∧ w'.ownsRow w.heap.size 62 1 vL r.2.2.2.length vs ∧
    Lq w' w.heap.size vs r.2.2.2 ∧ (∀ n ∈ r.2.1, n < 18446744073709551616)

theorem RPost.err {w w' : World} {k : Nat} (hb : Below w.heap.size w w') : RPost w (k, [], [], []) (.returned (.tuple #[.agg #[.slice none 0 0, .slice none 0 0, .slice none 0 0], .int .i64 (k : Int)])) w' :=
  ⟨_, _, _, [], rfl, hb, World.ownsRow_nil _ _ _ _, World.ownsRow_nil _ _ _ _, World.ownsRow_nil _ _ _ _, trivial, fun n hn => by cases hn⟩

theorem rread_flds {w w' : World} {r : Nat × List Nat × List ByteArray × List (List Nat)} {e : Ending} (h : RPost w r e w') :
    ∃ aN aS aL cN cS cL vs, e = .returned (.tuple #[.agg #[.slice aN r.2.1.length cN, .slice aS r.2.2.1.length cS, .slice aL r.2.2.2.length cL], .int .i64 (r.1 : Int)]) ∧ Below w.heap.size w w' ∧ Flds w' aN aS aL cN cS cL vs r.2.1 r.2.2.1 r.2.2.2 := by
  obtain ⟨vN, vS, vL, vs, he, hb, oN, oS, oL, ls, bN⟩ := h
  obtain ⟨aN, kN, rfl, rN, lN, _⟩ := own_rd oN
  obtain ⟨aS, kS, rfl, rS, lS, _⟩ := own_rd oS
  obtain ⟨aL, kL, rfl, rL, lL, _⟩ := own_rd oL
  exact ⟨_, _, _, _, _, _, vs, he, hb, rN, rS, rL, lss_q ls, lN, lS, lL, bN⟩

set_option maxHeartbeats 1000000 in
set_option maxRecDepth 4000 in
theorem rread_shape (s : ByteArray) (v : Value) (w : World) (h : least s.data.toList < 0) :
    Calls Tryd.prog 35 #[.string s, v] w (RPost w (1, [], [], [])) := by
  have hb0 := (Below.refl w.heap.size w).alloc (Nat.le_refl _) (.cells #[.slice none 0 0, .slice none 0 0, .slice none 0 0] 38)
  have hp0 := heap_alloc_new w (.cells #[.slice none 0 0, .slice none 0 0, .slice none 0 0] 38)
  have c3 := fun W => rleast_any s W
  obtain ⟨z, hz⟩ : ∃ z, z = least s.data.toList := ⟨_, rfl⟩
  rw [← hz] at c3 h
  have C3 := Lib.hid c3
  have t0 : decide (z < 0) = true := by simpa using h
  have HP := Lib.hid hp0
  clear c3 hz h hp0
  go_enter Tryd.func35, Tryd.ntmps35
  go_wp2_with fail
  refine (C3.out _).mono ?_
  rintro e w1 ⟨rfl, hb1⟩
  have hbx := hb0.trans (hb1.mono (by simp))
  have hp := (hb1.block w.heap.size (by simp)).trans HP.out
  have f0 : ∀ i, w1.frozen? ⟨w.heap.size, i, none⟩ = false := fun i => frozen_of_row w1 _ i _ _ hp
  have g0 := cell_of_row w1 w.heap.size 0 _ _ _ hp
  have g1 := cell_of_row w1 w.heap.size 1 _ _ _ hp
  have g2 := cell_of_row w1 w.heap.size 2 _ _ _ hp
  simp at g0 g1 g2
  have HP1 := Lib.hid hp
  clear hp
  go_wp2
  exact bodyPost_ret (v := .tuple #[.agg #[.slice none 0 0, .slice none 0 0, .slice none 0 0], .int .i64 1]) (by simp [results, Tryd.results35, go_sem, g0, g1, g2]) rfl (RPost.err (((hbx.setCell (by simp) _).setCell (by simp) _).setCell (by simp) _))

/-- The fields that are gathered, in block F; the result's own block R. -/
structure Fr (w wr : World) (R F : Nat) (vN vS vL : Value) (vs : List Value) (N : List Nat) (S : List ByteArray) (L : List (List Nat)) : Prop where
  f : wr.heap[F]? = some (.cells #[vN, vS, vL] 38 (0, 0))
  r : wr.heap[R]? = some (.cells #[.slice none 0 0, .slice none 0 0, .slice none 0 0] 38 (0, 0))
  oN : wr.ownsRow w.heap.size 66 1 vN N.length (uv .u64 N)
  oS : wr.ownsRow w.heap.size 9 1 vS S.length (sv S)
  oL : wr.ownsRow w.heap.size 62 1 vL L.length vs
  ls : Lq wr w.heap.size vs L
  bN : ∀ n ∈ N, n < 18446744073709551616
  hb : Below w.heap.size w wr
  hF : w.heap.size < F

theorem Fr.below {w wr w2 : World} {R F : Nat} {vN vS vL : Value} {vs : List Value} {N : List Nat} {S : List ByteArray} {L : List (List Nat)} (h : Fr w wr R F vN vS vL vs N S L) (hb : Below wr.heap.size wr w2) : Fr w w2 R F vN vS vL vs N S L := by
  have k : Kp [] wr w2 := fun j cs T fr hj _ => (hb.block j (lt_of_block hj)).trans hj
  exact ⟨(hb.block F (lt_of_block h.f)).trans h.f, (hb.block R (lt_of_block h.r)).trans h.r, k.own h.oN (by simp), k.own h.oS (by simp), k.own h.oL (by simp), h.ls.below hb, h.bN, h.hb.trans (hb.mono h.hb.size), h.hF⟩

/-- A field's new value stored in block F. -/
theorem Fr.set {w w3 : World} {F i : Nat} {vN vS vL vN' vS' vL' u : Value} {vs' : List Value} {N' : List Nat} {S' : List ByteArray} {L' : List (List Nat)}
    (f : w3.heap[F]? = some (.cells #[vN, vS, vL] 38 (0, 0))) (r : w3.heap[w.heap.size]? = some (.cells #[.slice none 0 0, .slice none 0 0, .slice none 0 0] 38 (0, 0))) (hb : Below w.heap.size w w3) (hF : w.heap.size < F)
    (hu : (#[vN, vS, vL] : Array Value).setIfInBounds i u = #[vN', vS', vL'])
    (oN : w3.ownsRow w.heap.size 66 1 vN' N'.length (uv .u64 N')) (oS : w3.ownsRow w.heap.size 9 1 vS' S'.length (sv S')) (oL : w3.ownsRow w.heap.size 62 1 vL' L'.length vs')
    (ls : Lq w3 w.heap.size vs' L') (bN : ∀ n ∈ N', n < 18446744073709551616) :
    Fr w (w3.setCell ⟨F, i, none⟩ u) w.heap.size F vN' vS' vL' vs' N' S' L' := by
  have k := Kp.set f i u
  refine ⟨?_, ((grown_setCell w3 F i u).block _ (lt_of_block r) (fun e => by injection e with e; omega)).trans r, k.own oN (by decide), k.own oS (by decide), k.own oL (by decide), k.lq (by decide) ls, bN, hb.setCell (by simp; omega) _, hF⟩
  rw [← hu]
  exact heap_setCell_same w3 F i _ 38 u f

theorem Bs.part {w : World} {B c : Nat} {A : Option Addr} {l : List UInt8} (h : Bs w B (.slice A l.length c) l) {p m : Nat} (hm : p + m ≤ l.length) (hm1 : 1 ≤ m) : Bs w B (.slice (Option.map (fun x => x.add p) A) m (c - p)) ((l.drop p).take m) := by
  obtain ⟨A', c', e, hc, hr⟩ := h
  injection e with e1 _ e3
  subst e1 e3
  obtain ⟨b, o, rfl, _⟩ := hr (by simp [bv]; omega)
  obtain ⟨A2, c2, e2, hc2, hr2⟩ := Bs.drop hr (m := p) (by omega) hc
  injection e2 with e4 _ e6
  subst e4 e6
  exact Bs.take hr2 (by simp; omega) hc2

theorem bs_slice {w : World} {B c : Nat} {A : Option Addr} {l : List UInt8} (h : Bs w B (.slice A l.length c) l) (p n : Nat) (hi : Int) (hh : hi = (p : Int) + (n : Int)) (hl : p + n ≤ l.length) :
    ∃ A' c', (∀ W, (Instr.slice 42 (.slice A l.length c) (some (.int .i64 (p : Int))) (some (.int .i64 hi)) none).run Tryd.prog W = .ok (.slice A' n c') W) ∧ Bs w B (.slice A' n c') ((l.drop p).take n) := by
  have hlc : l.length ≤ c := by
    obtain ⟨A', c', e, hc, _⟩ := h
    injection e with _ _ e
    omega
  obtain ⟨i0, hi0, _, hz1, _⟩ := info_parts Tryd.info5
  have e1 : hi.toNat = p + n := by omega
  refine ⟨if c = p then A else A.map (·.add p), c - p, fun W => ?_, ?_⟩
  · have k0 : 0 ≤ hi := by omega
    have k1 : hi ≤ (c : Int) := by omega
    have k2 : (p : Int) ≤ ((p + n : Nat) : Int) := by omega
    rw [run_slice_lh W 42 A l.length c (show Tryd.prog.underlying 42 = some (.slice (Tryd.prog.elem 42)) from by kernel_rfl) .i64 .i64 (p : Int) hi (by omega) (by omega) k1]
    rw [show Tryd.prog.elem 42 = 5 from by kernel_rfl]
    simp [sizeOf, typeInfo, hi0, hz1, e1, sliced]
  · rcases Nat.eq_zero_or_pos n with rfl | hn
    · rw [List.take_zero]
      exact ⟨_, _, rfl, by simp, Rd.nil⟩
    · rw [if_neg (by omega)]
      exact h.part hl hn

theorem letter_wid {l : List UInt8} (h0 : 0 ≤ least l) {k : Nat} (hk : k < l.length) : 1 ≤ wid l[k] := by
  unfold least at h0
  split at h0
  · omega
  · rcases hs : sumW (l.take (k + 1)) with _ | n
    · rw [sumW_take_none l (k + 1) hs] at h0
      simp at h0
    · rw [List.take_succ_eq_append_getElem hk, sumW_append] at hs
      rcases h1 : sumW (l.take k) with _ | m
      · rw [h1] at hs; simp at hs
      · rw [h1] at hs
        simp [sumW] at hs
        omega

set_option maxHeartbeats 4000000 in
set_option maxRecDepth 4000 in
theorem rread_walk (s : ByteArray) (A : Option Addr) (c : Nat) (l : List UInt8) (w : World) (h0 : 0 ≤ least s.data.toList) (hl : l.length ≤ 2000) (hv : Bs w w.heap.size (.slice A l.length c) l) :
    Calls Tryd.prog 35 #[.string s, .slice A l.length c] w (RPost w (readR s.data.toList l)) := by
  have hb0 := (Below.refl w.heap.size w).alloc (Nat.le_refl _) (.cells #[.slice none 0 0, .slice none 0 0, .slice none 0 0] 38)
  have hp0 := heap_alloc_new w (.cells #[.slice none 0 0, .slice none 0 0, .slice none 0 0] 38)
  have h8 : s.size ≤ 8 := by
    unfold least at h0
    split at h0
    · omega
    · simp at *; omega
  have hz : s.data.toList.length = s.size := by simp
  have c3 := fun W => rleast_any s W
  have hlc : l.length ≤ c := by
    obtain ⟨A', c', e, hc, _⟩ := hv
    injection e with _ _ e
    omega
  have HL0 := Lib.hid h0
  obtain ⟨z, hz1⟩ : ∃ z, z = least s.data.toList := ⟨_, rfl⟩
  rw [← hz1] at c3 h0
  have C3 := Lib.hid c3
  have t0 : decide (z < 0) = false := by simpa using h0
  have HP := Lib.hid hp0
  have HV := Lib.hid hv
  have HZ := Lib.hid hz
  have hst := Sr.start s.data.toList l
  have HST := Lib.hid hst
  obtain ⟨res, hres⟩ : ∃ res, res = readR s.data.toList l := ⟨_, rfl⟩
  have HRES := Lib.hid hres
  rw [← hres]
  clear c3 hz1 h0 hp0 hv hz hst hres
  go_enter Tryd.func35, Tryd.ntmps35
  go_wp2_with fail
  refine (C3.out _).mono ?_
  rintro e w1 ⟨rfl, hb1⟩
  have hbx := hb0.trans (hb1.mono (by simp))
  have hp := (hb1.block w.heap.size (by simp)).trans HP.out
  have hz1 := hb1.size
  have hp2 := (Below.heap_alloc w1 (.cells #[.slice none 0 0, .slice none 0 0, .slice none 0 0] 38) w.heap.size (lt_of_block hp)).trans hp
  have hFr : Fr w (w1.alloc (.cells #[.slice none 0 0, .slice none 0 0, .slice none 0 0] 38)) w.heap.size w1.heap.size (.slice none 0 0) (.slice none 0 0) (.slice none 0 0) [] [] [] [] :=
    ⟨heap_alloc_new w1 _, hp2, World.ownsRow_nil _ _ _ _, World.ownsRow_nil _ _ _ _, World.ownsRow_nil _ _ _ _, trivial, (fun n hn => by cases hn), hbx.alloc hbx.size _, by simp at hz1; omega⟩
  have HFR := Lib.hid hFr
  clear hp hp2 hFr hz1
  go_wp2
  clear t0
  go_loopw [7, 8] (fun q i wr => ∃ (k p : Nat) (vN vS vL : Value) (vs : List Value) (N : List Nat) (S : List ByteArray) (L : List (List Nat)),
      k ≤ s.size ∧ i = .int .i64 k ∧ q = .int .i64 p ∧ p ≤ 2000 ∧ Hid (Sr s.data.toList l k p N S L) ∧ Hid (Fr w wr w.heap.size w1.heap.size vN vS vL vs N S L) ∧ Hid (N.length ≤ k ∧ S.length ≤ k ∧ L.length ≤ k)) (fun _ i _ => s.size - (intOf i).toNat)
  case atStart => exact ⟨0, 0, _, _, _, [], [], [], [], by omega, rfl, rfl, by omega, HST, HFR, by simp [Hid]⟩
  case round =>
    clear HST HFR hbx hb1 hb0 HP
    obtain ⟨k, p, vN, vS, vL, vs, N, S, L, hk, rfl, rfl, hp1, hsr, hfr, hnn⟩ := hrel
    have hple := hsr.out.le
    have f0 : ∀ i, wr.frozen? ⟨w.heap.size, i, none⟩ = false := fun i => frozen_of_row wr _ i _ _ hfr.out.r
    have g0 := cell_of_row wr w.heap.size 0 _ _ _ hfr.out.r
    have g1 := cell_of_row wr w.heap.size 1 _ _ _ hfr.out.r
    have g2 := cell_of_row wr w.heap.size 2 _ _ _ hfr.out.r
    simp at g0 g1 g2
    by_cases hlt : k < s.size
    · have hw1 : 1 ≤ wid s[k] := letter_wid HL0.out (by rw [HZ.out]; exact hlt)
      have hw8 := wid_le s[k]
      obtain ⟨m, hm⟩ : ∃ m, m = wid s[k] := ⟨_, rfl⟩
      have hwd := fun W => rwidth_any s[k] W
      rw [← hm] at hw1 hw8 hwd
      have HWD := Lib.hid hwd
      have HM := Lib.hid hm
      clear hwd hm
      by_cases hsh : l.length < p + m
      · have t1 : decide ((l.length : Int) - (p : Int) < (m : Int)) = true := by simp; omega
        have HRE : Hid (res = (3, [], [], [])) := by
          have h3 := hsr.out.short (by rw [HZ.out]; exact hlt) HL0.out (fun hh => by
            have : ∀ c : UInt8, (c.toNat = 115 ∨ c.toNat = 108) → wid c = 1 := fun c hc => by unfold wid; rcases hc with hc | hc <;> simp [hc]
            exact this _ hh) (by rw [HM.out] at hsh; exact hsh)
          exact HRES.out.trans h3
        clear hsh
        go_wp2_with fail
        refine (HWD.out _).mono ?_
        rintro e w2 ⟨rfl, hb2⟩
        have hr2 := (hb2.block w.heap.size (lt_of_block hfr.out.r)).trans hfr.out.r
        have f2 : ∀ i, w2.frozen? ⟨w.heap.size, i, none⟩ = false := fun i => frozen_of_row w2 _ i _ _ hr2
        have d0 := cell_of_row w2 w.heap.size 0 _ _ _ hr2
        have d1 := cell_of_row w2 w.heap.size 1 _ _ _ hr2
        have d2 := cell_of_row w2 w.heap.size 2 _ _ _ hr2
        simp at d0 d1 d2
        have hb3 := hfr.out.hb.trans (hb2.mono hfr.out.hb.size)
        clear hr2 g0 g1 g2 f0
        go_wp2
        exact bodyPost_ret (v := .tuple #[.agg #[.slice none 0 0, .slice none 0 0, .slice none 0 0], .int .i64 3]) (by simp [results, Tryd.results35, go_sem, d0, d1, d2]) rfl (by rw [HRE.out]; exact RPost.err (((hb3.setCell (by simp) _).setCell (by simp) _).setCell (by simp) _))
      · have t1 : decide ((l.length : Int) - (p : Int) < (m : Int)) = false := by simp; omega
        go_wp2_with fail
        refine (HWD.out _).mono ?_
        rintro e w2 ⟨rfl, hb2⟩
        go_wp2_with fail
        have hfr2 := hfr.out.below hb2
        have hbs := (HV.out.below hfr2.hb (Nat.le_refl _)).part (p := p) (m := m) (by omega) hw1
        have hnum := rnumber_any w.heap.size _ ((l.drop p).take m) w2 hbs (by simp; omega)
        obtain ⟨n, hn⟩ : ∃ n, n = num ((l.drop p).take m) := ⟨_, rfl⟩
        have hn64 : n < 18446744073709551616 := by
          have h1 := num_lt ((l.drop p).take m)
          have h2 : 256 ^ ((l.drop p).take m).length ≤ 256 ^ 8 := Nat.pow_le_pow_right (by decide) (by simp; omega)
          rw [← hn] at h1
          omega
        rw [← hn] at hnum
        have HNM := Lib.hid hnum
        have HN := Lib.hid hn
        have HFR := Lib.hid hfr2
        clear hnum hn hbs hb2 f0 g0 g1 g2 hfr hfr2
        refine HNM.out.mono ?_
        rintro e w' ⟨rfl, rfl⟩
        have e0 := cell_of_row w2 w1.heap.size 0 _ _ _ HFR.out.f
        have e1 := cell_of_row w2 w1.heap.size 1 _ _ _ HFR.out.f
        have e2 := cell_of_row w2 w1.heap.size 2 _ _ _ HFR.out.f
        simp at e0 e1 e2
        by_cases hc : s[k].toNat = 115
        · have t2 : ((s[k].toNat : Int) == 115) = true := by rw [beq_iff_eq]; omega
          obtain rfl : m = 1 := by
            rw [HM.out]
            exact (show ∀ c : UInt8, c.toNat = 115 → wid c = 1 from fun c hc => by unfold wid; simp [hc]) _ hc
          have hn8 : n < 256 := by
            have h1 := num_lt ((l.drop p).take 1)
            have h2 : 256 ^ ((l.drop p).take 1).length ≤ 256 ^ 1 := Nat.pow_le_pow_right (by decide) (by simp; omega)
            rw [HN.out]
            omega
          obtain ⟨q, hq⟩ : ∃ q, q = p + 1 := ⟨_, rfl⟩
          have hq1 : (p : Int) + 1 = (q : Int) := by omega
          by_cases hns : l.length < q + n
          · have t3 : decide ((l.length : Int) - (q : Int) < (n : Int)) = true := by simp; omega
            have h3 := hsr.out.text_short (by rw [HZ.out]; exact hlt) HL0.out hc (by omega) (by rw [← HN.out]; omega)
            have HRE : Hid (res = (3, [], [], [])) := HRES.out.trans h3
            have hr2 := HFR.out.r
            have f2 : ∀ i, w2.frozen? ⟨w.heap.size, i, none⟩ = false := fun i => frozen_of_row w2 _ i _ _ hr2
            have d0 := cell_of_row w2 w.heap.size 0 _ _ _ hr2
            have d1 := cell_of_row w2 w.heap.size 1 _ _ _ hr2
            have d2 := cell_of_row w2 w.heap.size 2 _ _ _ hr2
            simp at d0 d1 d2
            have hb3 := HFR.out.hb
            clear hr2 h3 hq e0 e1 e2 t1 hc
            go_wp2
            exact bodyPost_ret (v := .tuple #[.agg #[.slice none 0 0, .slice none 0 0, .slice none 0 0], .int .i64 3]) (by simp [results, Tryd.results35, go_sem, d0, d1, d2]) rfl (by rw [HRE.out]; exact RPost.err (((hb3.setCell (by simp) _).setCell (by simp) _).setCell (by simp) _))
          · have t3 : decide ((l.length : Int) - (q : Int) < (n : Int)) = false := by simp; omega
            have hsr2 := hsr.out.text (by rw [HZ.out]; exact hlt) hc (by omega) (by rw [← HN.out]; omega)
            rw [← HN.out, ← hq] at hsr2
            obtain ⟨x, hx⟩ : ∃ x, x = (l.drop q).take n := ⟨_, rfl⟩
            rw [← hx] at hsr2
            obtain ⟨r, hr⟩ : ∃ r, r = q + n := ⟨_, rfl⟩
            rw [← hr] at hsr2
            have HSR := Lib.hid hsr2
            have hr1 : (q : Int) + (n : Int) = (r : Int) := by omega
            obtain ⟨A', c', hsl, hbx⟩ := bs_slice (HV.out.below HFR.out.hb (Nat.le_refl _)) q n (r : Int) (by omega) (by omega)
            obtain ⟨A'', c'', e', hcx, hrd⟩ := hbx
            have hxl : x.length = n := by rw [hx]; simp; omega
            rw [← hx] at e' hrd
            injection e' with ea eb ec
            subst ea ec
            clear eb
            have kc : (convert 42 9 (.slice A' n c')).run Tryd.prog w2.drew = .ok (.string ⟨x.toArray⟩) w2.drew := by
              have := conv_rd (w := w2.drew) (l := x) hrd c'
              rwa [hxl] at this
            have kw1 : IntKind.i64.wrap (n : Int) = (n : Int) := IntWalk.i64_in _ (by omega)
            have kw2 : IntKind.i64.wrap (r : Int) = (r : Int) := IntWalk.i64_in _ (by omega)
            obtain ⟨i0, hi, hz0, hz1, hz2⟩ := info_parts Tryd.info9
            have hnn1 := hnn.out.2.1
            obtain ⟨aS, kS, rfl, _⟩ := own_rd HFR.out.oS
            have hm63 : S.length + 1 ≤ maxLen := by unfold maxLen; omega
            have hm47 : (S.length + 1) * 16 ≤ 140737488355328 := by omega
            have on1 : ∀ u ∈ [Value.string ⟨x.toArray⟩], u.oneCell' = true := by intro u hu; simp at hu; subst hu; rfl
            have hbs2 : w.heap.size ≤ (w2.alloc (.cells #[.string ⟨x.toArray⟩] 9)).drew.heap.size := Nat.le_trans HFR.out.hb.size (World.grownBy_alloc w2 (.cells #[.string ⟨x.toArray⟩] 9) none).size
            have HO : Hid ((w2.alloc (.cells #[.string ⟨x.toArray⟩] 9)).drew.ownsRow w.heap.size 9 1 (.slice aS S.length kS) S.length (sv S)) := (HFR.out.oS.alloc (.cells #[.string ⟨x.toArray⟩] 9)).drew
            have hrle : r ≤ 2000 := by omega
            have cD : w2.drew.cell? ⟨w1.heap.size, 1, none⟩ = some (.slice aS S.length kS) := e1
            have cT : (w2.alloc (.cells #[.string ⟨x.toArray⟩] 9)).drew.cell? ⟨w1.heap.size, 1, none⟩ = some (.slice aS S.length kS) := (World.cell?_alloc_lt w2 _ ⟨w1.heap.size, 1, none⟩ (lt_of_block HFR.out.f)).trans e1
            have HSZ : Hid ((w2.alloc (.cells #[.string ⟨x.toArray⟩] 9)).drew.heap.size = w2.heap.size + 1) := size_alloc' w2 _
            have HNW : Hid ((w2.alloc (.cells #[.string ⟨x.toArray⟩] 9)).drew.heap[w2.heap.size]? = some (.cells #[.string ⟨x.toArray⟩] 9 (0, 0))) := heap_alloc_new w2 _
            clear hsr2 hc hx hrd hcx hxl e0 e1 e2 t1 hns hq hr hnn1
            go_wp2_with fail
            go_region_law (first
              | (refine step_append_lies _ rfl (.tmp 57) (.tmp 66) 35 rfl w.heap.size 9 i0 (.string ⟨#[]⟩) 1 16 Tryd.underlying35 hi hz0 hz1 hz2 rfl Nat.one_pos (.slice aS S.length kS) S.length (sv S) rfl HO.out ⟨w2.heap.size, 0, none⟩ 1 1 [.string ⟨x.toArray⟩] rfl rfl (World.news_of_block (cs := #[.string ⟨x.toArray⟩]) (t := 9) (fr := (0, 0)) HNW.out) on1 Nat.one_pos hm63 hm47 hbs2 (w2.heap.size + 1) HSZ.out ?_; intro gg cap w3 hown3 hg3 hat hlt3; have kk := ((Kp.alloc w2 (.cells #[.string ⟨x.toArray⟩] 9)).trans (Kp.drew _)).trans (Kp.grown hg3 (rowT_own HO.out)); have pF := kk _ _ _ _ HFR.out.f (by decide); have f3 : ∀ i, w3.frozen? ⟨w1.heap.size, i, none⟩ = false := (fun i => frozen_of_row w3 _ i _ _ pF); have e3 : w3.cell? ⟨w1.heap.size, 1, none⟩ = some (.slice aS S.length kS) := cell_of_row w3 w1.heap.size 1 _ _ _ pF)
              | fail)
            all_goals
              have pR := kk _ _ _ _ HFR.out.r (by decide)
              have hb3 := ((HFR.out.hb.alloc HFR.out.hb.size (.cells #[.string ⟨x.toArray⟩] 9)).drew).grown hg3 hbs2 (fun k hk => (HO.out.lt k hk).1)
              have hfin := Fr.set (i := 1) (u := .slice (some ⟨gg, 0, none⟩) (S.length + 1) cap) (S' := S ++ [⟨x.toArray⟩]) pF pR hb3 HFR.out.hF rfl (kk.own HFR.out.oN (by decide)) (by simpa [sv] using hown3) (kk.own HFR.out.oL (by decide)) (kk.lq (by decide) HFR.out.ls) HFR.out.bN
              have HFIN := Lib.hid hfin
              have HNN : Hid (N.length ≤ k + 1 ∧ (S ++ [(⟨x.toArray⟩ : ByteArray)]).length ≤ k + 1 ∧ L.length ≤ k + 1) := by have := hnn.out; simp [Hid]; omega
              clear kk pF pR hb3 hfin hown3 hg3 hat hnn
              go_wp2
              go_roundw
              case rel => exact ⟨k + 1, r, _, _, _, vs, N, S ++ [⟨x.toArray⟩], L, by omega, by go_num, by go_num, hrle, HSR, HFIN, HNN⟩
              case measure => simp [intOf] <;> omega
        · by_cases hc2 : s[k].toNat = 108
          · have t2 : ((s[k].toNat : Int) == 115) = false := by rw [beq_eq_false_iff_ne]; omega
            have t4 : ((s[k].toNat : Int) == 108) = true := by rw [beq_iff_eq]; omega
            obtain rfl : m = 1 := by
              rw [HM.out]
              exact (show ∀ c : UInt8, c.toNat = 108 → wid c = 1 from fun c hc => by unfold wid; simp [hc]) _ hc2
            have hn8 : n < 256 := by
              have h1 := num_lt ((l.drop p).take 1)
              have h2 : 256 ^ ((l.drop p).take 1).length ≤ 256 ^ 1 := Nat.pow_le_pow_right (by decide) (by simp; omega)
              rw [HN.out]
              omega
            obtain ⟨q, hq⟩ : ∃ q, q = p + 1 := ⟨_, rfl⟩
            have hq1 : (p : Int) + 1 = (q : Int) := by omega
            by_cases hns : l.length < q + 4 * n
            · have t3 : decide ((l.length : Int) - (q : Int) < 4 * (n : Int)) = true := by simp; omega
              have h3 := hsr.out.list_short (by rw [HZ.out]; exact hlt) HL0.out hc2 (by omega) (by rw [← HN.out]; omega)
              have HRE : Hid (res = (3, [], [], [])) := HRES.out.trans h3
              have hr2 := HFR.out.r
              have f2 : ∀ i, w2.frozen? ⟨w.heap.size, i, none⟩ = false := fun i => frozen_of_row w2 _ i _ _ hr2
              have d0 := cell_of_row w2 w.heap.size 0 _ _ _ hr2
              have d1 := cell_of_row w2 w.heap.size 1 _ _ _ hr2
              have d2 := cell_of_row w2 w.heap.size 2 _ _ _ hr2
              simp at d0 d1 d2
              have hb3 := HFR.out.hb
              clear hr2 h3 hq e0 e1 e2 t1 hc hc2
              go_wp2
              exact bodyPost_ret (v := .tuple #[.agg #[.slice none 0 0, .slice none 0 0, .slice none 0 0], .int .i64 3]) (by simp [results, Tryd.results35, go_sem, d0, d1, d2]) rfl (by rw [HRE.out]; exact RPost.err (((hb3.setCell (by simp) _).setCell (by simp) _).setCell (by simp) _))
            · have t3 : decide ((l.length : Int) - (q : Int) < 4 * (n : Int)) = false := by simp; omega
              have hsr2 := hsr.out.list (by rw [HZ.out]; exact hlt) hc2 (by omega) (by rw [← HN.out]; omega)
              rw [← HN.out, ← hq] at hsr2
              have HSR := Lib.hid hsr2
              have HQL : Hid (q + 4 * n ≤ l.length) := by simp only [Hid]; omega
              clear hsr2 hq e0 e1 e2 t1 hc hc2 hns
              go_wp2_with fail
              clear t2 t3 t4 hq1
              go_loopw [7, 11, 12] (fun a v i wi => ∃ (j x : Nat), j ≤ n ∧ i = .int .i64 j ∧ a = .int .i64 x ∧ x ≤ 2000 ∧ Hid (x = q + 4 * j) ∧ Hid (wi.ownsRow w2.heap.size 67 1 v j (uv .u32 ((List.range j).map (num4 l q)))) ∧ Hid (Below w2.heap.size w2 wi)) (fun _ _ i _ => n - (intOf i).toNat)
              case atStart => exact ⟨0, q, by omega, rfl, rfl, by have := HQL.out; omega, by simp [Hid], World.ownsRow_nil _ _ _ _, Below.refl _ _⟩
              case round =>
                obtain ⟨j, x, hj, rfl, rfl, hx1, hxq, hrow, hbw⟩ := hrel
                have HFR3 := Lib.hid (HFR.out.below hbw.out)
                by_cases hjn : j < n
                · have hx4 : x + 4 ≤ l.length := by have := hxq.out; have := HQL.out; omega
                  obtain ⟨A', c', hsl, hbx⟩ := bs_slice (HV.out.below HFR3.out.hb (Nat.le_refl _)) x 4 ((x : Int) + 4) (by simp) hx4
                  have hl4 : ((l.drop x).take 4).length = 4 := by simp; omega
                  have hnum := rnumber_any w.heap.size _ _ wr hbx (by omega)
                  obtain ⟨y, hy⟩ : ∃ y, y = num ((l.drop x).take 4) := ⟨_, rfl⟩
                  have hy32 : y < 4294967296 := by
                    have h1 := num_lt ((l.drop x).take 4)
                    rw [hl4] at h1
                    omega
                  rw [← hy] at hnum
                  have HNM2 := Lib.hid hnum
                  have hyw : IntKind.u32.wrap (y : Int) = (y : Int) := by unfold IntKind.wrap; simp [IntKind.signed, IntKind.bits]; omega
                  have hsn : (List.range (j + 1)).map (num4 l q) = (List.range j).map (num4 l q) ++ [y] := by
                    rw [List.range_succ, List.map_append]
                    simp only [List.map_cons, List.map_nil, num4]
                    rw [← hxq.out, hy]
                  have HSN := Lib.hid hsn
                  obtain ⟨i1, hi, hz0, hz1, hz2⟩ := info_parts Tryd.info67
                  obtain ⟨A9, c9, rfl, _⟩ := own_rd hrow.out
                  have hn1000 : n ≤ 2000 := by omega
                  have hm63 : j + 1 ≤ maxLen := by unfold maxLen; omega
                  have hm47 : (j + 1) * 4 ≤ 140737488355328 := by omega
                  have on1 : ∀ u ∈ [Value.int .u32 (y : Int)], u.oneCell' = true := by intro u hu; simp at hu; subst hu; rfl
                  have hbs3 : w2.heap.size ≤ (wr.alloc (.cells #[.int .u32 (y : Int)] 67)).heap.size := Nat.le_trans hbw.out.size (World.grownBy_alloc wr (.cells #[.int .u32 (y : Int)] 67) none).size
                  have HO := Lib.hid (hrow.out.alloc (.cells #[.int .u32 (y : Int)] 67))
                  clear hnum hy hsn hbx hl4 hn8
                  go_wp2_with fail
                  refine HNM2.out.mono ?_
                  rintro e w' ⟨rfl, rfl⟩
                  go_wp2_with (at_builtin; go_loud (refine wpList_append_lies _ rfl (.tmp 92) (.tmp 100) 62 rfl w2.heap.size 67 i1 (.int .u32 0) 1 4 Tryd.underlying62 hi hz0 hz1 hz2 rfl Nat.one_pos (.slice A9 j c9) j _ rfl HO.out ⟨wr.heap.size, 0, none⟩ 1 1 [.int .u32 (y : Int)] rfl rfl (World.news_of_block (cs := #[.int .u32 (y : Int)]) (t := 67) (fr := (0, 0)) (heap_alloc_new wr _)) on1 Nat.one_pos hm63 hm47 hbs3 (wr.heap.size + 1) (size_alloc' _ _) ?_); intro gg cap w3 hown3 hg3 hat hlt3)
                  have HB3 : Hid (Below w2.heap.size w2 w3) := (hbw.out.alloc hbw.out.size (.cells #[.int .u32 (y : Int)] 67)).grown hg3 hbs3 (fun k hk => (HO.out.lt k hk).1)
                  have HOW : Hid (w3.ownsRow w2.heap.size 67 1 (.slice (some ⟨gg, 0, none⟩) (j + 1) cap) (j + 1) (uv .u32 ((List.range (j + 1)).map (num4 l q)))) := by
                    rw [HSN.out]
                    simpa [uv, Hid] using hown3
                  have hx14 : x + 4 ≤ 2000 := by omega
                  have HXQ : Hid (x + 4 = q + 4 * (j + 1)) := by have := hxq.out; simp only [Hid]; omega
                  clear hown3 hg3 hat hlt3 hxq
                  go_roundw
                  case rel => exact ⟨j + 1, x + 4, by omega, by go_num, by go_num, hx14, HXQ, HOW, HB3⟩
                  case measure => simp [intOf] <;> omega
                · obtain rfl : n = j := by omega
                  obtain ⟨A9, c9, rfl, _, _, hl9⟩ := own_rd hrow.out
                  have HW2 : Hid (w.heap.size ≤ w2.heap.size) := HFR.out.hb.size
                  have HU : Hid (∀ z ∈ (List.range n).map (num4 l q), z < 4294967296) := by
                    intro z hz
                    obtain ⟨j, _, rfl⟩ := List.mem_map.1 hz
                    have h1 := num_lt ((l.drop (q + 4 * j)).take 4)
                    have h2 : 256 ^ ((l.drop (q + 4 * j)).take 4).length ≤ 256 ^ 4 := Nat.pow_le_pow_right (by decide) (by simp; omega)
                    unfold num4
                    omega
                  obtain ⟨u9, hu9⟩ : ∃ u9, u9 = (List.range n).map (num4 l q) := ⟨_, rfl⟩
                  have hu9l : u9.length = n := by rw [hu9]; simp
                  rw [← hu9] at hrow HSR HU
                  have HUL := Lib.hid hu9l
                  have HX : Hid (Sr s.data.toList l (k + 1) x N S (L ++ [u9])) := by
                    rw [hxq.out]
                    exact HSR.out
                  obtain ⟨i0, hi, hz0, hz1, hz2⟩ := info_parts Tryd.info62
                  have hnn1 := hnn.out.2.2
                  obtain ⟨aL, kL, rfl, _⟩ := own_rd HFR3.out.oL
                  have e2 : wr.cell? ⟨w1.heap.size, 2, none⟩ = some (.slice aL L.length kL) := cell_of_row wr w1.heap.size 2 _ _ _ HFR3.out.f
                  have hm63 : L.length + 1 ≤ maxLen := by unfold maxLen; omega
                  have hm47 : (L.length + 1) * 24 ≤ 140737488355328 := by omega
                  have on1 : ∀ u ∈ [Value.slice A9 n c9], u.oneCell' = true := by intro u hu; simp at hu; subst hu; rfl
                  have hbs3 : w.heap.size ≤ (wr.alloc (.cells #[.slice A9 n c9] 62)).heap.size := Nat.le_trans HFR3.out.hb.size (World.grownBy_alloc wr (.cells #[.slice A9 n c9] 62) none).size
                  have HO := Lib.hid (HFR3.out.oL.alloc (.cells #[.slice A9 n c9] 62))
                  have hge : ¬ n < n := Nat.lt_irrefl _
                  clear hu9 hu9l hl9 hnn1 hxq HSR HFR
                  go_wp2_with (at_builtin; go_loud (refine wpList_append_lies _ rfl (.tmp 105) (.tmp 107) 36 rfl w.heap.size 62 i0 (.slice none 0 0) 1 24 Tryd.underlying36 hi hz0 hz1 hz2 rfl Nat.one_pos (.slice aL L.length kL) L.length vs rfl HO.out ⟨wr.heap.size, 0, none⟩ 1 1 [.slice A9 n c9] rfl rfl (World.news_of_block (cs := #[.slice A9 n c9]) (t := 62) (fr := (0, 0)) (heap_alloc_new wr _)) on1 Nat.one_pos hm63 hm47 hbs3 (wr.heap.size + 1) (size_alloc' _ _) ?_); intro gg cap w3 hown3 hg3 hat hlt3; have kk := (Kp.alloc wr (.cells #[.slice A9 n c9] 62)).trans (Kp.grown hg3 (rowT_own HO.out)); have pF := kk _ _ _ _ HFR3.out.f (by decide); have f3 : ∀ i, w3.frozen? ⟨w1.heap.size, i, none⟩ = false := (fun i => frozen_of_row w3 _ i _ _ pF); have e3 : w3.cell? ⟨w1.heap.size, 2, none⟩ = some (.slice aL L.length kL) := cell_of_row w3 w1.heap.size 2 _ _ _ pF)
                  have pR := kk _ _ _ _ HFR3.out.r (by decide)
                  have hb3 := (HFR3.out.hb.alloc HFR3.out.hb.size (.cells #[.slice A9 n c9] 62)).grown hg3 hbs3 (fun k hk => (HO.out.lt k hk).1)
                  have hrow2 : w3.ownsRow w.heap.size 67 1 (.slice A9 n c9) u9.length (uv .u32 u9) := by
                    rw [HUL.out]
                    exact own_mono (kk.own hrow.out (by decide)) HW2.out
                  have hfin := Fr.set (i := 2) (u := .slice (some ⟨gg, 0, none⟩) (L.length + 1) cap) (L' := L ++ [u9]) pF pR hb3 HFR3.out.hF rfl (kk.own HFR3.out.oN (by decide)) (kk.own HFR3.out.oS (by decide)) (by simpa using hown3) ((kk.lq (by decide) HFR3.out.ls).snoc hrow2 HU.out) HFR3.out.bN
                  have HFIN := Lib.hid hfin
                  have HNN : Hid (N.length ≤ k + 1 ∧ S.length ≤ k + 1 ∧ (L ++ [u9]).length ≤ k + 1) := by have := hnn.out; simp [Hid]; omega
                  clear kk pF pR hb3 hfin hown3 hg3 hat hnn hrow2
                  go_roundw
                  case rel => exact ⟨k + 1, x, _, _, _, _, N, S, L ++ [u9], by omega, by go_num, by go_num, hx1, HX, HFIN, HNN⟩
                  case measure => simp [intOf] <;> omega
          · have t2 : ((s[k].toNat : Int) == 115) = false := by rw [beq_eq_false_iff_ne]; omega
            have t3 : ((s[k].toNat : Int) == 108) = false := by rw [beq_eq_false_iff_ne]; omega
            have hsr2 := hsr.out.number (by rw [HZ.out]; exact hlt) hc hc2 (by
              have := HM.out
              show p + wid s[k] ≤ l.length
              omega)
            have hsr3 : Sr s.data.toList l (k + 1) (p + m) (N ++ [n]) S L := by
              rw [HN.out, HM.out]
              exact hsr2
            have HSR := Lib.hid hsr3
            obtain ⟨i0, hi, hz0, hz1, hz2⟩ := info_parts Tryd.info66
            have hnn1 := hnn.out.1
            obtain ⟨aN, kN, rfl, _⟩ := own_rd HFR.out.oN
            have hm63 : N.length + 1 ≤ maxLen := by unfold maxLen; omega
            have hm47 : (N.length + 1) * 8 ≤ 140737488355328 := by omega
            have on1 : ∀ u ∈ [Value.int .u64 (n : Int)], u.oneCell' = true := by intro u hu; simp at hu; subst hu; rfl
            have hbs2 : w.heap.size ≤ (w2.alloc (.cells #[.int .u64 (n : Int)] 66)).heap.size := Nat.le_trans HFR.out.hb.size (World.grownBy_alloc w2 (.cells #[.int .u64 (n : Int)] 66) none).size
            have HO := Lib.hid (HFR.out.oN.alloc (.cells #[.int .u64 (n : Int)] 66))
            clear hsr2 hsr3 hc hc2
            go_wp2_with (at_builtin; go_loud (refine wpList_append_lies _ rfl (.tmp 111) (.tmp 113) 34 rfl w.heap.size 66 i0 (.int .u64 0) 1 8 Tryd.underlying34 hi hz0 hz1 hz2 rfl Nat.one_pos (.slice aN N.length kN) N.length (uv .u64 N) rfl HO.out ⟨w2.heap.size, 0, none⟩ 1 1 [.int .u64 (n : Int)] rfl rfl (World.news_of_block (cs := #[.int .u64 (n : Int)]) (t := 66) (fr := (0, 0)) (heap_alloc_new w2 _)) on1 Nat.one_pos hm63 hm47 hbs2 (w2.heap.size + 1) (size_alloc' _ _) ?_); intro gg cap w3 hown3 hg3 hat hlt3; have kk := (Kp.alloc w2 (.cells #[.int .u64 (n : Int)] 66)).trans (Kp.grown hg3 (rowT_own HO.out)); have pF := kk _ _ _ _ HFR.out.f (by decide); have f3 : ∀ i, w3.frozen? ⟨w1.heap.size, i, none⟩ = false := (fun i => frozen_of_row w3 _ i _ _ pF); have e3 : w3.cell? ⟨w1.heap.size, 0, none⟩ = some (.slice aN N.length kN) := cell_of_row w3 w1.heap.size 0 _ _ _ pF)
            have pR := kk _ _ _ _ HFR.out.r (by decide)
            have hb3 := (HFR.out.hb.alloc HFR.out.hb.size (.cells #[.int .u64 (n : Int)] 66)).grown hg3 hbs2 (fun k hk => (HO.out.lt k hk).1)
            have hfin := Fr.set (i := 0) (u := .slice (some ⟨gg, 0, none⟩) (N.length + 1) cap) (N' := N ++ [n]) pF pR hb3 HFR.out.hF rfl (by simpa [uv] using hown3) (kk.own HFR.out.oS (by decide)) (kk.own HFR.out.oL (by decide)) (kk.lq (by decide) HFR.out.ls) (fun x hx => by
              rcases List.mem_append.1 hx with hx | hx
              · exact HFR.out.bN x hx
              · simp at hx; omega)
            have HFIN := Lib.hid hfin
            have HNN : Hid ((N ++ [n]).length ≤ k + 1 ∧ S.length ≤ k + 1 ∧ L.length ≤ k + 1) := by have := hnn.out; simp [Hid]; omega
            have hpm : p + m ≤ 2000 := by omega
            clear kk pF pR hb3 hfin hown3 hg3 hat hnn
            go_roundw
            case rel => exact ⟨k + 1, p + m, _, _, _, vs, N ++ [n], S, L, by omega, by go_num, by go_num, hpm, HSR, HFIN, HNN⟩
            case measure => simp [intOf] <;> omega
    · have hdone := hsr.out.done (by rw [HZ.out]; omega) HL0.out
      rw [← HRES.out] at hdone
      have HD := Lib.hid hdone
      clear hdone
      by_cases hpl : p < l.length
      · have HRE : Hid (res = (4, [], [], [])) := HD.out.trans (if_pos hpl)
        go_wp2
        exact bodyPost_ret (v := .tuple #[.agg #[.slice none 0 0, .slice none 0 0, .slice none 0 0], .int .i64 4]) (by simp [results, Tryd.results35, go_sem, g0, g1, g2]) rfl (by rw [HRE.out]; exact RPost.err (((hfr.out.hb.setCell (by simp) _).setCell (by simp) _).setCell (by simp) _))
      · have HRE : Hid (res = (0, N, S, L)) := HD.out.trans (if_neg hpl)
        obtain ⟨aN, kN, rfl, _⟩ := own_rd hfr.out.oN
        obtain ⟨aS, kS, rfl, _⟩ := own_rd hfr.out.oS
        obtain ⟨aL, kL, rfl, _⟩ := own_rd hfr.out.oL
        have e0 := cell_of_row wr w1.heap.size 0 _ _ _ hfr.out.f
        have e1 := cell_of_row wr w1.heap.size 1 _ _ _ hfr.out.f
        have e2 := cell_of_row wr w1.heap.size 2 _ _ _ hfr.out.f
        simp at e0 e1 e2
        go_wp2
        have r1 := heap_setCell_same wr w.heap.size 0 _ 38 (.slice aN N.length kN) hfr.out.r
        have r2 := heap_setCell_same _ w.heap.size 1 _ 38 (.slice aS S.length kS) r1
        have kk := ((Kp.set hfr.out.r 0 (.slice aN N.length kN)).trans (Kp.set r1 1 (.slice aS S.length kS))).trans (Kp.set r2 2 (.slice aL L.length kL))
        exact bodyPost_ret (v := .tuple #[.agg #[.slice aN N.length kN, .slice aS S.length kS, .slice aL L.length kL], .int .i64 0]) (by simp [results, Tryd.results35, go_sem, g0, g1, g2]) rfl (by
          rw [HRE.out]
          exact ⟨_, _, _, vs, rfl, (((hfr.out.hb.setCell (by simp) _).setCell (by simp) _).setCell (by simp) _), kk.own hfr.out.oN (by decide), kk.own hfr.out.oS (by decide), kk.own hfr.out.oL (by decide), kk.lq (by decide) hfr.out.ls, hfr.out.bN⟩)

theorem rread_any (s : ByteArray) (v : Value) (l : List UInt8) (w : World) (hv : Bs w w.heap.size v l) (hl : l.length ≤ 2000) :
    Calls Tryd.prog 35 #[.string s, v] w (RPost w (readR s.data.toList l)) := by
  by_cases h : least s.data.toList < 0
  · have e : readR s.data.toList l = (1, [], [], []) := by unfold readR; rw [if_pos h]
    rw [e]
    exact rread_shape s v w h
  · obtain ⟨A, c, rfl, hc, hr⟩ := hv
    exact rread_walk s A c l w (by omega) hl ⟨A, c, rfl, hc, hr⟩
end Go.Proofs.YtkhhbmbjmfdgdaaDoor
