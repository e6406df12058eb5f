/- Ready: ReadyNo's walk. -/
import Derived.Test.YtemjmnpclknfaaaQG
namespace Go.Proofs.Ytemjmnpclknfaaa.P
open Go.RowKit Go.Deep
set_option maxRecDepth 20000
set_option linter.unusedVariables false
set_option linter.unusedSimpArgs false

theorem pl_app (a y d : Nat) : pl a (y + d) = pl a y ++ pl (a + y) d := by
  unfold pl
  rw [List.range_add, List.map_append, List.map_map]
  congr 1
  refine List.map_congr_left fun i _ => ?_
  show a + (y + i) = a + y + i
  omega
theorem miss_pl (a : Nat) {n y : Nat} (h : y ≤ n) : (miss (pl a n) (pl a y)).length = n - y := by
  obtain ⟨d, rfl⟩ : ∃ d, n = y + d := ⟨n - y, by omega⟩
  unfold miss
  rw [pl_app, List.filter_append, List.filter_eq_nil_iff.2 (fun x hx => by simpa using hx), List.filter_eq_self.2 (fun x hx => by
    rw [decide_eq_true_iff, pl_mem']
    have := pl_mem'.1 hx
    omega), List.nil_append, pl_len]
  omega
/-- A store into a block below the rack's. -/
theorem Bk.low {W : World} {B R k i : Nat} {most : Int} {vi u : Value} {L : List Pt} (h : Bk W B R most vi L) (hB : R < B) (hk : k < R) : Bk (W.setCell ⟨k, i, none⟩ u) B R most vi L := by
  have ho : ∀ g, R ≤ g → (W.setCell ⟨k, i, none⟩ u).heap[g]? = W.heap[g]? := fun g hg => Below.heap_setCell _ _ _ _ (by show g ≠ k; omega)
  obtain ⟨vt, ths, k1, k2⟩ := h.ex
  refine ⟨(ho B (by omega)).trans h.blk, vt, ths, ⟨(ho R (Nat.le_refl _)).trans k1.row, own_after k1.rio fun g hg => ho g (by have := (ownlt k1.rio g hg).1; omega), own_after k1.rto fun g hg => ho g (by have := (ownlt k1.rto g hg).1; omega), k1.len, k1.up, k1.ok⟩, fun i p hp => ?_⟩
  obtain ⟨th, e1, e2⟩ := k2 i p hp
  have hf : ∀ s l, Fl W R vi s l → Fl (W.setCell ⟨k, _, none⟩ u) R vi s l := fun s l hs => ⟨hs.1, fun hl => by
    obtain ⟨b', o', a1, a2, a3, ⟨cur, a4⟩, a5⟩ := hs.2 hl
    have k := ho b' (by omega)
    exact ⟨b', o', a1, a2, a3, ⟨cur, k.trans a4⟩, fun j x hj => (World.cell?_of_block k).trans (a5 j x hj)⟩⟩
  exact ⟨th, e1, e2.1, hf _ _ e2.2.1, hf _ _ e2.2.2⟩
/-- A store into numbers, where no check is. -/
theorem Bk.nil_set {W : World} {B R k i : Nat} {most : Int} {vi u : Value} {cs : Array Value} (h : Bk W B R most vi []) (hk : W.heap[k]? = some (.cells cs 26 (0, 0))) : Bk (W.setCell ⟨k, i, none⟩ u) B R most vi [] := by
  have ho : ∀ (g : Nat) (cur : Array Value) (T : TypeId), W.heap[g]? = some (.cells cur T (0, 0)) → T ≠ 26 → (W.setCell ⟨k, i, none⟩ u).heap[g]? = W.heap[g]? := fun g cur T hg hT => Below.heap_setCell _ _ _ _ (fun e => by
    rw [show g = k from e, hk] at hg
    injection hg with hg
    injection hg with _ hg
    exact hT hg.symm)
  obtain ⟨vt, ths, k1, k2⟩ := h.ex
  refine ⟨(ho B _ 88 h.blk (by decide)).trans h.blk, vt, ths, ⟨(ho R _ 136 k1.row (by decide)).trans k1.row, ?_, own_after k1.rto fun g hg => ?_, k1.len, k1.up, k1.ok⟩, fun i p hp => by simp at hp⟩
  · refine ⟨k1.rio.1, ?_⟩
    rcases k1.rio.2 with hn | ⟨g, cap, cur, e, hg, hh, h1, h2, h3, h4⟩
    · exact .inl hn
    · by_cases hgk : g = k
      · subst hgk
        refine .inr ⟨g, cap, _, e, hg, heap_setCell_same W g i _ 26 u hh, h1, h2, by rw [Array.size_setIfInBounds]; exact h3, ?_⟩
        simp [un]
      · exact .inr ⟨g, cap, cur, e, hg, (Below.heap_setCell _ _ _ _ hgk).trans hh, h1, h2, h3, h4⟩
  · obtain ⟨cur, hc⟩ := own_type k1.rto hg
    exact ho g cur 86 hc (by decide)
structure NL (w : World) (B R b1 : Nat) (cur : Array Value) (L : List Pt) (W : World) : Prop where
  bk : ∃ vi, Bk W B R 1 vi L
  pls : W.heap[b1]? = some (.cells cur 26 (0, 0))
  all : Below w.heap.size w W
theorem NL.after {w W W' : World} {B R b1 : Nat} {cur : Array Value} {L : List Pt} (h : NL w B R b1 cur L W) (hb : Below W.heap.size W W') : NL w B R b1 cur L W' := by
  obtain ⟨vi, hk⟩ := h.bk
  exact ⟨⟨vi, hk.after hb⟩, (hb.block _ (lt_of_block h.pls)).trans h.pls, h.all.trans (hb.mono h.all.size)⟩
theorem NL.put {w W W' : World} {B R b1 : Nat} {cur : Array Value} {L L' : List Pt} {vi : Value} (h : NL w B R b1 cur L W) (hp : PutP B R 1 vi L' W W') (h1 : b1 < R) (h2 : w.heap.size ≤ R) : NL w B R b1 cur L' W' := by
  obtain ⟨vi', hk, hs⟩ := hp
  exact ⟨⟨vi', hk⟩, (hs.below.block _ h1).trans h.pls, h.all.trans (hs.below.mono h2)⟩
set_option maxRecDepth 100000 in
set_option maxHeartbeats 16000000 in
theorem no_walk (many yes no : Nat) (w : World) (hm : many < 256) (hy : yes < 256) (hno : no < 256) :
    Calls Try.prog 5 #[.int .u8 (many : Int), .int .u8 (yes : Int), .int .u8 (no : Int)] w fun r w' => r = .returned (.bool true) ∧ Below w.heap.size w w' := by
  obtain ⟨m8, hm8⟩ : ∃ m8, m8 = many % 8 := ⟨_, rfl⟩
  obtain ⟨n, hn⟩ : ∃ n, n = 1 + m8 := ⟨_, rfl⟩
  have hn8 : n ≤ 8 := by omega
  have hn1 : 1 ≤ n := by omega
  have q1 : (many : Int).tmod 8 = (m8 : Int) := by rw [Int.tmod_eq_emod_of_nonneg (by omega)]; omega
  have HNE : Hid ((1 : Int) + (m8 : Int) = (n : Int)) := by simp only [Hid]; omega
  have hm7 : m8 ≤ 7 := by omega
  obtain ⟨yy, hyy⟩ : ∃ yy, yy = yes % n := ⟨_, rfl⟩
  obtain ⟨kk, hkk⟩ : ∃ kk, kk = no % n := ⟨_, rfl⟩
  have hyl : yy < n := by rw [hyy]; exact Nat.mod_lt _ (by omega)
  have hkl : kk < n := by rw [hkk]; exact Nat.mod_lt _ (by omega)
  have HQ2 : Hid ((yes : Int).tmod (n : Int) = (yy : Int)) := by simp only [Hid]; rw [Int.tmod_eq_emod_of_nonneg (by omega), hyy]; rfl
  have HQ3 : Hid ((no : Int).tmod (n : Int) = (kk : Int)) := by simp only [Hid]; rw [Int.tmod_eq_emod_of_nonneg (by omega), hkk]; rfl
  have HB0 : Hid (Below w.heap.size w w) := Below.refl _ _
  clear hn hm8 hyy hkk
  go_enter Try.func5, Try.ntmps5
  go_upto_region 2 with (fail)
  rw [HNE.out]
  clear q1 HNE hm7 hm
  go_wp2_with fail
  go_loopw [8, 9] (fun v i wr => ∃ (k c : Nat) (A2 : Option Addr), k ≤ n ∧ i = .int .i64 (k : Int) ∧ v = .slice A2 k c ∧ Hid (wr.ownsRow w.heap.size 26 1 (.slice A2 k c) k (un (pl 1 k)) ∧ Below w.heap.size w wr)) (fun _ i _ => n - (intOf i).toNat)
  case atStart => exact ⟨0, 0, none, by omega, rfl, rfl, World.ownsRow_nil _ _ 26 1, HB0.out⟩
  case round =>
    obtain ⟨k, c, A2, hk, rfl, rfl, HV⟩ := hrel
    by_cases hlt : k < n
    · obtain ⟨y, hy⟩ : ∃ y, y = 1 + k := ⟨_, rfl⟩
      have q1 : IntKind.u32.wrap (1 + (k : Int)) = (y : Int) := by rw [IntKind.wrap_u32]; omega
      have HY := Lib.hid hy
      clear hy
      go_wp2_with (at_builtin; refine wpList_append_u32 rfl _ _ rfl w.heap.size wr.heap.size (.slice A2 k c) k _ y rfl rfl (HV.out.1.alloc _) (heap_alloc_new _ _) (by omega) (by have := HV.out.2.size; simp; omega) ?_; intro v7 w7 hown7 hg7; obtain ⟨A8, c8, rfl⟩ := own_form1 hown7; have HO7 := Lib.hid hown7; have HB7 : Hid (Below w.heap.size w w7) := (HV.out.2.alloc HV.out.2.size _).grown hg7 (by have := HV.out.2.size; simp; omega) (fun g h => (ownlt HV.out.1 g h).1); clear hown7 hg7)
      go_roundw
      case rel => exact ⟨k + 1, c8, A8, by omega, by go_num, rfl, by rw [pl_succ, un_snoc, ← HY.out]; exact HO7.out, HB7.out⟩
      case measure => simp [intOf] <;> omega
    · have hkn : k = n := by omega
      subst hkn
      obtain ⟨b1, hA2, hbw, hb1, cur, hcur, hkc, hsz⟩ : ∃ b1, A2 = some ⟨b1, 0, none⟩ ∧ w.heap.size ≤ b1 ∧ b1 < wr.heap.size ∧ ∃ cur, wr.heap[b1]? = some (.cells cur 26 (0, 0)) ∧ k ≤ c ∧ k ≤ cur.size := by
        rcases HV.out.1.2 with ⟨e, h0⟩ | ⟨g, cap, cur, e, hg, hh, h1, _, h3, _⟩
        · injection e with _ e _
          omega
        · injection e with e1 _ e3
          exact ⟨g, e1, hg, lt_of_block hh, cur, hh, by omega, by omega⟩
      subst hA2
      have hA1 := At32.of_own HV.out.1
      have HAT : Hid (∀ W : World, W.heap[b1]? = some (.cells cur 26 (0, 0)) → At32 W b1 0 (pl 1 k)) := fun W hW j x hj => (World.cell?_of_block (hW.trans hcur.symm)).trans (hA1 j x hj)
      have HRN : Hid (∀ W : World, W.heap[b1]? = some (.cells cur 26 (0, 0)) → Rn W (some ⟨b1, 0, none⟩) (pl 1 k)) := fun W hW _ => ⟨b1, 0, rfl, lt_of_block hW, HAT.out W hW⟩
      have HNW := Lib.hid (new_bk 1 wr)
      have HBW := Lib.hid hbw
      have HB1L := Lib.hid hb1
      have HBR := Lib.hid HV.out.2
      have HCU := Lib.hid hcur
      have HSZ := Lib.hid hsz
      clear hA1 hb1 hbw HV hcur hsz
      go_wp2_with fail
      refine HNW.out.mono ?_
      rintro r w2 ⟨B, rfl, hB, hbk, hb2⟩
      rw [show max (1 : Int) 0 = 1 from by decide] at hbk
      obtain ⟨R, hRR⟩ : ∃ R, R = wr.heap.size := ⟨_, rfl⟩
      rw [← hRR] at hbk hB
      have HBB : Hid (R < B) := hB
      have HBRL : Hid (b1 < R) := by rw [hRR]; exact HB1L.out
      have HWR : Hid (w.heap.size ≤ R) := by rw [hRR]; exact HBR.out.size
      have HN2 : Hid (NL w B R b1 cur [] w2) := ⟨⟨_, hbk⟩, (hb2.block _ HB1L.out).trans HCU.out, HBR.out.trans (hb2.mono HBR.out.size)⟩
      have HOPEN : Hid (∀ (W : World) (vi : Value) (id : Nat) (t : Int), okN id → Bk W B R 1 vi [] → W.heap[b1]? = some (.cells cur 26 (0, 0)) → Calls Try.prog 19 #[bp B, .int .u32 (id : Int), .int .i64 t, .slice (some ⟨b1, 0, none⟩) k c] W fun r w' => r = .returned (.int .i64 0) ∧ PutP B R 1 vi [⟨id, t, pl 1 k, []⟩] W w') := fun W vi id t hid hb hW => by
        have := open_any B R 1 vi [] id t (some ⟨b1, 0, none⟩) k c (pl 1 k) W hb (by simp) (by simp) (pl_len 1 k).symm (HRN.out W hW) (by omega) hkc
        rw [(open_pl (id := id) t (by decide) hid (by decide) (by decide) hn1 hn8).1, (open_pl (id := id) t (by decide) hid (by decide) (by decide) hn1 hn8).2] at this
        exact this
      obtain ⟨vi2, hk2⟩ := HN2.out.bk
      have HOP := Lib.hid (HOPEN.out w2 vi2 5 3 (by decide) hk2 HN2.out.pls)
      clear hbk hb2 hB hRR hk2
      go_wp2_with fail
      refine HOP.out.mono ?_
      rintro r w3 ⟨rfl, hp3⟩
      have HN3 : Hid (NL w B R b1 cur [⟨5, 3, pl 1 k, pl 1 0⟩] w3) := HN2.out.put hp3 HBRL.out HWR.out
      clear hp3
      have q2 := HQ2.out
      have hk0 : ¬ ((k : Int) = 0) := by omega
      go_wp2_with fail
      clear q2
      go_loopw [13] (fun i wr => ∃ (j : Nat), j ≤ yy ∧ i = .int .i64 (j : Int) ∧ Hid (NL w B R b1 cur [⟨5, 3, pl 1 k, pl 1 j⟩] wr)) (fun i _ => yy - (intOf i).toNat)
      case atStart => exact ⟨0, by omega, rfl, HN3.out⟩
      case round =>
        obtain ⟨j, hj, rfl, HV⟩ := hrel
        by_cases hlt2 : j < yy
        · obtain ⟨p, hp⟩ : ∃ p, p = 1 + j := ⟨_, rfl⟩
          have d1 := HAT.out _ HV.out.pls j (1 + j) (pl_get (by omega))
          rw [Nat.zero_add, ← hp] at d1
          obtain ⟨vi, hbk⟩ := HV.out.bk
          have hpm : p ∈ pl 1 k := pl_mem'.2 ⟨by omega, by omega⟩
          have hpn : p ∉ pl 1 j := fun h => by have := pl_mem'.1 h; omega
          have HACC : Hid (Calls Try.prog 20 #[bp B, .int .u32 (p : Int)] wr fun r w' => ∃ v, r = .returned (.tuple #[v, .bool false, .int .i64 0]) ∧ NL w B R b1 cur [⟨5, 3, pl 1 k, pl 1 (j + 1)⟩] w') := by
            have hx : ofP [(⟨5, 3, pl 1 k, pl 1 j⟩ : Pt)] p = 5 := of_one hpm
            have h0 := acc_some B R 1 vi [⟨5, 3, pl 1 k, pl 1 j⟩] p ⟨5, 3, pl 1 k, pl 1 j⟩ wr hbk (by simp) (by simp [pl_len]; omega) (by rw [hx]; exact get_one _) (by show (pl 1 k).length ≤ 99; rw [pl_len]; omega) (by show (pl 1 j).length ≤ 98; rw [pl_len]; omega) hpn (pl_nodup 1 j)
            rw [hx] at h0
            have hms : miss (pl 1 k) (pl 1 j ++ [p]) ≠ [] := by
              rw [hp, ← pl_succ]
              intro e
              have := miss_pl 1 (n := k) (y := j + 1) (by omega)
              rw [e] at this
              simp at this
              omega
            refine h0.mono ?_
            rintro r w' ⟨v, rfl, _, hpp⟩
            rw [show ((⟨5, 3, pl 1 k, pl 1 j⟩ : Pt).inv) = pl 1 j from rfl, show ((⟨5, 3, pl 1 k, pl 1 j⟩ : Pt).mem) = pl 1 k from rfl, if_neg hms] at hpp
            refine ⟨v, by rw [show ((⟨5, 3, pl 1 k, pl 1 j⟩ : Pt).inv) = pl 1 j from rfl, show ((⟨5, 3, pl 1 k, pl 1 j⟩ : Pt).mem) = pl 1 k from rfl, decide_eq_false hms], ?_⟩
            rw [show insL [(⟨5, 3, pl 1 k, pl 1 j⟩ : Pt)] (yesP ⟨5, 3, pl 1 k, pl 1 j⟩ p) = [⟨5, 3, pl 1 k, pl 1 (j + 1)⟩] from (ins_one (g := ⟨5, 3, pl 1 k, pl 1 j⟩) (g' := yesP ⟨5, 3, pl 1 k, pl 1 j⟩ p) rfl).trans (by rw [pl_succ, ← hp]; rfl)] at hpp
            exact HV.out.put hpp HBRL.out HWR.out
          clear hp hbk hpm hpn
          go_wp2_with fail
          refine HACC.out.mono ?_
          rintro r w5 ⟨v, rfl, hnl⟩
          have HNL5 := Lib.hid hnl
          clear hnl d1
          go_wp2_with fail
          go_roundw
          case rel => exact ⟨j + 1, by omega, by go_num, HNL5.out⟩
          case measure => simp [intOf] <;> omega
        · have hjy : j = yy := by omega
          subst hjy
          obtain ⟨p, hp⟩ : ∃ p, p = 1 + kk := ⟨_, rfl⟩
          have d1 := HAT.out _ HV.out.pls kk (1 + kk) (pl_get hkl)
          rw [Nat.zero_add, ← hp] at d1
          obtain ⟨vi, hbk⟩ := HV.out.bk
          have hpm : p ∈ pl 1 k := pl_mem'.2 ⟨by omega, by omega⟩
          have HDEC : Hid (Calls Try.prog 21 #[bp B, .int .u32 (p : Int)] wr fun r w' => ∃ (A1 A2 : Option Addr) (c1 c2 : Nat), r = .returned (.tuple #[.agg #[.int .u32 5, .slice A1 k c1, .slice A2 j c2, .int .i64 3], .int .i64 0]) ∧ w'.ownsRow wr.heap.size 26 1 (.slice A1 k c1) k (un (pl 1 k)) ∧ w'.ownsRow wr.heap.size 26 1 (.slice A2 j c2) j (un (pl 1 j)) ∧ NL w B R b1 cur [] w') := by
            have hx : ofP [(⟨5, 3, pl 1 k, pl 1 j⟩ : Pt)] p = 5 := of_one hpm
            have h0 := decline_some B R 1 vi [⟨5, 3, pl 1 k, pl 1 j⟩] p ⟨5, 3, pl 1 k, pl 1 j⟩ wr hbk (by simp) (by simp [pl_len]; omega) (by rw [hx]; exact get_one _) (by show (pl 1 k).length ≤ 100; rw [pl_len]; omega) (by show (pl 1 j).length ≤ 100; rw [pl_len]; omega)
            rw [hx] at h0
            refine h0.mono ?_
            rintro r w' ⟨v, rfl, ⟨A1, A2, c1, c2, rfl, o1, o2⟩, hpp⟩
            rw [show delL [(⟨5, 3, pl 1 k, pl 1 j⟩ : Pt)] 5 = [] from del_one _] at hpp
            rw [show ((⟨5, 3, pl 1 k, pl 1 j⟩ : Pt).inv) = pl 1 j from rfl, pl_len] at o2
            rw [show ((⟨5, 3, pl 1 k, pl 1 j⟩ : Pt).mem) = pl 1 k from rfl, pl_len] at o1
            refine ⟨A1, A2, c1, c2, ?_, o1, o2, HV.out.put hpp HBRL.out HWR.out⟩
            rw [show ((⟨5, 3, pl 1 k, pl 1 j⟩ : Pt).inv) = pl 1 j from rfl, show ((⟨5, 3, pl 1 k, pl 1 j⟩ : Pt).mem) = pl 1 k from rfl, pl_len, pl_len]
            rfl
          have q3 := HQ3.out
          clear hp hbk hpm
          go_wp2_with fail
          refine HDEC.out.mono ?_
          rintro r w5 ⟨A1, A3, c1, c3, rfl, oo1, oo2, hnl⟩
          obtain ⟨g1, hA1, hg1⟩ : ∃ g1, A1 = some ⟨g1, 0, none⟩ ∧ wr.heap.size ≤ g1 := by
            rcases oo1.2 with ⟨e, h0⟩ | ⟨g, cap, cur, e, hg, hh, _⟩
            · injection e with _ e _
              omega
            · injection e with e1 _ _
              exact ⟨g, e1, hg⟩
          subst hA1
          obtain ⟨C, hC⟩ : ∃ C, C = w5.heap.size := ⟨_, rfl⟩
          obtain ⟨w6, hw6⟩ : ∃ w6, w6 = w5.alloc (.cells #[.int .u32 5, .slice (some ⟨g1, 0, none⟩) k c1, .slice A3 j c3, .int .i64 3] 33) := ⟨_, rfl⟩
          have hb6 : Below w5.heap.size w5 w6 := by rw [hw6]; exact (Below.refl _ _).alloc (Nat.le_refl _) _
          have hq6 : w6.heap[C]? = some (.cells #[.int .u32 5, .slice (some ⟨g1, 0, none⟩) k c1, .slice A3 j c3, .int .i64 3] 33 (0, 0)) := by rw [hw6, hC]; exact heap_alloc_new w5 _
          have HN6 := Lib.hid (hnl.after hb6)
          have HO1 := Lib.hid (own_after oo1 fun g hg => hb6.block g (ownlt oo1 g hg).2)
          have HO2 := Lib.hid (own_after oo2 fun g hg => hb6.block g (ownlt oo2 g hg).2)
          have HQ6 := Lib.hid hq6
          have HG1 : Hid (wr.heap.size ≤ g1) := hg1
          have HG1R : Hid (b1 < g1) := by have := lt_of_block HV.out.pls; simp only [Hid]; omega
          have HCC := Lib.hid hC
          have H6 := Lib.hid hw6
          clear d1 q3 oo1 oo2 hnl hb6 hq6 hC hw6 hg1
          go_upto_region 15 with (fail)
          rw [← H6.out, ← HCC.out]
          go_wp2_with fail
          go_loopw [16] (fun i wz => ∃ (z : Nat), z ≤ k ∧ i = .int .i64 (z : Int) ∧ Hid (Below w6.heap.size w6 wz)) (fun i _ => k - (intOf i).toNat)
          case atStart => exact ⟨0, by omega, rfl, Below.refl _ _⟩
          case round =>
            obtain ⟨z, hz, rfl, HZ⟩ := hrel
            have HNZ := Lib.hid (HN6.out.after HZ.out)
            by_cases hlt3 : z < k
            · obtain ⟨p2, hp2⟩ : ∃ p, p = 1 + z := ⟨_, rfl⟩
              have d1 := HAT.out _ HNZ.out.pls z (1 + z) (pl_get hlt3)
              rw [Nat.zero_add, ← hp2] at d1
              obtain ⟨vz, hbz⟩ := HNZ.out.bk
              have HOF : Hid (Calls Try.prog 13 #[bp B, .int .u32 (p2 : Int)] _ fun r w' => r = .returned (.int .u32 0) ∧ Below _ _ w') := of_any B R 1 vz [] p2 _ hbz (by simp) (by simp)
              clear hbz hp2
              go_wp2_with fail
              refine HOF.out.mono ?_
              rintro r w8 ⟨rfl, hb8⟩
              have HZ8 := Lib.hid (HZ.out.trans (hb8.mono HZ.out.size))
              clear hb8 d1
              go_wp2_with fail
              go_roundw
              case rel => exact ⟨z + 1, by omega, by go_num, HZ8.out⟩
              case measure => simp [intOf] <;> omega
            · have hzk : z = k := by omega
              have hz2 : ¬ ((z : Int) < (k : Int)) := by omega
              have HO1z := Lib.hid (own_after HO1.out fun g hg => HZ.out.block g (ownlt HO1.out g hg).2)
              have HO2z := Lib.hid (own_after HO2.out fun g hg => HZ.out.block g (ownlt HO2.out g hg).2)
              have hCz := (HZ.out.block _ (lt_of_block HQ6.out)).trans HQ6.out
              obtain ⟨V, hV⟩ : ∃ V, V = wr := ⟨_, rfl⟩
              rw [← hV] at HNZ HO1z HO2z hCz HZ ⊢
              clear hV
              obtain ⟨dl, hdl⟩ : ∃ dl, dl = k - j := ⟨_, rfl⟩
              have HMI : Hid (Calls Try.prog 22 #[.agg #[.int .u32 5, .slice (some ⟨g1, 0, none⟩) k c1, .slice A3 j c3, .int .i64 3]] V fun r w' => (∃ A c, r = .returned (.slice A dl c)) ∧ Below V.heap.size V w') := by
                have h0 := missing_any 5 ⟨some ⟨g1, 0, none⟩, k, c1⟩ ⟨A3, j, c3⟩ 3 (pl 1 k) (pl 1 j) V (pl_len 1 k).symm (pl_len 1 j).symm (Rn.of_own HO1z.out).2 (Rn.of_own HO2z.out).2 (pl_nodup 1 j) (by rw [pl_len]; omega) (by rw [pl_len]; omega)
                rw [miss_pl 1 (show j ≤ k by omega), ← hdl] at h0
                refine h0.mono ?_
                rintro r w' ⟨A, c, h1, _, h2⟩
                exact ⟨⟨A, c, h1⟩, h2⟩
              have q5 : (k : Int) - (j : Int) = (dl : Int) := by omega
              have t1 := cell_of_row V C 1 _ _ _ hCz
              have t2 := cell_of_row V C 2 _ _ _ hCz
              have t0 := cell_of_row V C 0 _ _ _ hCz
              have t3 := cell_of_row V C 3 _ _ _ hCz
              simp at t0 t1 t2 t3
              have HCz := Lib.hid hCz
              clear hdl hCz hzk hlt3 hz
              go_upto_region 20 with (fail)
              go_wp2_with fail
              refine HMI.out.mono ?_
              rintro r v1 ⟨⟨A7, c7, rfl⟩, hbv⟩
              have HN1 := Lib.hid (HNZ.out.after hbv)
              have hC1 := (hbv.block _ (lt_of_block HCz.out)).trans HCz.out
              have ho1 := own_after HO1z.out fun g hg => hbv.block g (ownlt HO1z.out g hg).2
              obtain ⟨cur1, hcu1⟩ := own_type ho1 (g := g1) rfl
              have hat1 := At32.of_own ho1
              clear t0 t1 t2 t3
              have t1 := cell_of_row v1 C 1 _ _ _ hC1
              simp at t1
              have z1 := hat1 0 1 (pl_get hn1)
              rw [Nat.zero_add] at z1
              have zf : ∀ i, v1.frozen? ⟨g1, i, none⟩ = false := fun i => frozen_of_row v1 _ i _ _ hcu1
              obtain ⟨w10, hw10⟩ : ∃ w10, w10 = v1.setCell ⟨g1, 0, none⟩ (.int .u32 99) := ⟨_, rfl⟩
              have HN10 : Hid (NL w B R b1 cur [] w10) := by
                obtain ⟨vi, hb⟩ := HN1.out.bk
                have hgw : w.heap.size ≤ g1 := by have := HBW.out; have := HG1R.out; omega
                rw [hw10]
                exact ⟨⟨vi, hb.nil_set hcu1⟩, (Below.heap_setCell _ _ _ _ (by show b1 ≠ g1; have := HG1R.out; omega)).trans HN1.out.pls, HN1.out.all.setCell hgw _⟩
              have H10 := Lib.hid hw10
              have hbl : (0 : Int) < (k : Int) := by omega
              clear hbv hC1 ho1 hat1 hcu1 hw10
              obtain ⟨vi10, hk10⟩ := HN10.out.bk
              have HOP2 := Lib.hid (HOPEN.out w10 vi10 6 3 (by decide) hk10 HN10.out.pls)
              clear hk10
              go_upto_region 23 with (fail)
              rw [← H10.out]
              clear z1 zf t1
              go_wp2_with fail
              refine HOP2.out.mono ?_
              rintro r w11 ⟨rfl, hp11⟩
              have hn11 := HN10.out.put hp11 HBRL.out HWR.out
              obtain ⟨vi11, hk11⟩ := hn11.bk
              have z1 := HAT.out _ hn11.pls 0 1 (pl_get hn1)
              rw [Nat.zero_add] at z1
              have zf : ∀ i, w11.frozen? ⟨b1, i, none⟩ = false := fun i => frozen_of_row w11 _ i _ _ hn11.pls
              obtain ⟨w12, hw12⟩ : ∃ w12, w12 = w11.setCell ⟨b1, 0, none⟩ (.int .u32 50) := ⟨_, rfl⟩
              have HK12 : Hid (Bk w12 B R 1 vi11 [⟨6, 3, pl 1 k, []⟩]) := by rw [hw12]; exact hk11.low HBB.out HBRL.out
              have HB12 : Hid (Below w.heap.size w w12) := by rw [hw12]; exact hn11.all.setCell HBW.out _
              have H12 := Lib.hid hw12
              have HCK : Hid (Calls Try.prog 10 #[bp B, .int .u32 6] w12 fun r w' => ∃ (A1 A2 : Option Addr) (n2 c1 c2 : Nat), r = .returned (.tuple #[.agg #[.int .u32 6, .slice A1 k c1, .slice A2 n2 c2, .int .i64 3], .bool true]) ∧ w'.ownsRow w12.heap.size 26 1 (.slice A1 k c1) k (un (pl 1 k)) ∧ Below w12.heap.size w12 w') :=
                (check_some B R 1 vi11 [⟨6, 3, pl 1 k, []⟩] 6 ⟨6, 3, pl 1 k, []⟩ w12 HK12.out (by simp) (get_one _) (by show (pl 1 k).length ≤ 100; rw [pl_len]; omega) (by simp)).mono (by
                  rintro r w' ⟨v, rfl, ⟨A1, A2, c1, c2, rfl, o1, -⟩, hb⟩
                  rw [show ((⟨6, 3, pl 1 k, []⟩ : Pt).mem) = pl 1 k from rfl, pl_len] at o1
                  refine ⟨A1, A2, 0, c1, c2, ?_, o1, hb⟩
                  rw [show ((⟨6, 3, pl 1 k, []⟩ : Pt).mem) = pl 1 k from rfl, pl_len]
                  rfl)
              clear hp11 hn11 hk11 hw12
              go_upto_region 25 with (fail)
              rw [← H12.out]
              clear z1 zf
              go_wp2_with fail
              refine HCK.out.mono ?_
              rintro r w13 ⟨A5, A6, n6, c5, c6, rfl, o5, hb13⟩
              obtain ⟨g3, hA5, hg3⟩ : ∃ g3, A5 = some ⟨g3, 0, none⟩ ∧ w12.heap.size ≤ g3 := by
                rcases o5.2 with ⟨e, h0⟩ | ⟨g, cap, cur, e, hg, hh, _⟩
                · injection e with _ e _
                  omega
                · injection e with e1 _ _
                  exact ⟨g, e1, hg⟩
              subst hA5
              obtain ⟨D, hD⟩ : ∃ D, D = w13.heap.size := ⟨_, rfl⟩
              obtain ⟨w14, hw14⟩ : ∃ w14, w14 = w13.alloc (.cells #[.int .u32 6, .slice (some ⟨g3, 0, none⟩) k c5, .slice A6 n6 c6, .int .i64 3] 33) := ⟨_, rfl⟩
              have hb14 : Below w13.heap.size w13 w14 := by rw [hw14]; exact (Below.refl _ _).alloc (Nat.le_refl _) _
              have hq14 : w14.heap[D]? = some (.cells #[.int .u32 6, .slice (some ⟨g3, 0, none⟩) k c5, .slice A6 n6 c6, .int .i64 3] 33 (0, 0)) := by rw [hw14, hD]; exact heap_alloc_new w13 _
              have ho14 := own_after o5 fun g hg => hb14.block g (ownlt o5 g hg).2
              obtain ⟨cur3, hcu3⟩ := own_type ho14 (g := g3) rfl
              have z1 := At32.of_own ho14 0 1 (pl_get hn1)
              rw [Nat.zero_add] at z1
              have zf : ∀ i, w14.frozen? ⟨g3, i, none⟩ = false := fun i => frozen_of_row w14 _ i _ _ hcu3
              have t1 := cell_of_row w14 D 1 _ _ _ hq14
              simp at t1
              obtain ⟨w15, hw15⟩ : ∃ w15, w15 = w14.setCell ⟨g3, 0, none⟩ (.int .u32 98) := ⟨_, rfl⟩
              have hb15 : Below w12.heap.size w12 w15 := by rw [hw15]; exact (hb13.trans (hb14.mono hb13.size)).setCell hg3 _
              have HOF1 : Hid (Calls Try.prog 13 #[bp B, .int .u32 1] w15 fun r w' => r = .returned (.int .u32 6) ∧ Below w15.heap.size w15 w') := by
                have h0 := of_any B R 1 vi11 [⟨6, 3, pl 1 k, []⟩] 1 w15 (HK12.out.after hb15) (by simp) (by simp [pl_len]; omega)
                rw [show ofP [(⟨6, 3, pl 1 k, []⟩ : Pt)] 1 = 6 from of_one (pl_mem'.2 ⟨by omega, by omega⟩)] at h0
                exact h0
              have HOF2 : Hid (∀ W, Below w15.heap.size w15 W → Calls Try.prog 13 #[bp B, .int .u32 98] W fun r w' => r = .returned (.int .u32 0) ∧ Below W.heap.size W w') := fun W hW => by
                have h0 := of_any B R 1 vi11 [⟨6, 3, pl 1 k, []⟩] 98 W (HK12.out.after (hb15.trans (hW.mono hb15.size))) (by simp) (by simp [pl_len]; omega)
                rw [show ofP [(⟨6, 3, pl 1 k, []⟩ : Pt)] 98 = 0 from of_not (fun h => by have := pl_mem'.1 h; omega)] at h0
                exact h0
              have HB15 : Hid (Below w.heap.size w w15) := HB12.out.trans (hb15.mono HB12.out.size)
              have H14 := Lib.hid hw14
              have H15 := Lib.hid hw15
              have HDD := Lib.hid hD
              clear o5 hb13 hg3 hD hw14 hb14 hq14 ho14 hcu3 hw15 hb15
              go_upto_region 26 with (fail)
              rw [← H14.out, ← HDD.out]
              go_upto_region 29 with (fail)
              rw [← H15.out]
              clear z1 zf t1
              go_wp2_with fail
              refine HOF1.out.mono ?_
              rintro r w16 ⟨rfl, hb16⟩
              have HB16 := Lib.hid hb16
              clear hb16
              go_wp2_with fail
              refine (HOF2.out w16 HB16.out).mono ?_
              rintro r w17 ⟨rfl, hb17⟩
              have HB17 : Hid (Below w.heap.size w w17) := HB15.out.trans ((HB16.out.trans (hb17.mono HB16.out.size)).mono HB15.out.size)
              clear hb17
              go_wp2_with fail
              refine (awake_any w17).mono ?_
              rintro r w18 ⟨rfl, hb18⟩
              have HB18 := Lib.hid (HB17.out.trans (hb18.mono HB17.out.size))
              clear hb18
              go_wp2
              go_ret
              exact ⟨rfl, HB18.out⟩
end Go.Proofs.Ytemjmnpclknfaaa.P
