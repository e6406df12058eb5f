/- Frames: what any pieces come to, piece by piece: FrameFeeds returns true for every input. -/
import Derived.Test.YtggoclmboemmlaaFD
namespace Go.Proofs.Ytggoclmboemmlaa
open Go.RowKit

theorem flat_short {ps : List (List UInt8)} (h : ∀ p ∈ ps, p.length ≤ 1200) : ps.flatten.length ≤ 1200 * ps.length := by
  induction ps with
  | nil => simp
  | cons p ps ih =>
    have h1 := h p (by simp)
    have h2 := ih (fun q hq => h q (by simp [hq]))
    rw [List.flatten_cons, List.length_append, List.length_cons]
    omega
theorem run_slice_none (W : World) : (Instr.slice 22 (.slice Option.none 0 0) (some (.int .i64 0)) Option.none Option.none).run Try.prog W = .ok (.slice Option.none 0 0) W := by
  obtain ⟨i0, hi, _, hz1, _⟩ := info_parts Try.info24
  simp [Instr.slice, Sem.run_bind, run_underlying Try.underlying22, Instr.sliceBounds, run_sliceBound, sizeOf, typeInfo, hi]
theorem run_slice_drop (W : World) (g o n c m : Nat) (hm : m ≤ n) (hne : c ≠ m) : (Instr.slice 22 (.slice (some ⟨g, o, none⟩) n c) (some (.int .i64 (m : Int))) Option.none Option.none).run Try.prog W = .ok (.slice (some ⟨g, o + m, none⟩) (n - m) (c - m)) W := by
  obtain ⟨i0, hi, _, hz1, _⟩ := info_parts Try.info24
  have h1 : (m : Int) ≤ n := by omega
  simp [Instr.slice, Sem.run_bind, run_underlying Try.underlying22, Instr.sliceBounds, run_sliceBound, sizeOf, typeInfo, hi, hz1, Addr.add_mid, h1, hne]
theorem run_slice_end (W : World) (g o n m : Nat) (hm : m ≤ n) (hc : n ≤ m) : (Instr.slice 22 (.slice (some ⟨g, o, none⟩) n m) (some (.int .i64 (m : Int))) Option.none Option.none).run Try.prog W = .ok (.slice (some ⟨g, o, none⟩) 0 0) W := by
  obtain ⟨i0, hi, _, hz1, _⟩ := info_parts Try.info24
  obtain rfl : n = m := by omega
  simp [Instr.slice, Sem.run_bind, run_underlying Try.underlying22, Instr.sliceBounds, run_sliceBound, sizeOf, typeInfo, hi]
/-- The frames behind the first ones. -/
theorem frs_drop {w : World} {B : Nat} {A : Option Addr} {n c m : Nat} {fs gs : List (List UInt8)} {vs : List Value} (h : Frs w B (.slice A n c) (fs ++ gs) vs) (hm : m = fs.length) :
    ∃ A' n' c', (∀ W, (Instr.slice 22 (.slice A n c) (some (.int .i64 (m : Int))) Option.none Option.none).run Try.prog W = .ok (.slice A' n' c') W) ∧ Pbs w (.slice A' n' c') gs := by
  have hcs := fun g => h.1.cells (g := g)
  have hl : (fs ++ gs).length = fs.length + gs.length := List.length_append
  rcases h.1.2 with ⟨e, h0⟩ | ⟨g, cap, cur, e, _, hg, hc, _⟩
  · injection e with e1 e2 e3
    subst e1 e2 e3
    have hm0 : m = 0 := by omega
    have hg0 : gs = [] := List.eq_nil_of_length_eq_zero (by omega)
    subst hm0 hg0
    exact ⟨none, 0, 0, fun W => run_slice_none W, none, 0, rfl, by simp, fun hx => absurd hx (by simp)⟩
  · injection e with e1 e2 e3
    subst e1 e2 e3
    by_cases hcm : c = m
    · subst hcm
      have hg0 : gs = [] := List.eq_nil_of_length_eq_zero (by omega)
      subst hg0
      exact ⟨_, 0, 0, fun W => run_slice_end W g 0 _ c (by omega) (by omega), _, 0, rfl, by simp, fun hx => absurd hx (by simp)⟩
    · refine ⟨_, _, _, fun W => run_slice_drop W g 0 _ c m (by omega) hcm, ⟨_, _, by rw [show (fs ++ gs).length - m = gs.length by omega], by omega, fun hx => ⟨g, 0 + m, rfl, lt_of_block' hg, fun j hj => ?_⟩⟩⟩
      obtain ⟨A8, n8, c8, h1, h2⟩ := h.2 (m + j) (by omega)
      have h3 := hcs g rfl (m + j) _ h1
      rw [Addr.add_mid] at h3
      refine ⟨_, by rw [Nat.add_assoc]; exact h3, ?_⟩
      have h4 := own_pb h2
      rw [List.getElem_append_right (by omega)] at h4
      simpa [hm] using h4

set_option maxHeartbeats 4000000 in
set_option maxRecDepth 4000 in
theorem ffeeds_walk (v : Value) (ps : List (List UInt8)) (w : World) (hp : Pbs w v ps) (hpl : ps.length ≤ 9223372036854775807) (hql : ∀ p ∈ ps, p.length ≤ 9223372036854775807) :
    Calls Try.prog 4 #[v] w fun e w' => e = .returned (.bool true) ∧ Below w.heap.size w w' := by
  obtain ⟨A, c, rfl, _, _⟩ := id hp
  have hsh := short_any _ ps w hp hpl hql
  obtain ⟨sb, hsb⟩ : ∃ sb, sb = shortB ps := ⟨_, rfl⟩
  rw [← hsb] at hsh
  have HSH := Lib.hid hsh
  have HSB := Lib.hid hsb
  have HP := Lib.hid hp
  have HA := Lib.hid (fun (W : World) => awake_any W)
  obtain ⟨H, hH⟩ : ∃ H, H = w.heap.size := ⟨_, rfl⟩
  have HHH := Lib.hid hH
  clear hsh hsb hp hql
  go_enter Try.func4, Try.ntmps4
  go_wp2_with fail
  refine HSH.out.mono ?_
  rintro e w0 ⟨rfl, rfl⟩
  clear HSH
  cases sb with
  | false =>
    go_wp2_with fail
    go_ret
    exact ⟨rfl, Below.refl _ _⟩
  | true =>
    have hfl : ps.flatten.length ≤ 24000 := by
      have h1 := short_len HSB.out.symm
      have h2 := flat_short h1.1
      omega
    have HFLAT := Lib.hid hfl
    clear hfl
    go_wp2_with fail
    refine (new_any w).mono ?_
    rintro e w1 ⟨rfl, hw1⟩
    rw [← hH]
    have hr1 : w1.heap[H]? = some (.cells #[.slice none 0 0, .bool false] 50 (0, 0)) := by rw [hw1, hH]; exact heap_alloc_new w _
    have hb1 : Below w.heap.size w w1 := by rw [hw1]; exact (Below.refl _ _).alloc (Nat.le_refl _) _
    have HI1 := Lib.hid (show IsR w1 H (.slice none 0 0) [] false from ⟨hr1, World.ownsRow_nil w1 (H + 1) 5 1⟩)
    have HB1 := Lib.hid hb1
    have hd := dead_any H _ false w1 hr1
    have HD := Lib.hid hd
    clear hr1 hb1 hw1 hH hd
    go_wp2_with fail
    refine HD.out.mono ?_
    rintro e w2 ⟨rfl, rfl⟩
    clear HD
    go_wp2_with fail
    go_loopw [4, 5, 6, 7] (fun av hv dv iv wr => ∃ (k had : Nat) (x : Value) (A4 : Option Addr) (n4 c4 : Nat) (L r : List UInt8) (fs : List (List UInt8)) (d : Bool), k ≤ ps.length ∧ iv = .int .i64 (k : Int) ∧ av = .slice A4 n4 c4 ∧ hv = .int .i64 (had : Int) ∧ dv = .bool d ∧ Hid (had = fs.length) ∧ Hid (parse L = (fs, r, d)) ∧ Hid (IsR wr H x r d) ∧ Hid (wr.ownsRow (H + 1) 5 1 (.slice A4 n4 c4) L.length (bv L)) ∧ Hid (∀ g, x.ownBlock = some g → (Value.slice A4 n4 c4).ownBlock ≠ some g) ∧ Hid (L.length ≤ (ps.take k).flatten.length) ∧ Hid (Below w.heap.size w wr)) (fun _ _ _ iv _ => ps.length - (intOf iv).toNat)
    case atStart =>
      have e0 : parse ([] : List UInt8) = ([], [], false) := parse_short (by simp)
      exact ⟨0, 0, _, none, 0, 0, [], [], [], false, by omega, rfl, rfl, rfl, rfl, Lib.hid rfl, Lib.hid e0, HI1, Lib.hid (World.ownsRow_nil _ _ 5 1), Lib.hid (fun g h e => by cases e), Lib.hid (by simp), HB1⟩
    case round =>
      clear HI1 HB1
      obtain ⟨k, had, x, A4, n4, c4, L, r, fs, d, hk, rfl, rfl, rfl, rfl, hhad, hL, hi, hall, hdj, hLl, hb⟩ := hrel
      by_cases hlt : k < ps.length
      · obtain ⟨b, o, c2, u, e2, hbl, hcw, hpw⟩ := HP.out.get hlt
        injection e2 with e3 _ e4
        subst e3 e4
        have hcell := (hb.out.cell (p := ⟨b, o + k, none⟩) hbl).trans hcw
        have hflk := flat_le ps (k + 1)
        rw [flat_take ps k hlt, List.length_append] at hflk
        obtain ⟨p, hpk⟩ : ∃ p, p = ps[k] := ⟨_, rfl⟩
        have hLl1 : L.length + p.length ≤ (ps.take (k + 1)).flatten.length := by
          rw [flat_take ps k hlt, List.length_append, hpk]
          have := hLl.out
          omega
        rw [← hpk] at hpw hflk
        obtain ⟨A3, c3, rfl, _, _⟩ := id hpw
        have hpp := hpw.below hb.out
        have hLb : L.length + p.length ≤ 24000 := by have := HFLAT.out; have := hLl.out; omega
        have HPP := Lib.hid hpp
        have HPW := Lib.hid hpw
        have HL1 := Lib.hid hLl1
        have HLB := Lib.hid hLb
        have HCW := Lib.hid hcw
        clear hpp hLl1 hLb hpk hpw hflk hcw
        cases d with
        | true =>
          have hfd := feed_dead H x (.slice A3 p.length c3) wr hi.out.1
          have hd := dead_any H x true wr hi.out.1
          have hh := held_any H x r true wr hi.out.1 (own_pb hi.out.2)
          have hr0 : r = [] := by
            have := parse_dead L (by rw [hL.out])
            rw [hL.out] at this
            exact this
          rw [hr0] at hh
          have HFD := Lib.hid hfd
          have HD := Lib.hid hd
          have HHD := Lib.hid hh
          clear hfd hd hh hr0
          go_wp2_with fail
          refine HFD.out.mono ?_
          rintro e w3 ⟨rfl, rfl⟩
          go_wp2_with fail
          refine HD.out.mono ?_
          rintro e w3 ⟨rfl, rfl⟩
          go_wp2_with fail
          refine HHD.out.mono ?_
          rintro e w3 ⟨rfl, rfl⟩
          go_wp2_with fail
          go_roundw
          case rel => exact ⟨k + 1, had, x, A4, n4, c4, L, r, fs, true, by omega, by go_num, rfl, rfl, rfl, hhad, hL, hi, hall, hdj, Lib.hid (by have := HL1.out; omega), hb⟩
          case measure => simp [intOf] <;> omega
        | false =>
          have hrl : r.length ≤ L.length := by have := (rest_le L).2; rw [hL.out] at this; exact this
          have hfd := feed_any H x _ r p wr hi.out HPP.out (by have := HLB.out; omega)
          have hnew : parse (L ++ p) = (fs ++ (parse (r ++ p)).1, (parse (r ++ p)).2) := parse_two hL.out
          obtain ⟨q2, hq2⟩ : ∃ q2, q2 = parse (r ++ p) := ⟨_, rfl⟩
          have hfl2 := parse_few (L ++ p)
          rw [← hq2] at hfd hnew
          rw [hnew] at hfl2
          obtain ⟨gs, r2, d2⟩ := q2
          obtain ⟨er, her⟩ : ∃ er : Int, er = if d2 then 6 else 0 := ⟨_, rfl⟩
          have HFD := Lib.hid hfd
          rw [← her] at HFD
          have HNEW := Lib.hid hnew
          have HER := Lib.hid her
          have HFL2 := Lib.hid (show fs.length + gs.length ≤ 24000 by have := HLB.out; simp at hfl2; omega)
          clear hfd hnew her hfl2 hq2 hrl
          go_wp2_with fail
          refine HFD.out.mono ?_
          rintro e w2 ⟨A7, n7, c7, us, x2, rfl, hfr2, hir2, hob2, hdj2, hk2⟩
          have hall2 : w2.ownsRow (H + 1) 5 1 (.slice A4 n4 c4) L.length (bv L) := hk2.own hall.out (fun g h e => by
            rcases e with e | e
            · have := (hall.out.lt g h).1; omega
            · exact hdj.out g e h)
          have hbw2 : Below w.heap.size w w2 := hb.out.trans (hk2.below hb.out.size (fun g e => by
            rcases e with e | e
            · rw [e, HHH.out]; exact Nat.le_refl _
            · have := (hi.out.2.lt g e).1; have := HHH.out; omega))
          have hdjx : ∀ g, x2.ownBlock = some g → (Value.slice A4 n4 c4).ownBlock ≠ some g := by
            intro g hg he
            rcases hob2 with e | e | ⟨g2, e, hge⟩
            · exact hdj.out g (by rw [← e]; exact hg) he
            · rw [e] at hg; cases hg
            · have := (hall.out.lt g he).2
              rw [e] at hg
              injection hg with hg
              omega
          have hcell2 := (hbw2.cell (p := ⟨b, o + k, none⟩) hbl).trans HCW.out
          have hsz2 : H + 1 ≤ w2.heap.size := lt_of_block' hir2.1
          have HALL2 := Lib.hid hall2
          have HBW2 := Lib.hid hbw2
          have HDJX := Lib.hid hdjx
          have HFR2 := Lib.hid hfr2
          have HIR2 := Lib.hid hir2
          have HSZ2 := Lib.hid hsz2
          have HALT := Lib.hid (show ∀ g, (Value.slice A4 n4 c4).ownBlock = some g → g < wr.heap.size from fun g h => (hall.out.lt g h).2)
          have HPP2 := Lib.hid (HPW.out.below hbw2)
          have HLA := Lib.hid (show L.length + p.length ≤ 1000000 by have := HLB.out; omega)
          clear hall2 hbw2 hdjx hfr2 hir2 hdj2 hob2 hk2 HFD hcell hsz2
          go_wp2_with (at_builtin; refine wpList_append_bytes rfl (.tmp 59) (.tmp 63) rfl (H + 1) (.slice A4 n4 c4) (.slice A3 p.length c3) L p rfl rfl HALL2.out HPP2.out HLA.out HSZ2.out ?_; intro v3 w3 hown3 hg3 hat3; obtain ⟨A5, n5, c5, rfl⟩ := own_form hown3)
          have hi3 : IsR w3 H x2 r2 d2 := ⟨(Kp.of_grown hg3).heap HIR2.out.1 (fun e => by have := (HALL2.out.lt H e).1; omega), (Kp.of_grown hg3).own HIR2.out.2 (fun g h e => HDJX.out g h e)⟩
          have hf3 : Frs w3 wr.heap.size (.slice A7 n7 c7) gs us := HFR2.out.kept (Nat.le_refl _) (Kp.of_grown hg3) (fun g h e => by have := HALT.out g e; omega)
          have hb3 : Below w.heap.size w w3 := HBW2.out.grown hg3 HBW2.out.size (fun g h => by have := (HALL2.out.lt g h).1; have := HHH.out; omega)
          have hdj3 : ∀ g, x2.ownBlock = some g → (Value.slice A5 n5 c5).ownBlock ≠ some g := by
            intro g hg he
            rcases hat3 with e | e
            · exact HDJX.out g hg (by rw [← e]; exact he)
            · rw [e] at he
              injection he with he
              have := (HIR2.out.2.lt g hg).2
              omega
          have hrf := rframes_any _ (L ++ p) w3 (own_pb hown3) (by rw [List.length_append]; have := HLB.out; omega)
          rw [HNEW.out] at hrf
          obtain ⟨lf, hlf⟩ : ∃ lf, lf = r2.length := ⟨_, rfl⟩
          simp only [← hlf] at hrf
          have HRF := Lib.hid hrf
          have HI3 := Lib.hid hi3
          have HF3 := Lib.hid hf3
          have HB3 := Lib.hid hb3
          have HDJ3 := Lib.hid hdj3
          have HO3 := Lib.hid hown3
          have HLF := Lib.hid hlf
          clear hrf hi3 hf3 hb3 hdj3 hown3 hlf hg3 hat3 hcell2 HALL2 HBW2 HDJX HFR2 HIR2 HSZ2 HALT HPP2
          refine HRF.out.mono ?_
          intro e w4 hq
          obtain ⟨A8, n8, c8, ws, e1, hfr4, hb4⟩ := hq
          subst e1
          rw [HNEW.out] at hfr4
          obtain ⟨A9, n9, c9, hsl, hpg⟩ := frs_drop hfr4 hhad.out
          obtain ⟨c88, hform⟩ : ∃ c88, n8 = (fs ++ gs).length := ⟨0, by obtain ⟨_, _, e⟩ := hfr4.form; injection e⟩
          have hsm := same_any _ _ gs gs w4 (HF3.out.below_frs (Nat.le_refl _) (Kp.of_below _ hb4)).pbs hpg (by have := HFL2.out; omega) (by have := HFL2.out; omega)
          rw [decide_eq_true rfl] at hsm
          have HSM := Lib.hid hsm
          have HW4 := Lib.hid (show IsR w4 H x2 r2 d2 ∧ w4.ownsRow (H + 1) 5 1 (.slice A5 n5 c5) (L ++ p).length (bv (L ++ p)) ∧ Below w.heap.size w w4 from ⟨⟨(hb4.block H (lt_of_block' HI3.out.1)).trans HI3.out.1, own_below HI3.out.2 hb4⟩, own_below HO3.out hb4, HB3.out.trans (hb4.mono HB3.out.size)⟩)
          have HN8 := Lib.hid hform
          clear hsm hpg hfr4 hb4 hform HF3 HO3 HRF HI3 HB3
          go_wp2_with fail
          refine HSM.out.mono ?_
          rintro e w5 ⟨rfl, hb5⟩
          have HW5 := Lib.hid (show IsR w5 H x2 r2 d2 ∧ w5.ownsRow (H + 1) 5 1 (.slice A5 n5 c5) (L ++ p).length (bv (L ++ p)) ∧ Below w.heap.size w w5 from ⟨⟨(hb5.block H (lt_of_block' HW4.out.1.1)).trans HW4.out.1.1, own_below HW4.out.1.2 hb5⟩, own_below HW4.out.2.1 hb5, HW4.out.2.2.trans (hb5.mono HW4.out.2.2.size)⟩)
          have hh := held_any H x2 r2 d2 w5 HW5.out.1.1 (own_pb HW5.out.1.2)
          rw [← HLF.out] at hh
          have hd := dead_any H x2 d2 w5 HW5.out.1.1
          have HHD := Lib.hid hh
          have HD := Lib.hid hd
          clear hh hd hb5 hsl HSM HW4
          cases d2 with
          | true =>
            obtain rfl : er = 6 := HER.out
            go_wp2_with fail
            refine HHD.out.mono ?_
            rintro e w6 ⟨rfl, rfl⟩
            go_wp2_with fail
            refine HD.out.mono ?_
            rintro e w6 ⟨rfl, rfl⟩
            go_wp2_with fail
            go_roundw
            case rel => exact ⟨k + 1, n8, x2, A5, n5, c5, L ++ p, r2, fs ++ gs, true, by omega, by go_num, rfl, rfl, rfl, HN8, HNEW, Lib.hid HW5.out.1, Lib.hid HW5.out.2.1, HDJ3, Lib.hid (by rw [List.length_append]; exact HL1.out), Lib.hid HW5.out.2.2⟩
            case measure => simp [intOf] <;> omega
          | false =>
            obtain rfl : er = 0 := HER.out
            go_wp2_with fail
            refine HHD.out.mono ?_
            rintro e w6 ⟨rfl, rfl⟩
            go_wp2_with fail
            refine HD.out.mono ?_
            rintro e w6 ⟨rfl, rfl⟩
            go_wp2_with fail
            go_roundw
            case rel => exact ⟨k + 1, n8, x2, A5, n5, c5, L ++ p, r2, fs ++ gs, false, by omega, by go_num, rfl, rfl, rfl, HN8, HNEW, Lib.hid HW5.out.1, Lib.hid HW5.out.2.1, HDJ3, Lib.hid (by rw [List.length_append]; exact HL1.out), Lib.hid HW5.out.2.2⟩
            case measure => simp [intOf] <;> omega
      · have HFN := Lib.hid (fun (W : World) (y : Value) => feed_nil y W)
        have HHN := Lib.hid (fun (W : World) => held_nil W)
        have HDN := Lib.hid (fun (W : World) => dead_nil W)
        have HB := Lib.hid hb.out
        clear hb hall hdj hi hL hLl hhad
        go_wp2_with fail
        refine (HFN.out wr _).mono ?_
        rintro e w6 ⟨rfl, rfl⟩
        go_wp2_with fail
        refine (HHN.out wr).mono ?_
        rintro e w6 ⟨rfl, rfl⟩
        go_wp2_with fail
        refine (HDN.out wr).mono ?_
        rintro e w6 ⟨rfl, rfl⟩
        go_wp2_with fail
        refine (HA.out wr).mono ?_
        rintro e w6 ⟨rfl, hb6⟩
        have HB6 := Lib.hid (HB.out.trans (hb6.mono HB.out.size))
        clear hb6
        go_wp2_with fail
        go_ret
        exact ⟨rfl, HB6.out⟩
end Go.Proofs.Ytggoclmboemmlaa
