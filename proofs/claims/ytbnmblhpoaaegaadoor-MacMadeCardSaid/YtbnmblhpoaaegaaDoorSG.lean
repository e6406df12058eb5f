/- What is written is not kept: ShaKept returns true for every input. -/
import Derived.Test.YtbnmblhpoaaegaaDoorSF
namespace Go.Proofs.YtbnmblhpoaaegaaDoor
open Go.RowKit

theorem own_px {w : World} {B H : Nat} {v : Value} {l : List UInt8} (h : w.ownsRow B 5 1 v l.length (bv l)) (hH : H < B) : Px w H v l := by
  obtain ⟨A, c, e, hc, hr⟩ := own_pb h
  refine ⟨A, c, e, hc, fun hp => ?_⟩
  obtain ⟨b, o, ha, hb, hcell⟩ := hr hp
  have := (h.lt b (by rw [e, ha]; rfl)).1
  exact ⟨b, o, ha, by omega, hb, hcell⟩
theorem grown_own {a w w' : World} {H B : Nat} {v : Value} {n : Nat} {xs : List Value} (hg : a.grownBy w (some H)) (ho : w.ownsRow B 5 1 v n xs) (hB : a.heap.size ≤ B) (hg2 : w.grownBy w' v.ownBlock) : a.grownBy w' (some H) :=
  ⟨hg2.os.trans hg.os, hg2.tape.trans hg.tape, hg2.output.trans hg.output, Nat.le_trans hg.size hg2.size, fun k hk hne => (hg2.block k (Nat.lt_of_lt_of_le hk hg.size) (fun e => by have := (ho.lt k e.symm).1; omega)).trans (hg.block k hk hne)⟩
theorem own_above' {w : World} {B H : Nat} {v : Value} {n : Nat} {xs : List Value} (h : w.ownsRow B 5 1 v n xs) (hB : H < B) : v.ownBlock = none ∨ v.ownBlock ≠ some H := by
  cases hv : v.ownBlock with
  | none => exact .inl rfl
  | some k => exact .inr (fun e => by have := (h.lt k hv).1; injection e with e; omega)
theorem ish_kept' {w w' : World} {B H : Nat} {l : List UInt8} {v : Value} {n : Nat} {xs : List Value} (h : IsH w H l) (ho : w.ownsRow B 5 1 v n xs) (hB : H < B) (hg : w.grownBy w' v.ownBlock) : IsH w' H l :=
  IsHM.kept h (hg.block H (IsHM.lt h) (fun e => by have := (ho.lt H e.symm).1; omega))
theorem xor_small : ∀ n : Fin 256, bits .xor .u8 ((n.val : Nat) : Int) 255 = (((UInt8.ofNat n.val) ^^^ 255).toNat : Int) := by decide +kernel
theorem xor_byte (y : UInt8) : bits .xor .u8 (y.toNat : Int) 255 = ((y ^^^ 255).toNat : Int) := by
  have h := xor_small ⟨y.toNat, y.toNat_lt⟩
  simpa using h
theorem eq_zero (Z : List UInt8) (hZ : Z = List.replicate 32 0) (w : World) : (Op.equalIn 10000 30 (.agg (bv Z).toArray) (.agg #[Value.int .u8 0, Value.int .u8 0, Value.int .u8 0, Value.int .u8 0, Value.int .u8 0, Value.int .u8 0, Value.int .u8 0, Value.int .u8 0, Value.int .u8 0, Value.int .u8 0, Value.int .u8 0, Value.int .u8 0, Value.int .u8 0, Value.int .u8 0, Value.int .u8 0, Value.int .u8 0, Value.int .u8 0, Value.int .u8 0, Value.int .u8 0, Value.int .u8 0, Value.int .u8 0, Value.int .u8 0, Value.int .u8 0, Value.int .u8 0, Value.int .u8 0, Value.int .u8 0, Value.int .u8 0, Value.int .u8 0, Value.int .u8 0, Value.int .u8 0, Value.int .u8 0, Value.int .u8 0])).run Tryd.prog w = .ok true w := by
  have h := eq_bytes Z (by rw [hZ]; rfl) w
  have e : (bv Z).toArray = #[Value.int .u8 0, Value.int .u8 0, Value.int .u8 0, Value.int .u8 0, Value.int .u8 0, Value.int .u8 0, Value.int .u8 0, Value.int .u8 0, Value.int .u8 0, Value.int .u8 0, Value.int .u8 0, Value.int .u8 0, Value.int .u8 0, Value.int .u8 0, Value.int .u8 0, Value.int .u8 0, Value.int .u8 0, Value.int .u8 0, Value.int .u8 0, Value.int .u8 0, Value.int .u8 0, Value.int .u8 0, Value.int .u8 0, Value.int .u8 0, Value.int .u8 0, Value.int .u8 0, Value.int .u8 0, Value.int .u8 0, Value.int .u8 0, Value.int .u8 0, Value.int .u8 0, Value.int .u8 0] := by rw [hZ]; rfl
  rw [e] at h ⊢
  exact h
theorem own_some {w : World} {B n : Nat} {v : Value} {xs : List Value} (h : w.ownsRow B 5 1 v n xs) (hn : 0 < n) : ∃ g cap, v = .slice (some ⟨g, 0, none⟩) n cap := by
  rcases h.2 with ⟨_, hx⟩ | ⟨g, cap, cur, hv, _⟩
  · have h1 := h.1
    rw [hx] at h1
    simp at h1
    omega
  · exact ⟨g, cap, hv⟩
theorem bv_set (l : List UInt8) (j : Nat) (y : UInt8) : (bv l).set j (.int .u8 (y.toNat : Int)) = bv (l.set j y) := by
  simp [bv, List.map_set]
theorem bv_get (l : List UInt8) (j : Nat) (hj : j < l.length) : (bv l)[j]? = some (.int .u8 ((l[j].toNat : Nat) : Int)) := by
  simp [bv, hj]

set_option maxHeartbeats 2000000 in
set_option maxRecDepth 4000 in
theorem kept_walk (v : Value) (ps : List (List UInt8)) (w : World) (hp : Pbs w v ps) (hk : Kt w) (hf : Ft w) (h1 : 1 < w.heap.size) (hpl : ps.length ≤ 9223372036854775807) (hql : ∀ p ∈ ps, p.length ≤ 9223372036854775807) :
    Calls Tryd.prog 6 #[v] w fun e w' => e = .returned (.bool true) ∧ Below w.heap.size w w' := by
  obtain ⟨A, c, rfl, _, _⟩ := id hp
  have hfew := few_any _ ps w hp hpl hql
  have hnew := new_any w hf
  obtain ⟨fb, hfb⟩ : ∃ fb, fb = fewB ps := ⟨_, rfl⟩
  rw [← hfb] at hfew
  have HFEW := Lib.hid hfew
  have HFB := Lib.hid hfb
  have HNEW := Lib.hid hnew
  have HP := Lib.hid hp
  have HK := Lib.hid hk
  have HF := Lib.hid hf
  have H1 := Lib.hid h1
  clear hfew hfb hnew hp hk hf hql
  go_enter Tryd.func6, Tryd.ntmps6
  go_wp2_with fail
  refine HFEW.out.mono ?_
  rintro e w0 ⟨rfl, rfl⟩
  clear HFEW
  cases fb with
  | false =>
    go_wp2_with fail
    go_ret
    exact ⟨rfl, Below.refl _ _⟩
  | true =>
    have hfl := few_flat HFB.out.symm
    go_wp2_with fail
    refine HNEW.out.mono ?_
    rintro e w1 ⟨rfl, hi1, hb1⟩
    obtain ⟨H, hH⟩ : ∃ H, H = w.heap.size := ⟨_, rfl⟩
    rw [← hH] at hi1 ⊢
    have HH := Lib.hid hH
    clear hH
    have hlt1 := IsHM.lt hi1
    have hb1' : Below w.heap.size w w1 := hb1
    have HI1 := Lib.hid hi1
    have HB1 := Lib.hid hb1'
    clear hi1 hb1 hb1' HNEW HFB
    go_wp2_with fail
    go_loopw [4, 5] (fun u i wr => ∃ k : Nat, k ≤ ps.length ∧ i = .int .i64 k ∧ Hid (IsH wr H (ps.take k).flatten) ∧ Hid (wr.ownsRow (H + 1) 5 1 u (ps.take k).flatten.length (bv (ps.take k).flatten)) ∧ Hid (Below w.heap.size w wr) ∧ H < wr.heap.size) (fun _ i _ => ps.length - (intOf i).toNat)
    case atStart => exact ⟨0, by omega, rfl, by simpa using HI1, by simp only [List.take_zero, List.flatten_nil]; exact World.ownsRow_nil w1 (H + 1) 5 1, HB1, hlt1⟩
    case round =>
      clear HI1 HB1 hlt1
      obtain ⟨k, hkl, rfl, hi, ho, hb, hlt⟩ := hrel
      by_cases hk : k < ps.length
      · obtain ⟨b, o, c2, u, e2, hbl, hcw, hpw⟩ := HP.out.get hk
        injection e2 with e3 _ e4
        subst e3 e4
        have hcell := (hb.out.cell (p := ⟨b, o + k, none⟩) hbl).trans hcw
        have hflk := flat_le ps (k + 1)
        rw [flat_take ps k hk, List.length_append] at hflk
        obtain ⟨Lk, hLk⟩ : ∃ Lk, Lk = (ps.take k).flatten := ⟨_, rfl⟩
        obtain ⟨p, hpk⟩ : ∃ p, p = ps[k] := ⟨_, rfl⟩
        have hLk1 : (ps.take (k + 1)).flatten = Lk ++ p := by rw [flat_take ps k hk, hLk, hpk]
        rw [← hLk] at hi ho hflk
        rw [← hpk] at hpw hflk
        obtain ⟨A3, c3, rfl, _, _⟩ := id hpw
        obtain ⟨B, hB⟩ : ∃ B, B = wr.heap.size := ⟨_, rfl⟩
        have hHB : H < B := by omega
        have hg1 : wr.grownBy (wr.alloc (.cells #[] 5)) (some H) := grownBy_alloc' wr _ H
        have ho0 : (wr.alloc (.cells #[] 5)).ownsRow B 5 1 (.slice (some ⟨wr.heap.size, 0, none⟩) 0 0) ([] : List UInt8).length (bv []) := World.ownsRow_lit wr #[] 0 (by omega) (by unfold maxLen; omega) rfl
        have hba : Below w.heap.size w (wr.alloc (.cells #[] 5)) := hb.out.alloc hb.out.size _
        have hpa := hpw.below hba
        have hcell1 := (hba.cell (p := ⟨b, o + k, none⟩) hbl).trans hcw
        have HG1 := Lib.hid hg1
        have HO0 := Lib.hid ho0
        have HPA := Lib.hid hpa
        have HPW := Lib.hid hpw
        have HL1 := Lib.hid hLk1
        have HCW := Lib.hid hcw
        have HBB := Lib.hid hB
        clear hpw hLk1 hLk hpk hcw hg1 ho0 hba hpa hB
        go_wp2_with (at_builtin; refine wpList_append_bytes rfl (.tmp 21) (.tmp 25) rfl B _ (.slice A3 p.length c3) [] p rfl rfl HO0.out HPA.out (by simp; omega) (by rw [HBB.out]; simp) ?_; intro v6 w2 hown2 hg2; have hown2 : w2.ownsRow B 5 1 v6 p.length (bv p) := hown2; obtain ⟨A6, c6, rfl, _, _⟩ := id (own_pb hown2))
        have hown2' : w2.ownsRow B 5 1 (.slice A6 p.length c6) p.length (bv p) := hown2
        have hg12 := grown_own HG1.out HO0.out (by rw [HBB.out]; exact Nat.le_refl _) hg2
        have hi2 := ish_kept' (IsHM.kept hi.out (Below.heap_alloc _ _ _ hlt)) HO0.out hHB hg2
        have hlt2 := IsHM.lt hi2
        have hpx := ps_one (own_px hown2' hHB) hlt2 27
        have hg13 : wr.grownBy (w2.alloc (.cells #[.slice A6 p.length c6] 27)) (some H) := grownBy_trans hg12 (grownBy_alloc' w2 _ H)
        have hw := write_any H Lk _ [p] (w2.alloc (.cells #[.slice A6 p.length c6] 27)) (IsHM.kept hi2 (Below.heap_alloc _ _ _ hlt2)) hpx ((HK.out.below hb.out (by have := H1.out; omega)).grown hg13 (by have := H1.out; have := HH.out; omega)) (by have := H1.out; have := HH.out; omega) (by rw [flat_one]; omega) (by simp)
        rw [flat_one] at hw
        have HW := Lib.hid hw
        have HG3 := Lib.hid hg13
        have HO2 := Lib.hid (hown2'.alloc (.cells #[.slice A6 p.length c6] 27))
        clear hw hg13 hpx hi2 hg12 hown2 hown2' hg2 HG1 HO0 HPA hcell1 hcell hi
        go_wp2_with fail
        refine HW.out.mono ?_
        rintro e w3 ⟨rfl, hi3, hg3⟩
        have HI3 := Lib.hid hi3
        have HO3 := Lib.hid (HO2.out.kept hg3 (own_above' HO2.out hHB))
        have HG4 := Lib.hid (grownBy_trans HG3.out hg3)
        clear hi3 hg3 HW HG3 HO2
        go_wp2_with fail
        go_loopw [7] (fun i wi => ∃ q : Nat, q ≤ p.length ∧ i = .int .i64 q ∧ ∃ ys : List UInt8, Hid (ys.length = p.length) ∧ Hid (wi.ownsRow B 5 1 (.slice A6 p.length c6) p.length (bv ys)) ∧ Hid (wr.grownBy wi (some H)) ∧ Hid (IsH wi H (Lk ++ p))) (fun i _ => p.length - (intOf i).toNat)
        case atStart => exact ⟨0, by omega, rfl, p, Lib.hid rfl, HO3, HG4, HI3⟩
        case round =>
          clear HO3 HG4 HI3
          obtain ⟨q, hq, rfl, ys, hyl, hoi, hgi, hii⟩ := hrel
          by_cases hqp : q < p.length
          · obtain ⟨g, cap, e6⟩ := own_some hoi.out (by omega)
            injection e6 with e7 _ e8
            subst e7 e8
            have hyq : q < ys.length := by rw [hyl.out]; exact hqp
            have hcell := hoi.out.cellAt q (by omega)
            rw [bv_get ys q hyq] at hcell
            have hfr := hoi.out.frozenAt q
            obtain ⟨y, hy⟩ : ∃ y, y = ys[q] := ⟨_, rfl⟩
            rw [← hy] at hcell
            clear hy
            go_wp2_with fail
            go_roundw
            case rel =>
              have hst := hoi.out.stored q (.int .u8 ((y ^^^ 255).toNat : Int))
              refine ⟨q + 1, by omega, by go_num, ys.set q (y ^^^ 255), Lib.hid (by simp [hyl.out]), ?_, ?_, ?_⟩
              · rw [xor_byte, ← bv_set]
                exact Lib.hid hst.1
              · rw [xor_byte]
                exact Lib.hid (grown_own hgi.out hoi.out (by rw [HBB.out]; exact Nat.le_refl _) hst.2)
              · rw [xor_byte]
                exact Lib.hid (ish_kept' hii.out hoi.out hHB hst.2)
            case measure => simp [intOf] <;> omega
          · have hpi : Pb wr (.slice A3 p.length c3) p := by
              have := below_grown hb.out hgi.out (by rw [HH.out]; exact Nat.le_refl _)
              exact HPW.out.below this
            have hcell := (below_grown hb.out hgi.out (by rw [HH.out]; exact Nat.le_refl _)).cell (p := ⟨b, o + k, none⟩) hbl
            rw [HCW.out] at hcell
            have hoa := ho.out.kept hgi.out (own_above ho.out)
            have hsi : H + 1 ≤ wr.heap.size := IsHM.lt hii.out
            have hbi := below_grown hb.out hgi.out (by rw [HH.out]; exact Nat.le_refl _)
            have HPI := Lib.hid hpi
            have HOA := Lib.hid hoa
            have HBI := Lib.hid hbi
            clear hpi hoa hbi
            go_wp2_with (at_builtin; refine wpList_append_bytes rfl (.tmp 43) (.tmp 47) rfl (H + 1) u4 (.slice A3 p.length c3) Lk p rfl rfl HOA.out HPI.out (by omega) hsi ?_; intro v4 w4 hown4 hg4)
            have hb4 := below_own HBI.out HOA.out hg4 (by rw [HH.out]; exact Nat.le_refl _)
            have hi4 := ish_kept hii.out HOA.out hg4
            have HB4 := Lib.hid hb4
            have HI4 := Lib.hid hi4
            have HO4 := Lib.hid hown4
            clear hb4 hi4 hown4 hg4
            go_roundw
            case rel =>
              refine ⟨k + 1, by omega, by go_num, ?_, ?_, HB4, IsHM.lt HI4.out⟩
              · rw [HL1.out]; exact HI4
              · rw [HL1.out]; exact HO4
            case measure => simp [intOf] <;> omega
      · have hk2 : k = ps.length := by omega
        rw [hk2, List.take_length] at hi ho
        obtain ⟨A5, n5, c5, rfl⟩ := own_form ho.out
        obtain ⟨S, hS⟩ : ∃ S, S = sumP ps.flatten := ⟨_, rfl⟩
        have heq := fun W => eq_bytes S (by rw [hS, sumP_length]) W
        have HS := Lib.hid hS
        clear hS
        go_wp2_with fail
        refine (write_nil _ _).mono ?_
        rintro e w1 ⟨rfl, rfl⟩
        have hba : Below w.heap.size w (wr.alloc (.cells #[.slice A5 n5 c5] 27)) := hb.out.alloc hb.out.size _
        have hm := msum_any H ps.flatten _ (IsHM.kept hi.out (Below.heap_alloc wr (.cells #[.slice A5 n5 c5] 27) _ hlt)) (HK.out.below hba (by have := H1.out; omega)) (by have := H1.out; have := HH.out; omega) (by omega)
        rw [← HS.out] at hm
        have HM := Lib.hid hm
        have HBA := Lib.hid hba
        have HO := Lib.hid (ho.out.alloc (.cells #[.slice A5 n5 c5] 27))
        clear hm hba hi ho hb
        go_wp2_with fail
        refine HM.out.mono ?_
        rintro e w2 ⟨rfl, hb2⟩
        have hp2 := pbs_one (own_pb (own_below HO.out hb2)) 27
        have hb3 := HBA.out.trans (hb2.mono HBA.out.size)
        have hbc : Below w.heap.size w (w2.alloc (.cells #[.slice A5 n5 c5] 27)) := hb3.alloc hb3.size _
        have hm := sum_any _ [ps.flatten] _ hp2 (HK.out.below hbc (by have := H1.out; omega)) (HF.out.below hbc H1.out) (Nat.lt_of_lt_of_le H1.out hbc.size) (by rw [flat_one]; omega) (by simp)
        rw [flat_one, ← HS.out] at hm
        have HM2 := Lib.hid hm
        have HB2 := Lib.hid hbc
        clear hm hbc hb2 hb3 hp2 HM HO HBA
        go_wp2_with fail
        refine HM2.out.mono ?_
        rintro e w3 ⟨rfl, hb3⟩
        have HB3 := Lib.hid (HB2.out.trans (hb3.mono HB2.out.size))
        clear hb3 HM2 HB2
        go_wp2_with fail
        refine (msum_nil w3).mono ?_
        rintro e w4 ⟨rfl, hb4⟩
        have HB4 := Lib.hid (HB3.out.trans (hb4.mono HB3.out.size))
        obtain ⟨Z, hZ⟩ : ∃ Z : List UInt8, Z = List.replicate 32 0 := ⟨_, rfl⟩
        rw [← hZ]
        have heqz := fun W => eq_zero Z hZ W
        clear hb4 HB3 hZ heq
        go_wp2_with fail
        have hm := awake_any w4 (HK.out.below HB4.out (by have := H1.out; omega)) (HF.out.below HB4.out H1.out) (Nat.lt_of_lt_of_le H1.out HB4.out.size)
        refine hm.mono ?_
        rintro e w6 ⟨rfl, hb6⟩
        have HB6 := Lib.hid (HB4.out.trans (hb6.mono HB4.out.size))
        clear hb6 HB4 heqz hm
        go_wp2_with fail
        go_ret
        exact ⟨rfl, HB6.out⟩
end Go.Proofs.YtbnmblhpoaaegaaDoor
