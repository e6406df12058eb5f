/- Friend: FriendTold's walk. -/
import Derived.Test.YtohcibmlkngaeaaE8
namespace Go.Proofs.Ytohcibmlkngaeaa
open Go.RowKit Go.Maps
set_option maxRecDepth 20000
set_option linter.unusedVariables false
set_option linter.unusedSimpArgs false

/-- A row of numbers of one's own, whatever they are. -/
def Oz (B : Nat) (W : World) (A : Option Addr) (n : Nat) : Prop :=
  0 < n → ∃ (b o : Nat) (cc : Array Value), A = some ⟨b, o, none⟩ ∧ B ≤ b ∧ W.heap[b]? = some (Obj.cells cc 26 (0, 0)) ∧ ∀ i, i < n → ∃ x : Int, cc[o + i]? = some (.int .u32 x)
theorem Oz.of_ow {B : Nat} {W : World} {A : Option Addr} {k : Nat} {ys : List Nat} (h : Ow B (.slice A ys.length k) ys W) : Oz B W A ys.length := fun hl => by
  rcases h.2 with ⟨_, h0⟩ | ⟨g, cap, cur, e, hg, hb, _, _, _, h4⟩
  · omega
  · injection e with e _ _
    refine ⟨g, 0, cur, e, hg, hb, fun i hi => ⟨(ys[i] : Int), ?_⟩⟩
    have h5 : (cur.toList.take (ys.length * 1))[i]? = some (.int .u32 (ys[i] : Int)) := by rw [h4]; simp [un, hi]
    rw [List.getElem?_take_of_lt (by omega)] at h5
    rw [Nat.zero_add, ← Array.getElem?_toList]
    exact h5
theorem Oz.set {B : Nat} {W : World} {A : Option Addr} {n b j : Nat} {cc : Array Value} (z : Int) (h : Oz B W A n) (hb : W.heap[b]? = some (Obj.cells cc 26 (0, 0))) : Oz B (W.setCell ⟨b, j, none⟩ (.int .u32 z)) A n := fun hl => by
  obtain ⟨b', o, c', e, h1, h2, h3⟩ := h hl
  by_cases he : b' = b
  · subst he
    refine ⟨b', o, c'.setIfInBounds j (.int .u32 z), e, h1, heap_setCell_same W b' j c' 26 _ h2, fun i hi => ?_⟩
    obtain ⟨x, hx⟩ := h3 i hi
    rw [Array.getElem?_setIfInBounds]
    split
    · split
      · exact ⟨z, rfl⟩
      · rename_i h5 h6
        have := (Array.getElem?_eq_some_iff.1 hx).1
        omega
    · exact ⟨x, hx⟩
  · exact ⟨b', o, c', e, h1, (Below.heap_setCell _ _ _ _ he).trans h2, h3⟩
/-- While what was told is written into. -/
structure TS (wb : World) (X : Nat) (A1 A2 A3 A4 : Option Addr) (n1 n2 n3 n4 k1 k2 k3 k4 : Nat) (W : World) : Prop where
  below : Below wb.heap.size wb W
  row : W.heap[X]? = some (.cells #[.slice A1 n1 k1, .slice A2 n2 k2, .slice A3 n3 k3, .slice A4 n4 k4] 38 (0, 0))
  low : wb.heap.size ≤ X
  o1 : Oz wb.heap.size W A1 n1
  o4 : Oz wb.heap.size W A4 n4
theorem TS.set {wb W : World} {X : Nat} {A1 A2 A3 A4 : Option Addr} {n1 n2 n3 n4 k1 k2 k3 k4 b j : Nat} {cc : Array Value} (h : TS wb X A1 A2 A3 A4 n1 n2 n3 n4 k1 k2 k3 k4 W) (hb : W.heap[b]? = some (Obj.cells cc 26 (0, 0))) (hB : wb.heap.size ≤ b) (z : Int) : TS wb X A1 A2 A3 A4 n1 n2 n3 n4 k1 k2 k3 k4 (W.setCell ⟨b, j, none⟩ (.int .u32 z)) := by
  have hne : X ≠ b := fun e => by
    have := h.row
    rw [e, hb] at this
    injection this with this
    injection this with _ this
    exact absurd this (by decide)
  exact ⟨h.below.setCell hB _, (Below.heap_setCell _ _ _ _ hne).trans h.row, h.low, h.o1.set z hb, h.o4.set z hb⟩
set_option maxHeartbeats 16000000 in
theorem told_walk (p : Option Addr × Nat) (acts : List Ac) (a : Nat) (w : World) (hA : As w w.heap.size p.1 acts) (hl : acts.length ≤ 9223372036854775807) (hR : ∀ e ∈ acts, Ra e) (ha : u32ok a) :
    Calls Try.prog 6 #[.slice p.1 acts.length p.2, u a] w fun r w' => r = .returned (.bool true) ∧ Below w.heap.size w w' := by
  obtain ⟨P, cp⟩ := p
  simp only at hA ⊢
  obtain ⟨n0, hn⟩ : ∃ n, n = acts.length := ⟨_, rfl⟩
  rw [← hn] at hl ⊢
  have HA := Lib.hid hA
  have HR := Lib.hid hR
  have HN := Lib.hid hn
  have HAU := Lib.hid ha
  have HAW : Hid (∀ W, Calls Try.prog 12 #[] W fun r w' => r = .returned (.bool true) ∧ Below W.heap.size W w') := fun W => awake_any W
  have HNW := Lib.hid (new_any w)
  clear hA hR hn ha
  by_cases h60 : 60 < n0
  · go_enter Try.func6, Try.ntmps6
    go_wp2
    go_ret
    exact ⟨rfl, Below.refl _ _⟩
  go_enter Try.func6, Try.ntmps6
  go_wp2_with fail
  refine HNW.out.mono ?_
  rintro r w1 ⟨rfl, g1, b1⟩
  obtain ⟨L, hL⟩ : ∃ L, L = w.heap.size + 1 := ⟨_, rfl⟩
  rw [← hL] at g1 ⊢
  have HS : Hid (FS w L w.heap.size 0 [] none 0 w1) := ⟨g1, Inv.nil, rfl, Nat.le_refl _, Rr.nil _, b1⟩
  clear g1 b1 hL
  go_wp2_with fail
  go_loopw [6, 7] (fun vl i wr => ∃ (k n c : Nat) (A : Option Addr) (l : List Rw), k ≤ n0 ∧ i = .int .i64 (k : Int) ∧ vl = .slice A n c ∧ Hid (FS w L w.heap.size k l A n wr)) (fun _ i _ => n0 - (intOf i).toNat)
  case atStart => exact ⟨0, 0, 0, none, [], Nat.zero_le _, rfl, rfl, HS.out⟩
  case round =>
    obtain ⟨k, n, c, A, l, hk, rfl, rfl, HM⟩ := hrel
    by_cases hlt : k < n0
    · obtain ⟨⟨d', a', b'⟩, hy⟩ : ∃ e, acts[k]? = some e := ⟨acts[k]'(by rw [← HN.out]; exact hlt), List.getElem?_eq_getElem _⟩
      obtain ⟨hd, ha, hb⟩ := HR.out _ (List.mem_of_getElem? hy)
      simp only at hd ha hb
      obtain ⟨b1, o1, rfl, hb1, ha1⟩ := HA.out (by have := HN.out; omega)
      obtain ⟨e0, e1, e2⟩ := ha1 k _ hy
      have d0 := (HM.out.2.2.2.2.2.cell (p := ⟨b1, _, none⟩) hb1).trans e0
      have d1 := (HM.out.2.2.2.2.2.cell (p := ⟨b1, _, none⟩) hb1).trans e1
      have d2 := (HM.out.2.2.2.2.2.cell (p := ⟨b1, _, none⟩) hb1).trans e2
      simp only at d0 d1 d2
      have HACT := Lib.hid (HM.out.act (c := c) (by omega) hd ha hb)
      clear hy ha1 hb1 e0 e1 e2 hd ha hb
      go_wp2_with fail
      refine HACT.out.mono ?_
      rintro r w2 ⟨B, m, c', rfl, hfs, hk2⟩
      have HF2 := Lib.hid hfs
      clear hfs hk2 d0 d1 d2
      go_wp2_with fail
      go_roundw
      case rel => exact ⟨k + 1, m, c', B, _, by omega, by go_num, rfl, HF2.out⟩
      case measure => simp [intOf] <;> omega
    · obtain ⟨wb, rfl⟩ : ∃ wb, wb = wr := ⟨wr, rfl⟩
      have HLK := Lib.hid (links_any L w.heap.size k a l wb HM.out.1 HM.out.2.1 (by omega) HAU.out)
      have hnk : n ≤ k := HM.out.2.2.2.1
      go_wp2_with fail
      refine HLK.out.mono ?_
      rintro r w4 ⟨v1, v2, v3, v4, y1, y2, y3, y4, rfl, o1, o2, o3, o4, s1, s2, s3, s4, hb4⟩
      have l1 := len_of (nd_of_lt o1.1) (HM.out.2.1.nd_fr a) (oth_fr HM.out.2.1 o1)
      have l2 := len_of (nd_of_lt o4.1) (HM.out.2.1.nd_whom 3 a) (oth_to3 HM.out.2.1 o4)
      have l3 := bfr l a
      have l4 := bwh l 3 a
      have l5 := HM.out.2.2.1
      obtain ⟨A1, k1, rfl⟩ := (S32.of_own s1).form
      obtain ⟨A2, k2, rfl⟩ := (S32.of_own s2).form
      obtain ⟨A3, k3, rfl⟩ := (S32.of_own s3).form
      obtain ⟨A4, k4, rfl⟩ := (S32.of_own s4).form
      obtain ⟨n1, hn1⟩ : ∃ n, n = y1.length := ⟨_, rfl⟩
      obtain ⟨n2, hn2⟩ : ∃ n, n = y2.length := ⟨_, rfl⟩
      obtain ⟨n3, hn3⟩ : ∃ n, n = y3.length := ⟨_, rfl⟩
      obtain ⟨n4, hn4⟩ : ∃ n, n = y4.length := ⟨_, rfl⟩
      have hz1 := Oz.of_ow s1
      have hz4 := Oz.of_ow s4
      rw [← hn1] at hz1
      rw [← hn4] at hz4
      rw [← hn1, ← hn2, ← hn3, ← hn4]
      have hn1b : n1 ≤ 400 := by omega
      have hn4b : n4 ≤ 400 := by omega
      obtain ⟨X, hX⟩ : ∃ X, X = w4.heap.size := ⟨_, rfl⟩
      obtain ⟨w5, hw5⟩ : ∃ w5, w5 = w4.alloc (.cells #[.slice A1 n1 k1, .slice A2 n2 k2, .slice A3 n3 k3, .slice A4 n4 k4] 38) := ⟨_, rfl⟩
      have hb5 : Below w4.heap.size w4 w5 := by rw [hw5]; exact (Below.refl _ _).alloc (Nat.le_refl _) _
      have hq5 : w5.heap[X]? = some (.cells #[.slice A1 n1 k1, .slice A2 n2 k2, .slice A3 n3 k3, .slice A4 n4 k4] 38 (0, 0)) := by rw [hw5, hX]; exact heap_alloc_new w4 _
      have oza : ∀ (A : Option Addr) (n : Nat), Oz wb.heap.size w4 A n → Oz wb.heap.size w5 A n := fun A n h hl => by
        obtain ⟨b, o, cc, e, h1, h2, h3⟩ := h hl
        exact ⟨b, o, cc, e, h1, (hb5.block _ (lt_of_block h2)).trans h2, h3⟩
      have HT : Hid (TS wb X A1 A2 A3 A4 n1 n2 n3 n4 k1 k2 k3 k4 w5) := ⟨hb4.trans (hb5.mono hb4.size), hq5, by rw [hX]; exact hb4.size, oza _ _ hz1, oza _ _ hz4⟩
      have H5 := Lib.hid hw5
      have HXX := Lib.hid hX
      clear o1 o2 o3 o4 s1 s2 s3 s4 hb4 hb5 hq5 hw5 hX l1 l2 l3 l4 l5 hn1 hn2 hn3 hn4 hz1 hz4 oza
      go_upto_region 10 with (fail)
      rw [← H5.out, ← HXX.out]
      go_wp2_with fail
      go_loopw [9] (fun x wr => ∃ i : Nat, i ≤ n1 ∧ x = .int .i64 (i : Int) ∧ Hid (TS wb X A1 A2 A3 A4 n1 n2 n3 n4 k1 k2 k3 k4 wr)) (fun x _ => n1 - (intOf x).toNat)
      case atStart => exact ⟨0, Nat.zero_le _, rfl, HT.out⟩
      case round =>
        obtain ⟨i, hi, rfl, HV⟩ := hrel
        have p0 := cell_of_row wr X 0 _ _ _ HV.out.row
        simp at p0
        by_cases hlt2 : i < n1
        · obtain ⟨b1, o1, cc, rfl, hB, hb1, hat⟩ := HV.out.o1 (by omega)
          obtain ⟨x, hx⟩ := hat i hlt2
          have d0 : wr.cell? ⟨b1, o1 + i, none⟩ = some (.int .u32 x) := (cell_of_row wr b1 (o1 + i) _ _ _ hb1).trans hx
          have fz : ∀ j, wr.frozen? ⟨b1, j, none⟩ = false := fun j => frozen_of_row wr _ j _ _ hb1
          have HTZ : Hid (∀ z, TS wb X _ _ _ _ n1 n2 n3 n4 k1 k2 k3 k4 (wr.setCell ⟨b1, o1 + i, none⟩ (.int .u32 z))) := fun z => HV.out.set hb1 hB z
          clear hat hx hB hb1
          go_wp2
          go_roundw
          case rel => exact ⟨i + 1, by omega, by go_num, HTZ.out _⟩
          case measure => simp [intOf] <;> omega
        · have hin : n1 = i := by omega
          subst hin
          have HT := Lib.hid HV.out
          clear HV
          go_wp2_with fail
          go_loopw [10] (fun x wr => ∃ i : Nat, i ≤ n4 ∧ x = .int .i64 (i : Int) ∧ Hid (TS wb X A1 A2 A3 A4 n1 n2 n3 n4 k1 k2 k3 k4 wr)) (fun x _ => n4 - (intOf x).toNat)
          case atStart => exact ⟨0, Nat.zero_le _, rfl, HT.out⟩
          case round =>
            obtain ⟨i, hi, rfl, HV⟩ := hrel
            have p3 := cell_of_row wr X 3 _ _ _ HV.out.row
            simp at p3
            by_cases hlt2 : i < n4
            · obtain ⟨b1, o1, cc, rfl, hB, hb1, hat⟩ := HV.out.o4 (by omega)
              obtain ⟨x, hx⟩ := hat i hlt2
              have d0 : wr.cell? ⟨b1, o1 + i, none⟩ = some (.int .u32 x) := (cell_of_row wr b1 (o1 + i) _ _ _ hb1).trans hx
              have fz : ∀ j, wr.frozen? ⟨b1, j, none⟩ = false := fun j => frozen_of_row wr _ j _ _ hb1
              have HTZ : Hid (∀ z, TS wb X _ _ _ _ n1 n2 n3 n4 k1 k2 k3 k4 (wr.setCell ⟨b1, o1 + i, none⟩ (.int .u32 z))) := fun z => HV.out.set hb1 hB z
              clear hat hx hB hb1
              go_wp2
              go_roundw
              case rel => exact ⟨i + 1, by omega, by go_num, HTZ.out _⟩
              case measure => simp [intOf] <;> omega
            · have hin : n4 = i := by omega
              subst hin
              have HBX : Hid (Below wb.heap.size wb wr) := HV.out.below
              go_wp2_with fail
              refine (links_nil a wr).mono ?_
              rintro r w6 ⟨rfl, hb6⟩
              obtain ⟨Y, hY⟩ : ∃ Y, Y = w6.heap.size := ⟨_, rfl⟩
              obtain ⟨w7, hw7⟩ : ∃ w7, w7 = w6.alloc (.cells #[.slice none 0 0, .slice none 0 0, .slice none 0 0, .slice none 0 0] 38) := ⟨_, rfl⟩
              have hb7 : Below w6.heap.size w6 w7 := by rw [hw7]; exact (Below.refl _ _).alloc (Nat.le_refl _) _
              have hq7 : w7.heap[Y]? = some (.cells #[.slice none 0 0, .slice none 0 0, .slice none 0 0, .slice none 0 0] 38 (0, 0)) := by rw [hw7, hY]; exact heap_alloc_new w6 _
              have HB7 : Hid (Below wb.heap.size wb w7) := (HBX.out.trans (hb6.mono HBX.out.size)).trans (hb7.mono (Nat.le_trans HBX.out.size hb6.size))
              have HF7 := Lib.hid (HM.out.below HB7.out)
              have HLA := Lib.hid (like_any L w.heap.size k n c a A l w7 HF7.out.1 HF7.out.2.1 (by omega) HAU.out HF7.out.2.2.1 HF7.out.2.2.2.2.1 (by omega))
              have HYW : Hid (∀ W, Below w7.heap.size w7 W → W.cell? ⟨Y, 0, none⟩ = some (.slice none 0 0) ∧ W.cell? ⟨Y, 1, none⟩ = some (.slice none 0 0) ∧ W.cell? ⟨Y, 2, none⟩ = some (.slice none 0 0) ∧ W.cell? ⟨Y, 3, none⟩ = some (.slice none 0 0)) := fun W hW => by
                have e := (hW.block _ (lt_of_block hq7)).trans hq7
                exact ⟨cell_of_row W _ 0 _ _ _ e, cell_of_row W _ 1 _ _ _ e, cell_of_row W _ 2 _ _ _ e, cell_of_row W _ 3 _ _ _ e⟩
              have H7 := Lib.hid hw7
              have HYY := Lib.hid hY
              clear hb6 hb7 hq7 hw7 hY
              go_upto_region 20 with (fail)
              rw [← H7.out, ← HYY.out]
              have A1' := Lib.hid (ask_nil a 1)
              have A2' := Lib.hid (block_nil a 1)
              have A3' := Lib.hid (accept_nil a 1)
              have A4' := Lib.hid (refuse_nil a 1)
              have A5' := Lib.hid (remove_nil a 1)
              have A6' := Lib.hid (unblock_nil a 1)
              have A7' := Lib.hid (are_nil a 1)
              go_wp2_with fail
              refine (A1'.out _).mono ?_
              rintro r wz ⟨rfl, hwz⟩
              have hwz := hwz.symm
              subst hwz
              go_wp2_with fail
              refine (A2'.out _).mono ?_
              rintro r wz ⟨rfl, hwz⟩
              have hwz := hwz.symm
              subst hwz
              go_wp2_with fail
              refine HLA.out.mono ?_
              rintro r w8 ⟨rfl, hb8⟩
              have HB8 := Lib.hid hb8
              obtain ⟨y0, y1', y2', y3'⟩ := HYW.out w8 HB8.out
              clear hb8
              go_wp2_with fail
              refine (A3'.out _).mono ?_
              rintro r wz ⟨rfl, hwz⟩
              have hwz := hwz.symm
              subst hwz
              go_wp2_with fail
              refine (A4'.out _).mono ?_
              rintro r wz ⟨rfl, hwz⟩
              have hwz := hwz.symm
              subst hwz
              go_wp2_with fail
              refine (A5'.out _).mono ?_
              rintro r wz ⟨rfl, hwz⟩
              have hwz := hwz.symm
              subst hwz
              go_wp2_with fail
              refine (A6'.out _).mono ?_
              rintro r wz ⟨rfl, hwz⟩
              have hwz := hwz.symm
              subst hwz
              go_wp2_with fail
              refine (A7'.out _).mono ?_
              rintro r wz ⟨rfl, hwz⟩
              have hwz := hwz.symm
              subst hwz
              go_wp2_with fail
              refine (HAW.out _).mono ?_
              rintro r w9 ⟨rfl, hb9⟩
              have HB9 : Hid (Below w.heap.size w w9) := by
                have h1 := HF7.out.2.2.2.2.2
                exact (h1.trans (HB8.out.mono h1.size)).trans (hb9.mono (Nat.le_trans h1.size HB8.out.size))
              clear hb9
              go_wp2
              go_ret
              exact ⟨rfl, HB9.out⟩
theorem told_any (p : Option Addr × Nat) (acts : List Ac) (a : Int) (w : World) (hA : As w w.heap.size p.1 acts) (hl : acts.length ≤ 9223372036854775807) (hR : ∀ e ∈ acts, Ra e) (ha : 0 ≤ a ∧ a ≤ 4294967295) :
    Calls Try.prog 6 #[.slice p.1 acts.length p.2, .int .u32 a] w fun r w' => r = .returned (.bool true) ∧ Below w.heap.size w w' := by
  obtain ⟨n, rfl⟩ : ∃ n : Nat, a = (n : Int) := ⟨a.toNat, by omega⟩
  exact told_walk p acts n w hA hl hR (by unfold u32ok; omega)
end Go.Proofs.Ytohcibmlkngaeaa
