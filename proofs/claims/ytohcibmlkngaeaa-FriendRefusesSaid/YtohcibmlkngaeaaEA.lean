/- Friend: FriendRefuses' walk. -/
import Derived.Test.YtohcibmlkngaeaaE8
namespace Go.Proofs.Ytohcibmlkngaeaa
open Go.RowKit Go.Maps
set_option maxRecDepth 20000
set_option linter.unusedVariables false
set_option linter.unusedSimpArgs false

theorem oth_one {N : Nat → Nat → Int} {a : Nat} {S : Int → Bool → Bool} {y z : List Nat} (h1 : Oth N a S y) (h2 : Oth N a S z) : y = z := lt_unique h1.1 h2.1 fun x => by rw [h1.2, h2.2]
theorem oth_len {l : List Rw} (hI : Inv l) {a : Nat} {y1 y2 y3 : List Nat} (o1 : Oth (tie l) a Sf y1) (o2 : Oth (tie l) a (So 1) y2) (o3 : Oth (tie l) a Si y3) : y1.length + y2.length + y3.length ≤ 16 := by
  have n1 := len_of (nd_of_lt o1.1) (hI.nd_fr a) (oth_fr hI o1)
  have n2 := len_of (nd_of_lt o2.1) (hI.nd_whom 1 a) (oth_to1 hI o2)
  have n3 := len_of (nd_of_lt o3.1) (hI.nd_askd a) (oth_askd hI o3)
  have h1 := hI.links a
  rw [cw_eq] at h1
  omega
set_option maxHeartbeats 16000000 in
theorem refuses_any (p : Option Addr × Nat) (acts : List Ac) (e : Ac) (w : World) (hA : As w w.heap.size p.1 acts) (hl : acts.length ≤ 9223372036854775807) (hR : ∀ e ∈ acts, Ra e) (he : Ra e) :
    Calls Try.prog 5 #[.slice p.1 acts.length p.2, .agg (aC e)] w fun r w' => r = .returned (.bool true) ∧ Below w.heap.size w w' := by
  obtain ⟨P, cp⟩ := p
  obtain ⟨d, a, b⟩ := e
  obtain ⟨hd, ha, hb⟩ := he
  simp only [aC] at hA hd ha hb ⊢
  obtain ⟨n0, hn⟩ : ∃ n, n = acts.length := ⟨_, rfl⟩
  rw [← hn] at hl ⊢
  obtain ⟨Z, hZ⟩ : ∃ Z, Z = w.heap.size := ⟨_, rfl⟩
  obtain ⟨w0, hw0⟩ : ∃ w0, w0 = w.alloc (.cells #[.int .u8 d, u a, u b] 28) := ⟨_, rfl⟩
  have hb0 : Below w.heap.size w w0 := by rw [hw0]; exact (Below.refl _ _).alloc (Nat.le_refl _) _
  have hq0 : w0.heap[Z]? = some (.cells #[.int .u8 d, u a, u b] 28 (0, 0)) := by rw [hw0, hZ]; exact heap_alloc_new w _
  have HA : Hid (∀ W, Below w0.heap.size w0 W → As W w.heap.size P acts) := fun W hW h => by
    obtain ⟨b1, o1, e1, e2, e3⟩ := hA h
    have hbw := hb0.trans (hW.mono hb0.size)
    exact ⟨b1, o1, e1, e2, fun i e he => ⟨(hbw.cell (p := ⟨b1, _, none⟩) e2).trans (e3 i e he).1, (hbw.cell (p := ⟨b1, _, none⟩) e2).trans (e3 i e he).2.1, (hbw.cell (p := ⟨b1, _, none⟩) e2).trans (e3 i e he).2.2⟩⟩
  have HR := Lib.hid hR
  have HN := Lib.hid hn
  have HE := Lib.hid (And.intro hd (And.intro ha hb))
  have HAW : Hid (∀ W, Calls Try.prog 12 #[] W fun r w' => r = .returned (.bool true) ∧ Below W.heap.size W w') := fun W => awake_any W
  have HNW := Lib.hid (new_any w0)
  have HB0 := Lib.hid hb0
  have H0 := Lib.hid hw0
  have HZZ := Lib.hid hZ
  have HQZ : Hid (∀ W, Below w0.heap.size w0 W → W.heap[Z]? = some (.cells #[.int .u8 d, u a, u b] 28 (0, 0))) := fun W hW => (hW.block _ (lt_of_block hq0)).trans hq0
  clear hA hR hn hd ha hb hq0 hb0 hw0 hZ
  by_cases h80 : 80 < n0
  · go_enter Try.func5, Try.ntmps5
    go_upto_region 1 with (fail)
    rw [← H0.out]
    go_wp2
    go_ret
    exact ⟨rfl, HB0.out⟩
  go_enter Try.func5, Try.ntmps5
  go_upto_region 1 with (fail)
  rw [← H0.out, ← HZZ.out]
  go_wp2_with fail
  refine HNW.out.mono ?_
  rintro r w1 ⟨rfl, g1, b1⟩
  obtain ⟨L, hL⟩ : ∃ L, L = w0.heap.size + 1 := ⟨_, rfl⟩
  rw [← hL] at g1 ⊢
  have HS : Hid (FS w0 L w0.heap.size 0 [] none 0 w1) := ⟨g1, Inv.nil, rfl, Nat.le_refl _, Rr.nil _, b1⟩
  clear g1 b1 hL
  go_wp2_with fail
  go_loopw [6, 7] (fun vl i wr => ∃ (k n c : Nat) (A : Option Addr) (l : List Rw), k ≤ n0 ∧ i = .int .i64 (k : Int) ∧ vl = .slice A n c ∧ Hid (FS w0 L w0.heap.size k l A n wr)) (fun _ i _ => n0 - (intOf i).toNat)
  case atStart => exact ⟨0, 0, 0, none, [], Nat.zero_le _, rfl, rfl, HS.out⟩
  case round =>
    obtain ⟨k, n, c, A, l, hk, rfl, rfl, HM⟩ := hrel
    by_cases hlt : k < n0
    · obtain ⟨⟨d', a', b'⟩, hy⟩ : ∃ e, acts[k]? = some e := ⟨acts[k]'(by rw [← HN.out]; exact hlt), List.getElem?_eq_getElem _⟩
      obtain ⟨hd, ha, hb⟩ := HR.out _ (List.mem_of_getElem? hy)
      simp only at hd ha hb
      obtain ⟨b1, o1, rfl, hb1, ha1⟩ := HA.out wr HM.out.2.2.2.2.2 (by have := HN.out; omega)
      obtain ⟨d0, d1, d2⟩ := ha1 k _ hy
      simp only at d0 d1 d2
      have HACT := Lib.hid (HM.out.act (c := c) (by omega) hd ha hb)
      clear hy ha1 hb1 hd ha hb
      go_wp2_with fail
      refine HACT.out.mono ?_
      rintro r w2 ⟨B, m, c', rfl, hfs, hk2⟩
      have HF2 := Lib.hid hfs
      clear hfs hk2 d0 d1 d2
      go_wp2_with fail
      go_roundw
      case rel => exact ⟨k + 1, m, c', B, _, by omega, by go_num, rfl, HF2.out⟩
      case measure => simp [intOf] <;> omega
    · have hqz := HQZ.out wr HM.out.2.2.2.2.2
      have z0 := cell_of_row wr Z 0 _ _ _ hqz
      have z1 := cell_of_row wr Z 1 _ _ _ hqz
      have z2 := cell_of_row wr Z 2 _ _ _ hqz
      simp at z0 z1 z2
      have HACT := Lib.hid (HM.out.act (c := c) (by omega) HE.out.1 HE.out.2.1 HE.out.2.2)
      clear hqz
      go_wp2_with fail
      refine HACT.out.mono ?_
      rintro r w2 ⟨B, m, c', rfl, hfs, hk2⟩
      obtain ⟨l2, hl2⟩ : ∃ l2, l2 = actP d l a b := ⟨_, rfl⟩
      rw [← hl2] at hfs
      have HF2 := Lib.hid hfs
      have HIN := Lib.hid hfs.2.1
      clear hfs hk2 hl2 z0 z1 z2
      have HZW : Hid (∀ W, Below w2.heap.size w2 W → W.cell? ⟨Z, 1, none⟩ = some (u a) ∧ W.cell? ⟨Z, 2, none⟩ = some (u b)) := fun W hW => by
        have e := HQZ.out W (HF2.out.2.2.2.2.2.trans (hW.mono HF2.out.2.2.2.2.2.size))
        exact ⟨cell_of_row W _ 1 _ _ _ e, cell_of_row W _ 2 _ _ _ e⟩
      obtain ⟨z1, z2⟩ := HZW.out w2 (Below.refl _ _)
      have HRM := Lib.hid (rremove_any B m c' a b l2 w2 HF2.out.2.2.1 HF2.out.2.2.2.2.1 (by have := HF2.out.2.2.2.1; omega) HIN.out)
      go_wp2_with fail
      refine HRM.out.mono ?_
      rintro r w3 ⟨B3, m3, c3, rfl, -, -, hb3⟩
      have HB3 : Hid (Below w2.heap.size w2 w3) := hb3
      clear hb3 z1 z2
      obtain ⟨z1, z2⟩ := HZW.out w3 HB3.out
      have HF3 := Lib.hid (HF2.out.below HB3.out)
      have HLK := Lib.hid (links_any L w0.heap.size (k + 1) a l2 w3 HF3.out.1 HIN.out (by omega) HE.out.2.1)
      go_wp2_with fail
      refine HLK.out.mono ?_
      rintro r w4 ⟨v1, v2, v3, v4, y1, y2, y3, y4, rfl, o1, o2, o3, o4, s1, s2, s3, s4, hb4⟩
      obtain ⟨A1, k1, rfl⟩ := (S32.of_own s1).form
      obtain ⟨A2, k2, rfl⟩ := (S32.of_own s2).form
      obtain ⟨A3, k3, rfl⟩ := (S32.of_own s3).form
      obtain ⟨A4, k4, rfl⟩ := (S32.of_own s4).form
      obtain ⟨X, hX⟩ : ∃ X, X = w4.heap.size := ⟨_, rfl⟩
      obtain ⟨w5, hw5⟩ : ∃ w5, w5 = w4.alloc (.cells #[.slice A1 y1.length k1, .slice A2 y2.length k2, .slice A3 y3.length k3, .slice A4 y4.length k4] 38) := ⟨_, rfl⟩
      have hb5 : Below w4.heap.size w4 w5 := by rw [hw5]; exact (Below.refl _ _).alloc (Nat.le_refl _) _
      have hq5 : w5.heap[X]? = some (.cells #[.slice A1 y1.length k1, .slice A2 y2.length k2, .slice A3 y3.length k3, .slice A4 y4.length k4] 38 (0, 0)) := by rw [hw5, hX]; exact heap_alloc_new w4 _
      have HB5 : Hid (Below w2.heap.size w2 w5) := (HB3.out.trans (hb4.mono HB3.out.size)).trans (hb5.mono (Nat.le_trans HB3.out.size hb4.size))
      have HXW : Hid (∀ W, Below w5.heap.size w5 W → W.cell? ⟨X, 0, none⟩ = some (.slice A1 y1.length k1) ∧ W.cell? ⟨X, 1, none⟩ = some (.slice A2 y2.length k2) ∧ W.cell? ⟨X, 2, none⟩ = some (.slice A3 y3.length k3)) := fun W hW => by
        have e := (hW.block _ (lt_of_block hq5)).trans hq5
        exact ⟨cell_of_row W _ 0 _ _ _ e, cell_of_row W _ 1 _ _ _ e, cell_of_row W _ 2 _ _ _ e⟩
      have HSX : Hid (∀ W, Below w5.heap.size w5 W → S32 W (.slice A1 y1.length k1) y1 ∧ S32 W (.slice A2 y2.length k2) y2 ∧ S32 W (.slice A3 y3.length k3) y3) := fun W hW => ⟨((S32.of_own s1).after hb5).after hW, ((S32.of_own s2).after hb5).after hW, ((S32.of_own s3).after hb5).after hW⟩
      have HO := Lib.hid (And.intro o1 (And.intro o2 o3))
      have HLEN := Lib.hid (oth_len HIN.out o1 o2 o3)
      have H5 := Lib.hid hw5
      have HXX := Lib.hid hX
      clear o1 o2 o3 o4 s1 s2 s3 s4 hb4 hb5 hq5 hw5 hX z1 z2
      go_upto_region 14 with (fail)
      rw [← H5.out, ← HXX.out]
      have HF5 := Lib.hid (HF2.out.below HB5.out)
      obtain ⟨z1, z2⟩ := HZW.out w5 HB5.out
      have HUP : Hid (∀ W, Below w5.heap.size w5 W → Below w2.heap.size w2 W) := fun W hW => HB5.out.trans (hW.mono HB5.out.size)
      have HW0 : Hid (∀ W, Below w5.heap.size w5 W → Below w.heap.size w W) := fun W hW => by
        have h := (HF5.out.below hW).2.2.2.2.2
        exact HB0.out.trans (h.mono HB0.out.size)
      by_cases har : (2, a, b) ∈ l2 ∨ (2, b, a) ∈ l2
      · have e0 : (remL l2 a b).2 = 0 := by unfold remL; rw [if_pos har]
        rw [e0]
        have ear : areB l2 b a = true := by unfold areB; rw [decide_eq_true_iff]; exact har.symm
        obtain ⟨D, q1, q2, _⟩ := HF5.out.1
        have HAR := Lib.hid (are_any L w0.heap.size _ b a D _ w5 q1 q2 HE.out.2.2 HE.out.2.1)
        have e3 : decide (tie l2 b a = 2 ∨ tie l2 a b = 2) = true := by rw [are_dec HIN.out, ear]
        clear har e0 q1 q2
        go_wp2_with fail
        refine HAR.out.mono ?_
        rintro r w6 ⟨rfl, hw6⟩
        have hw6 := hw6.symm
        subst hw6
        rw [e3]
        go_wp2_with fail
        refine (HAW.out _).mono ?_
        rintro r w9 ⟨rfl, hb9⟩
        have HB9 := Lib.hid (HW0.out w9 hb9)
        clear hb9
        go_wp2
        go_ret
        exact ⟨rfl, HB9.out⟩
      · have e0 : (remL l2 a b).2 = 12 := by unfold remL; rw [if_neg har]
        have e1 : (remL l2 a b).1 = l2 := by unfold remL; rw [if_neg har]
        rw [e0]
        have HRG := Lib.hid (remove_any L w0.heap.size (k + 1) a b l2 w5 HF5.out.1 HIN.out HE.out.2.1 HE.out.2.2)
        rw [e0, e1] at HRG
        clear har e0 e1
        go_wp2_with fail
        refine HRG.out.mono ?_
        rintro r w6 ⟨rfl, g6, k6⟩
        have HG6 := Lib.hid g6
        have HK6 := Lib.hid k6
        have HML : Hid (w0.heap.size < w5.heap.size) := by
          obtain ⟨D, ⟨_, hm⟩, _⟩ := HF5.out.1
          exact hm.lt
        have HNX : Hid (X ≠ w0.heap.size ∧ Z ≠ w0.heap.size) := by
          obtain ⟨es, cl, hm⟩ := HF5.out.1.isMap
          refine ⟨fun e => ?_, fun e => ?_⟩
          · have := (HXW.out w5 (Below.refl _ _)).1
            unfold World.cell? at this
            rw [e, hm] at this
            cases this
          · have := (HZW.out w5 HB5.out).1
            unfold World.cell? at this
            rw [e, hm] at this
            cases this
        have HBW6 : Hid (Below w.heap.size w w6) := by
          have h5 := HW0.out w5 (Below.refl _ _)
          have h0 := HF5.out.2.2.2.2.2
          exact (HB0.out.trans ((h0.trans (k6.1 _ (Nat.le_refl _) h0.size)).mono HB0.out.size))
        have HC6 : Hid (∀ W, Below w6.heap.size w6 W → (W.cell? ⟨X, 0, none⟩ = some (.slice A1 y1.length k1) ∧ W.cell? ⟨X, 1, none⟩ = some (.slice A2 y2.length k2) ∧ W.cell? ⟨X, 2, none⟩ = some (.slice A3 y3.length k3)) ∧ W.cell? ⟨Z, 1, none⟩ = some (u a) ∧ W.cell? ⟨Z, 2, none⟩ = some (u b)) := fun W hW => by
          have hs5 := (Below.refl w5.heap.size w5)
          obtain ⟨x0, x1, x2⟩ := HXW.out w5 hs5
          obtain ⟨y0, y1'⟩ := HZW.out w5 HB5.out
          have hx : X < w5.heap.size := World.block_lt_of_cell? w5 _ x0
          have hz : Z < w5.heap.size := World.block_lt_of_cell? w5 _ y0
          have ex : W.heap[X]? = w5.heap[X]? := (hW.block X (Nat.lt_of_lt_of_le hx HK6.out.2.2)).trans (HK6.out.2.1 X hx HNX.out.1)
          have ez : W.heap[Z]? = w5.heap[Z]? := (hW.block Z (Nat.lt_of_lt_of_le hz HK6.out.2.2)).trans (HK6.out.2.1 Z hz HNX.out.2)
          exact ⟨⟨(World.cell?_of_block ex).trans x0, (World.cell?_of_block ex).trans x1, (World.cell?_of_block ex).trans x2⟩, (World.cell?_of_block ez).trans y0, (World.cell?_of_block ez).trans y1'⟩
        have keepS : ∀ (v : Value) (y : List Nat), Ow w3.heap.size v y w4 → True := fun _ _ _ => trivial
        have HS6 : Hid (∀ W, Below w6.heap.size w6 W → S32 W (.slice A1 y1.length k1) y1 ∧ S32 W (.slice A2 y2.length k2) y2 ∧ S32 W (.slice A3 y3.length k3) y3) := fun W hW => by
          obtain ⟨es, cl, hm⟩ := HF5.out.1.isMap
          have key : ∀ (v : Value) (y : List Nat), S32 w5 v y → S32 W v y := fun v y ⟨A, c, e, h⟩ => ⟨A, c, e, fun hl => by
            obtain ⟨b, o, h1, h2, h3⟩ := h hl
            have hne : b ≠ w0.heap.size := fun e => by
              have := h3 0 (y[0]'hl) (List.getElem?_eq_getElem _)
              unfold World.cell? at this
              rw [e, hm] at this
              cases this
            have eb : W.heap[b]? = w5.heap[b]? := (hW.block b (Nat.lt_of_lt_of_le h2 HK6.out.2.2)).trans (HK6.out.2.1 b h2 hne)
            exact ⟨b, o, h1, Nat.lt_of_lt_of_le (Nat.lt_of_lt_of_le h2 HK6.out.2.2) hW.size, fun j x hj => (World.cell?_of_block eb).trans (h3 j x hj)⟩⟩
          obtain ⟨t1, t2, t3⟩ := HSX.out w5 (Below.refl _ _)
          exact ⟨key _ _ t1, key _ _ t2, key _ _ t3⟩
        have HRR6 : Hid (Rr w6 B l2) := HF5.out.2.2.2.2.1.chm HF5.out.1.isMap k6
        clear g6 k6 keepS z1 z2
        obtain ⟨-, z1, z2⟩ := HC6.out w6 (Below.refl _ _)
        have HLK2 := Lib.hid (links_any L w0.heap.size (k + 1) a l2 w6 HG6.out HIN.out (by omega) HE.out.2.1)
        go_wp2_with fail
        refine HLK2.out.mono ?_
        rintro r w7 ⟨t1, t2, t3, t4, x1, x2, x3, x4, rfl, o1, o2, o3, o4, s1, s2, s3, s4, hb7⟩
        obtain rfl : x1 = y1 := oth_one o1 HO.out.1
        obtain rfl : x2 = y2 := oth_one o2 HO.out.2.1
        obtain rfl : x3 = y3 := oth_one o3 HO.out.2.2
        obtain ⟨C1, j1, rfl⟩ := (S32.of_own s1).form
        obtain ⟨C2, j2, rfl⟩ := (S32.of_own s2).form
        obtain ⟨C3, j3, rfl⟩ := (S32.of_own s3).form
        obtain ⟨C4, j4, rfl⟩ := (S32.of_own s4).form
        obtain ⟨Y, hY⟩ : ∃ Y, Y = w7.heap.size := ⟨_, rfl⟩
        obtain ⟨w8, hw8⟩ : ∃ w8, w8 = w7.alloc (.cells #[.slice C1 x1.length j1, .slice C2 x2.length j2, .slice C3 x3.length j3, .slice C4 x4.length j4] 38) := ⟨_, rfl⟩
        have hb8 : Below w7.heap.size w7 w8 := by rw [hw8]; exact (Below.refl _ _).alloc (Nat.le_refl _) _
        have hq8 : w8.heap[Y]? = some (.cells #[.slice C1 x1.length j1, .slice C2 x2.length j2, .slice C3 x3.length j3, .slice C4 x4.length j4] 38 (0, 0)) := by rw [hw8, hY]; exact heap_alloc_new w7 _
        have HB68 : Hid (Below w6.heap.size w6 w8) := hb7.trans (hb8.mono hb7.size)
        have HU8 : Hid (∀ W, Below w8.heap.size w8 W → Below w6.heap.size w6 W) := fun W hW => HB68.out.trans (hW.mono HB68.out.size)
        have HYW : Hid (∀ W, Below w8.heap.size w8 W → W.cell? ⟨Y, 0, none⟩ = some (.slice C1 x1.length j1) ∧ W.cell? ⟨Y, 1, none⟩ = some (.slice C2 x2.length j2) ∧ W.cell? ⟨Y, 2, none⟩ = some (.slice C3 x3.length j3)) := fun W hW => by
          have e := (hW.block _ (lt_of_block hq8)).trans hq8
          exact ⟨cell_of_row W _ 0 _ _ _ e, cell_of_row W _ 1 _ _ _ e, cell_of_row W _ 2 _ _ _ e⟩
        have HM1 : Hid (∀ W, Below w8.heap.size w8 W → Calls Try.prog 17 #[.slice A1 x1.length k1, .slice C1 x1.length j1] W fun r w' => r = .returned (.bool true) ∧ Below W.heap.size W w') := fun W hW => same_eq _ _ x1 W (by have := HLEN.out; omega) (HS6.out W (HU8.out W hW)).1 (((S32.of_own s1).after hb8).after hW)
        have HM2 : Hid (∀ W, Below w8.heap.size w8 W → Calls Try.prog 17 #[.slice A2 x2.length k2, .slice C2 x2.length j2] W fun r w' => r = .returned (.bool true) ∧ Below W.heap.size W w') := fun W hW => same_eq _ _ x2 W (by have := HLEN.out; omega) (HS6.out W (HU8.out W hW)).2.1 (((S32.of_own s2).after hb8).after hW)
        have HM3 : Hid (∀ W, Below w8.heap.size w8 W → Calls Try.prog 17 #[.slice A3 x3.length k3, .slice C3 x3.length j3] W fun r w' => r = .returned (.bool true) ∧ Below W.heap.size W w') := fun W hW => same_eq _ _ x3 W (by have := HLEN.out; omega) (HS6.out W (HU8.out W hW)).2.2 (((S32.of_own s3).after hb8).after hW)
        have HLB : Hid (∀ W, Below w8.heap.size w8 W → Calls Try.prog 9 #[gp L, .slice B m c', u b] W fun r w' => r = .returned (.bool true) ∧ Below W.heap.size W w') := fun W hW => like_any L w0.heap.size (k + 1) m c' b B l2 W (HG6.out.below (HU8.out W hW)) HIN.out (by omega) HE.out.2.2 HF2.out.2.2.1 (HRR6.out.below (HU8.out W hW)) (by have := HF2.out.2.2.2.1; omega)
        have H8 := Lib.hid hw8
        have HYY := Lib.hid hY
        have HB88 : Hid (Below w8.heap.size w8 w8) := Below.refl _ _
        clear o1 o2 o3 o4 s1 s2 s3 s4 hb7 hb8 hq8 hw8 hY z1 z2
        go_upto_region 17 with (fail)
        rw [← H8.out, ← HYY.out]
        obtain ⟨⟨f0, f1, f2⟩, z1, z2⟩ := HC6.out w8 (HU8.out w8 HB88.out)
        obtain ⟨g0, g1, g2⟩ := HYW.out w8 HB88.out
        go_wp2_with fail
        refine (HM1.out w8 HB88.out).mono ?_
        rintro r wa ⟨rfl, hba⟩
        have HBA : Hid (Below w8.heap.size w8 wa) := hba
        clear hba f0 f1 f2 z1 z2 g0 g1 g2
        obtain ⟨⟨f0, f1, f2⟩, z1, z2⟩ := HC6.out wa (HU8.out wa HBA.out)
        obtain ⟨g0, g1, g2⟩ := HYW.out wa HBA.out
        go_wp2_with fail
        refine (HM2.out wa HBA.out).mono ?_
        rintro r wb ⟨rfl, hbb⟩
        have HBB : Hid (Below w8.heap.size w8 wb) := HBA.out.trans (hbb.mono HBA.out.size)
        clear hbb f0 f1 f2 z1 z2 g0 g1 g2
        obtain ⟨⟨f0, f1, f2⟩, z1, z2⟩ := HC6.out wb (HU8.out wb HBB.out)
        obtain ⟨g0, g1, g2⟩ := HYW.out wb HBB.out
        go_wp2_with fail
        refine (HM3.out wb HBB.out).mono ?_
        rintro r wc ⟨rfl, hbc⟩
        have HBC : Hid (Below w8.heap.size w8 wc) := HBB.out.trans (hbc.mono HBB.out.size)
        clear hbc f0 f1 f2 z1 z2 g0 g1 g2
        obtain ⟨-, z1, z2⟩ := HC6.out wc (HU8.out wc HBC.out)
        go_wp2_with fail
        refine (HLB.out wc HBC.out).mono ?_
        rintro r wd ⟨rfl, hbd⟩
        have HBD : Hid (Below w8.heap.size w8 wd) := HBC.out.trans (hbd.mono HBC.out.size)
        clear hbd z1 z2
        go_wp2_with fail
        refine (HAW.out wd).mono ?_
        rintro r we ⟨rfl, hbe⟩
        have HBE : Hid (Below w.heap.size w we) := HBW6.out.trans ((HU8.out we (HBD.out.trans (hbe.mono HBD.out.size))).mono HBW6.out.size)
        clear hbe
        go_wp2
        go_ret
        exact ⟨rfl, HBE.out⟩
end Go.Proofs.Ytohcibmlkngaeaa
