/- Sort at uint32: breakPatterns. -/
import Derived.Test.YtemjmnpclknfaaaGreatZ8
import Derived.Shelf.Lay
import Derived.Shelf.Small.Bits
import Derived.Ground.Names2Prog
namespace Go.Proofs.YtemjmnpclknfaaaGreat.Z
open Go.RowKit Go.Shelf
set_option maxRecDepth 20000
set_option linter.unusedVariables false

shelf_lay Lays.n125 Nm 125 at Tryz as lays125
theorem bits_Len (x : Int) (w : World) (h0 : 0 ≤ x) (h1 : x ≤ 18446744073709551615) :
    Calls Tryz.prog 66 #[.int .u64 x] w fun e w' => e = .returned (.int .i64 (Lib.bitLen x.toNat)) ∧ w' = w := Any.bits_Len lays125 x w h0 h1

theorem bl_zero (f : Nat) : Lib.bitLenAux f 0 = 0 := by cases f <;> simp [Lib.bitLenAux]
theorem bl_le : ∀ (f x : Nat), x ≠ 0 → 2 ^ Lib.bitLenAux f x ≤ 2 * x
  | 0, x, h => by simp [Lib.bitLenAux]; omega
  | f + 1, x, h => by
    rw [Lib.bitLenAux, if_neg h]
    by_cases h2 : x / 2 = 0
    · rw [h2, bl_zero]; omega
    · have := bl_le f (x / 2) h2
      rw [Nat.pow_add]
      omega
/-- What nextPowerOfTwo answers. -/
def NpPost (l : Nat) (w : World) (e : Ending) (w' : World) : Prop := ∃ M : Nat, e = .returned (.int .u64 (M : Int)) ∧ 1 ≤ M ∧ M ≤ 2 * l ∧ w' = w
set_option maxHeartbeats 1000000 in
theorem np_any (l : Nat) (w : World) (hl0 : 0 < l) (hl : l < 1000000000) : Calls Tryz.prog 95 #[.int .i64 (l : Int)] w (NpPost l w) := by
  obtain ⟨B, hB⟩ : ∃ B, B = Lib.bitLen l := ⟨_, rfl⟩
  have h2 : 2 ^ B ≤ 2 * l := by rw [hB]; exact bl_le 64 l (by omega)
  have hb : B ≤ 32 := by
    rw [hB]; exact Lib.bitLen_le l 32 (by omega) (by omega)
  have hp : 0 < 2 ^ B := Nat.two_pow_pos B
  have HB := Lib.hid hB
  clear hB
  obtain ⟨M, hM⟩ : ∃ M, M = 2 ^ B := ⟨_, rfl⟩
  have hMI : (2 : Int) ^ B = (M : Int) := by rw [hM]; push_cast; rfl
  rw [← hM] at h2 hp
  clear hM
  go_enter Tryz.func95, Tryz.ntmps95
  go_wp2_with (go_at_call 66; have c1 := bits_Len (l : Int) w (by omega) (by omega); refine c1.mono ?_; clear c1; rintro e w' ⟨rfl, rfl⟩; rw [show ((l : Int)).toNat = l from rfl, ← HB.out])
  go_ret
  exact ⟨M, rfl, hp, h2, rfl⟩

/-- A uint64 alone in block G. -/
def Xs (w : World) (G : Nat) : Prop := ∃ z : Int, 0 ≤ z ∧ z ≤ 18446744073709551615 ∧ w.heap[G]? = some (.cells #[.int .u64 z] 129 (0, 0))
/-- What Next leaves. -/
def NxPost (w0 : World) (g : Nat) (pre post : List Value) (d : Array Nat) (G : Nat) (e : Ending) (w' : World) : Prop := ∃ r : Int, e = .returned (.int .u64 r) ∧ 0 ≤ r ∧ r ≤ 18446744073709551615 ∧ Sr w0 g pre post d w' ∧ Xs w' G
theorem box_set {w : World} {G : Nat} {z : Int} (y : Int) (h : w.heap[G]? = some (.cells #[.int .u64 z] 129 (0, 0))) : (w.setCell ⟨G, 0, none⟩ (.int .u64 y)).heap[G]? = some (.cells #[.int .u64 y] 129 (0, 0)) := by
  have := heap_setCell_same w G 0 _ 129 (.int .u64 y) h
  exact this
set_option maxHeartbeats 1000000 in
theorem nx_any (g G : Nat) (pre post : List Value) (d : Array Nat) (w0 w : World) (h : Sr w0 g pre post d w) (hgG : g < G) (hx : Xs w G) : Calls Tryz.prog 96 #[.pointer (some ⟨G, 0, none⟩)] w (NxPost w0 g pre post d G) := by
  obtain ⟨z, hz0, hz1, hz⟩ := hx
  have HS0 := Lib.hid h
  have HZ0 := Lib.hid hz
  clear h hz hz0 hz1
  have hcz : w.cell? ⟨G, 0, none⟩ = some (.int .u64 z) := by rw [cell_of_row w G _ _ _ _ HZ0.out]; rfl
  have hfz : w.frozen? ⟨G, 0, none⟩ = false := frozen_of_row w G 0 _ _ HZ0.out
  go_enter Tryz.func96, Tryz.ntmps96
  go_upto_region 1 with fail
  go_region
  go_upto_region 2 with fail
  generalize hz1 : bits BinOp.xor IntKind.u64 z _ = z1
  generalize hw1 : (World.setCell w ⟨G, 0, none⟩ (Value.int IntKind.u64 z1)).drew = w1
  have HS1 : Hid (Sr w0 g pre post d w1) := by rw [← hw1]; exact (HS0.out.aside hgG 0 _).drew
  have HZ1 : Hid (w1.heap[G]? = some (.cells #[.int .u64 z1] 129 (0, 0))) := by rw [← hw1]; exact box_set _ HZ0.out
  have hr1 : 0 ≤ z1 ∧ z1 ≤ 18446744073709551615 := by rw [← hz1]; exact bounds_u64 (wf_bits _ _ _ _)
  clear hcz hfz hz1 hw1
  have hcz : w1.cell? ⟨G, 0, none⟩ = some (.int .u64 z1) := by rw [cell_of_row w1 G _ _ _ _ HZ1.out]; rfl
  have hfz : w1.frozen? ⟨G, 0, none⟩ = false := frozen_of_row w1 G 0 _ _ HZ1.out
  go_region
  go_upto_region 3 with fail
  generalize hz2 : bits BinOp.xor IntKind.u64 z1 _ = z2
  generalize hw2 : (World.setCell w1 ⟨G, 0, none⟩ (Value.int IntKind.u64 z2)).drew = w2
  have HS2 : Hid (Sr w0 g pre post d w2) := by rw [← hw2]; exact (HS1.out.aside hgG 0 _).drew
  have HZ2 : Hid (w2.heap[G]? = some (.cells #[.int .u64 z2] 129 (0, 0))) := by rw [← hw2]; exact box_set _ HZ1.out
  have hr2 : 0 ≤ z2 ∧ z2 ≤ 18446744073709551615 := by rw [← hz2]; exact bounds_u64 (wf_bits _ _ _ _)
  clear hcz hfz hz2 hw2
  have hcz : w2.cell? ⟨G, 0, none⟩ = some (.int .u64 z2) := by rw [cell_of_row w2 G _ _ _ _ HZ2.out]; rfl
  have hfz : w2.frozen? ⟨G, 0, none⟩ = false := frozen_of_row w2 G 0 _ _ HZ2.out
  go_region
  go_upto_region 4 with fail
  generalize hz3 : bits BinOp.xor IntKind.u64 z2 _ = z3
  generalize hw3 : (World.setCell w2 ⟨G, 0, none⟩ (Value.int IntKind.u64 z3)).drew = w3
  have HS3 : Hid (Sr w0 g pre post d w3) := by rw [← hw3]; exact (HS2.out.aside hgG 0 _).drew
  have HZ3 : Hid (w3.heap[G]? = some (.cells #[.int .u64 z3] 129 (0, 0))) := by rw [← hw3]; exact box_set _ HZ2.out
  have hr3 : 0 ≤ z3 ∧ z3 ≤ 18446744073709551615 := by rw [← hz3]; exact bounds_u64 (wf_bits _ _ _ _)
  clear hcz hfz hz3 hw3
  have hcz : w3.cell? ⟨G, 0, none⟩ = some (.int .u64 z3) := by rw [cell_of_row w3 G _ _ _ _ HZ3.out]; rfl
  have hfz : w3.frozen? ⟨G, 0, none⟩ = false := frozen_of_row w3 G 0 _ _ HZ3.out
  go_wp2
  go_ret
  exact ⟨z3, rfl, hr3.1, hr3.2, HS3.out, z3, hr3.1, hr3.2, HZ3.out⟩

/-- What breakPatterns leaves. -/
def BpPost (w0 : World) (g : Nat) (pre post : List Value) (d : Array Nat) (a b : Nat) (r : Ending) (w' : World) : Prop := r = .returned (.tuple #[]) ∧ ∃ d' : Array Nat, d'.size = d.size ∧ Sort.PermIn a b d d' ∧ Sr w0 g pre post d' w'
theorem xs_aside {w : World} {g G : Nat} (h : Xs w G) (hg : g < G) (i j : Nat) (x y : Value) : Xs ((w.setCell ⟨g, i, none⟩ x).setCell ⟨g, j, none⟩ y) G := by
  obtain ⟨z, h0, h1, h2⟩ := h
  exact ⟨z, h0, h1, by rw [Below.heap_setCell _ _ _ _ (by show G ≠ g; omega), Below.heap_setCell _ _ _ _ (by show G ≠ g; omega)]; exact h2⟩

set_option maxHeartbeats 8000000 in
theorem bp_any (a b g o n cap : Nat) (pre post : List Value) (d : Array Nat) (w0 w : World) (h : Sr w0 g pre post d w) (ho : o = pre.length) (hn : n = d.size) (hab : a + 12 < b) (hb : b ≤ n) (hsz : n < 1000000000) :
    Calls Tryz.prog 101 #[.slice (some ⟨g, o, none⟩) n cap, .int .i64 (a : Int), .int .i64 (b : Int)] w (BpPost w0 g pre post d a b) := by
  have HN := Lib.hid h
  have HO := Lib.hid ho
  have HD := Lib.hid hn
  obtain ⟨l, hl⟩ : ∃ l, l = b - a := ⟨_, rfl⟩
  obtain ⟨q, hq⟩ : ∃ q, q = l / 4 := ⟨_, rfl⟩
  obtain ⟨m2, hm2⟩ : ∃ x, x = q * 2 := ⟨_, rfl⟩
  obtain ⟨s0, hs0⟩ : ∃ x, x = a + m2 := ⟨_, rfl⟩
  obtain ⟨x0, hx0⟩ : ∃ x, x = s0 - 1 := ⟨_, rfl⟩
  obtain ⟨x1, hx1⟩ : ∃ x, x = s0 + 1 := ⟨_, rfl⟩
  have e1 : (b : Int) - (a : Int) = (l : Int) := by omega
  have e2 : (l : Int).tdiv 4 = (q : Int) := by rw [hq]; exact (Int.natCast_ediv l 4).symm ▸ Int.tdiv_eq_ediv_of_nonneg (by omega)
  have e3 : (q : Int) * 2 = (m2 : Int) := by omega
  have e4 : (a : Int) + (m2 : Int) = (s0 : Int) := by omega
  have e5 : (s0 : Int) - 1 = (x0 : Int) := by omega
  have e6 : (s0 : Int) + 1 = (x1 : Int) := by omega
  have hl8 : 8 ≤ l := by omega
  have hl0 : 0 < l := by omega
  have hln : l < 1000000000 := by omega
  have hqn : q ≤ n := by omega
  have hm2n : m2 ≤ n := by omega
  have hs0n : s0 ≤ n := by omega
  have hx0n : x0 ≤ n := by omega
  have hx01 : x0 ≤ x1 + 1 := by omega
  have hx0a : a ≤ x0 := by omega
  have hx1b : x1 < b := by omega
  have hal : a + l = b := by omega
  clear h ho hn hl hq hm2 hs0 hx0 hx1
  obtain ⟨wz, hwz⟩ : ∃ wz, wz = w.alloc (.cells #[.int .u64 (l : Int)] 129) := ⟨_, rfl⟩
  obtain ⟨G, hG⟩ : ∃ G, G = w.heap.size := ⟨_, rfl⟩
  have hgG : g < G := by rw [hG]; exact lt_of_block HN.out.2
  have HSZ : Hid (Sr w0 g pre post d wz) := by
    rw [hwz]
    exact ⟨HN.out.1.alloc (by omega) _, (((Below.refl w.heap.size w).alloc (Nat.le_refl _) _).block g (by omega)).trans HN.out.2⟩
  have HXZ : Hid (Xs wz G) := by
    rw [hwz, hG]
    exact ⟨(l : Int), by omega, by omega, heap_alloc_new w _⟩
  go_enter Tryz.func101, Tryz.ntmps101
  go_upto_region 3 with fail
  rw [← hG, ← hwz]
  clear hwz hG
  go_upto_region 4 with (go_at_call 95; have c1 := np_any l wz hl0 hln; refine c1.mono ?_; clear c1; rintro e w' ⟨M, rfl, hM1, hM2, rfl⟩)
  obtain ⟨M1, hM1e⟩ : ∃ x, x = M - 1 := ⟨_, rfl⟩
  have e8 : (M : Int) - 1 = (M1 : Int) := by omega
  have hM1l : M1 < 2 * l := by omega
  clear hM1e
  rename World => wz
  go_wp2
  go_loopw [9] (fun vi wr => ∃ (i : Nat) (cur : Array Nat), vi = .int .i64 (i : Int) ∧ a ≤ i ∧ i ≤ x1 + 1 ∧ Hid (cur.size = n ∧ Sort.PermIn a b d cur ∧ Sr w0 g pre post cur wr ∧ Xs wr G)) (fun vi _ => x1 + 1 - (intOf vi).toNat)
  case atStart => exact ⟨x0, d, rfl, hx0a, hx01, HD.out.symm, Sort.permIn_refl d a b, HSZ.out, HXZ.out⟩
  case round =>
    obtain ⟨i, cur, rfl, hai, hix, HV⟩ := hrel
    by_cases hle : i ≤ x1
    · go_upto_region 8 with (go_at_call 96; have c1 := nx_any g G pre post cur w0 wr HV.out.2.2.1 hgG HV.out.2.2.2; refine c1.mono ?_; clear c1; rintro e w2 ⟨r, rfl, hr0, hr1, hS2, hX2⟩; obtain ⟨rn, rfl⟩ := Int.eq_ofNat_of_zero_le hr0; obtain ⟨ot, hot⟩ : ∃ ot, ot = rn &&& M1 := ⟨_, rfl⟩; have hBA : bits .and .u64 (rn : Int) (M1 : Int) = (ot : Int) := (by rw [hot]; exact bits_and_u64_nat rn M1 (by omega) (by omega)); have hoM : ot ≤ M1 := (by rw [hot]; exact Nat.and_le_right); clear hot hr0; have HS2 := Lib.hid hS2; have HX2 := Lib.hid hX2; clear hS2 hX2)
      go_upto_if 43 with fail
      go_cut [10] (fun v wx => ∃ u : Nat, v = .int .i64 (u : Int) ∧ u < l ∧ wx = w2)
      case first =>
        by_cases hge : l ≤ ot
        · go_wp2_with fail
          go_meet
          case rel => exact ⟨ot - l, by congr 1; omega, by omega, rfl⟩
        · go_wp2_with fail
          go_meet
          case rel => exact ⟨ot, rfl, by omega, rfl⟩
      case rest =>
        obtain ⟨u, rfl, hul, rfl⟩ := hcut
        rename World => w2
        obtain ⟨F, hF⟩ : ∃ G : Nat → Int, G = fun t => ((cur[t]! : Nat) : Int) := ⟨_, rfl⟩
        obtain ⟨xu, hxu⟩ : ∃ x, x = a + u := ⟨_, rfl⟩
        have e9 : (a : Int) + (u : Int) = (xu : Int) := by omega
        have hxun : xu < b := by omega
        have haxu : a ≤ xu := by omega
        have hxun2 : xu < n := by omega
        have hin : i < n := by omega
        have hci : w2.cell? ⟨g, o + i, none⟩ = some (.int .u32 (F i)) := by rw [hF]; exact HS2.out.read HO.out i (by rw [HV.out.1]; exact hin)
        have hcu : w2.cell? ⟨g, o + xu, none⟩ = some (.int .u32 (F xu)) := by rw [hF]; exact HS2.out.read HO.out xu (by rw [HV.out.1]; exact hxun2)
        have hfi : w2.frozen? ⟨g, o + i, none⟩ = false := HS2.out.free _
        have hfu : w2.frozen? ⟨g, o + xu, none⟩ = false := HS2.out.free _
        have HF := Lib.hid hF
        clear hF hxu
        obtain ⟨v', hy'⟩ := cell?_setCell_some (w := w2) (p := ⟨g, o + i, none⟩) (x := .int .u32 (F xu)) (q := ⟨g, o + xu, none⟩) hcu
        go_wp2
        go_region
        go_wp2
        go_roundw
        case rel => exact ⟨i + 1, Sort.swp cur i xu, by go_num, by omega, by omega, by rw [swp_size]; exact HV.out.1, Sort.permIn_trans d cur _ a b HV.out.2.1 (Sort.swp_permIn cur a b i xu hai (by omega) haxu hxun (by rw [HV.out.1]; exact hb)), HS2.out.drew.swap HO.out i xu (by rw [HV.out.1]; omega) (by rw [HV.out.1]; omega) _ _ (by rw [HF.out]) (by rw [HF.out]), xs_aside HX2.out hgG _ _ _ _⟩
        case measure => simp [intOf]; omega
    · go_wp2
      go_end0
      exact ⟨rfl, cur, by rw [HV.out.1]; exact HD.out, HV.out.2.1, HV.out.2.2.1⟩
end Go.Proofs.YtemjmnpclknfaaaGreat.Z
