/- Pass: PassOthers' walk. -/
import Derived.Test.YtaefgieodehceaaDoorQI
import Derived.Lib.BufferMore
namespace Go.Proofs.YtaefgieodehceaaDoor
open Go.RowKit Go.ChangeShapes
set_option maxRecDepth 20000

theorem frozen_far {w : World} {g i : Nat} {cs : Array Value} {t : TypeId} {lo hi : Nat} (h : w.heap[g]? = some (.cells cs t (lo, hi))) (hi : i < lo) : w.frozen? ⟨g, i, none⟩ = false := by
  simp [World.frozen?, h]
  omega
/-- A text as bytes in a new block, which may be written. -/
theorem conv_row (w : World) (q : ByteArray) (n : Nat) (hn : q.size = n) :
    ∃ (c : Nat) (cs : Array Value) (lo hi : Nat), (convert 9 22 (.string q)).run Tryd.prog w = .ok (.slice (some ⟨w.heap.size, 0, none⟩) n c) (Lib.bytesWorld w 5 q) ∧ n ≤ c ∧ n ≤ lo ∧
      (Lib.bytesWorld w 5 q).heap[w.heap.size]? = some (.cells cs 5 (lo, hi)) ∧ (∀ (j : Nat) (u : Value), (bv q.data.toList)[j]? = some u → cs[j]? = some u) ∧ Below w.heap.size w (Lib.bytesWorld w 5 q) := by
  have hg := grownCap_ge w q.size 0 5
  refine ⟨grownCap w q.size 0 5, Lib.bytesCells w 5 q, _, _, ?_, by omega, ?_, Lib.bytesWorld_at_new w 5 q, fun j u hu => ?_, (Below.refl _ _).grown (grown_conv _ _) (Nat.le_refl _) (by simp)⟩
  · rw [Lib.run_convert_string_bytes w 9 22 5 q Tryd.underlying9 Tryd.underlying22 Tryd.underlying5, hn]
  · simp [Lib.bytesCells, hn] <;> omega
  · unfold bv at hu
    unfold Lib.bytesCells
    obtain ⟨hj, hju⟩ := List.getElem?_eq_some_iff.1 hu
    simp at hj hju
    rw [Array.getElem?_append_left (by simpa using hj), ← hju]
    simp [hj]
theorem bs_rd {w : World} {A : Option Addr} {xs : List Value} (h : Rd w w.heap.size A xs) : Rd w w.heap.size A xs := h
theorem bv_set' (l : List UInt8) (i : Nat) (x : UInt8) : (bv l).set i (.int .u8 (x.toNat : Int)) = bv (l.set i x) := by
  simp [bv, List.map_set]

set_option linter.unusedSimpArgs false in
set_option maxHeartbeats 10000000 in
theorem pothers_walk (A0 : Option Addr) (c0 : Nat) (K0 : List UInt8) (A1 : Option Addr) (c1 : Nat) (K1 : List UInt8) (a : Nat) (b : Int) (d : Nat) (x y : UInt8) (w : World) (hs : Sh w) (hk0 : Bs w w.heap.size (.slice A0 K0.length c0) K0) (hl0 : K0.length ≤ 9223372036854775807) (hk1 : Bs w w.heap.size (.slice A1 K1.length c1) K1) (hl1 : K1.length ≤ 9223372036854775807) (ht : BdT a b d) :
    Calls Tryd.prog 7 #[.agg #[.slice A0 K0.length c0, .slice A1 K1.length c1], tickV a b d, .agg #[.int .u8 (x.toNat : Int), .int .u8 (y.toNat : Int)]] w fun r w' => r = .returned (.bool true) ∧ Below w.heap.size w w' := by
  obtain ⟨k0, hkn0⟩ : ∃ k, k = K0.length := ⟨_, rfl⟩
  obtain ⟨k1, hkn1⟩ : ∃ k, k = K1.length := ⟨_, rfl⟩
  obtain ⟨xn, hxn⟩ : ∃ n, n = x.toNat := ⟨_, rfl⟩
  obtain ⟨yn, hyn⟩ : ∃ n, n = y.toNat := ⟨_, rfl⟩
  have hx8 : xn < 256 := by rw [hxn]; exact x.toNat_lt
  rw [← hkn0, ← hkn1, ← hxn, ← hyn]
  rw [← hkn0] at hk0 hl0
  rw [← hkn1] at hk1 hl1
  obtain ⟨B, hB⟩ : ∃ B, B = w.heap.size := ⟨_, rfl⟩
  obtain ⟨w0, hw0⟩ : ∃ w0, w0 = ((w.alloc (.cells #[.slice A0 k0 c0, .slice A1 k1 c1] 55)).alloc (.cells #[.int .u32 (a : Int), .int .i64 b, .int .u64 (d : Int)] 26)).alloc (.cells #[.int .u8 (xn : Int), .int .u8 (yn : Int)] 56) := ⟨_, rfl⟩
  have hb0 : Below w.heap.size w w0 := by rw [hw0]; exact (((Below.refl _ _).alloc (Nat.le_refl _) _).alloc (by simp) _).alloc (by simp; omega) _
  have hp1 : w0.heap[B]? = some (.cells #[.slice A0 k0 c0, .slice A1 k1 c1] 55 (0, 0)) := by
    rw [hw0, hB]; exact (Below.heap_alloc _ _ _ (by simp; omega)).trans ((Below.heap_alloc _ _ _ (by simp)).trans (heap_alloc_new w _))
  have hp2 : w0.heap[B + 1]? = some (.cells #[.int .u32 (a : Int), .int .i64 b, .int .u64 (d : Int)] 26 (0, 0)) := by
    have := heap_alloc_new (w.alloc (.cells #[.slice A0 k0 c0, .slice A1 k1 c1] 55)) (.cells #[.int .u32 (a : Int), .int .i64 b, .int .u64 (d : Int)] 26)
    rw [World.size_alloc, ← hB] at this
    rw [hw0]; exact (Below.heap_alloc _ _ _ (by simp [hB])).trans this
  have hp3 : w0.heap[B + 1 + 1]? = some (.cells #[.int .u8 (xn : Int), .int .u8 (yn : Int)] 56 (0, 0)) := by
    have := heap_alloc_new ((w.alloc (.cells #[.slice A0 k0 c0, .slice A1 k1 c1] 55)).alloc (.cells #[.int .u32 (a : Int), .int .i64 b, .int .u64 (d : Int)] 26)) (.cells #[.int .u8 (xn : Int), .int .u8 (yn : Int)] 56)
    rw [World.size_alloc, World.size_alloc, ← hB] at this
    rw [hw0]; exact this
  have HC0 : Hid (∀ W, Below w0.heap.size w0 W → W.cell? ⟨B, 0, none⟩ = some (.slice A0 k0 c0) ∧ W.cell? ⟨B, 1, none⟩ = some (.slice A1 k1 c1) ∧ W.cell? ⟨B + 1, 0, none⟩ = some (.int .u32 (a : Int)) ∧ W.cell? ⟨B + 1, 1, none⟩ = some (.int .i64 b) ∧ W.cell? ⟨B + 1, 2, none⟩ = some (.int .u64 (d : Int)) ∧ W.cell? ⟨B + 1 + 1, 0, none⟩ = some (.int .u8 (xn : Int)) ∧ W.cell? ⟨B + 1 + 1, 1, none⟩ = some (.int .u8 (yn : Int))) := fun W hW => by
    have e1 := (hW.block _ (lt_of_block hp1)).trans hp1
    have e2 := (hW.block _ (lt_of_block hp2)).trans hp2
    have e3 := (hW.block _ (lt_of_block hp3)).trans hp3
    exact ⟨cell_of_row W _ 0 _ _ _ e1, cell_of_row W _ 1 _ _ _ e1, cell_of_row W _ 0 _ _ _ e2, cell_of_row W _ 1 _ _ _ e2, cell_of_row W _ 2 _ _ _ e2, cell_of_row W _ 0 _ _ _ e3, cell_of_row W _ 1 _ _ _ e3⟩
  have HSW : Hid (∀ W, Below w0.heap.size w0 W → Sh W ∧ Below w.heap.size w W) := fun W hW => ⟨(hs.below hb0).below hW, hb0.trans (hW.mono hb0.size)⟩
  have H0 := Lib.hid hw0
  have HB0 := Lib.hid hb0
  have HBW := Lib.hid hB
  obtain ⟨q1, q2, q3, q4, q5, q6, q7⟩ := HC0.out w0 (Below.refl _ _)
  by_cases hbig : 200 < k0
  · have t : decide ((k0 : Int) > 200) = true := by rw [decide_eq_true_iff]; omega
    clear hw0 hb0 hp1 hp2 hp3 hs hk0 hk1 hkn0 hkn1 hxn hyn
    go_enter Tryd.func7, Tryd.ntmps7
    go_upto_region 1 with (fail)
    rw [← hB, ← H0.out]
    clear hB
    go_wp2
    go_ret
    exact ⟨rfl, HB0.out⟩
  have t : decide ((k0 : Int) > 200) = false := by rw [decide_eq_false_iff_not]; omega
  by_cases hbig2 : 200 < k1
  · have t2 : decide ((k1 : Int) > 200) = true := by rw [decide_eq_true_iff]; omega
    clear hw0 hb0 hp1 hp2 hp3 hs hk0 hk1 hkn0 hkn1 hxn hyn
    go_enter Tryd.func7, Tryd.ntmps7
    go_upto_region 1 with (fail)
    rw [← hB, ← H0.out]
    clear hB
    go_wp2
    go_ret
    exact ⟨rfl, HB0.out⟩
  have t2 : decide ((k1 : Int) > 200) = false := by rw [decide_eq_false_iff_not]; omega
  obtain ⟨b0, hbb0⟩ : ∃ z, z = Sha.blockP K0 := ⟨_, rfl⟩
  obtain ⟨b1, hbb1⟩ : ∃ z, z = Sha.blockP K1 := ⟨_, rfl⟩
  have hbs0 : ∀ W, Below w0.heap.size w0 W → Bs W W.heap.size (.slice A0 k0 c0) K0 := fun W hW => bs_up (hk0.below (hb0.trans (hW.mono hb0.size)) (Nat.le_refl _)) (hb0.trans (hW.mono hb0.size)).size
  have hbs1 : ∀ W, Below w0.heap.size w0 W → Bs W W.heap.size (.slice A1 k1 c1) K1 := fun W hW => bs_up (hk1.below (hb0.trans (hW.mono hb0.size)) (Nat.le_refl _)) (hb0.trans (hW.mono hb0.size)).size
  have HM0 : Hid (∀ W, Below w0.heap.size w0 W → Calls Tryd.prog 10 #[.slice A0 k0 c0] W fun e w' => ∃ kv, e = .returned kv ∧ KeyAt w' kv (some b0) ∧ Below W.heap.size W w') := fun W hW => by
    rw [hbb0]; exact make_o _ K0 W (hbs0 W hW) (HSW.out W hW).1 (by omega)
  have HM1 : Hid (∀ W, Below w0.heap.size w0 W → Calls Tryd.prog 10 #[.slice A1 k1 c1] W fun e w' => ∃ kv, e = .returned kv ∧ KeyAt w' kv (some b1) ∧ Below W.heap.size W w') := fun W hW => by
    rw [hbb1]; exact make_o _ K1 W (hbs1 W hW) (HSW.out W hW).1 (by omega)
  obtain ⟨l, hl⟩ : ∃ l, l = sealT (some b0) a b d := ⟨_, rfl⟩
  obtain ⟨q, hq⟩ : ∃ q : ByteArray, q = ⟨l.toArray⟩ := ⟨_, rfl⟩
  have hql : q.data.toList = l := by rw [hq]
  have hll : l.length = 53 := by rw [hl, sealT_len]
  have hq53 : q.size = 53 := by rw [hq, text_size, hll]
  obtain ⟨tk, htk⟩ : ∃ tk, tk = tickB a b d := ⟨_, rfl⟩
  have htl : tk.length = 21 := by rw [htk, tickB_len]
  have hlt : l = tk ++ tagO (some b0) tk := by rw [hl, htk]; rfl
  have h116 : l[0]? = some 116 := by rw [hlt, htk]; simp [tickB]
  obtain ⟨T0, hT0⟩ : ∃ z, z = tagO (some b0) tk := ⟨_, rfl⟩
  obtain ⟨T1, hT1⟩ : ∃ z, z = tagO (some b1) tk := ⟨_, rfl⟩
  have HSL : Hid (∀ W, Below w0.heap.size w0 W → Calls Tryd.prog 13 #[.slice A0 k0 c0, tickV a b d] W fun r w' => r = .returned (.string q) ∧ Below W.heap.size W w') := fun W hW => by
    rw [hq, hl, hbb0]; exact rtseal_any _ K0 a b d W (hbs0 W hW) (by omega) ht.1 ht.2.2
  have HG0 : Hid (∀ W F, Below w0.heap.size w0 W → Bs W W.heap.size F tk → Calls Tryd.prog 22 #[.slice A0 k0 c0, F] W fun e w' => e = .returned (.agg (bv T0).toArray) ∧ Below W.heap.size W w') := fun W F hW hF => by
    rw [hT0, hbb0]; exact Sha.rtag_any _ F K0 tk W (pb_bs (hbs0 W hW)) (pb_bs hF) (by omega) (by omega)
  have HG1 : Hid (∀ W F, Below w0.heap.size w0 W → Bs W W.heap.size F tk → Calls Tryd.prog 22 #[.slice A1 k1 c1, F] W fun e w' => e = .returned (.agg (bv T1).toArray) ∧ Below W.heap.size W w') := fun W F hW hF => by
    rw [hT1, hbb1]; exact Sha.rtag_any _ F K1 tk W (pb_bs (hbs1 W hW)) (pb_bs hF) (by omega) (by omega)
  obtain ⟨⟨er1, p1, e1, n1⟩, hr1⟩ : ∃ r, r = openT (some b1) l := ⟨_, rfl⟩
  have HO1 : Hid (∀ kv W, KeyAt W kv (some b1) → Sh W → Calls Tryd.prog 18 #[kv, .string q] W fun x w' => x = .returned (.tuple #[tickV p1 e1 n1, .int .i64 (er1 : Int)]) ∧ Below W.heap.size W w') := fun kv W hK hS => by
    have := opent_any _ kv q W hK hS
    rw [hql, ← hr1] at this
    exact this
  obtain ⟨r, hreq, hrt⟩ := eq_tags T0 T1 (by rw [hT0, tagO_len]) (by rw [hT1, tagO_len])
  have hcase : r = true ∨ (r = false ∧ er1 = 8) := by
    rcases r with _ | _
    · refine .inr ⟨rfl, ?_⟩
      have hne : T0 ≠ T1 := fun e => by simpa using hrt e
      have hf : fitO (some b1) (l.drop 21) (l.take 21) = false := by
        rw [hlt, List.drop_left' htl, List.take_left' htl, fitO, Option.isSome_some, Bool.true_and, decide_eq_false_iff_not, ← hT0, ← hT1]
        exact hne
      unfold openT at hr1
      rw [if_pos ⟨hll, h116⟩, if_neg (by rw [hf]; simp)] at hr1
      injection hr1
    · exact .inl rfl
  obtain ⟨at', hat⟩ : ∃ n, n = xn % 53 := ⟨_, rfl⟩
  have hat53 : at' < 53 := by rw [hat]; exact Nat.mod_lt _ (by decide)
  have eat : ((xn : Int) % 53) = (at' : Int) := by omega
  obtain ⟨z, hz⟩ : ∃ z, l[at']? = some z := ⟨l[at'], List.getElem?_eq_getElem (by omega)⟩
  obtain ⟨l2, hl2⟩ : ∃ l2, l2 = l.set at' (z ^^^ y) := ⟨_, rfl⟩
  have hll2 : l2.length = 53 := by rw [hl2, List.length_set, hll]
  obtain ⟨zn, hzn⟩ : ∃ n, n = z.toNat := ⟨_, rfl⟩
  obtain ⟨Yn, hYn⟩ : ∃ n, n = (z ^^^ y).toNat := ⟨_, rfl⟩
  have exor : bits .xor .u8 (zn : Int) (yn : Int) = (Yn : Int) := by rw [hzn, hyn, hYn]; exact Sha.xor_bytes z y
  obtain ⟨q', hq'⟩ : ∃ q : ByteArray, q = ⟨l2.toArray⟩ := ⟨_, rfl⟩
  have hql2 : q'.data.toList = l2 := by rw [hq']
  obtain ⟨⟨er2, p2, e2, n2⟩, hr2⟩ : ∃ r, r = openT (some b0) l2 := ⟨_, rfl⟩
  have HO2 : Hid (∀ kv W, KeyAt W kv (some b0) → Sh W → Calls Tryd.prog 18 #[kv, .string q'] W fun x w' => x = .returned (.tuple #[tickV p2 e2 n2, .int .i64 (er2 : Int)]) ∧ Below W.heap.size W w') := fun kv W hK hS => by
    have := opent_any _ kv q' W hK hS
    rw [hql2, ← hr2] at this
    exact this
  have HR2 : Hid (∀ W, Below w0.heap.size w0 W → Calls Tryd.prog 19 #[.slice A0 k0 c0, .string q'] W fun x w' => x = .returned (.tuple #[tickV p2 e2 n2, .int .i64 (er2 : Int)]) ∧ Below W.heap.size W w') := fun W hW => by
    have := ropent_any _ K0 q' W (hbs0 W hW) (by omega)
    rw [hql2, ← hbb0, ← hr2] at this
    exact this
  have hend : ((yn : Int) == 0) = true ∧ er2 = 0 ∧ p2 = a ∧ e2 = b ∧ n2 = d ∨ ((yn : Int) == 0) = false ∧ (((at' : Int) != 0) = true ∨ ((at' : Int) != 0) = false ∧ er2 = 7) := by
    by_cases hy0 : y = 0
    · refine .inl ?_
      have e : l2 = l := by
        rw [hl2, hy0, UInt8.xor_zero]
        obtain ⟨hi, he⟩ := List.getElem?_eq_some_iff.1 hz
        rw [← he, List.set_getElem_self]
      rw [e, hl, openT_seal b0 a b d ht] at hr2
      injection hr2 with h1 h2
      injection h2 with h2 h3
      injection h3 with h3 h4
      refine ⟨by rw [hyn, hy0]; rfl, h1, h2, h3, h4⟩
    · refine .inr ⟨?_, ?_⟩
      · rw [hyn]
        have : y.toNat ≠ 0 := fun e => hy0 (UInt8.toNat_inj.1 e)
        simp
        exact this
      · by_cases h0 : at' = 0
        · refine .inr ⟨by simp [h0], ?_⟩
          have hz6 : z = 116 := by
            rw [h0, h116] at hz
            exact (Option.some.inj hz).symm
          rw [hl2, h0, hz6, turned_head l y h116 hy0] at hr2
          injection hr2
        · exact .inl (by simp [h0])
  have HCS := Lib.hid (show ∀ (j : Nat) (u : Value), (bv l2)[j]? = some u → (if j = at' then some (Value.int .u8 (Yn : Int)) else (bv l)[j]?) = some u from fun j u hu => by
    rw [hl2, ← bv_set', List.getElem?_set] at hu
    by_cases hj : j = at'
    · subst hj
      rw [if_pos rfl] at hu ⊢
      split at hu
      · rw [hYn]; exact hu
      · cases hu
    · rw [if_neg hj]
      rwa [if_neg (fun e => hj e.symm)] at hu)
  have HZC := Lib.hid (show (bv l)[at']? = some (Value.int .u8 (zn : Int)) by rw [hzn]; unfold bv; rw [List.getElem?_map, hz]; rfl)
  have HQL := Lib.hid hql
  have HLT := Lib.hid hlt
  have HQ53 := Lib.hid hq53
  have HTL := Lib.hid htl
  have HQ2 := Lib.hid hq'
  have HLL := Lib.hid hll
  have HLL2 := Lib.hid hll2
  have hreq' : ∀ W, (Op.equalIn 10000 57 (.agg (bv T0).toArray) (.agg (bv T1).toArray)).run Tryd.prog W = .ok r W := hreq
  have HEND := Lib.hid hend
  have HCASE := Lib.hid hcase
  clear hw0 hb0 hp1 hp2 hp3 hs hk0 hk1 hkn0 hkn1 hxn hyn hbb0 hbb1 hbs0 hbs1 hl hq hql hll hq53 htk htl hlt h116 hT0 hT1 hr1 hreq hrt hcase hat hz hl2 hll2 hzn hYn hq' hql2 hr2 hend ht
  go_enter Tryd.func7, Tryd.ntmps7
  go_upto_region 1 with (fail)
  rw [← hB, ← H0.out]
  clear hB
  go_upto_region 3 with (fail)
  go_cut [7, 8] (fun u v wx => Hid (KeyAt wx u (some b0) ∧ KeyAt wx v (some b1) ∧ Below w0.heap.size w0 wx))
  case first =>
    have HD0 : Hid (Below w0.heap.size w0 w0.drew) := (Below.refl _ _).drew
    go_region_held3 (fun W : World => W.cell? ⟨B, 0, none⟩ = some (.slice A0 k0 c0) ∧ W.cell? ⟨B, 1, none⟩ = some (.slice A1 k1 c1))
      (first | exact ⟨(HC0.out _ hc2).1, (HC0.out _ hc2).2.1⟩ | exact ⟨(HC0.out _ hc1).1, (HC0.out _ hc1).2.1⟩ | exact ⟨(HC0.out _ HD0.out).1, (HC0.out _ HD0.out).2.1⟩ | go_keep)
      (first
        | (have _g := hc1; clear _g; go_at_call 10; refine (HM1.out wA hc1).mono ?_; rintro e wB ⟨kvB, rfl, hKB, hbB⟩; have hc2 := hc1.trans (hbB.mono hc1.size))
        | (go_at_call 10; refine (HM0.out w0.drew HD0.out).mono ?_; rintro e wA ⟨kvA, rfl, hKA, hbA⟩; have hc1 := HD0.out.trans hbA)
        | fail)
    try go_wp2_with fail
    go_meet
    exact Lib.hid ⟨hKA.below hbB, hKB, hc2⟩
  case rest =>
    rename World => w1
    have HCU := hcut
    clear hcut q1 q2 q3 q4 q5 q6 q7
    obtain ⟨q1, q2, q3, q4, q5, q6, q7⟩ := HC0.out w1 HCU.out.2.2
    go_wp2_with fail
    refine (HSL.out w1 HCU.out.2.2).mono ?_
    rintro e w2 ⟨rfl, hb2⟩
    obtain ⟨c3, cs3, lo3, hi3, hcv, hc3, hlo3, hrow3, hcs3, hb23⟩ := conv_row w2 q 53 HQ53.out
    obtain ⟨g3, hg3⟩ : ∃ g, g = w2.heap.size := ⟨_, rfl⟩
    obtain ⟨w3, hw3⟩ : ∃ w3, w3 = Lib.bytesWorld w2 5 q := ⟨_, rfl⟩
    rw [← hg3, ← hw3] at hcv
    rw [← hg3, ← hw3] at hrow3
    rw [← hw3] at hb23
    have hfr : ∀ W, (Instr.slice 22 (.slice (some ⟨g3, 0, none⟩) 53 c3) none (some (.int .i64 21)) none).run Tryd.prog W = .ok (.slice (some ⟨g3, 0, none⟩) 21 c3) W := fun W => by
      obtain ⟨i0, hi0, _, hz1, _⟩ := info_parts Tryd.info5
      have h2 : (21 : Int) ≤ (c3 : Int) := by omega
      simp [Instr.slice, Sem.run_bind, run_underlying Tryd.underlying22, Instr.sliceBounds, run_sliceBound, sizeOf, typeInfo, hi0, h2, add_plain]
    have hF : ∀ W, Below w3.heap.size w3 W → Bs W W.heap.size (.slice (some ⟨g3, 0, none⟩) 21 c3) tk := fun W hW => by
      have hrd : Rd W W.heap.size (some ⟨g3, 0, none⟩) (bv l) := fun _ => ⟨g3, 0, rfl, Nat.lt_of_lt_of_le (lt_of_block hrow3) hW.size, fun j u hu => by
        rw [Nat.zero_add]
        exact (hW.cell (p := ⟨g3, j, none⟩) (lt_of_block hrow3)).trans ((cell_of_row w3 g3 j cs3 5 _ hrow3).trans (hcs3 j u (by rw [HQL.out]; exact hu)))⟩
      have h1 := Bs.take hrd (m := 21) (c := c3) (by have := HLL.out; omega) (by have := HLL.out; omega)
      rw [show l.take 21 = tk by rw [HLT.out, List.take_left' HTL.out]] at h1
      exact h1
    have HF := Lib.hid hF
    have HB3 := Lib.hid (HCU.out.2.2.trans ((hb2.trans (hb23.mono hb2.size)).mono HCU.out.2.2.size))
    have HK3 : Hid (∀ W, Below w3.heap.size w3 W → KeyAt W u7 (some b0) ∧ KeyAt W u8 (some b1)) := fun W hW => by
      have h := (hb2.trans (hb23.mono hb2.size)).trans (hW.mono (hb2.trans (hb23.mono hb2.size)).size)
      exact ⟨HCU.out.1.below h, HCU.out.2.1.below h⟩
    have HQ3 := Lib.hid hw3
    clear hF hrow3 hcs3 hb23 hb2 hw3 hg3 hc3 hlo3
    go_upto_region 6 with (fail)
    clear hcv hfr q1 q2 q3 q4 q5 q6 q7
    go_wp2_with fail
    refine (HO1.out u8 w3 (HK3.out w3 (Below.refl _ _)).2 (HSW.out w3 HB3.out).1).mono ?_
    rintro e w4 ⟨rfl, hb4⟩
    obtain ⟨w5, hw5⟩ : ∃ w5, w5 = w4.alloc (.cells #[.int .u32 (p1 : Int), .int .i64 e1, .int .u64 (n1 : Int)] 35) := ⟨_, rfl⟩
    have hb45 : Below w4.heap.size w4 w5 := by rw [hw5]; exact (Below.refl _ _).alloc (Nat.le_refl _) _
    have HX5 := Lib.hid (hb4.trans (hb45.mono hb4.size))
    have HB5 := Lib.hid (HB3.out.trans (HX5.out.mono HB3.out.size))
    have H5 := Lib.hid hw5
    clear hw5 hb45 hb4
    go_upto_region 7 with (fail)
    rw [← H5.out]
    go_cut [60] (fun v wx => v = .bool false ∧ Hid (Below w5.heap.size w5 wx))
    case first =>
      have HD0 : Hid (Below w5.heap.size w5 w5.drew) := (Below.refl _ _).drew
      have HS0 : Hid ((fun W : World => W.cell? ⟨B, 0, none⟩ = some (.slice A0 k0 c0) ∧ W.cell? ⟨B, 1, none⟩ = some (.slice A1 k1 c1)) w5.drew) := ⟨(HC0.out _ (HB5.out.trans (HD0.out.mono HB5.out.size))).1, (HC0.out _ (HB5.out.trans (HD0.out.mono HB5.out.size))).2.1⟩
      refine wp_region_held_drew (S := fun W : World => W.cell? ⟨B, 0, none⟩ = some (.slice A0 k0 c0) ∧ W.cell? ⟨B, 1, none⟩ = some (.slice A1 k1 c1)) (by kernel_rfl) HS0.out (fun hHeld => ?_)
      obtain ⟨W0, hW0⟩ : ∃ W0, W0 = w5.drew := ⟨_, rfl⟩
      have HD : Hid (Below w5.heap.size w5 W0) := by rw [hW0]; exact HD0.out
      rw [← hW0] at hHeld ⊢
      clear hW0
      refine wpAnyH_take (i := 0) (oi := ?oi0r) (v := ?v0r) ?hi0r ?hs0r ?hf0r ?hr0r ?hQ0r ?hy0r ?hS0r ?h0r
      case hi0r => exact (by simp only [List.getElem?_toArray, List.getElem?_cons_zero]; rfl)
      case hs0r => kernel_rfl
      case hf0r => kernel_rfl
      case hr0r => kernel_rfl
      case hQ0r => exact fun _ _ _ h => h
      case hy0r =>
        refine Or.inl ⟨rfl, ?_⟩
        intro W hSw
        obtain ⟨y1, y2⟩ := hSw
        go_simp
        try with_reducible rfl
      case hS0r => assumption
      try simp only [Act.put, List.setIfInBounds_toArray, List.set_cons_zero, List.set_cons_succ]
      refine wpAnyH_take (i := 1) (oi := ?oi1r) (v := ?v1r) ?hi1r ?hs1r ?hf1r ?hr1r ?hQ1r ?hy1r ?hS1r ?h1r
      case hi1r => exact (by simp only [List.getElem?_toArray, List.getElem?_cons_succ, List.getElem?_cons_zero]; rfl)
      case hs1r => kernel_rfl
      case hf1r => kernel_rfl
      case hr1r => kernel_rfl
      case hQ1r => exact fun _ _ _ h => h
      case hy1r =>
        refine Or.inl ⟨rfl, ?_⟩
        intro W hSw
        obtain ⟨y1, y2⟩ := hSw
        go_simp
        try with_reducible rfl
      case hS1r => assumption
      try simp only [Act.put, List.setIfInBounds_toArray, List.set_cons_zero, List.set_cons_succ]
      refine wpAnyH_take (i := 2) (oi := ?oi2r) (v := ?v2r) ?hi2r ?hs2r ?hf2r ?hr2r ?hQ2r ?hy2r ?hS2r ?h2r
      case hi2r => exact (by simp only [List.getElem?_toArray, List.getElem?_cons_succ, List.getElem?_cons_zero]; rfl)
      case hs2r => kernel_rfl
      case hf2r => kernel_rfl
      case hr2r => kernel_rfl
      case hQ2r => exact fun _ _ _ h => h
      case hy2r =>
        refine Or.inl ⟨rfl, ?_⟩
        intro W hSw
        obtain ⟨y1, y2⟩ := hSw
        go_simp
        try with_reducible rfl
      case hS2r => assumption
      try simp only [Act.put, List.setIfInBounds_toArray, List.set_cons_zero, List.set_cons_succ]
      refine wpAnyH_take (i := 4) (oi := ?oi4r) (v := ?v4r) ?hi4r ?hs4r ?hf4r ?hr4r ?hQ4r ?hy4r ?hS4r ?h4r
      case hi4r => exact (by simp only [List.getElem?_toArray, List.getElem?_cons_succ, List.getElem?_cons_zero]; rfl)
      case hs4r => kernel_rfl
      case hf4r => kernel_rfl
      case hr4r => kernel_rfl
      case hQ4r => exact fun _ _ _ h => h
      case hy4r =>
        refine Or.inl ⟨rfl, ?_⟩
        intro W hSw
        obtain ⟨y1, y2⟩ := hSw
        go_simp
        try with_reducible rfl
      case hS4r => assumption
      try simp only [Act.put, List.setIfInBounds_toArray, List.set_cons_zero, List.set_cons_succ]
      refine wpAnyH_take (i := 5) (oi := ?oi5r) (v := ?v5r) ?hi5r ?hs5r ?hf5r ?hr5r ?hQ5r ?hy5r ?hS5r ?h5r
      case hi5r => exact (by simp only [List.getElem?_toArray, List.getElem?_cons_succ, List.getElem?_cons_zero]; rfl)
      case hs5r => kernel_rfl
      case hf5r => kernel_rfl
      case hr5r => kernel_rfl
      case hQ5r => exact fun _ _ _ h => h
      case hy5r =>
        refine Or.inl ⟨rfl, ?_⟩
        intro W hSw
        obtain ⟨y1, y2⟩ := hSw
        go_simp
        try with_reducible rfl
      case hS5r => assumption
      try simp only [Act.put, List.setIfInBounds_toArray, List.set_cons_zero, List.set_cons_succ]
      refine wpAnyH_take (i := 6) (oi := ?oi6r) (v := ?v6r) ?hi6r ?hs6r ?hf6r ?hr6r ?hQ6r ?hy6r ?hS6r ?h6r
      case hi6r => exact (by simp only [List.getElem?_toArray, List.getElem?_cons_succ, List.getElem?_cons_zero]; rfl)
      case hs6r => kernel_rfl
      case hf6r => kernel_rfl
      case hr6r => kernel_rfl
      case hQ6r => exact fun _ _ _ h => h
      case hy6r =>
        refine Or.inl ⟨rfl, ?_⟩
        intro W hSw
        obtain ⟨y1, y2⟩ := hSw
        go_simp
        try with_reducible rfl
      case hS6r => assumption
      try simp only [Act.put, List.setIfInBounds_toArray, List.set_cons_zero, List.set_cons_succ]
      refine wpAnyH_ready (rs := [3]) (by kernel_rfl) (by simp) ?_
      refine AllReadyH.cons (o := _) rfl (fun K hK => ?_) AllReadyH.nil
      go_simp
      refine (HG0.out W0 _ (HB5.out.trans (HD.out.mono HB5.out.size)) (HF.out W0 (HX5.out.trans (HD.out.mono HX5.out.size)))).mono ?_
      rintro e wA ⟨rfl, hbA⟩
      have hc1 := HD.out.trans (hbA.mono HD.out.size)
      refine hK.out _ _ ⟨(HC0.out _ (HB5.out.trans (hc1.mono HB5.out.size))).1, (HC0.out _ (HB5.out.trans (hc1.mono HB5.out.size))).2.1⟩ (fun hHeld => ?_)
      clear hK K
      try simp only [Act.put, List.setIfInBounds_toArray, List.set_cons_zero, List.set_cons_succ]
      refine wpAnyH_ready (rs := [7]) (by kernel_rfl) (by simp) ?_
      refine AllReadyH.cons (o := _) rfl (fun K hK => ?_) AllReadyH.nil
      go_simp
      refine (HG1.out wA _ (HB5.out.trans (hc1.mono HB5.out.size)) (HF.out wA (HX5.out.trans (hc1.mono HX5.out.size)))).mono ?_
      rintro e wB ⟨rfl, hbB⟩
      have hc2 := hc1.trans (hbB.mono hc1.size)
      refine hK.out _ _ ⟨(HC0.out _ (HB5.out.trans (hc2.mono HB5.out.size))).1, (HC0.out _ (HB5.out.trans (hc2.mono HB5.out.size))).2.1⟩ (fun hHeld => ?_)
      clear hK K
      try simp only [Act.put, List.setIfInBounds_toArray, List.set_cons_zero, List.set_cons_succ]
      rcases HCASE.out with rfl | ⟨rfl, h8⟩
      · refine wpAnyH_take (i := 8) (oi := ?oi8s) (v := ?v8s) ?hi8s ?hs8s ?hf8s ?hr8s ?hQ8s ?hy8s ?hS8s ?h8s
        case hi8s => exact (by simp only [List.getElem?_toArray, List.getElem?_cons_succ, List.getElem?_cons_zero]; rfl)
        case hs8s => kernel_rfl
        case hf8s => kernel_rfl
        case hr8s => kernel_rfl
        case hQ8s => exact fun _ _ _ h => h
        case hy8s =>
          refine Or.inl ⟨rfl, ?_⟩
          intro W hSw
          obtain ⟨y1, y2⟩ := hSw
          go_simp
          try with_reducible rfl
        case hS8s => assumption
        try simp only [Act.put, List.setIfInBounds_toArray, List.set_cons_zero, List.set_cons_succ]
        refine wpAnyH_take (i := 9) (oi := ?oi9s) (v := ?v9s) ?hi9s ?hs9s ?hf9s ?hr9s ?hQ9s ?hy9s ?hS9s ?h9s
        case hi9s => exact (by simp only [List.getElem?_toArray, List.getElem?_cons_succ, List.getElem?_cons_zero]; rfl)
        case hs9s => kernel_rfl
        case hf9s => kernel_rfl
        case hr9s => kernel_rfl
        case hQ9s => exact fun _ _ _ h => h
        case hy9s =>
          refine Or.inl ⟨rfl, ?_⟩
          intro W hSw
          obtain ⟨y1, y2⟩ := hSw
          go_simp
          try with_reducible rfl
        case hS9s => assumption
        try simp only [Act.put, List.setIfInBounds_toArray, List.set_cons_zero, List.set_cons_succ]
        refine wpAnyH_take (i := 10) (oi := ?oi10s) (v := undef) ?hi10s ?hs10s ?hf10s ?hr10s ?hQ10s ?hy10s ?hS10s ?h10s
        case hi10s => exact (by simp only [List.getElem?_toArray, List.getElem?_cons_succ, List.getElem?_cons_zero]; rfl)
        case hs10s => kernel_rfl
        case hf10s => kernel_rfl
        case hr10s => kernel_rfl
        case hQ10s => exact fun _ _ _ h => h
        case hy10s =>
          exact Or.inr ⟨rfl, rfl⟩
        case hS10s => assumption
        try simp only [Act.put, List.setIfInBounds_toArray, List.set_cons_zero, List.set_cons_succ]
        refine wpAnyH_take (i := 11) (oi := ?oi11s) (v := undef) ?hi11s ?hs11s ?hf11s ?hr11s ?hQ11s ?hy11s ?hS11s ?h11s
        case hi11s => exact (by simp only [List.getElem?_toArray, List.getElem?_cons_succ, List.getElem?_cons_zero]; rfl)
        case hs11s => kernel_rfl
        case hf11s => kernel_rfl
        case hr11s => kernel_rfl
        case hQ11s => exact fun _ _ _ h => h
        case hy11s =>
          exact Or.inr ⟨rfl, rfl⟩
        case hS11s => assumption
        try simp only [Act.put, List.setIfInBounds_toArray, List.set_cons_zero, List.set_cons_succ]
        refine wpAnyH_take (i := 12) (oi := ?oi12s) (v := ?v12s) ?hi12s ?hs12s ?hf12s ?hr12s ?hQ12s ?hy12s ?hS12s ?h12s
        case hi12s => exact (by simp only [List.getElem?_toArray, List.getElem?_cons_succ, List.getElem?_cons_zero]; rfl)
        case hs12s => kernel_rfl
        case hf12s => kernel_rfl
        case hr12s => kernel_rfl
        case hQ12s => exact fun _ _ _ h => h
        case hy12s =>
          refine Or.inl ⟨rfl, ?_⟩
          intro W hSw
          obtain ⟨y1, y2⟩ := hSw
          go_simp
          try with_reducible rfl
        case hS12s => assumption
        try simp only [Act.put, List.setIfInBounds_toArray, List.set_cons_zero, List.set_cons_succ]
        refine wpAnyH_done (by kernel_rfl) ?_ _
        try go_wp2_with fail
        go_meet
        exact ⟨rfl, Lib.hid hc2⟩
      · have t8 : ((er1 : Int) != 8) = false := by rw [bne_eq_false_iff_eq]; omega
        clear h8
        refine wpAnyH_take (i := 8) (oi := ?oi8t) (v := ?v8t) ?hi8t ?hs8t ?hf8t ?hr8t ?hQ8t ?hy8t ?hS8t ?h8t
        case hi8t => exact (by simp only [List.getElem?_toArray, List.getElem?_cons_succ, List.getElem?_cons_zero]; rfl)
        case hs8t => kernel_rfl
        case hf8t => kernel_rfl
        case hr8t => kernel_rfl
        case hQ8t => exact fun _ _ _ h => h
        case hy8t =>
          refine Or.inl ⟨rfl, ?_⟩
          intro W hSw
          obtain ⟨y1, y2⟩ := hSw
          go_simp
          try with_reducible rfl
        case hS8t => assumption
        try simp only [Act.put, List.setIfInBounds_toArray, List.set_cons_zero, List.set_cons_succ]
        refine wpAnyH_take (i := 9) (oi := ?oi9t) (v := ?v9t) ?hi9t ?hs9t ?hf9t ?hr9t ?hQ9t ?hy9t ?hS9t ?h9t
        case hi9t => exact (by simp only [List.getElem?_toArray, List.getElem?_cons_succ, List.getElem?_cons_zero]; rfl)
        case hs9t => kernel_rfl
        case hf9t => kernel_rfl
        case hr9t => kernel_rfl
        case hQ9t => exact fun _ _ _ h => h
        case hy9t =>
          refine Or.inl ⟨rfl, ?_⟩
          intro W hSw
          obtain ⟨y1, y2⟩ := hSw
          go_simp
          try with_reducible rfl
        case hS9t => assumption
        try simp only [Act.put, List.setIfInBounds_toArray, List.set_cons_zero, List.set_cons_succ]
        refine wpAnyH_take (i := 10) (oi := ?oi10t) (v := ?v10t) ?hi10t ?hs10t ?hf10t ?hr10t ?hQ10t ?hy10t ?hS10t ?h10t
        case hi10t => exact (by simp only [List.getElem?_toArray, List.getElem?_cons_succ, List.getElem?_cons_zero]; rfl)
        case hs10t => kernel_rfl
        case hf10t => kernel_rfl
        case hr10t => kernel_rfl
        case hQ10t => exact fun _ _ _ h => h
        case hy10t =>
          refine Or.inl ⟨rfl, ?_⟩
          intro W hSw
          obtain ⟨y1, y2⟩ := hSw
          go_simp
          try with_reducible rfl
        case hS10t => assumption
        try simp only [Act.put, List.setIfInBounds_toArray, List.set_cons_zero, List.set_cons_succ]
        refine wpAnyH_take (i := 11) (oi := ?oi11t) (v := ?v11t) ?hi11t ?hs11t ?hf11t ?hr11t ?hQ11t ?hy11t ?hS11t ?h11t
        case hi11t => exact (by simp only [List.getElem?_toArray, List.getElem?_cons_succ, List.getElem?_cons_zero]; rfl)
        case hs11t => kernel_rfl
        case hf11t => kernel_rfl
        case hr11t => kernel_rfl
        case hQ11t => exact fun _ _ _ h => h
        case hy11t =>
          refine Or.inl ⟨rfl, ?_⟩
          intro W hSw
          obtain ⟨y1, y2⟩ := hSw
          go_simp
          try with_reducible rfl
        case hS11t => assumption
        try simp only [Act.put, List.setIfInBounds_toArray, List.set_cons_zero, List.set_cons_succ]
        refine wpAnyH_take (i := 12) (oi := ?oi12t) (v := ?v12t) ?hi12t ?hs12t ?hf12t ?hr12t ?hQ12t ?hy12t ?hS12t ?h12t
        case hi12t => exact (by simp only [List.getElem?_toArray, List.getElem?_cons_succ, List.getElem?_cons_zero]; rfl)
        case hs12t => kernel_rfl
        case hf12t => kernel_rfl
        case hr12t => kernel_rfl
        case hQ12t => exact fun _ _ _ h => h
        case hy12t =>
          refine Or.inl ⟨rfl, ?_⟩
          intro W hSw
          obtain ⟨y1, y2⟩ := hSw
          go_simp
          try with_reducible rfl
        case hS12t => assumption
        try simp only [Act.put, List.setIfInBounds_toArray, List.set_cons_zero, List.set_cons_succ]
        refine wpAnyH_done (by kernel_rfl) ?_ _
        try go_wp2_with fail
        go_meet
        exact ⟨rfl, Lib.hid hc2⟩
    case rest =>
      rename World => w6
      obtain ⟨rfl, HB6'⟩ := hcut
      have HB6 := Lib.hid (HB5.out.trans (HB6'.out.mono HB5.out.size))
      have HBK := Lib.hid HB6'.out
      clear HB6'
      obtain ⟨c7, cs7, lo7, hi7, hcv, hc7, hlo7, hrow7, hcs7, hb67⟩ := conv_row w6 q 53 HQ53.out
      obtain ⟨G, hG⟩ : ∃ g, g = w6.heap.size := ⟨_, rfl⟩
      obtain ⟨w7, hw7⟩ : ∃ w7, w7 = Lib.bytesWorld w6 5 q := ⟨_, rfl⟩
      rw [← hG, ← hw7] at hcv
      rw [← hG, ← hw7] at hrow7
      rw [← hw7] at hb67
      have HB7 := Lib.hid (HB6.out.trans (hb67.mono HB6.out.size))
      have HGB : Hid (w0.heap.size ≤ G) := by rw [hG]; exact HB6.out.size
      have HK7 : Hid (∀ W, Below w5.heap.size w5 W → KeyAt W u7 (some b0)) := fun W hW => (HK3.out W (HX5.out.trans (hW.mono HX5.out.size))).1
      have HB57 : Hid (Below w5.heap.size w5 w7) := HBK.out.trans (hb67.mono HBK.out.size)
      obtain ⟨q1, q2, q3, q4, q5, q6, q7⟩ := HC0.out w7 HB7.out
      have fG : w7.frozen? ⟨G, at', none⟩ = false := frozen_far hrow7 (by omega)
      have cG : w7.cell? ⟨G, at', none⟩ = some (.int .u8 (zn : Int)) := (cell_of_row w7 G at' cs7 5 _ hrow7).trans (hcs7 at' _ (by rw [HQL.out]; exact HZC.out))
      obtain ⟨w8, hw8⟩ : ∃ w8, w8 = (w7.setCell ⟨G, at', none⟩ (.int .u8 (Yn : Int))).drew := ⟨_, rfl⟩
      have hrow8 : w8.heap[G]? = some (.cells (cs7.setIfInBounds at' (.int .u8 (Yn : Int))) 5 (lo7, hi7)) := by
        have h : (w7.setCell ⟨G, at', none⟩ (.int .u8 (Yn : Int))).heap[G]? = some (.cells (cs7.setIfInBounds at' (.int .u8 (Yn : Int))) 5 (lo7, hi7)) := by simp [World.setCell, Array.getElem?_modify, hrow7]
        rw [hw8]
        exact h
      have hcs8 : ∀ (j : Nat) (u : Value), (bv l2)[j]? = some u → (cs7.setIfInBounds at' (.int .u8 (Yn : Int)))[j]? = some u := fun j u hu => by
        have h1 := HCS.out j u hu
        have hj : j < 53 := by
          have := (List.getElem?_eq_some_iff.1 hu).1
          have := HLL2.out
          simp [bv] at *
          omega
        by_cases hja : j = at'
        · subst hja
          rw [if_pos rfl] at h1
          have hsz : j < cs7.size := (Array.getElem?_eq_some_iff.1 (hcs7 j _ (by rw [HQL.out]; exact HZC.out))).1
          rw [Array.getElem?_setIfInBounds, if_pos rfl, if_pos hsz]
          exact h1
        · rw [if_neg hja] at h1
          rw [Array.getElem?_setIfInBounds, if_neg (fun e => hja e.symm)]
          exact hcs7 j u (by rw [HQL.out]; exact h1)
      have HRD : Hid (∀ W, Below w8.heap.size w8 W → Rd W W.heap.size (some ⟨G, 0, none⟩) (bv l2)) := fun W hW _ => ⟨G, 0, rfl, Nat.lt_of_lt_of_le (lt_of_block hrow8) hW.size, fun j u hu => by
        rw [Nat.zero_add]
        exact (hW.cell (p := ⟨G, j, none⟩) (lt_of_block hrow8)).trans ((cell_of_row w8 G j _ 5 _ hrow8).trans (hcs8 j u hu))⟩
      have HB8 : Hid (Below w0.heap.size w0 w8) := by rw [hw8]; exact (HB7.out.setCell HGB.out _).drew
      have HBE : Hid (Below w5.heap.size w5 w8) := by
        have h6 : w5.heap.size ≤ G := by rw [hG]; exact HBK.out.size
        rw [hw8]; exact (HB57.out.setCell h6 _).drew
      have H7 := Lib.hid hw7
      have H8 := Lib.hid hw8
      clear hw7 hw8 hrow7 hrow8 hcs7 hcs8 hb67 hG hlo7
      have hI1 : (at' : Int) < 53 := by omega
      go_upto_region 9 with (fail)
      go_upto_region 11 with (fail)
      rw [eat]
      go_cut [13] (fun u wx => u = .slice (some ⟨G, 0, none⟩) 53 c7 ∧ w8 = wx)
      case first =>
        go_region_law fail
        all_goals
          try go_wp2_with fail
          go_meet
          exact ⟨rfl, H8.out⟩
      case rest =>
        obtain ⟨rfl, rfl⟩ := hcut
        clear q1 q2 q3 q4 q5 q6 q7 fG cG hI1 hcv
        have hcv := conv_rd (w := w8) (bs_rd (HRD.out w8 (Below.refl _ _))) c7
        rw [HLL2.out, ← HQ2.out] at hcv
        go_wp2_with fail
        refine (HO2.out u7 w8 (HK7.out w8 HBE.out) (HSW.out w8 HB8.out).1).mono ?_
        rintro e w9 ⟨rfl, hb9⟩
        obtain ⟨wa, hwa⟩ : ∃ wa, wa = w9.alloc (.cells #[.int .u32 (p2 : Int), .int .i64 e2, .int .u64 (n2 : Int)] 35) := ⟨_, rfl⟩
        have hb9a : Below w9.heap.size w9 wa := by rw [hwa]; exact (Below.refl _ _).alloc (Nat.le_refl _) _
        have HX9 := Lib.hid (hb9.trans (hb9a.mono hb9.size))
        have HBa := Lib.hid (HB8.out.trans (HX9.out.mono HB8.out.size))
        have HQ9 : Hid (wa.heap[w9.heap.size]? = some (.cells #[.int .u32 (p2 : Int), .int .i64 e2, .int .u64 (n2 : Int)] 35 (0, 0))) := by rw [hwa]; exact heap_alloc_new w9 _
        have Ha := Lib.hid hwa
        clear hwa hb9a hb9 hcv
        have hcv := conv_rd (w := wa) (bs_rd (HRD.out wa HX9.out)) c7
        rw [HLL2.out, ← HQ2.out] at hcv
        obtain ⟨q1, q2, q3, q4, q5, q6, q7⟩ := HC0.out wa HBa.out
        go_upto_region 13 with (fail)
        rw [← Ha.out]
        go_wp2_with fail
        refine (HR2.out wa HBa.out).mono ?_
        rintro e wb ⟨rfl, hbb⟩
        obtain ⟨wd, hwd⟩ : ∃ wd, wd = wb.alloc (.cells #[.int .u32 (p2 : Int), .int .i64 e2, .int .u64 (n2 : Int)] 26) := ⟨_, rfl⟩
        have hbbd : Below wb.heap.size wb wd := by rw [hwd]; exact (Below.refl _ _).alloc (Nat.le_refl _) _
        have HXb := Lib.hid (hbb.trans (hbbd.mono hbb.size))
        have HBd := Lib.hid (HBa.out.trans (HXb.out.mono HBa.out.size))
        have HQb : Hid (wd.heap[wb.heap.size]? = some (.cells #[.int .u32 (p2 : Int), .int .i64 e2, .int .u64 (n2 : Int)] 26 (0, 0))) := by rw [hwd]; exact heap_alloc_new wb _
        have HQa := Lib.hid ((HXb.out.block w9.heap.size (lt_of_block HQ9.out)).trans HQ9.out)
        have Hd := Lib.hid hwd
        obtain ⟨ga, hga⟩ : ∃ g, g = w9.heap.size := ⟨_, rfl⟩
        obtain ⟨gb, hgb⟩ : ∃ g, g = wb.heap.size := ⟨_, rfl⟩
        clear hwd hbbd hbb hcv q1 q2 q3 q4 q5 q6 q7
        obtain ⟨q1, q2, q3, q4, q5, q6, q7⟩ := HC0.out wd HBd.out
        go_upto_region 14 with (fail)
        rw [← Hd.out]
        rw [← hga] at HQa ⊢
        rw [← hgb] at HQb ⊢
        have HCL : Hid (∀ W, Below wd.heap.size wd W → (W.cell? ⟨ga, 0, none⟩ = some (.int .u32 (p2 : Int)) ∧ W.cell? ⟨ga, 1, none⟩ = some (.int .i64 e2) ∧ W.cell? ⟨ga, 2, none⟩ = some (.int .u64 (n2 : Int))) ∧
            (W.cell? ⟨gb, 0, none⟩ = some (.int .u32 (p2 : Int)) ∧ W.cell? ⟨gb, 1, none⟩ = some (.int .i64 e2) ∧ W.cell? ⟨gb, 2, none⟩ = some (.int .u64 (n2 : Int))) ∧
            (W.cell? ⟨B + 1, 0, none⟩ = some (.int .u32 (a : Int)) ∧ W.cell? ⟨B + 1, 1, none⟩ = some (.int .i64 b) ∧ W.cell? ⟨B + 1, 2, none⟩ = some (.int .u64 (d : Int)))) := fun W hW => by
          have e1 := (hW.block ga (lt_of_block HQa.out)).trans HQa.out
          have e2 := (hW.block gb (lt_of_block HQb.out)).trans HQb.out
          obtain ⟨_, _, e3, e4, e5, _, _⟩ := HC0.out W (HBd.out.trans (hW.mono HBd.out.size))
          exact ⟨⟨cell_of_row W _ 0 _ _ _ e1, cell_of_row W _ 1 _ _ _ e1, cell_of_row W _ 2 _ _ _ e1⟩, ⟨cell_of_row W _ 0 _ _ _ e2, cell_of_row W _ 1 _ _ _ e2, cell_of_row W _ 2 _ _ _ e2⟩, e3, e4, e5⟩
        have HDD : Hid (Below wd.heap.size wd wd.drew) := (Below.refl _ _).drew
        have HSd : Hid (∀ W, Below wd.heap.size wd W → Sh W ∧ Below w.heap.size w W) := fun W hW => HSW.out W (HBd.out.trans (hW.mono HBd.out.size))
        clear hga hgb
        rcases HEND.out with ⟨h1, rfl, rfl, rfl, rfl⟩ | ⟨h1, h2⟩
        · go_upto_region 15 with (fail)
          go_region_held3 (fun W => (W.cell? ⟨ga, 0, none⟩ = some (.int .u32 (p2 : Int)) ∧ W.cell? ⟨ga, 1, none⟩ = some (.int .i64 e2) ∧ W.cell? ⟨ga, 2, none⟩ = some (.int .u64 (n2 : Int))) ∧ (W.cell? ⟨gb, 0, none⟩ = some (.int .u32 (p2 : Int)) ∧ W.cell? ⟨gb, 1, none⟩ = some (.int .i64 e2) ∧ W.cell? ⟨gb, 2, none⟩ = some (.int .u64 (n2 : Int))) ∧ (W.cell? ⟨B + 1, 0, none⟩ = some (.int .u32 (p2 : Int)) ∧ W.cell? ⟨B + 1, 1, none⟩ = some (.int .i64 e2) ∧ W.cell? ⟨B + 1, 2, none⟩ = some (.int .u64 (n2 : Int))))
            (first | exact HCL.out _ hc2 | exact HCL.out _ hc1 | exact HCL.out _ HDD.out | go_keep)
            (first
              | (go_at_call 11; refine (ticket_any _ _ _ wd.drew).mono ?_; rintro x wA ⟨rfl, hbA⟩; have hc1 := HDD.out.trans hbA)
              | (go_at_call 17; refine (pawake wA (HSd.out wA hc1).1).mono ?_; rintro x wB ⟨rfl, hbB⟩; have hc2 := hc1.trans (hbB.mono hc1.size))
              | fail)
          go_wp2
          go_ret
          exact ⟨rfl, (HSd.out _ hc2).2⟩
        · have e22 : ((er2 : Int) == (er2 : Int)) = true := beq_self_eq_true _
          go_upto_region 16 with (fail)
          have HS0 : Hid ((fun W : World => (W.cell? ⟨ga, 0, none⟩ = some (.int .u32 (p2 : Int)) ∧ W.cell? ⟨ga, 1, none⟩ = some (.int .i64 e2) ∧ W.cell? ⟨ga, 2, none⟩ = some (.int .u64 (n2 : Int))) ∧ (W.cell? ⟨gb, 0, none⟩ = some (.int .u32 (p2 : Int)) ∧ W.cell? ⟨gb, 1, none⟩ = some (.int .i64 e2) ∧ W.cell? ⟨gb, 2, none⟩ = some (.int .u64 (n2 : Int))) ∧ (W.cell? ⟨B + 1, 0, none⟩ = some (.int .u32 (a : Int)) ∧ W.cell? ⟨B + 1, 1, none⟩ = some (.int .i64 b) ∧ W.cell? ⟨B + 1, 2, none⟩ = some (.int .u64 (d : Int)))) wd.drew) := HCL.out _ HDD.out
          refine wp_region_held_drew (S := fun W : World => (W.cell? ⟨ga, 0, none⟩ = some (.int .u32 (p2 : Int)) ∧ W.cell? ⟨ga, 1, none⟩ = some (.int .i64 e2) ∧ W.cell? ⟨ga, 2, none⟩ = some (.int .u64 (n2 : Int))) ∧ (W.cell? ⟨gb, 0, none⟩ = some (.int .u32 (p2 : Int)) ∧ W.cell? ⟨gb, 1, none⟩ = some (.int .i64 e2) ∧ W.cell? ⟨gb, 2, none⟩ = some (.int .u64 (n2 : Int))) ∧ (W.cell? ⟨B + 1, 0, none⟩ = some (.int .u32 (a : Int)) ∧ W.cell? ⟨B + 1, 1, none⟩ = some (.int .i64 b) ∧ W.cell? ⟨B + 1, 2, none⟩ = some (.int .u64 (d : Int)))) (by kernel_rfl) HS0.out (fun hHeld => ?_)
          obtain ⟨W0, hW0⟩ : ∃ W0, W0 = wd.drew := ⟨_, rfl⟩
          have HD9 : Hid (Below wd.heap.size wd W0) := by rw [hW0]; exact HDD.out
          rw [← hW0] at hHeld ⊢
          clear hW0 q1 q2 q3 q4 q5 q6 q7
          refine wpAnyH_take (i := 0) (oi := ?oi0u) (v := ?v0u) ?hi0u ?hs0u ?hf0u ?hr0u ?hQ0u ?hy0u ?hS0u ?h0u
          case hi0u => exact (by simp only [List.getElem?_toArray, List.getElem?_cons_zero]; rfl)
          case hs0u => kernel_rfl
          case hf0u => kernel_rfl
          case hr0u => kernel_rfl
          case hQ0u => exact fun _ _ _ h => h
          case hy0u =>
            refine Or.inl ⟨rfl, ?_⟩
            intro W hSw
            obtain ⟨⟨y1, y2, y3⟩, ⟨y4, y5, y6⟩, y7, y8, y9⟩ := hSw
            go_simp
            try with_reducible rfl
          case hS0u => assumption
          try simp only [Act.put, List.setIfInBounds_toArray, List.set_cons_zero, List.set_cons_succ]
          refine wpAnyH_take (i := 1) (oi := ?oi1u) (v := ?v1u) ?hi1u ?hs1u ?hf1u ?hr1u ?hQ1u ?hy1u ?hS1u ?h1u
          case hi1u => exact (by simp only [List.getElem?_toArray, List.getElem?_cons_succ, List.getElem?_cons_zero]; rfl)
          case hs1u => kernel_rfl
          case hf1u => kernel_rfl
          case hr1u => kernel_rfl
          case hQ1u => exact fun _ _ _ h => h
          case hy1u =>
            refine Or.inl ⟨rfl, ?_⟩
            intro W hSw
            obtain ⟨⟨y1, y2, y3⟩, ⟨y4, y5, y6⟩, y7, y8, y9⟩ := hSw
            go_simp
            try with_reducible rfl
          case hS1u => assumption
          try simp only [Act.put, List.setIfInBounds_toArray, List.set_cons_zero, List.set_cons_succ]
          refine wpAnyH_take (i := 2) (oi := ?oi2u) (v := ?v2u) ?hi2u ?hs2u ?hf2u ?hr2u ?hQ2u ?hy2u ?hS2u ?h2u
          case hi2u => exact (by simp only [List.getElem?_toArray, List.getElem?_cons_succ, List.getElem?_cons_zero]; rfl)
          case hs2u => kernel_rfl
          case hf2u => kernel_rfl
          case hr2u => kernel_rfl
          case hQ2u => exact fun _ _ _ h => h
          case hy2u =>
            refine Or.inl ⟨rfl, ?_⟩
            intro W hSw
            obtain ⟨⟨y1, y2, y3⟩, ⟨y4, y5, y6⟩, y7, y8, y9⟩ := hSw
            go_simp
            try with_reducible rfl
          case hS2u => assumption
          try simp only [Act.put, List.setIfInBounds_toArray, List.set_cons_zero, List.set_cons_succ]
          refine wpAnyH_take (i := 3) (oi := ?oi3u) (v := ?v3u) ?hi3u ?hs3u ?hf3u ?hr3u ?hQ3u ?hy3u ?hS3u ?h3u
          case hi3u => exact (by simp only [List.getElem?_toArray, List.getElem?_cons_succ, List.getElem?_cons_zero]; rfl)
          case hs3u => kernel_rfl
          case hf3u => kernel_rfl
          case hr3u => kernel_rfl
          case hQ3u => exact fun _ _ _ h => h
          case hy3u =>
            refine Or.inl ⟨rfl, ?_⟩
            intro W hSw
            obtain ⟨⟨y1, y2, y3⟩, ⟨y4, y5, y6⟩, y7, y8, y9⟩ := hSw
            go_simp
            try with_reducible rfl
          case hS3u => assumption
          try simp only [Act.put, List.setIfInBounds_toArray, List.set_cons_zero, List.set_cons_succ]
          refine wpAnyH_take (i := 4) (oi := ?oi4u) (v := ?v4u) ?hi4u ?hs4u ?hf4u ?hr4u ?hQ4u ?hy4u ?hS4u ?h4u
          case hi4u => exact (by simp only [List.getElem?_toArray, List.getElem?_cons_succ, List.getElem?_cons_zero]; rfl)
          case hs4u => kernel_rfl
          case hf4u => kernel_rfl
          case hr4u => kernel_rfl
          case hQ4u => exact fun _ _ _ h => h
          case hy4u =>
            refine Or.inl ⟨rfl, ?_⟩
            intro W hSw
            obtain ⟨⟨y1, y2, y3⟩, ⟨y4, y5, y6⟩, y7, y8, y9⟩ := hSw
            go_simp
            try with_reducible rfl
          case hS4u => assumption
          try simp only [Act.put, List.setIfInBounds_toArray, List.set_cons_zero, List.set_cons_succ]
          refine wpAnyH_take (i := 5) (oi := ?oi5u) (v := ?v5u) ?hi5u ?hs5u ?hf5u ?hr5u ?hQ5u ?hy5u ?hS5u ?h5u
          case hi5u => exact (by simp only [List.getElem?_toArray, List.getElem?_cons_succ, List.getElem?_cons_zero]; rfl)
          case hs5u => kernel_rfl
          case hf5u => kernel_rfl
          case hr5u => kernel_rfl
          case hQ5u => exact fun _ _ _ h => h
          case hy5u =>
            refine Or.inl ⟨rfl, ?_⟩
            intro W hSw
            obtain ⟨⟨y1, y2, y3⟩, ⟨y4, y5, y6⟩, y7, y8, y9⟩ := hSw
            go_simp
            try with_reducible rfl
          case hS5u => assumption
          try simp only [Act.put, List.setIfInBounds_toArray, List.set_cons_zero, List.set_cons_succ]
          refine wpAnyH_ready (rs := [6]) (by kernel_rfl) (by simp) ?_
          refine AllReadyH.cons (o := _) rfl (fun K hK => ?_) AllReadyH.nil
          go_simp
          refine (ticket_any p2 e2 n2 W0).mono ?_
          rintro x wA ⟨rfl, hbA⟩
          have hc1 := HD9.out.trans (hbA.mono HD9.out.size)
          refine hK.out _ _ (HCL.out _ hc1) (fun hHeld => ?_)
          clear hK K
          try simp only [Act.put, List.setIfInBounds_toArray, List.set_cons_zero, List.set_cons_succ]
          refine wpAnyH_take (i := 7) (oi := ?oi7u) (v := ?v7u) ?hi7u ?hs7u ?hf7u ?hr7u ?hQ7u ?hy7u ?hS7u ?h7u
          case hi7u => exact (by simp only [List.getElem?_toArray, List.getElem?_cons_succ, List.getElem?_cons_zero]; rfl)
          case hs7u => kernel_rfl
          case hf7u => kernel_rfl
          case hr7u => kernel_rfl
          case hQ7u => exact fun _ _ _ h => h
          case hy7u =>
            refine Or.inl ⟨rfl, ?_⟩
            intro W hSw
            obtain ⟨⟨y1, y2, y3⟩, ⟨y4, y5, y6⟩, y7, y8, y9⟩ := hSw
            go_simp
            try with_reducible rfl
          case hS7u => assumption
          try simp only [Act.put, List.setIfInBounds_toArray, List.set_cons_zero, List.set_cons_succ]
          refine wpAnyH_take (i := 8) (oi := ?oi8u) (v := ?v8u) ?hi8u ?hs8u ?hf8u ?hr8u ?hQ8u ?hy8u ?hS8u ?h8u
          case hi8u => exact (by simp only [List.getElem?_toArray, List.getElem?_cons_succ, List.getElem?_cons_zero]; rfl)
          case hs8u => kernel_rfl
          case hf8u => kernel_rfl
          case hr8u => kernel_rfl
          case hQ8u => exact fun _ _ _ h => h
          case hy8u =>
            refine Or.inl ⟨rfl, ?_⟩
            intro W hSw
            obtain ⟨⟨y1, y2, y3⟩, ⟨y4, y5, y6⟩, y7, y8, y9⟩ := hSw
            go_simp
            try with_reducible rfl
          case hS8u => assumption
          try simp only [Act.put, List.setIfInBounds_toArray, List.set_cons_zero, List.set_cons_succ]
          refine wpAnyH_take (i := 9) (oi := ?oi9u) (v := ?v9u) ?hi9u ?hs9u ?hf9u ?hr9u ?hQ9u ?hy9u ?hS9u ?h9u
          case hi9u => exact (by simp only [List.getElem?_toArray, List.getElem?_cons_succ, List.getElem?_cons_zero]; rfl)
          case hs9u => kernel_rfl
          case hf9u => kernel_rfl
          case hr9u => kernel_rfl
          case hQ9u => exact fun _ _ _ h => h
          case hy9u =>
            refine Or.inl ⟨rfl, ?_⟩
            intro W hSw
            obtain ⟨⟨y1, y2, y3⟩, ⟨y4, y5, y6⟩, y7, y8, y9⟩ := hSw
            go_simp
            try with_reducible rfl
          case hS9u => assumption
          try simp only [Act.put, List.setIfInBounds_toArray, List.set_cons_zero, List.set_cons_succ]
          rcases h2 with h2 | ⟨h2, h3⟩
          · refine wpAnyH_take (i := 10) (oi := ?oi10v) (v := ?v10v) ?hi10v ?hs10v ?hf10v ?hr10v ?hQ10v ?hy10v ?hS10v ?h10v
            case hi10v => exact (by simp only [List.getElem?_toArray, List.getElem?_cons_succ, List.getElem?_cons_zero]; rfl)
            case hs10v => kernel_rfl
            case hf10v => kernel_rfl
            case hr10v => kernel_rfl
            case hQ10v => exact fun _ _ _ h => h
            case hy10v =>
              refine Or.inl ⟨rfl, ?_⟩
              intro W hSw
              obtain ⟨⟨y1, y2, y3⟩, ⟨y4, y5, y6⟩, y7, y8, y9⟩ := hSw
              go_simp
              try with_reducible rfl
            case hS10v => assumption
            try simp only [Act.put, List.setIfInBounds_toArray, List.set_cons_zero, List.set_cons_succ]
            refine wpAnyH_take (i := 11) (oi := ?oi11v) (v := ?v11v) ?hi11v ?hs11v ?hf11v ?hr11v ?hQ11v ?hy11v ?hS11v ?h11v
            case hi11v => exact (by simp only [List.getElem?_toArray, List.getElem?_cons_succ, List.getElem?_cons_zero]; rfl)
            case hs11v => kernel_rfl
            case hf11v => kernel_rfl
            case hr11v => kernel_rfl
            case hQ11v => exact fun _ _ _ h => h
            case hy11v =>
              refine Or.inl ⟨rfl, ?_⟩
              intro W hSw
              obtain ⟨⟨y1, y2, y3⟩, ⟨y4, y5, y6⟩, y7, y8, y9⟩ := hSw
              go_simp
              try with_reducible rfl
            case hS11v => assumption
            try simp only [Act.put, List.setIfInBounds_toArray, List.set_cons_zero, List.set_cons_succ]
            refine wpAnyH_take (i := 12) (oi := ?oi12v) (v := ?v12v) ?hi12v ?hs12v ?hf12v ?hr12v ?hQ12v ?hy12v ?hS12v ?h12v
            case hi12v => exact (by simp only [List.getElem?_toArray, List.getElem?_cons_succ, List.getElem?_cons_zero]; rfl)
            case hs12v => kernel_rfl
            case hf12v => kernel_rfl
            case hr12v => kernel_rfl
            case hQ12v => exact fun _ _ _ h => h
            case hy12v =>
              refine Or.inl ⟨rfl, ?_⟩
              intro W hSw
              obtain ⟨⟨y1, y2, y3⟩, ⟨y4, y5, y6⟩, y7, y8, y9⟩ := hSw
              go_simp
              try with_reducible rfl
            case hS12v => assumption
            try simp only [Act.put, List.setIfInBounds_toArray, List.set_cons_zero, List.set_cons_succ]
            refine wpAnyH_take (i := 13) (oi := ?oi13v) (v := undef) ?hi13v ?hs13v ?hf13v ?hr13v ?hQ13v ?hy13v ?hS13v ?h13v
            case hi13v => exact (by simp only [List.getElem?_toArray, List.getElem?_cons_succ, List.getElem?_cons_zero]; rfl)
            case hs13v => kernel_rfl
            case hf13v => kernel_rfl
            case hr13v => kernel_rfl
            case hQ13v => exact fun _ _ _ h => h
            case hy13v =>
              exact Or.inr ⟨rfl, rfl⟩
            case hS13v => assumption
            try simp only [Act.put, List.setIfInBounds_toArray, List.set_cons_zero, List.set_cons_succ]
            refine wpAnyH_take (i := 14) (oi := ?oi14v) (v := undef) ?hi14v ?hs14v ?hf14v ?hr14v ?hQ14v ?hy14v ?hS14v ?h14v
            case hi14v => exact (by simp only [List.getElem?_toArray, List.getElem?_cons_succ, List.getElem?_cons_zero]; rfl)
            case hs14v => kernel_rfl
            case hf14v => kernel_rfl
            case hr14v => kernel_rfl
            case hQ14v => exact fun _ _ _ h => h
            case hy14v =>
              exact Or.inr ⟨rfl, rfl⟩
            case hS14v => assumption
            try simp only [Act.put, List.setIfInBounds_toArray, List.set_cons_zero, List.set_cons_succ]
            refine wpAnyH_take (i := 15) (oi := ?oi15v) (v := ?v15v) ?hi15v ?hs15v ?hf15v ?hr15v ?hQ15v ?hy15v ?hS15v ?h15v
            case hi15v => exact (by simp only [List.getElem?_toArray, List.getElem?_cons_succ, List.getElem?_cons_zero]; rfl)
            case hs15v => kernel_rfl
            case hf15v => kernel_rfl
            case hr15v => kernel_rfl
            case hQ15v => exact fun _ _ _ h => h
            case hy15v =>
              refine Or.inl ⟨rfl, ?_⟩
              intro W hSw
              obtain ⟨⟨y1, y2, y3⟩, ⟨y4, y5, y6⟩, y7, y8, y9⟩ := hSw
              go_simp
              try with_reducible rfl
            case hS15v => assumption
            try simp only [Act.put, List.setIfInBounds_toArray, List.set_cons_zero, List.set_cons_succ]
            refine wpAnyH_take (i := 16) (oi := ?oi16v) (v := ?v16v) ?hi16v ?hs16v ?hf16v ?hr16v ?hQ16v ?hy16v ?hS16v ?h16v
            case hi16v => exact (by simp only [List.getElem?_toArray, List.getElem?_cons_succ, List.getElem?_cons_zero]; rfl)
            case hs16v => kernel_rfl
            case hf16v => kernel_rfl
            case hr16v => kernel_rfl
            case hQ16v => exact fun _ _ _ h => h
            case hy16v =>
              refine Or.inl ⟨rfl, ?_⟩
              intro W hSw
              obtain ⟨⟨y1, y2, y3⟩, ⟨y4, y5, y6⟩, y7, y8, y9⟩ := hSw
              go_simp
              try with_reducible rfl
            case hS16v => assumption
            try simp only [Act.put, List.setIfInBounds_toArray, List.set_cons_zero, List.set_cons_succ]
            refine wpAnyH_take (i := 17) (oi := ?oi17v) (v := ?v17v) ?hi17v ?hs17v ?hf17v ?hr17v ?hQ17v ?hy17v ?hS17v ?h17v
            case hi17v => exact (by simp only [List.getElem?_toArray, List.getElem?_cons_succ, List.getElem?_cons_zero]; rfl)
            case hs17v => kernel_rfl
            case hf17v => kernel_rfl
            case hr17v => kernel_rfl
            case hQ17v => exact fun _ _ _ h => h
            case hy17v =>
              refine Or.inl ⟨rfl, ?_⟩
              intro W hSw
              obtain ⟨⟨y1, y2, y3⟩, ⟨y4, y5, y6⟩, y7, y8, y9⟩ := hSw
              go_simp
              try with_reducible rfl
            case hS17v => assumption
            try simp only [Act.put, List.setIfInBounds_toArray, List.set_cons_zero, List.set_cons_succ]
            refine wpAnyH_ready (rs := [18]) (by kernel_rfl) (by simp) ?_
            refine AllReadyH.cons (o := _) rfl (fun K hK => ?_) AllReadyH.nil
            go_simp
            refine (pawake wA (HSd.out wA hc1).1).mono ?_
            rintro x wB ⟨rfl, hbB⟩
            have hc2 := hc1.trans (hbB.mono hc1.size)
            refine hK.out _ _ (HCL.out _ hc2) (fun hHeld => ?_)
            clear hK K
            try simp only [Act.put, List.setIfInBounds_toArray, List.set_cons_zero, List.set_cons_succ]
            refine wpAnyH_take (i := 19) (oi := ?oi19v) (v := ?v19v) ?hi19v ?hs19v ?hf19v ?hr19v ?hQ19v ?hy19v ?hS19v ?h19v
            case hi19v => exact (by simp only [List.getElem?_toArray, List.getElem?_cons_succ, List.getElem?_cons_zero]; rfl)
            case hs19v => kernel_rfl
            case hf19v => kernel_rfl
            case hr19v => kernel_rfl
            case hQ19v => exact fun _ _ _ h => h
            case hy19v =>
              refine Or.inl ⟨rfl, ?_⟩
              intro W hSw
              obtain ⟨⟨y1, y2, y3⟩, ⟨y4, y5, y6⟩, y7, y8, y9⟩ := hSw
              go_simp
              try with_reducible rfl
            case hS19v => assumption
            try simp only [Act.put, List.setIfInBounds_toArray, List.set_cons_zero, List.set_cons_succ]
            refine wpAnyH_take (i := 20) (oi := ?oi20v) (v := ?v20v) ?hi20v ?hs20v ?hf20v ?hr20v ?hQ20v ?hy20v ?hS20v ?h20v
            case hi20v => exact (by simp only [List.getElem?_toArray, List.getElem?_cons_succ, List.getElem?_cons_zero]; rfl)
            case hs20v => kernel_rfl
            case hf20v => kernel_rfl
            case hr20v => kernel_rfl
            case hQ20v => exact fun _ _ _ h => h
            case hy20v =>
              refine Or.inl ⟨rfl, ?_⟩
              intro W hSw
              obtain ⟨⟨y1, y2, y3⟩, ⟨y4, y5, y6⟩, y7, y8, y9⟩ := hSw
              go_simp
              try with_reducible rfl
            case hS20v => assumption
            try simp only [Act.put, List.setIfInBounds_toArray, List.set_cons_zero, List.set_cons_succ]
            refine wpAnyH_done (by kernel_rfl) ?_ _
            go_wp2
            go_ret
            exact ⟨rfl, (HSd.out _ hc2).2⟩
          · have t7 : ((er2 : Int) == 7) = true := by rw [beq_iff_eq]; omega
            clear h3
            refine wpAnyH_take (i := 10) (oi := ?oi10x) (v := ?v10x) ?hi10x ?hs10x ?hf10x ?hr10x ?hQ10x ?hy10x ?hS10x ?h10x
            case hi10x => exact (by simp only [List.getElem?_toArray, List.getElem?_cons_succ, List.getElem?_cons_zero]; rfl)
            case hs10x => kernel_rfl
            case hf10x => kernel_rfl
            case hr10x => kernel_rfl
            case hQ10x => exact fun _ _ _ h => h
            case hy10x =>
              refine Or.inl ⟨rfl, ?_⟩
              intro W hSw
              obtain ⟨⟨y1, y2, y3⟩, ⟨y4, y5, y6⟩, y7, y8, y9⟩ := hSw
              go_simp
              try with_reducible rfl
            case hS10x => assumption
            try simp only [Act.put, List.setIfInBounds_toArray, List.set_cons_zero, List.set_cons_succ]
            refine wpAnyH_take (i := 11) (oi := ?oi11x) (v := ?v11x) ?hi11x ?hs11x ?hf11x ?hr11x ?hQ11x ?hy11x ?hS11x ?h11x
            case hi11x => exact (by simp only [List.getElem?_toArray, List.getElem?_cons_succ, List.getElem?_cons_zero]; rfl)
            case hs11x => kernel_rfl
            case hf11x => kernel_rfl
            case hr11x => kernel_rfl
            case hQ11x => exact fun _ _ _ h => h
            case hy11x =>
              refine Or.inl ⟨rfl, ?_⟩
              intro W hSw
              obtain ⟨⟨y1, y2, y3⟩, ⟨y4, y5, y6⟩, y7, y8, y9⟩ := hSw
              go_simp
              try with_reducible rfl
            case hS11x => assumption
            try simp only [Act.put, List.setIfInBounds_toArray, List.set_cons_zero, List.set_cons_succ]
            refine wpAnyH_take (i := 12) (oi := ?oi12x) (v := ?v12x) ?hi12x ?hs12x ?hf12x ?hr12x ?hQ12x ?hy12x ?hS12x ?h12x
            case hi12x => exact (by simp only [List.getElem?_toArray, List.getElem?_cons_succ, List.getElem?_cons_zero]; rfl)
            case hs12x => kernel_rfl
            case hf12x => kernel_rfl
            case hr12x => kernel_rfl
            case hQ12x => exact fun _ _ _ h => h
            case hy12x =>
              refine Or.inl ⟨rfl, ?_⟩
              intro W hSw
              obtain ⟨⟨y1, y2, y3⟩, ⟨y4, y5, y6⟩, y7, y8, y9⟩ := hSw
              go_simp
              try with_reducible rfl
            case hS12x => assumption
            try simp only [Act.put, List.setIfInBounds_toArray, List.set_cons_zero, List.set_cons_succ]
            refine wpAnyH_take (i := 13) (oi := ?oi13x) (v := ?v13x) ?hi13x ?hs13x ?hf13x ?hr13x ?hQ13x ?hy13x ?hS13x ?h13x
            case hi13x => exact (by simp only [List.getElem?_toArray, List.getElem?_cons_succ, List.getElem?_cons_zero]; rfl)
            case hs13x => kernel_rfl
            case hf13x => kernel_rfl
            case hr13x => kernel_rfl
            case hQ13x => exact fun _ _ _ h => h
            case hy13x =>
              refine Or.inl ⟨rfl, ?_⟩
              intro W hSw
              obtain ⟨⟨y1, y2, y3⟩, ⟨y4, y5, y6⟩, y7, y8, y9⟩ := hSw
              go_simp
              try with_reducible rfl
            case hS13x => assumption
            try simp only [Act.put, List.setIfInBounds_toArray, List.set_cons_zero, List.set_cons_succ]
            refine wpAnyH_take (i := 14) (oi := ?oi14x) (v := ?v14x) ?hi14x ?hs14x ?hf14x ?hr14x ?hQ14x ?hy14x ?hS14x ?h14x
            case hi14x => exact (by simp only [List.getElem?_toArray, List.getElem?_cons_succ, List.getElem?_cons_zero]; rfl)
            case hs14x => kernel_rfl
            case hf14x => kernel_rfl
            case hr14x => kernel_rfl
            case hQ14x => exact fun _ _ _ h => h
            case hy14x =>
              refine Or.inl ⟨rfl, ?_⟩
              intro W hSw
              obtain ⟨⟨y1, y2, y3⟩, ⟨y4, y5, y6⟩, y7, y8, y9⟩ := hSw
              go_simp
              try with_reducible rfl
            case hS14x => assumption
            try simp only [Act.put, List.setIfInBounds_toArray, List.set_cons_zero, List.set_cons_succ]
            refine wpAnyH_take (i := 15) (oi := ?oi15x) (v := ?v15x) ?hi15x ?hs15x ?hf15x ?hr15x ?hQ15x ?hy15x ?hS15x ?h15x
            case hi15x => exact (by simp only [List.getElem?_toArray, List.getElem?_cons_succ, List.getElem?_cons_zero]; rfl)
            case hs15x => kernel_rfl
            case hf15x => kernel_rfl
            case hr15x => kernel_rfl
            case hQ15x => exact fun _ _ _ h => h
            case hy15x =>
              refine Or.inl ⟨rfl, ?_⟩
              intro W hSw
              obtain ⟨⟨y1, y2, y3⟩, ⟨y4, y5, y6⟩, y7, y8, y9⟩ := hSw
              go_simp
              try with_reducible rfl
            case hS15x => assumption
            try simp only [Act.put, List.setIfInBounds_toArray, List.set_cons_zero, List.set_cons_succ]
            refine wpAnyH_take (i := 16) (oi := ?oi16x) (v := ?v16x) ?hi16x ?hs16x ?hf16x ?hr16x ?hQ16x ?hy16x ?hS16x ?h16x
            case hi16x => exact (by simp only [List.getElem?_toArray, List.getElem?_cons_succ, List.getElem?_cons_zero]; rfl)
            case hs16x => kernel_rfl
            case hf16x => kernel_rfl
            case hr16x => kernel_rfl
            case hQ16x => exact fun _ _ _ h => h
            case hy16x =>
              refine Or.inl ⟨rfl, ?_⟩
              intro W hSw
              obtain ⟨⟨y1, y2, y3⟩, ⟨y4, y5, y6⟩, y7, y8, y9⟩ := hSw
              go_simp
              try with_reducible rfl
            case hS16x => assumption
            try simp only [Act.put, List.setIfInBounds_toArray, List.set_cons_zero, List.set_cons_succ]
            refine wpAnyH_take (i := 17) (oi := ?oi17x) (v := ?v17x) ?hi17x ?hs17x ?hf17x ?hr17x ?hQ17x ?hy17x ?hS17x ?h17x
            case hi17x => exact (by simp only [List.getElem?_toArray, List.getElem?_cons_succ, List.getElem?_cons_zero]; rfl)
            case hs17x => kernel_rfl
            case hf17x => kernel_rfl
            case hr17x => kernel_rfl
            case hQ17x => exact fun _ _ _ h => h
            case hy17x =>
              refine Or.inl ⟨rfl, ?_⟩
              intro W hSw
              obtain ⟨⟨y1, y2, y3⟩, ⟨y4, y5, y6⟩, y7, y8, y9⟩ := hSw
              go_simp
              try with_reducible rfl
            case hS17x => assumption
            try simp only [Act.put, List.setIfInBounds_toArray, List.set_cons_zero, List.set_cons_succ]
            refine wpAnyH_ready (rs := [18]) (by kernel_rfl) (by simp) ?_
            refine AllReadyH.cons (o := _) rfl (fun K hK => ?_) AllReadyH.nil
            go_simp
            refine (pawake wA (HSd.out wA hc1).1).mono ?_
            rintro x wB ⟨rfl, hbB⟩
            have hc2 := hc1.trans (hbB.mono hc1.size)
            refine hK.out _ _ (HCL.out _ hc2) (fun hHeld => ?_)
            clear hK K
            try simp only [Act.put, List.setIfInBounds_toArray, List.set_cons_zero, List.set_cons_succ]
            refine wpAnyH_take (i := 19) (oi := ?oi19x) (v := ?v19x) ?hi19x ?hs19x ?hf19x ?hr19x ?hQ19x ?hy19x ?hS19x ?h19x
            case hi19x => exact (by simp only [List.getElem?_toArray, List.getElem?_cons_succ, List.getElem?_cons_zero]; rfl)
            case hs19x => kernel_rfl
            case hf19x => kernel_rfl
            case hr19x => kernel_rfl
            case hQ19x => exact fun _ _ _ h => h
            case hy19x =>
              refine Or.inl ⟨rfl, ?_⟩
              intro W hSw
              obtain ⟨⟨y1, y2, y3⟩, ⟨y4, y5, y6⟩, y7, y8, y9⟩ := hSw
              go_simp
              try with_reducible rfl
            case hS19x => assumption
            try simp only [Act.put, List.setIfInBounds_toArray, List.set_cons_zero, List.set_cons_succ]
            refine wpAnyH_take (i := 20) (oi := ?oi20x) (v := ?v20x) ?hi20x ?hs20x ?hf20x ?hr20x ?hQ20x ?hy20x ?hS20x ?h20x
            case hi20x => exact (by simp only [List.getElem?_toArray, List.getElem?_cons_succ, List.getElem?_cons_zero]; rfl)
            case hs20x => kernel_rfl
            case hf20x => kernel_rfl
            case hr20x => kernel_rfl
            case hQ20x => exact fun _ _ _ h => h
            case hy20x =>
              refine Or.inl ⟨rfl, ?_⟩
              intro W hSw
              obtain ⟨⟨y1, y2, y3⟩, ⟨y4, y5, y6⟩, y7, y8, y9⟩ := hSw
              go_simp
              try with_reducible rfl
            case hS20x => assumption
            try simp only [Act.put, List.setIfInBounds_toArray, List.set_cons_zero, List.set_cons_succ]
            refine wpAnyH_done (by kernel_rfl) ?_ _
            go_wp2
            go_ret
            exact ⟨rfl, (HSd.out _ hc2).2⟩
end Go.Proofs.YtaefgieodehceaaDoor
