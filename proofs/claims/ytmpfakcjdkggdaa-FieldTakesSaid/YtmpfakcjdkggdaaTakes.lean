/- Whatever bytes, number and many are handed to FieldTakes, it returns true: what field.Put puts field.Take takes, and leaves what is behind it; eight bytes of a number are four and four; the arguments read as they did. No condition. -/
import Derived.Test.YtmpfakcjdkggdaaB2
import Derived.ProofKit
import Derived.OpenShut
namespace Go.Proofs.Ytmpfakcjdkggdaa.fieldTakes
open Go.ChangeShapes Go.WideShapes Go.ChangeAt Go.RowKit

set_option maxHeartbeats 1000000 in
theorem walk_big (v : Value) (l : List UInt8) (n mm : Nat) (w : World) (hv : Bs w w.heap.size v l) (hl : 300 < l.length) :
    Calls Try.prog 9 #[v, .int .u64 (n : Int), .int .u8 (mm : Int)] w fun e w' => e = .returned (.bool true) ∧ Below w.heap.size w w' := by
  obtain ⟨A, c, rfl, hlc, hr⟩ := hv
  clear hr
  go_enter Try.func9, Try.ntmps9
  go_wp2
  go_ret
  exact ⟨rfl, Below.refl _ _⟩

theorem conv_bs {w : World} {B : Nat} {v : Value} {l : List UInt8} (h : Bs w B v l) : (convert 31 9 v).run Try.prog w = .ok (.string ⟨l.toArray⟩) w := by
  obtain ⟨A, c, rfl, _, hr⟩ := h
  exact conv_rd hr c

set_option maxHeartbeats 4000000 in
theorem walk_small (v : Value) (l : List UInt8) (n mm : Nat) (w : World) (hv : Bs w w.heap.size v l) (hl : l.length ≤ 300) (hn : n < 18446744073709551616) (hmm : mm < 256) :
    Calls Try.prog 9 #[v, .int .u64 (n : Int), .int .u8 (mm : Int)] w fun e w' => e = .returned (.bool true) ∧ Below w.heap.size w w' := by
  have HV := Lib.hid hv
  obtain ⟨k, hk⟩ : ∃ k, k = 1 + mm % 8 := ⟨_, rfl⟩
  have hk1 : 1 ≤ k := by omega
  have hk8 : k ≤ 8 := by omega
  have ek : (1 + (mm : Int) % 8) = (k : Int) := by omega
  obtain ⟨A, c, rfl, hlc, hr⟩ := hv
  clear hr hk
  obtain ⟨M, hM⟩ : ∃ M, M = 256 ^ k := ⟨_, rfl⟩
  obtain ⟨q, hq⟩ : ∃ q, q = num (be k n) := ⟨_, rfl⟩
  have hq2 : q = n % M := by rw [hq, num_be, hM]
  have hM1 : 1 ≤ M := by rw [hM]; exact Nat.pos_of_ne_zero (by simp)
  have hqn : k = 8 → q = n := by
    intro h
    rw [hq2, hM, h]
    exact Nat.mod_eq_of_lt (by simpa using hn)
  have eM : k < 8 → IntKind.u64.wrap ((2 : Int) ^ (8 * k)) = (M : Int) := by
    intro h
    have h8 : k = 1 ∨ k = 2 ∨ k = 3 ∨ k = 4 ∨ k = 5 ∨ k = 6 ∨ k = 7 := by omega
    rw [hM]
    rcases h8 with rfl | rfl | rfl | rfl | rfl | rfl | rfl <;> rfl
  have et : ((q : Int) == (n : Int) % (M : Int)) = true := by rw [beq_iff_eq, hq2]; simp
  have et2 : k = 8 → ((q : Int) == (n : Int)) = true := by intro h; rw [beq_iff_eq, hqn h]
  have HQ := Lib.hid hq
  clear hq hM hq2 hqn
  obtain ⟨hi, hhi⟩ : ∃ hi, hi = n / 4294967296 := ⟨_, rfl⟩
  obtain ⟨lo, hlo⟩ : ∃ lo, lo = n % 4294967296 := ⟨_, rfl⟩
  have eh : ((n : Int) / 4294967296) = (hi : Int) := by omega
  have el : ((n : Int) % 4294967296) = (lo : Int) := by omega
  have hhib : hi < 4294967296 := by omega
  have hlob : lo < 4294967296 := by omega
  have hsp : be 4 hi ++ be 4 lo = be 8 n := by rw [be_split, hlo, hhi, Nat.mod_eq_of_lt (by omega : n / 4294967296 < 4294967296)]
  have HSP := Lib.hid hsp
  clear hsp hhi hlo
  by_cases h8 : k < 8
  · have eM' := eM h8
    clear eM et2
    go_enter Try.func9, Try.ntmps9
    go_wp2_with fail
    refine (put_any w.heap.size (.slice none 0 0) [] n k w (Bs.nil _ _) (by simp) hk8).mono ?_
    rintro e w1 ⟨v1, rfl, hown1, hb1⟩
    have hlen1 : (be k n).length = k := be_length _ _
    have hown1' : w1.ownsRow w.heap.size 5 1 v1 (be k n).length (bv (be k n)) := by rw [hlen1]; simpa using hown1
    have hbs1 := hb1.size
    have HO := Lib.hid hown1'
    have HL := Lib.hid hlen1
    clear hown1 hown1' hlen1
    go_wp2_with (at_builtin; refine wpList_append_bytes rfl _ _ rfl w.heap.size w.heap.size v1 _ _ l rfl rfl HO.out (HV.out.below hb1 (Nat.le_refl _)) (by rw [HL.out]; omega) hbs1 ?_; intro v2 w2 hown2 hgrow)
    have hb2 : Below w.heap.size w w2 := hb1.grown hgrow hbs1 (fun k' hk' => (HO.out.lt k' hk').1)
    have ht := take_ok w2.heap.size v2 (be k n ++ l) k w2 (Bs.of_own hown2) (Nat.le_refl _) (by rw [List.length_append, HL.out]; omega) hk1 hk8 (by rw [List.length_append, HL.out]; omega)
    rw [List.take_left' HL.out, List.drop_left' HL.out, ← HQ.out] at ht
    clear hown2 hgrow hbs1
    refine ht.mono ?_
    clear ht
    rintro e w3 ⟨v3, rfl, hbs3, hb3⟩
    have hbs2 := hb2.size
    have HB3 := Lib.hid hbs3
    clear hbs3
    go_wp2_with fail
    refine (put_any w3.heap.size (.slice none 0 0) [] hi 4 w3 (Bs.nil _ _) (by simp) (by omega)).mono ?_
    rintro e w4 ⟨v4, rfl, hown4, hb4⟩
    have h4 : Bs w4 w4.heap.size v4 (be 4 hi) := Bs.of_own (by rw [be_length]; simpa using hown4)
    have HB4 := Lib.hid h4
    clear hown4 h4
    go_wp2_with fail
    refine (put_any w4.heap.size v4 (be 4 hi) lo 4 w4 HB4.out (by rw [be_length]; omega) (by omega)).mono ?_
    rintro e w5 ⟨v5, rfl, hown5, hb5⟩
    have h5 : Bs w5 w5.heap.size v5 (be 8 n) := by
      rw [← HSP.out]
      exact Bs.of_own (by rw [List.length_append, be_length, be_length]; simpa [be_length] using hown5)
    have HB5 := Lib.hid h5
    clear hown5 h5
    have hb25 : Below w.heap.size w w5 := ((hb2.trans (hb3.mono hbs2)).trans (hb4.mono (Nat.le_trans hbs2 hb3.size))).trans (hb5.mono (Nat.le_trans (Nat.le_trans hbs2 hb3.size) hb4.size))
    go_wp2_with fail
    obtain ⟨s0, hs0⟩ : ∃ s0 : ByteArray, s0 = ⟨l.toArray⟩ := ⟨_, rfl⟩
    obtain ⟨t0, ht0⟩ : ∃ t0 : ByteArray, t0 = ⟨(be 8 n).toArray⟩ := ⟨_, rfl⟩
    have H3 : Hid (∀ W, Below w5.heap.size w5 W → (convert 31 9 v3).run Try.prog W = .ok (.string s0) W) := fun W hW => by
      rw [hs0]
      exact conv_bs ((((HB3.out.below hb4 (Nat.le_refl _)).below hb5 hb4.size)).below hW (Nat.le_trans hb4.size hb5.size))
    have H0 : Hid (∀ W, Below w5.heap.size w5 W → (convert 31 9 (.slice A l.length c)).run Try.prog W = .ok (.string s0) W) := fun W hW => by
      rw [hs0]
      exact conv_bs ((HV.out.below hb25 (Nat.le_refl _)).below hW hb25.size)
    have H5 : Hid (∀ W, Below w5.heap.size w5 W → (convert 31 9 v5).run Try.prog W = .ok (.string t0) W) := fun W hW => by
      rw [ht0]
      exact conv_bs (HB5.out.below hW (Nat.le_refl _))
    have HT := Lib.hid ht0
    have hd := (Below.refl w5.heap.size w5).drew
    have HD := Lib.hid hd
    clear hd ht0 hs0
    go_region_held3 (fun W => (convert 31 9 v3).run Try.prog W = .ok (.string s0) W ∧ (convert 31 9 (.slice A l.length c)).run Try.prog W = .ok (.string s0) W ∧ (convert 31 9 v5).run Try.prog W = .ok (.string t0) W)
      (first | exact ⟨H3.out _ HD.out, H0.out _ HD.out, H5.out _ HD.out⟩ | exact ⟨H3.out _ hc6, H0.out _ hc6, H5.out _ hc6⟩ | exact ⟨H3.out _ hc7, H0.out _ hc7, H5.out _ hc7⟩ | go_keep)
      (first
        | (go_at_call 22; refine (put_any w5.heap.size (.slice none 0 0) [] n 8 _ (Bs.nil _ _) (by simp) (by omega)).mono ?_; rintro e w6 ⟨v6, rfl, hown6, hb6⟩; have hc6 := HD.out.trans hb6; have c6 : (convert 31 9 v6).run Try.prog w6 = .ok (.string t0) w6 := (by rw [HT.out]; exact conv_bs (Bs.of_own (by rw [be_length]; simpa using hown6))); clear hown6)
        | (go_at_call 13; refine (awake_any _).mono ?_; rintro e w7 ⟨rfl, hb7⟩; have hc7 := hc6.trans (hb7.mono hc6.size)))
    go_wp2
    go_ret
    exact ⟨rfl, hb25.trans (hc7.mono hb25.size)⟩
  · have et' := et2 (by omega)
    clear eM et et2
    go_enter Try.func9, Try.ntmps9
    go_wp2_with fail
    refine (put_any w.heap.size (.slice none 0 0) [] n k w (Bs.nil _ _) (by simp) hk8).mono ?_
    rintro e w1 ⟨v1, rfl, hown1, hb1⟩
    have hlen1 : (be k n).length = k := be_length _ _
    have hown1' : w1.ownsRow w.heap.size 5 1 v1 (be k n).length (bv (be k n)) := by rw [hlen1]; simpa using hown1
    have hbs1 := hb1.size
    have HO := Lib.hid hown1'
    have HL := Lib.hid hlen1
    clear hown1 hown1' hlen1
    go_wp2_with (at_builtin; refine wpList_append_bytes rfl _ _ rfl w.heap.size w.heap.size v1 _ _ l rfl rfl HO.out (HV.out.below hb1 (Nat.le_refl _)) (by rw [HL.out]; omega) hbs1 ?_; intro v2 w2 hown2 hgrow)
    have hb2 : Below w.heap.size w w2 := hb1.grown hgrow hbs1 (fun k' hk' => (HO.out.lt k' hk').1)
    have ht := take_ok w2.heap.size v2 (be k n ++ l) k w2 (Bs.of_own hown2) (Nat.le_refl _) (by rw [List.length_append, HL.out]; omega) hk1 hk8 (by rw [List.length_append, HL.out]; omega)
    rw [List.take_left' HL.out, List.drop_left' HL.out, ← HQ.out] at ht
    clear hown2 hgrow hbs1
    refine ht.mono ?_
    clear ht
    rintro e w3 ⟨v3, rfl, hbs3, hb3⟩
    have hbs2 := hb2.size
    have HB3 := Lib.hid hbs3
    clear hbs3
    go_wp2_with fail
    refine (put_any w3.heap.size (.slice none 0 0) [] hi 4 w3 (Bs.nil _ _) (by simp) (by omega)).mono ?_
    rintro e w4 ⟨v4, rfl, hown4, hb4⟩
    have h4 : Bs w4 w4.heap.size v4 (be 4 hi) := Bs.of_own (by rw [be_length]; simpa using hown4)
    have HB4 := Lib.hid h4
    clear hown4 h4
    go_wp2_with fail
    refine (put_any w4.heap.size v4 (be 4 hi) lo 4 w4 HB4.out (by rw [be_length]; omega) (by omega)).mono ?_
    rintro e w5 ⟨v5, rfl, hown5, hb5⟩
    have h5 : Bs w5 w5.heap.size v5 (be 8 n) := by
      rw [← HSP.out]
      exact Bs.of_own (by rw [List.length_append, be_length, be_length]; simpa [be_length] using hown5)
    have HB5 := Lib.hid h5
    clear hown5 h5
    have hb25 : Below w.heap.size w w5 := ((hb2.trans (hb3.mono hbs2)).trans (hb4.mono (Nat.le_trans hbs2 hb3.size))).trans (hb5.mono (Nat.le_trans (Nat.le_trans hbs2 hb3.size) hb4.size))
    go_wp2_with fail
    obtain ⟨s0, hs0⟩ : ∃ s0 : ByteArray, s0 = ⟨l.toArray⟩ := ⟨_, rfl⟩
    obtain ⟨t0, ht0⟩ : ∃ t0 : ByteArray, t0 = ⟨(be 8 n).toArray⟩ := ⟨_, rfl⟩
    have H3 : Hid (∀ W, Below w5.heap.size w5 W → (convert 31 9 v3).run Try.prog W = .ok (.string s0) W) := fun W hW => by
      rw [hs0]
      exact conv_bs ((((HB3.out.below hb4 (Nat.le_refl _)).below hb5 hb4.size)).below hW (Nat.le_trans hb4.size hb5.size))
    have H0 : Hid (∀ W, Below w5.heap.size w5 W → (convert 31 9 (.slice A l.length c)).run Try.prog W = .ok (.string s0) W) := fun W hW => by
      rw [hs0]
      exact conv_bs ((HV.out.below hb25 (Nat.le_refl _)).below hW hb25.size)
    have H5 : Hid (∀ W, Below w5.heap.size w5 W → (convert 31 9 v5).run Try.prog W = .ok (.string t0) W) := fun W hW => by
      rw [ht0]
      exact conv_bs (HB5.out.below hW (Nat.le_refl _))
    have HT := Lib.hid ht0
    have hd := (Below.refl w5.heap.size w5).drew
    have HD := Lib.hid hd
    clear hd ht0 hs0
    go_region_held3 (fun W => (convert 31 9 v3).run Try.prog W = .ok (.string s0) W ∧ (convert 31 9 (.slice A l.length c)).run Try.prog W = .ok (.string s0) W ∧ (convert 31 9 v5).run Try.prog W = .ok (.string t0) W)
      (first | exact ⟨H3.out _ HD.out, H0.out _ HD.out, H5.out _ HD.out⟩ | exact ⟨H3.out _ hc6, H0.out _ hc6, H5.out _ hc6⟩ | exact ⟨H3.out _ hc7, H0.out _ hc7, H5.out _ hc7⟩ | go_keep)
      (first
        | (go_at_call 22; refine (put_any w5.heap.size (.slice none 0 0) [] n 8 _ (Bs.nil _ _) (by simp) (by omega)).mono ?_; rintro e w6 ⟨v6, rfl, hown6, hb6⟩; have hc6 := HD.out.trans hb6; have c6 : (convert 31 9 v6).run Try.prog w6 = .ok (.string t0) w6 := (by rw [HT.out]; exact conv_bs (Bs.of_own (by rw [be_length]; simpa using hown6))); clear hown6)
        | (go_at_call 13; refine (awake_any _).mono ?_; rintro e w7 ⟨rfl, hb7⟩; have hc7 := hc6.trans (hb7.mono hc6.size)))
    go_wp2
    go_ret
    exact ⟨rfl, hb25.trans (hc7.mono hb25.size)⟩
theorem own : ownKnob Try.prog.godebug = none := by kernel_rfl
theorem laidOut : laidOutB Try.prog = true := by kernel_rfl

/-- WHAT THE WALK IS TOLD OF A SLICE OF INTEGERS THAT CAME IN: it is nil; or it leads to a row of 'cap' cells, the numbers 'zs' (the first 'len' are its elements, the rest its spare room), each fitting its kind. -/
def IsRow (k : IntKind) (w : World) (a : Option Addr) (len cap : Nat) (zs : List Int) : Prop :=
  (a = none ∧ len = 0 ∧ cap = 0 ∧ zs = []) ∨
  ∃ x, a = some x ∧ len ≤ cap ∧ cap ≤ maxLen ∧ zs.length = cap ∧ (∀ i, i < zs.length → w.cell? (x.add i) = some (.int k (zs.getD i 0))) ∧ ∀ n ∈ zs, (Lit.int k n).wf = true

theorem walk (a0 : Option Addr) (len0 cap0 : Nat) (z0 : List Int) (a1 : Int) (a2 : Int) (w : World) (w0 : IsRow .u8 w a0 len0 cap0 z0) (w1 : (Lit.int .u64 a1).wf = true) (w2 : (Lit.int .u8 a2).wf = true) :
    Calls Try.prog 9 #[.slice a0 len0 cap0, .int .u64 a1, .int .u8 a2] w fun e w' => e = .returned (.bool true) ∧ Below w.heap.size w w' := by
  obtain ⟨l, _, hbs⟩ := row_bs rfl w0
  have b1 := bounds_u64 w1
  have b2 := bounds_u8 w2
  obtain ⟨n, rfl⟩ := Int.eq_ofNat_of_zero_le b1.1
  obtain ⟨mm, rfl⟩ := Int.eq_ofNat_of_zero_le b2.1
  by_cases h : l.length ≤ 300
  · exact walk_small _ l n mm w hbs h (by omega) (by omega)
  · exact walk_big _ l n mm w hbs (by omega)

set_option maxRecDepth 100000 in
theorem lifted (os : Os) (started : os.Started) (H : Type) (enc : TypeId × Value → H) :
    ReturnsInHanded {} Try.checked os 9 .any (Rows.fieldTakesSpec.pre6 enc Try.prog Try.f9 Rows.fieldTakesRow.domain false) (Rows.fieldTakesSpec.post enc Try.prog Try.f9 false true false false) := by
  refine returnsInHanded_of_change (C := Try.checked) own started (by kernel_rfl) Try.func9
    (ChangeSpec.witness6 (enc := enc) (C := Try.checked) false ⟨#[], #[.slice none 0 0, .int .u64 0, .int .u8 0], []⟩ 8 (by kernel_rfl) (by kernel_rfl) (by kernel_rfl) (by kernel_rfl)) ?_
  intro W base args ds gs before hval0 hW hcnd _
  have hval : ∀ (j : Nat) t v, Try.f9.params[j]? = some t → args[j]? = some v → Value.okWide Try.prog W .any base t v := hval0
  have hW' := hW
  obtain ⟨p, q, hA0, hV, rfl, hfz, hnd⟩ := hW
  have hA : DataW.TrodAll enc Try.prog W 0 (fun _ => true) true Try.f9.params.toList args.toList ds p := hA0
  rw [Try.params9] at hA hval
  obtain ⟨v0, vs0, d0, ds0, p0, q0, hargs, rfl, rfl, h0, r0⟩ := trodAll_cons hA
  obtain ⟨v1, vs1, d1, ds1, p1, q1, rfl, rfl, rfl, h1, r1⟩ := trodAll_cons r0
  obtain ⟨v2, vs2, d2, ds2, p2, q2, rfl, rfl, rfl, h2, r2⟩ := trodAll_cons r1
  obtain ⟨rfl, rfl, rfl⟩ := trodAll_nil r2
  obtain rfl : args = #[v0, v1, v2] := by cases args; simp_all
  obtain ⟨rfl, rfl⟩ := trodVars_none hV
  obtain ⟨a0, len0, cap0, rfl⟩ := okWide_slice Try.underlying31 (hval 0 31 v0 rfl rfl)
  have k0 := h0
  have lt0 : ∀ x ∈ p0, x.block < W.heap.size := by obtain ⟨m, hm⟩ := k0; exact DataW.trod_lt m _ _ _ hm
  obtain ⟨z0, w0⟩ : ∃ zs, IsRow .u8 W a0 len0 cap0 zs := by
    obtain ⟨fuel, hf⟩ := h0
    rcases open_ints Try.underlying31 Try.underlying5 (by kernel_rfl) hf with ⟨hcs, _⟩ | ⟨x, l, c, zs, hcs, _, hl, hm, hz, _, hcell, hwz⟩
    · simp [Value.cells] at hcs
      obtain ⟨rfl, rfl, rfl⟩ := hcs
      exact ⟨[], .inl ⟨rfl, rfl, rfl, rfl⟩⟩
    · simp [Value.cells] at hcs
      obtain ⟨rfl, rfl, rfl⟩ := hcs
      exact ⟨zs, .inr ⟨_, rfl, hl, hm, by simpa using hz, hcell, hwz⟩⟩
  obtain ⟨a1, rfl, rfl, rfl, w1⟩ := open_int Try.underlying49 (hval 1 49 v1 rfl rfl) h1
  obtain ⟨a2, rfl, rfl, rfl, w2⟩ := open_int Try.underlying5 (hval 2 5 v2 rfl rfl) h2
  clear hA0 hval0
  refine (walk a0 len0 cap0 z0 a1 a2 W w0 w1 w2).mono fun e W' ⟨he, bel⟩ => ?_
  subst he
  exact ⟨_, rfl, _, _, _, [], _, [], hW', trodAll_mk1 (shut_bool Try.underlying4 _), (trodAll_cons_mk (Below.trod laidOut (by kernel_rfl) (of_decide_eq_true (by kernel_rfl)) k0 bel lt0) (trodAll_cons_mk (shut_int Try.underlying49 w1) (trodAll_cons_mk (shut_int Try.underlying5 w2) trodAll_mk0))), rfl, bel.frame _, fun h => by cases h⟩

theorem over : Rows.fieldTakesRow.holds Try.pinned (OpenSpec.ofChange Rows.fieldTakesSpec) :=
  OpenClaim.holds_of_wide 9 Try.f9 rfl rfl rfl rfl rfl rfl rfl ⟨rfl, rfl, rfl, rfl, rfl⟩ rfl rfl rfl rfl rfl (by kernel_rfl) Try.func9 (by kernel_rfl)
    (of_decide_eq_true (by kernel_rfl)) (by unfold Func.isWrapper; first | (rw [if_pos (by decide +kernel)]; kernel_rfl) | (rw [if_neg (by decide +kernel)]; exact ⟨rfl, rfl⟩))
    (fun os started H enc _ => lifted os started H enc)

theorem proved : Rows.FieldTakesSaid := over
#print axioms proved
end Go.Proofs.Ytmpfakcjdkggdaa.fieldTakes
