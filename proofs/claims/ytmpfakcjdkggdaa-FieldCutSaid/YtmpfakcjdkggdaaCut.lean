/- Whatever text, bytes and number are handed to FieldCut, it returns true: bytes that field.Read reads are too long with a byte more, and too short when they are cut; the arguments read as they did. No condition. -/
import Derived.Test.YtmpfakcjdkggdaaB6
import Derived.ProofKit
import Derived.OpenShut
import Derived.ShutString
namespace Go.Proofs.Ytmpfakcjdkggdaa.fieldCut
open Go.ChangeShapes Go.WideShapes Go.ChangeAt Go.RowKit
open Go.ChangeMaps (open_string shut_string)
set_option linter.unusedVariables false

/-- What Read hands back, its fields but as slices of some length. -/
def CodePost (w : World) (k : Nat) (e : Ending) (w' : World) : Prop :=
  ∃ a1 n1 c1 a2 n2 c2 a3 n3 c3, e = .returned (.tuple #[.agg #[.slice a1 n1 c1, .slice a2 n2 c2, .slice a3 n3 c3], .int .i64 (k : Int)]) ∧ Below w.heap.size w w'

theorem read_code (s : ByteArray) (v : Value) (b : List UInt8) (w : World) (B k : Nat) (hB : B = w.heap.size) (hv : Bs w B v b) (hbl : b.length ≤ 1000000) (hk : (readR s.data.toList b).1 = k) :
    Calls Try.prog 18 #[.string s, v] w (CodePost w k) := by
  subst hB hk
  refine (read_any s v b w hv hbl).mono fun e w' h => ?_
  obtain ⟨vN, vS, vL, vs, he, hb, oN, oS, oL, _, _⟩ := h
  obtain ⟨aN, kN, rfl, _⟩ := own_rd oN
  obtain ⟨aS, kS, rfl, _⟩ := own_rd oS
  obtain ⟨aL, kL, rfl, _⟩ := own_rd oL
  exact ⟨_, _, _, _, _, _, _, _, _, he, hb⟩

set_option maxHeartbeats 1000000 in
theorem walk_big (s : ByteArray) (A : Option Addr) (c : Nat) (l : List UInt8) (n : Nat) (w : World) (h : 100 < s.size ∨ 1000 < l.length) :
    Calls Try.prog 8 #[.string s, .slice A l.length c, .int .u16 (n : Int)] w fun e w' => e = .returned (.bool true) ∧ Below w.heap.size w w' := by
  by_cases h1 : 100 < s.size
  · go_enter Try.func8, Try.ntmps8
    go_wp2
    go_ret
    exact ⟨rfl, Below.refl _ _⟩
  · have h2 : 1000 < l.length := by omega
    clear h
    go_enter Try.func8, Try.ntmps8
    go_wp2
    go_ret
    exact ⟨rfl, Below.refl _ _⟩

set_option maxHeartbeats 1000000 in
theorem walk_err (s : ByteArray) (A : Option Addr) (c : Nat) (l : List UInt8) (n : Nat) (w : World) (hs : s.size ≤ 100) (hl : l.length ≤ 1000) (hv : Bs w w.heap.size (.slice A l.length c) l)
    (k : Nat) (hk : (readR s.data.toList l).1 = k) (hk0 : k ≠ 0) :
    Calls Try.prog 8 #[.string s, .slice A l.length c, .int .u16 (n : Int)] w fun e w' => e = .returned (.bool true) ∧ Below w.heap.size w w' := by
  have hr := read_code s _ l w _ k rfl hv (by omega) hk
  have HR := Lib.hid hr
  have hb0 : ((k : Int) != 0) = true := by rw [bne_iff_ne]; omega
  clear hr hv hk hk0
  go_enter Try.func8, Try.ntmps8
  go_wp2_with fail
  refine HR.out.mono ?_
  rintro e w1 ⟨a1, n1, c1, a2, n2, c2, a3, n3, c3, rfl, hb1⟩
  go_wp2_with fail
  refine (awake_any _).mono ?_
  rintro e w2 ⟨rfl, hb2⟩
  go_wp2
  go_ret
  exact ⟨rfl, (hb1.alloc hb1.size _).trans (hb2.mono (by have := hb1.size; simp; omega))⟩

theorem one_bs (w : World) (x : UInt8) : Bs (w.alloc (.cells #[.int .u8 (x.toNat : Int)] 5)) (w.heap.size + 1) (.slice (some ⟨w.heap.size, 0, none⟩) 1 1) [x] :=
  ⟨_, 1, rfl, by simp, rd_block' (heap_alloc_new w _) rfl (Nat.lt_succ_self _)⟩

set_option maxHeartbeats 4000000 in
theorem walk_ok (s : ByteArray) (A : Option Addr) (c : Nat) (l : List UInt8) (n : Nat) (w : World) (hs : s.size ≤ 100) (hl : l.length ≤ 1000) (hv : Bs w w.heap.size (.slice A l.length c) l)
    (hn : n < 65536) (hk : (readR s.data.toList l).1 = 0) :
    Calls Try.prog 8 #[.string s, .slice A l.length c, .int .u16 (n : Int)] w fun e w' => e = .returned (.bool true) ∧ Below w.heap.size w w' := by
  have hr := read_code s _ l w _ 0 rfl hv (by omega) hk
  have HR := Lib.hid hr
  have HV := Lib.hid hv
  obtain ⟨x, hx⟩ : ∃ x : UInt8, x = UInt8.ofNat n := ⟨_, rfl⟩
  have ex : ((n : Int) % 256) = (x.toNat : Int) := by rw [hx]; simp
  have h2 := fun W v B hB (hB2 : Bs W B v (l ++ [x])) => read_code s v (l ++ [x]) W B 4 hB hB2 (by simp; omega) (read_long _ l [x] hk (by simp))
  have H2 := Lib.hid h2
  have HK := Lib.hid hk
  clear hr hv hk hx h2
  by_cases hl0 : l.length = 0
  · have hq : ((l.length : Int) == 0) = true := by rw [beq_iff_eq]; omega
    clear hl0
    go_enter Try.func8, Try.ntmps8
    go_wp2_with fail
    refine HR.out.mono ?_
    rintro e w1 ⟨a1, n1, c1, a2, n2, c2, a3, n3, c3, rfl, hb1⟩
    have hz1 := hb1.size
    have ho0 : ((w1.alloc (.cells #[.slice a1 n1 c1, .slice a2 n2 c2, .slice a3 n3 c3] 35)).alloc (.cells #[] 5)).ownsRow w.heap.size 5 1 (.slice (some ⟨w1.heap.size + 1, 0, none⟩) 0 0) ([] : List UInt8).length (bv []) := by
      have := World.ownsRow_lit (e := 5) (size := 1) (base := w.heap.size) (w1.alloc (.cells #[.slice a1 n1 c1, .slice a2 n2 c2, .slice a3 n3 c3] 35)) #[] 0 (by simp; omega) (by simp [maxLen]) (by simp)
      rw [size_alloc'] at this
      exact this
    have hbA : Below w.heap.size w ((w1.alloc (.cells #[.slice a1 n1 c1, .slice a2 n2 c2, .slice a3 n3 c3] 35)).alloc (.cells #[] 5)) := (hb1.alloc hz1 _).alloc (by simp; omega) _
    have HBA := Lib.hid hbA
    have HO0 := Lib.hid ho0
    clear ho0 hbA
    go_wp2_with (first
      | (at_builtin; refine wpList_append_bytes rfl (.tmp 32) (.tmp 33) rfl w.heap.size w.heap.size (.slice (some ⟨w1.heap.size + 1, 0, none⟩) 0 0) (.slice A l.length c) [] l rfl rfl HO0.out (HV.out.below HBA.out (Nat.le_refl _)) (by simp; omega) HBA.out.size ?_; intro v2 w2 hown2 hg2; have HW2 : Hid (w2.ownsRow w.heap.size 5 1 v2 l.length (bv l) ∧ Below w.heap.size w w2) := ⟨(by simpa using hown2), HBA.out.grown hg2 HBA.out.size (fun k hk => (HO0.out.lt k hk).1)⟩; have hz2 := HW2.out.2.size; clear hown2 hg2)
      | (at_builtin; refine wpList_append_bytes rfl (.tmp 34) (.tmp 37) rfl w.heap.size (w2.heap.size + 1) v2 (.slice (some ⟨w2.heap.size, 0, none⟩) 1 1) l [x] rfl rfl (HW2.out.1.alloc _) (one_bs w2 x) (by simp; omega) (by simp; omega) ?_; intro v3 w3 hown3 hg3; have HW3 : Hid (w3.ownsRow w.heap.size 5 1 v3 (l ++ [x]).length (bv (l ++ [x])) ∧ Below w.heap.size w w3) := ⟨hown3, (HW2.out.2.alloc hz2 _).grown hg3 (by simp; omega) (fun k hk => (HW2.out.1.lt k hk).1)⟩; have hz3 := HW3.out.2.size; clear hown3 hg3))
    refine (H2.out w3 v3 w3.heap.size rfl (Bs.of_own HW3.out.1)).mono ?_
    rintro e w4 ⟨b1, m1, d1, b2, m2, d2, b3, m3, d3, rfl, hb4⟩
    have HW4 : Hid (Below w.heap.size w w4) := HW3.out.2.trans (hb4.mono hz3)
    have hz4 := HW4.out.size
    go_wp2_with fail
    refine (awake_any _).mono ?_
    rintro e w5 ⟨rfl, hb5⟩
    go_wp2
    go_ret
    exact ⟨rfl, (HW4.out.alloc hz4 _).trans (hb5.mono (by simp; omega))⟩
  · have hq : ((l.length : Int) == 0) = false := by rw [beq_eq_false_iff_ne]; omega
    obtain ⟨m, hm⟩ : ∃ m, m = n % l.length := ⟨_, rfl⟩
    have hml : m < l.length := by rw [hm]; exact Nat.mod_lt _ (by omega)
    have em : ((n : Int) % (l.length : Int)) = (m : Int) := by rw [hm]; simp
    have hpos : (0 : Int) < (l.length : Int) := by omega
    have h3 := fun W (hW : Below w.heap.size w W) => read_code s (.slice A m c) (l.take m) W W.heap.size 3 rfl (by
      obtain ⟨A', c', hv, hlc, hrd⟩ := HV.out
      injection hv with e1 e2 e3
      subst e1 e3
      have := Bs.take (m := m) hrd (by omega) hlc
      obtain ⟨A2, c2, hv2, hlc2, hrd2⟩ := this
      exact ⟨A2, c2, hv2, hlc2, (hrd2.below hW (Nat.le_refl _)).mono hW.size⟩) (by simp; omega) (read_short _ l m HK.out hml)
    have H3 := Lib.hid h3
    have hlc : l.length ≤ c := by
      obtain ⟨A', c', hv, hlc, hrd⟩ := HV.out
      injection hv with e1 e2 e3
      omega
    clear hm hl0 h3
    go_enter Try.func8, Try.ntmps8
    go_wp2_with fail
    refine HR.out.mono ?_
    rintro e w1 ⟨a1, n1, c1, a2, n2, c2, a3, n3, c3, rfl, hb1⟩
    have hz1 := hb1.size
    have ho0 : ((w1.alloc (.cells #[.slice a1 n1 c1, .slice a2 n2 c2, .slice a3 n3 c3] 35)).alloc (.cells #[] 5)).ownsRow w.heap.size 5 1 (.slice (some ⟨w1.heap.size + 1, 0, none⟩) 0 0) ([] : List UInt8).length (bv []) := by
      have := World.ownsRow_lit (e := 5) (size := 1) (base := w.heap.size) (w1.alloc (.cells #[.slice a1 n1 c1, .slice a2 n2 c2, .slice a3 n3 c3] 35)) #[] 0 (by simp; omega) (by simp [maxLen]) (by simp)
      rw [size_alloc'] at this
      exact this
    have hbA : Below w.heap.size w ((w1.alloc (.cells #[.slice a1 n1 c1, .slice a2 n2 c2, .slice a3 n3 c3] 35)).alloc (.cells #[] 5)) := (hb1.alloc hz1 _).alloc (by simp; omega) _
    have HBA := Lib.hid hbA
    have HO0 := Lib.hid ho0
    clear ho0 hbA
    go_wp2_with (first
      | (at_builtin; refine wpList_append_bytes rfl (.tmp 32) (.tmp 33) rfl w.heap.size w.heap.size (.slice (some ⟨w1.heap.size + 1, 0, none⟩) 0 0) (.slice A l.length c) [] l rfl rfl HO0.out (HV.out.below HBA.out (Nat.le_refl _)) (by simp; omega) HBA.out.size ?_; intro v2 w2 hown2 hg2; have HW2 : Hid (w2.ownsRow w.heap.size 5 1 v2 l.length (bv l) ∧ Below w.heap.size w w2) := ⟨(by simpa using hown2), HBA.out.grown hg2 HBA.out.size (fun k hk => (HO0.out.lt k hk).1)⟩; have hz2 := HW2.out.2.size; clear hown2 hg2)
      | (at_builtin; refine wpList_append_bytes rfl (.tmp 34) (.tmp 37) rfl w.heap.size (w2.heap.size + 1) v2 (.slice (some ⟨w2.heap.size, 0, none⟩) 1 1) l [x] rfl rfl (HW2.out.1.alloc _) (one_bs w2 x) (by simp; omega) (by simp; omega) ?_; intro v3 w3 hown3 hg3; have HW3 : Hid (w3.ownsRow w.heap.size 5 1 v3 (l ++ [x]).length (bv (l ++ [x])) ∧ Below w.heap.size w w3) := ⟨hown3, (HW2.out.2.alloc hz2 _).grown hg3 (by simp; omega) (fun k hk => (HW2.out.1.lt k hk).1)⟩; have hz3 := HW3.out.2.size; clear hown3 hg3))
    refine (H2.out w3 v3 w3.heap.size rfl (Bs.of_own HW3.out.1)).mono ?_
    rintro e w4 ⟨b1, m1, d1, b2, m2, d2, b3, m3, d3, rfl, hb4⟩
    have HW4 : Hid (Below w.heap.size w w4) := HW3.out.2.trans (hb4.mono hz3)
    have hz4 := HW4.out.size
    go_wp2_with fail
    refine (H3.out (w4.alloc (.cells #[.slice b1 m1 d1, .slice b2 m2 d2, .slice b3 m3 d3] 35)) (HW4.out.alloc hz4 _)).mono ?_
    rintro e w5 ⟨e1, p1, q1, e2, p2, q2, e3, p3, q3, rfl, hb5⟩
    have HW5 : Hid (Below w.heap.size w w5) := (HW4.out.alloc hz4 _).trans (hb5.mono (by simp; omega))
    have hz5 := HW5.out.size
    go_wp2_with fail
    refine (awake_any _).mono ?_
    rintro e w6 ⟨rfl, hb6⟩
    go_wp2
    go_ret
    exact ⟨rfl, (HW5.out.alloc hz5 _).trans (hb6.mono (by simp; omega))⟩
theorem own : ownKnob Try.prog.godebug = none := by kernel_rfl
theorem laidOut : laidOutB Try.prog = true := by kernel_rfl

/-- WHAT THE WALK IS TOLD OF A SLICE OF INTEGERS THAT CAME IN: it is nil; or it leads to a row of 'cap' cells, the numbers 'zs' (the first 'len' are its elements, the rest its spare room), each fitting its kind. -/
def IsRow (k : IntKind) (w : World) (a : Option Addr) (len cap : Nat) (zs : List Int) : Prop :=
  (a = none ∧ len = 0 ∧ cap = 0 ∧ zs = []) ∨
  ∃ x, a = some x ∧ len ≤ cap ∧ cap ≤ maxLen ∧ zs.length = cap ∧ (∀ i, i < zs.length → w.cell? (x.add i) = some (.int k (zs.getD i 0))) ∧ ∀ n ∈ zs, (Lit.int k n).wf = true

theorem walk (a0 : ByteArray) (a1 : Option Addr) (len1 cap1 : Nat) (z1 : List Int) (a2 : Int) (w : World) (w0 : a0.size ≤ maxLen) (w1 : IsRow .u8 w a1 len1 cap1 z1) (w2 : (Lit.int .u16 a2).wf = true) :
    Calls Try.prog 8 #[.string a0, .slice a1 len1 cap1, .int .u16 a2] w fun e w' => e = .returned (.bool true) ∧ Below w.heap.size w w' := by
  obtain ⟨l, hll, hbs⟩ := row_bs rfl w1
  have b2 := bounds_u16 w2
  obtain ⟨n, rfl⟩ := Int.eq_ofNat_of_zero_le b2.1
  subst hll
  by_cases h : 100 < a0.size ∨ 1000 < l.length
  · exact walk_big a0 _ _ l n w h
  · have h1 : a0.size ≤ 100 := by omega
    have h2 : l.length ≤ 1000 := by omega
    by_cases hk : (readR a0.data.toList l).1 = 0
    · exact walk_ok a0 _ _ l n w h1 h2 hbs (by omega) hk
    · exact walk_err a0 _ _ l n w h1 h2 hbs _ rfl hk

set_option maxRecDepth 100000 in
theorem lifted (os : Os) (started : os.Started) (H : Type) (enc : TypeId × Value → H) :
    ReturnsInHanded {} Try.checked os 8 .any (Rows.fieldCutSpec.pre6 enc Try.prog Try.f8 Rows.fieldCutRow.domain false) (Rows.fieldCutSpec.post enc Try.prog Try.f8 false true false false) := by
  refine returnsInHanded_of_change (C := Try.checked) own started (by kernel_rfl) Try.func8
    (ChangeSpec.witness6 (enc := enc) (C := Try.checked) false ⟨#[], #[.string ByteArray.empty, .slice none 0 0, .int .u16 0], []⟩ 8 (by kernel_rfl) (by kernel_rfl) (by kernel_rfl) (by kernel_rfl)) ?_
  intro W base args ds gs before hval0 hW hcnd _
  have hval : ∀ (j : Nat) t v, Try.f8.params[j]? = some t → args[j]? = some v → Value.okWide Try.prog W .any base t v := hval0
  have hW' := hW
  obtain ⟨p, q, hA0, hV, rfl, hfz, hnd⟩ := hW
  have hA : DataW.TrodAll enc Try.prog W 0 (fun _ => true) true Try.f8.params.toList args.toList ds p := hA0
  rw [Try.params8] at hA hval
  obtain ⟨v0, vs0, d0, ds0, p0, q0, hargs, rfl, rfl, h0, r0⟩ := trodAll_cons hA
  obtain ⟨v1, vs1, d1, ds1, p1, q1, rfl, rfl, rfl, h1, r1⟩ := trodAll_cons r0
  obtain ⟨v2, vs2, d2, ds2, p2, q2, rfl, rfl, rfl, h2, r2⟩ := trodAll_cons r1
  obtain ⟨rfl, rfl, rfl⟩ := trodAll_nil r2
  obtain rfl : args = #[v0, v1, v2] := by cases args; simp_all
  obtain ⟨rfl, rfl⟩ := trodVars_none hV
  obtain ⟨a0, rfl, rfl, rfl, w0⟩ := open_string Try.underlying9 (hval 0 9 v0 rfl rfl) h0
  obtain ⟨a1, len1, cap1, rfl⟩ := okWide_slice Try.underlying31 (hval 1 31 v1 rfl rfl)
  have k1 := h1
  have lt1 : ∀ x ∈ p1, x.block < W.heap.size := by obtain ⟨m, hm⟩ := k1; exact DataW.trod_lt m _ _ _ hm
  obtain ⟨z1, w1⟩ : ∃ zs, IsRow .u8 W a1 len1 cap1 zs := by
    obtain ⟨fuel, hf⟩ := h1
    rcases open_ints Try.underlying31 Try.underlying5 (by kernel_rfl) hf with ⟨hcs, _⟩ | ⟨x, l, c, zs, hcs, _, hl, hm, hz, _, hcell, hwz⟩
    · simp [Value.cells] at hcs
      obtain ⟨rfl, rfl, rfl⟩ := hcs
      exact ⟨[], .inl ⟨rfl, rfl, rfl, rfl⟩⟩
    · simp [Value.cells] at hcs
      obtain ⟨rfl, rfl, rfl⟩ := hcs
      exact ⟨zs, .inr ⟨_, rfl, hl, hm, by simpa using hz, hcell, hwz⟩⟩
  obtain ⟨a2, rfl, rfl, rfl, w2⟩ := open_int Try.underlying47 (hval 2 47 v2 rfl rfl) h2
  clear hA0 hval0
  refine (walk a0 a1 len1 cap1 z1 a2 W w0 w1 w2).mono fun e W' ⟨he, bel⟩ => ?_
  subst he
  exact ⟨_, rfl, _, _, _, [], _, [], hW', trodAll_mk1 (shut_bool Try.underlying4 _), (trodAll_cons_mk (shut_string Try.underlying9 w0) (trodAll_cons_mk (Below.trod laidOut (by kernel_rfl) (of_decide_eq_true (by kernel_rfl)) k1 bel lt1) (trodAll_cons_mk (shut_int Try.underlying47 w2) trodAll_mk0))), rfl, bel.frame _, fun h => by cases h⟩

theorem over : Rows.fieldCutRow.holds Try.pinned (OpenSpec.ofChange Rows.fieldCutSpec) :=
  OpenClaim.holds_of_wide 8 Try.f8 rfl rfl rfl rfl rfl rfl rfl ⟨rfl, rfl, rfl, rfl, rfl⟩ rfl rfl rfl rfl rfl (by kernel_rfl) Try.func8 (by kernel_rfl)
    (of_decide_eq_true (by kernel_rfl)) (by unfold Func.isWrapper; first | (rw [if_pos (by decide +kernel)]; kernel_rfl) | (rw [if_neg (by decide +kernel)]; exact ⟨rfl, rfl⟩))
    (fun os started H enc _ => lifted os started H enc)

theorem proved : Rows.FieldCutSaid := over
#print axioms proved
end Go.Proofs.Ytmpfakcjdkggdaa.fieldCut
