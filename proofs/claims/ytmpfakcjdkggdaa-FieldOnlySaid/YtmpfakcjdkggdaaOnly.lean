/- Whatever text and bytes are handed to FieldOnly, it returns true: what field.Read reads field.Write writes as it was, and with an error there are no fields; the arguments read as they did. No condition. -/
import Derived.Test.YtmpfakcjdkggdaaB8
import Derived.ProofKit
import Derived.OpenShut
import Derived.ShutString
namespace Go.Proofs.Ytmpfakcjdkggdaa.fieldOnly
open Go.ChangeShapes Go.WideShapes Go.ChangeAt Go.RowKit
open Go.ChangeMaps (open_string shut_string)
set_option linter.unusedVariables false

set_option maxHeartbeats 1000000 in
theorem walk_big (s : ByteArray) (A : Option Addr) (c : Nat) (l : List UInt8) (w : World) (h : 100 < s.size ∨ 1000 < l.length) :
    Calls Try.prog 7 #[.string s, .slice A l.length c] w fun e w' => e = .returned (.bool true) ∧ Below w.heap.size w w' := by
  by_cases h1 : 100 < s.size
  · go_enter Try.func7, Try.ntmps7
    go_wp2
    go_ret
    exact ⟨rfl, Below.refl _ _⟩
  · have h2 : 1000 < l.length := by omega
    clear h
    go_enter Try.func7, Try.ntmps7
    go_wp2
    go_ret
    exact ⟨rfl, Below.refl _ _⟩

set_option maxHeartbeats 1000000 in
theorem walk_err (s : ByteArray) (A : Option Addr) (c : Nat) (l : List UInt8) (w : World) (hs : s.size ≤ 100) (hl : l.length ≤ 1000) (hv : Bs w w.heap.size (.slice A l.length c) l)
    (hk : (readR s.data.toList l).1 ≠ 0) :
    Calls Try.prog 7 #[.string s, .slice A l.length c] w fun e w' => e = .returned (.bool true) ∧ Below w.heap.size w w' := by
  have hr := read_any s _ l w hv (by omega)
  obtain ⟨k, hkk⟩ : ∃ k, k = (readR s.data.toList l).1 := ⟨_, rfl⟩
  have he : readR s.data.toList l = (k, [], [], []) := by
    rw [hkk, ← read_none _ _ hk]
  rw [he] at hr
  have HR := Lib.hid hr
  have hb0 : ((k : Int) != 0) = true := by rw [bne_iff_ne]; omega
  clear hr hv hk hkk he
  go_enter Try.func7, Try.ntmps7
  go_wp2_with fail
  refine HR.out.mono ?_
  intro e w1 hp
  obtain ⟨aN, aS, aL, cN, cS, cL, vs, rfl, hb1, _⟩ := read_flds hp
  clear hp
  go_wp2_with fail
  refine (awake_any _).mono ?_
  rintro e w2 ⟨rfl, hb2⟩
  go_wp2
  go_ret
  exact ⟨rfl, (hb1.alloc hb1.size _).trans (hb2.mono (by have := hb1.size; simp; omega))⟩

set_option maxHeartbeats 2000000 in
theorem walk_ok (s : ByteArray) (A : Option Addr) (c : Nat) (l : List UInt8) (w : World) (hs : s.size ≤ 100) (hl : l.length ≤ 1000) (hv : Bs w w.heap.size (.slice A l.length c) l)
    (hk : (readR s.data.toList l).1 = 0) :
    Calls Try.prog 7 #[.string s, .slice A l.length c] w fun e w' => e = .returned (.bool true) ∧ Below w.heap.size w w' := by
  have hr := read_any s _ l w hv (by omega)
  have hw := write_read s.data.toList l hk
  obtain ⟨⟨k, N, S, L⟩, hrr⟩ : ∃ r, r = readR s.data.toList l := ⟨_, rfl⟩
  rw [← hrr] at hr hw hk
  simp only at hk hw
  subst hk
  have HR := Lib.hid hr
  have HV := Lib.hid hv
  have HW := Lib.hid hw
  clear hr hv hw hrr
  go_enter Try.func7, Try.ntmps7
  go_wp2_with fail
  refine HR.out.mono ?_
  intro e w1 hp
  obtain ⟨aN, aS, aL, cN, cS, cL, vs, rfl, hb1, hf⟩ := read_flds hp
  clear hp
  have hwc := (hf.below ((Below.refl _ _).alloc (Nat.le_refl _) (.cells #[.slice aN N.length cN, .slice aS S.length cS, .slice aL L.length cL] 35))).write s
  rw [HW.out] at hwc
  have HWC := Lib.hid hwc
  clear hf hwc
  go_wp2_with fail
  refine HWC.out.mono ?_
  rintro e w2 ⟨v2, rfl, hown, _, hb2⟩
  have hbA : Below w.heap.size w w2 := (hb1.alloc hb1.size _).trans (hb2.mono (by have := hb1.size; simp; omega))
  obtain ⟨s0, hs0⟩ : ∃ s0 : ByteArray, s0 = ⟨l.toArray⟩ := ⟨_, rfl⟩
  have k1 := conv_bs (Bs.of_own hown)
  have k2 := conv_bs (HV.out.below hbA (Nat.le_refl _))
  rw [← hs0] at k1 k2
  clear hown hs0
  go_wp2_with fail
  refine (awake_any _).mono ?_
  rintro e w3 ⟨rfl, hb3⟩
  go_wp2
  go_ret
  exact ⟨rfl, hbA.trans (hb3.mono hbA.size)⟩
theorem own : ownKnob Try.prog.godebug = none := by kernel_rfl
theorem laidOut : laidOutB Try.prog = true := by kernel_rfl

/-- WHAT THE WALK IS TOLD OF A SLICE OF INTEGERS THAT CAME IN: it is nil; or it leads to a row of 'cap' cells, the numbers 'zs' (the first 'len' are its elements, the rest its spare room), each fitting its kind. -/
def IsRow (k : IntKind) (w : World) (a : Option Addr) (len cap : Nat) (zs : List Int) : Prop :=
  (a = none ∧ len = 0 ∧ cap = 0 ∧ zs = []) ∨
  ∃ x, a = some x ∧ len ≤ cap ∧ cap ≤ maxLen ∧ zs.length = cap ∧ (∀ i, i < zs.length → w.cell? (x.add i) = some (.int k (zs.getD i 0))) ∧ ∀ n ∈ zs, (Lit.int k n).wf = true

theorem walk (a0 : ByteArray) (a1 : Option Addr) (len1 cap1 : Nat) (z1 : List Int) (w : World) (w0 : a0.size ≤ maxLen) (w1 : IsRow .u8 w a1 len1 cap1 z1) :
    Calls Try.prog 7 #[.string a0, .slice a1 len1 cap1] w fun e w' => e = .returned (.bool true) ∧ Below w.heap.size w w' := by
  obtain ⟨l, hll, hbs⟩ := row_bs rfl w1
  subst hll
  by_cases h : 100 < a0.size ∨ 1000 < l.length
  · exact walk_big a0 _ _ l w h
  · have h1 : a0.size ≤ 100 := by omega
    have h2 : l.length ≤ 1000 := by omega
    by_cases hk : (readR a0.data.toList l).1 = 0
    · exact walk_ok a0 _ _ l w h1 h2 hbs hk
    · exact walk_err a0 _ _ l w h1 h2 hbs hk

set_option maxRecDepth 100000 in
theorem lifted (os : Os) (started : os.Started) (H : Type) (enc : TypeId × Value → H) :
    ReturnsInHanded {} Try.checked os 7 .any (Rows.fieldOnlySpec.pre6 enc Try.prog Try.f7 Rows.fieldOnlyRow.domain false) (Rows.fieldOnlySpec.post enc Try.prog Try.f7 false true false false) := by
  refine returnsInHanded_of_change (C := Try.checked) own started (by kernel_rfl) Try.func7
    (ChangeSpec.witness6 (enc := enc) (C := Try.checked) false ⟨#[], #[.string ByteArray.empty, .slice none 0 0], []⟩ 8 (by kernel_rfl) (by kernel_rfl) (by kernel_rfl) (by kernel_rfl)) ?_
  intro W base args ds gs before hval0 hW hcnd _
  have hval : ∀ (j : Nat) t v, Try.f7.params[j]? = some t → args[j]? = some v → Value.okWide Try.prog W .any base t v := hval0
  have hW' := hW
  obtain ⟨p, q, hA0, hV, rfl, hfz, hnd⟩ := hW
  have hA : DataW.TrodAll enc Try.prog W 0 (fun _ => true) true Try.f7.params.toList args.toList ds p := hA0
  rw [Try.params7] at hA hval
  obtain ⟨v0, vs0, d0, ds0, p0, q0, hargs, rfl, rfl, h0, r0⟩ := trodAll_cons hA
  obtain ⟨v1, vs1, d1, ds1, p1, q1, rfl, rfl, rfl, h1, r1⟩ := trodAll_cons r0
  obtain ⟨rfl, rfl, rfl⟩ := trodAll_nil r1
  obtain rfl : args = #[v0, v1] := by cases args; simp_all
  obtain ⟨rfl, rfl⟩ := trodVars_none hV
  obtain ⟨a0, rfl, rfl, rfl, w0⟩ := open_string Try.underlying9 (hval 0 9 v0 rfl rfl) h0
  obtain ⟨a1, len1, cap1, rfl⟩ := okWide_slice Try.underlying31 (hval 1 31 v1 rfl rfl)
  have k1 := h1
  have lt1 : ∀ x ∈ p1, x.block < W.heap.size := by obtain ⟨m, hm⟩ := k1; exact DataW.trod_lt m _ _ _ hm
  obtain ⟨z1, w1⟩ : ∃ zs, IsRow .u8 W a1 len1 cap1 zs := by
    obtain ⟨fuel, hf⟩ := h1
    rcases open_ints Try.underlying31 Try.underlying5 (by kernel_rfl) hf with ⟨hcs, _⟩ | ⟨x, l, c, zs, hcs, _, hl, hm, hz, _, hcell, hwz⟩
    · simp [Value.cells] at hcs
      obtain ⟨rfl, rfl, rfl⟩ := hcs
      exact ⟨[], .inl ⟨rfl, rfl, rfl, rfl⟩⟩
    · simp [Value.cells] at hcs
      obtain ⟨rfl, rfl, rfl⟩ := hcs
      exact ⟨zs, .inr ⟨_, rfl, hl, hm, by simpa using hz, hcell, hwz⟩⟩
  clear hA0 hval0
  refine (walk a0 a1 len1 cap1 z1 W w0 w1).mono fun e W' ⟨he, bel⟩ => ?_
  subst he
  exact ⟨_, rfl, _, _, _, [], _, [], hW', trodAll_mk1 (shut_bool Try.underlying4 _), (trodAll_cons_mk (shut_string Try.underlying9 w0) (trodAll_cons_mk (Below.trod laidOut (by kernel_rfl) (of_decide_eq_true (by kernel_rfl)) k1 bel lt1) trodAll_mk0)), rfl, bel.frame _, fun h => by cases h⟩

theorem over : Rows.fieldOnlyRow.holds Try.pinned (OpenSpec.ofChange Rows.fieldOnlySpec) :=
  OpenClaim.holds_of_wide 7 Try.f7 rfl rfl rfl rfl rfl rfl rfl ⟨rfl, rfl, rfl, rfl, rfl⟩ rfl rfl rfl rfl rfl (by kernel_rfl) Try.func7 (by kernel_rfl)
    (of_decide_eq_true (by kernel_rfl)) (by unfold Func.isWrapper; first | (rw [if_pos (by decide +kernel)]; kernel_rfl) | (rw [if_neg (by decide +kernel)]; exact ⟨rfl, rfl⟩))
    (fun os started H enc _ => lifted os started H enc)

theorem proved : Rows.FieldOnlySaid := over
#print axioms proved
end Go.Proofs.Ytmpfakcjdkggdaa.fieldOnly
