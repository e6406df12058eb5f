/- Whatever text and bytes are handed to FieldReads, it returns true: field.Read reads the fields that the document's own Read reads, with its error; the arguments read as they did. No condition. -/
import Derived.Test.YtkhhbmbjmfdgdaaD2
import Derived.ProofKit
import Derived.OpenShut
import Derived.ShutString
import Derived.Deep.RegionHeld3
namespace Go.Proofs.Ytkhhbmbjmfdgdaa.fieldReads
open Go.ChangeShapes Go.WideShapes Go.ChangeAt Go.RowKit
open Go.ChangeMaps (open_string shut_string)
set_option linter.unusedVariables false
set_option maxRecDepth 4000

theorem gst_lists (l b : List UInt8) : ∀ u ∈ (gst l b).L, u.length ≤ 1000 := by
  rw [← List.reverse_reverse l]
  induction l.reverse with
  | nil => simp [gst]
  | cons c l ih =>
    rw [List.reverse_cons, gst_snoc]
    intro u hu
    unfold gath at hu
    split at hu
    · exact ih u hu
    · split at hu
      · rcases List.mem_append.1 hu with hu | hu
        · exact ih u hu
        · simp at hu
          subst hu
          have := num1_lt (gst l.reverse b).r
          unfold listP
          rw [nums_len]
          omega
      · exact ih u hu

theorem readR_bounds (l b : List UInt8) (hl : l.length ≤ 100) : (readR l b).2.1.length ≤ 1000 ∧ (readR l b).2.2.1.length ≤ 1000 ∧ (readR l b).2.2.2.length ≤ 1000 ∧ ∀ u ∈ (readR l b).2.2.2, u.length ≤ 1000 := by
  have h := gst_bounds l b
  unfold readR
  split
  · simp
  · split
    · simp
    · split
      · simp
      · exact ⟨by show (gst l b).N.length ≤ 1000; omega, by show (gst l b).S.length ≤ 1000; omega, by show (gst l b).L.length ≤ 1000; omega, gst_lists l b⟩

theorem bs_up {w : World} {B B' : Nat} {v : Value} {l : List UInt8} (h : Bs w B v l) (hB : B ≤ B') : Bs w B' v l := by
  obtain ⟨A, c, hv, hl, hr⟩ := h
  refine ⟨A, c, hv, hl, fun hx => ?_⟩
  obtain ⟨b, o, hA, hb, hc⟩ := hr hx
  exact ⟨b, o, hA, by omega, hc⟩

set_option maxHeartbeats 1000000 in
theorem walk_big (s : ByteArray) (A : Option Addr) (c : Nat) (l : List UInt8) (w : World) (h : 100 < s.size ∨ 1000 < l.length) :
    Calls Try.prog 3 #[.string s, .slice A l.length c] w fun e w' => e = .returned (.bool true) ∧ Below w.heap.size w w' := by
  by_cases h1 : 100 < s.size
  · go_enter Try.func3, Try.ntmps3
    go_wp2
    go_ret
    exact ⟨rfl, Below.refl _ _⟩
  · have h2 : 1000 < l.length := by omega
    clear h
    go_enter Try.func3, Try.ntmps3
    go_wp2
    go_ret
    exact ⟨rfl, Below.refl _ _⟩

set_option maxHeartbeats 4000000 in
theorem walk_ok (s : ByteArray) (A : Option Addr) (c : Nat) (l : List UInt8) (w : World) (hs : s.size ≤ 100) (hl : l.length ≤ 1000) (hv : Bs w w.heap.size (.slice A l.length c) l) :
    Calls Try.prog 3 #[.string s, .slice A l.length c] w fun e w' => e = .returned (.bool true) ∧ Below w.heap.size w w' := by
  have hr := read_any s _ l w hv (by omega)
  have hbd := readR_bounds s.data.toList l (by simpa using hs)
  obtain ⟨⟨k, N, S, L⟩, hrr⟩ : ∃ r, r = readR s.data.toList l := ⟨_, rfl⟩
  have hr2 := fun W (h : Bs W W.heap.size (.slice A l.length c) l) => rread_any s _ l W h hl
  rw [← hrr] at hr hbd
  rw [← hrr] at hr2
  have HR := Lib.hid hr
  have HR2 := Lib.hid hr2
  have HV := Lib.hid hv
  have HSZ := Lib.hid hbd
  clear hr hr2 hv hbd hrr
  go_enter Try.func3, Try.ntmps3
  go_wp2_with fail
  refine HR.out.mono ?_
  intro e w1 hp
  obtain ⟨aN, aS, aL, cN, cS, cL, vs, rfl, hb1, hf⟩ := read_flds hp
  clear hp
  have hb12 := (Below.refl w1.heap.size w1).alloc (Nat.le_refl _) (.cells #[.slice aN N.length cN, .slice aS S.length cS, .slice aL L.length cL] 27)
  have HFA0 := Lib.hid (hf.below hb12)
  have hb02 := hb1.trans (hb12.mono hb1.size)
  have HP := Lib.hid (heap_alloc_new w1 (.cells #[.slice aN N.length cN, .slice aS S.length cS, .slice aL L.length cL] 27))
  have hrc := HR2.out _ (bs_up (HV.out.below hb02 (Nat.le_refl _)) hb02.size)
  have HRC := Lib.hid hrc
  have hz1 : w1.heap.size < (w1.alloc (.cells #[.slice aN N.length cN, .slice aS S.length cS, .slice aL L.length cL] 27)).heap.size := by simp
  clear hrc hf HR HR2 HV
  go_wp2_with fail
  refine HRC.out.mono ?_
  intro e w3 hp
  obtain ⟨bN, bS, bL, dN, dS, dL, us, rfl, hb3, hg⟩ := rread_flds hp
  clear hp
  have hb03 := hb02.trans (hb3.mono hb02.size)
  have HFA3 := Lib.hid (HFA0.out.below hb3)
  have HP3 := Lib.hid ((hb3.block w1.heap.size hz1).trans HP.out)
  have HG := Lib.hid hg
  clear hg hb12 hb02 hb1 hz1
  go_wp2_with fail
  obtain ⟨w5, hw5⟩ : ∃ w5, w5 = w3.alloc (.cells #[.slice bN N.length dN, .slice bS S.length dS, .slice bL L.length dL] 31) := ⟨_, rfl⟩
  have hb35 : Below w3.heap.size w3 w5 := by rw [hw5]; exact (Below.refl _ _).alloc (Nat.le_refl _) _
  have hb05 : Below w.heap.size w w5 := hb03.trans (hb35.mono hb03.size)
  have hp5 : w5.heap[w3.heap.size]? = some (.cells #[.slice bN N.length dN, .slice bS S.length dS, .slice bL L.length dL] 31 (0, 0)) := by rw [hw5]; exact heap_alloc_new w3 _
  have hpf : w5.heap[w1.heap.size]? = some (.cells #[.slice aN N.length cN, .slice aS S.length cS, .slice aL L.length cL] 27 (0, 0)) := (hb35.block _ (lt_of_block HP3.out)).trans HP3.out
  have HFA : Hid (∀ W, Below w5.heap.size w5 W → Flds W aN aS aL cN cS cL vs N S L) := fun W hW => (HFA3.out.below hb35).below hW
  have HFB : Hid (∀ W, Below w5.heap.size w5 W → Flds W bN bS bL dN dS dL us N S L) := fun W hW => (HG.out.below hb35).below hW
  have HK : Hid (∀ W, Below w5.heap.size w5 W → W.cell? ⟨w1.heap.size, 0, none⟩ = some (.slice aN N.length cN) ∧ W.cell? ⟨w1.heap.size, 1, none⟩ = some (.slice aS S.length cS) ∧ W.cell? ⟨w1.heap.size, 2, none⟩ = some (.slice aL L.length cL) ∧
      W.cell? ⟨w3.heap.size, 0, none⟩ = some (.slice bN N.length dN) ∧ W.cell? ⟨w3.heap.size, 1, none⟩ = some (.slice bS S.length dS) ∧ W.cell? ⟨w3.heap.size, 2, none⟩ = some (.slice bL L.length dL)) := fun W hW => by
    have e1 := (hW.block w1.heap.size (lt_of_block hpf)).trans hpf
    have e2 := (hW.block w3.heap.size (lt_of_block hp5)).trans hp5
    exact ⟨cell_of_row W _ 0 _ _ _ e1, cell_of_row W _ 1 _ _ _ e1, cell_of_row W _ 2 _ _ _ e1, cell_of_row W _ 0 _ _ _ e2, cell_of_row W _ 1 _ _ _ e2, cell_of_row W _ 2 _ _ _ e2⟩
  have HD : Hid (Below w5.heap.size w5 w5.drew) := (Below.refl _ _).drew
  rw [← hw5]
  clear hw5 hp5 hpf HP HP3 hb3 hb03 hb35 HFA0 HFA3 HG HRC
  go_region_held3 (fun W => W.cell? ⟨w1.heap.size, 0, none⟩ = some (.slice aN N.length cN) ∧ W.cell? ⟨w1.heap.size, 1, none⟩ = some (.slice aS S.length cS) ∧ W.cell? ⟨w1.heap.size, 2, none⟩ = some (.slice aL L.length cL) ∧
      W.cell? ⟨w3.heap.size, 0, none⟩ = some (.slice bN N.length dN) ∧ W.cell? ⟨w3.heap.size, 1, none⟩ = some (.slice bS S.length dS) ∧ W.cell? ⟨w3.heap.size, 2, none⟩ = some (.slice bL L.length dL))
    (first | exact HK.out _ hc8 | exact HK.out _ hc7 | exact HK.out _ hc6 | exact HK.out _ HD.out | go_keep)
    (first
      | (go_at_call 7; refine (back_any _ _ _ _ _ _ _ _ _ w5.drew).mono ?_; rintro e w6 ⟨rfl, hb6⟩; have hc6 := HD.out.trans hb6)
      | (go_at_call 6; refine (same_any aN aS aL bN bS bL cN cS cL dN dS dL vs us N S L w6 (HFA.out w6 hc6) (HFB.out w6 hc6) HSZ.out.1 HSZ.out.2.1 HSZ.out.2.2.1 HSZ.out.2.2.2).mono ?_; rintro e w7 ⟨rfl, hb7⟩; have hc7 := hc6.trans (hb7.mono hc6.size))
      | (go_at_call 8; refine (awake_any w7).mono ?_; rintro e w8 ⟨rfl, hb8⟩; have hc8 := hc7.trans (hb8.mono hc7.size))
      | fail)
  go_wp2
  go_ret
  exact ⟨rfl, hb05.trans (hc8.mono hb05.size)⟩
theorem own : ownKnob Try.prog.godebug = none := by kernel_rfl
theorem laidOut : laidOutB Try.prog = true := by kernel_rfl

/-- WHAT THE WALK IS TOLD OF A SLICE OF INTEGERS THAT CAME IN: it is nil; or it leads to a row of 'cap' cells, the numbers 'zs' (the first 'len' are its elements, the rest its spare room), each fitting its kind. -/
def IsRow (k : IntKind) (w : World) (a : Option Addr) (len cap : Nat) (zs : List Int) : Prop :=
  (a = none ∧ len = 0 ∧ cap = 0 ∧ zs = []) ∨
  ∃ x, a = some x ∧ len ≤ cap ∧ cap ≤ maxLen ∧ zs.length = cap ∧ (∀ i, i < zs.length → w.cell? (x.add i) = some (.int k (zs.getD i 0))) ∧ ∀ n ∈ zs, (Lit.int k n).wf = true

theorem walk (a0 : ByteArray) (a1 : Option Addr) (len1 cap1 : Nat) (z1 : List Int) (w : World) (w0 : a0.size ≤ maxLen) (w1 : IsRow .u8 w a1 len1 cap1 z1) :
    Calls Try.prog 3 #[.string a0, .slice a1 len1 cap1] w fun e w' => e = .returned (.bool true) ∧ Below w.heap.size w w' := by
  obtain ⟨l, hll, hbs⟩ := row_bs rfl w1
  subst hll
  by_cases h : 100 < a0.size ∨ 1000 < l.length
  · exact walk_big a0 _ _ l w h
  · exact walk_ok a0 _ _ l w (by omega) (by omega) hbs

set_option maxRecDepth 100000 in
theorem lifted (os : Os) (started : os.Started) (H : Type) (enc : TypeId × Value → H) :
    ReturnsInHanded {} Try.checked os 3 .any (Rows.fieldReadsSpec.pre6 enc Try.prog Try.f3 Rows.fieldReadsRow.domain false) (Rows.fieldReadsSpec.post enc Try.prog Try.f3 false true false false) := by
  refine returnsInHanded_of_change (C := Try.checked) own started (by kernel_rfl) Try.func3
    (ChangeSpec.witness6 (enc := enc) (C := Try.checked) false ⟨#[], #[.string ByteArray.empty, .slice none 0 0], []⟩ 8 (by kernel_rfl) (by kernel_rfl) (by kernel_rfl) (by kernel_rfl)) ?_
  intro W base args ds gs before hval0 hW hcnd _
  have hval : ∀ (j : Nat) t v, Try.f3.params[j]? = some t → args[j]? = some v → Value.okWide Try.prog W .any base t v := hval0
  have hW' := hW
  obtain ⟨p, q, hA0, hV, rfl, hfz, hnd⟩ := hW
  have hA : DataW.TrodAll enc Try.prog W 0 (fun _ => true) true Try.f3.params.toList args.toList ds p := hA0
  rw [Try.params3] at hA hval
  obtain ⟨v0, vs0, d0, ds0, p0, q0, hargs, rfl, rfl, h0, r0⟩ := trodAll_cons hA
  obtain ⟨v1, vs1, d1, ds1, p1, q1, rfl, rfl, rfl, h1, r1⟩ := trodAll_cons r0
  obtain ⟨rfl, rfl, rfl⟩ := trodAll_nil r1
  obtain rfl : args = #[v0, v1] := by cases args; simp_all
  obtain ⟨rfl, rfl⟩ := trodVars_none hV
  obtain ⟨a0, rfl, rfl, rfl, w0⟩ := open_string Try.underlying9 (hval 0 9 v0 rfl rfl) h0
  obtain ⟨a1, len1, cap1, rfl⟩ := okWide_slice Try.underlying22 (hval 1 22 v1 rfl rfl)
  have k1 := h1
  have lt1 : ∀ x ∈ p1, x.block < W.heap.size := by obtain ⟨m, hm⟩ := k1; exact DataW.trod_lt m _ _ _ hm
  obtain ⟨z1, w1⟩ : ∃ zs, IsRow .u8 W a1 len1 cap1 zs := by
    obtain ⟨fuel, hf⟩ := h1
    rcases open_ints Try.underlying22 Try.underlying5 (by kernel_rfl) hf with ⟨hcs, _⟩ | ⟨x, l, c, zs, hcs, _, hl, hm, hz, _, hcell, hwz⟩
    · simp [Value.cells] at hcs
      obtain ⟨rfl, rfl, rfl⟩ := hcs
      exact ⟨[], .inl ⟨rfl, rfl, rfl, rfl⟩⟩
    · simp [Value.cells] at hcs
      obtain ⟨rfl, rfl, rfl⟩ := hcs
      exact ⟨zs, .inr ⟨_, rfl, hl, hm, by simpa using hz, hcell, hwz⟩⟩
  clear hA0 hval0
  refine (walk a0 a1 len1 cap1 z1 W w0 w1).mono fun e W' ⟨he, bel⟩ => ?_
  subst he
  exact ⟨_, rfl, _, _, _, [], _, [], hW', trodAll_mk1 (shut_bool Try.underlying4 _), (trodAll_cons_mk (shut_string Try.underlying9 w0) (trodAll_cons_mk (Below.trod laidOut (by kernel_rfl) (of_decide_eq_true (by kernel_rfl)) k1 bel lt1) trodAll_mk0)), rfl, bel.frame _, fun h => by cases h⟩

theorem over : Rows.fieldReadsRow.holds Try.pinned (OpenSpec.ofChange Rows.fieldReadsSpec) :=
  OpenClaim.holds_of_wide 3 Try.f3 rfl rfl rfl rfl rfl rfl rfl ⟨rfl, rfl, rfl, rfl, rfl⟩ rfl rfl rfl rfl rfl (by kernel_rfl) Try.func3 (by kernel_rfl)
    (of_decide_eq_true (by kernel_rfl)) (by unfold Func.isWrapper; first | (rw [if_pos (by decide +kernel)]; kernel_rfl) | (rw [if_neg (by decide +kernel)]; exact ⟨rfl, rfl⟩))
    (fun os started H enc _ => lifted os started H enc)

theorem proved : Rows.FieldReadsSaid := over
#print axioms proved
end Go.Proofs.Ytkhhbmbjmfdgdaa.fieldReads
