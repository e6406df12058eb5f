/- Verb: VerbOnly's walk. -/
import Derived.Test.YtkhhbmbjmfdgdaaDoorVB
namespace Go.Proofs.YtkhhbmbjmfdgdaaDoor
open Go.RowKit Go.ChangeShapes
set_option maxRecDepth 20000

theorem dec_kind (l : List UInt8) : (decR l).2.1 ≤ 255 := by
  rcases l with _ | ⟨c, l⟩
  · simp [decR]
  · have := c.toNat_lt
    unfold decR
    by_cases hs : sideP (c.toNat : Int) = 0
    · simp [hs]
    · simp only [hs, if_false]
      by_cases h0 : (readR (entP (c.toNat : Int)).2.data.toList l).1 = 0
      · simp only [h0, if_true]
        omega
      · simp [h0]

set_option maxHeartbeats 4000000 in
theorem vonly_walk (A : Option Addr) (c : Nat) (l : List UInt8) (w : World) (he : Ents w) (hv : Bs w w.heap.size (.slice A l.length c) l) :
    Calls Tryd.prog 7 #[.slice A l.length c] w fun e w' => e = .returned (.bool true) ∧ Below w.heap.size w w' := by
  by_cases h12 : 1200 < l.length
  · clear he hv
    go_enter Tryd.func7, Tryd.ntmps7
    go_wp2
    go_ret
    exact ⟨rfl, Below.refl _ _⟩
  have hdc := decode_any _ l w he hv (by omega)
  have hkl := dec_kind l
  obtain ⟨⟨er, k, N, S, L⟩, hr⟩ : ∃ r, r = decR l := ⟨_, rfl⟩
  rw [← hr] at hdc hkl
  simp only at hkl
  have HDC := Lib.hid hdc
  have HV := Lib.hid hv
  have HE := Lib.hid he
  have HAW := Lib.hid (fun W h => vawake W h)
  have hl12 : l.length ≤ 1200 := by omega
  by_cases h0 : er = 0
  · subst h0
    have hen : encR (k : Int) N S L = (l, 0) := by
      have := enc_dec (l := l) (by rw [← hr])
      rw [← hr] at this
      exact this
    have HN := Lib.hid hen
    clear hdc hv he hr hen h12
    go_enter Tryd.func7, Tryd.ntmps7
    go_wp2_with fail
    refine HDC.out.mono ?_
    intro e w1 hp
    obtain ⟨bN, bS, bL, dN, dS, dL, us, rfl, hb1, hg⟩ := dec_flds hp
    clear hp
    obtain ⟨w2, hw2⟩ : ∃ w2, w2 = w1.alloc (.cells #[.int .i64 (k : Int), .slice bN N.length dN, .slice bS S.length dS, .slice bL L.length dL] 48) := ⟨_, rfl⟩
    have hb12 : Below w1.heap.size w1 w2 := by rw [hw2]; exact (Below.refl _ _).alloc (Nat.le_refl _) _
    have hb02 := hb1.trans (hb12.mono hb1.size)
    have hp2 : w2.heap[w1.heap.size]? = some (.cells #[.int .i64 (k : Int), .slice bN N.length dN, .slice bS S.length dS, .slice bL L.length dL] 48 (0, 0)) := by rw [hw2]; exact heap_alloc_new w1 _
    have e0 := cell_of_row w2 w1.heap.size 0 _ _ _ hp2
    have e1 := cell_of_row w2 w1.heap.size 1 _ _ _ hp2
    have e2 := cell_of_row w2 w1.heap.size 2 _ _ _ hp2
    have e3 := cell_of_row w2 w1.heap.size 3 _ _ _ hp2
    simp at e0 e1 e2 e3
    have hen := encode_any (k : Int) N S L us bN bS bL dN dS dL w2 (HE.out.keep hb02) (by omega) (by omega) (hg.below hb12)
    rw [HN.out] at hen
    have HEN := Lib.hid hen
    have H2 := Lib.hid hw2
    clear hen hg hw2 hp2 hb12 hb1
    go_upto_region 4 with (fail)
    rw [← H2.out]
    go_wp2_with fail
    refine HEN.out.mono ?_
    rintro e w3 ⟨A3, c3, rfl, o3, _, hb3⟩
    have hb03 := hb02.trans (hb3.mono hb02.size)
    obtain ⟨s0, hs0⟩ : ∃ s0 : ByteArray, s0 = ⟨l.toArray⟩ := ⟨_, rfl⟩
    have k1 := conv_bs (Bs.of_own o3)
    have k2 := conv_bs (HV.out.below hb03 (Nat.le_refl _))
    rw [← hs0] at k1 k2
    have q1 : (s0.toList == s0.toList) = true := beq_self_eq_true _
    clear o3 hs0 hb3 e0 e1 e2 e3
    go_wp2_with fail
    refine (HAW.out _ (HE.out.keep hb03)).mono ?_
    rintro e w4 ⟨rfl, hb4⟩
    go_wp2
    go_ret
    exact ⟨rfl, hb03.trans (hb4.mono hb03.size)⟩
  · have hne := dec_err (l := l) (by rw [← hr]; exact h0)
    rw [← hr] at hne
    simp only [Prod.mk.injEq] at hne
    obtain ⟨rfl, rfl, rfl, rfl⟩ := hne
    have t0 : ((er : Int) != 0) = true := by simp; omega
    clear hdc hv he hr h12 h0
    go_enter Tryd.func7, Tryd.ntmps7
    go_wp2_with fail
    refine HDC.out.mono ?_
    intro e w1 hp
    obtain ⟨bN, bS, bL, dN, dS, dL, us, rfl, hb1, hg⟩ := dec_flds hp
    clear hp hg
    have hb02 := hb1.alloc hb1.size (.cells #[.int .i64 0, .slice bN 0 dN, .slice bS 0 dS, .slice bL 0 dL] 48)
    go_wp2_with fail
    refine (HAW.out _ (HE.out.keep hb02)).mono ?_
    rintro e w4 ⟨rfl, hb4⟩
    go_wp2
    go_ret
    exact ⟨rfl, hb02.trans (hb4.mono hb02.size)⟩
end Go.Proofs.YtkhhbmbjmfdgdaaDoor
