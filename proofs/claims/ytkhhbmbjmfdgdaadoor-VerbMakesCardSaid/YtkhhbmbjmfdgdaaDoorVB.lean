/- Verb: a message handed over; messages that are alike; a message argument opened; what is encoded is decoded, and the other way round. -/
import Derived.Test.YtkhhbmbjmfdgdaaDoorV8
import Derived.Lib.SmallJoins
import Derived.Deep.RegionHeld3
namespace Go.Proofs.YtkhhbmbjmfdgdaaDoor
open Go.RowKit Go.ChangeShapes
open Go.Joins
set_option maxRecDepth 20000

set_option maxHeartbeats 1000000 in
theorem msg_any (k : Int) (a1 a2 a3 : Option Addr) (n1 n2 n3 c1 c2 c3 : Nat) (w : World) :
    Calls Tryd.prog 20 #[.agg #[.int .i64 k, .slice a1 n1 c1, .slice a2 n2 c2, .slice a3 n3 c3]] w fun e w' => e = .returned (.agg #[.int .i64 k, .slice a1 n1 c1, .slice a2 n2 c2, .slice a3 n3 c3]) ∧ Below w.heap.size w w' := by
  have hb := ((Below.refl w.heap.size w).alloc (Nat.le_refl _) (.cells #[.int .i64 k, .slice a1 n1 c1, .slice a2 n2 c2, .slice a3 n3 c3] 40)).alloc (by simp)
  go_enter Tryd.func20, Tryd.ntmps20
  go_wp2
  exact bodyPost_ret (v := .agg #[.int .i64 k, .slice a1 n1 c1, .slice a2 n2 c2, .slice a3 n3 c3]) (by simp [results, Tryd.results20, go_sem]) rfl ⟨rfl, hb _⟩

set_option maxHeartbeats 1000000 in
theorem mback_any (k : Int) (a1 a2 a3 : Option Addr) (n1 n2 n3 c1 c2 c3 : Nat) (w : World) :
    Calls Tryd.prog 25 #[.agg #[.int .i64 k, .slice a1 n1 c1, .slice a2 n2 c2, .slice a3 n3 c3]] w fun e w' => e = .returned (.agg #[.int .i64 k, .slice a1 n1 c1, .slice a2 n2 c2, .slice a3 n3 c3]) ∧ Below w.heap.size w w' := by
  have hb := ((Below.refl w.heap.size w).alloc (Nat.le_refl _) (.cells #[.int .i64 k, .slice a1 n1 c1, .slice a2 n2 c2, .slice a3 n3 c3] 48)).alloc (by simp)
  go_enter Tryd.func25, Tryd.ntmps25
  go_wp2
  exact bodyPost_ret (v := .agg #[.int .i64 k, .slice a1 n1 c1, .slice a2 n2 c2, .slice a3 n3 c3]) (by simp [results, Tryd.results25, go_sem]) rfl ⟨rfl, hb _⟩

set_option maxHeartbeats 1000000 in
theorem msame_any (k : Int) (aN aS aL bN bS bL : Option Addr) (cN cS cL dN dS dL : Nat) (vs us : List Value) (N : List Nat) (S : List ByteArray) (L : List (List Nat)) (w : World)
    (hA : Flds w aN aS aL cN cS cL vs N S L) (hB : Flds w bN bS bL dN dS dL us N S L) (hN : N.length ≤ 1000) (hS : S.length ≤ 1000) (hL : L.length ≤ 1000) (hu : ∀ u ∈ L, u.length ≤ 1000) :
    Calls Tryd.prog 24 #[.agg #[.int .i64 k, .slice aN N.length cN, .slice aS S.length cS, .slice aL L.length cL], .agg #[.int .i64 k, .slice bN N.length dN, .slice bS S.length dS, .slice bL L.length dL]] w fun e w' => e = .returned (.bool true) ∧ Below w.heap.size w w' := by
  have hb := ((Below.refl w.heap.size w).alloc (Nat.le_refl _) (.cells #[.int .i64 k, .slice aN N.length cN, .slice aS S.length cS, .slice aL L.length cL] 40)).alloc (by simp) (.cells #[.int .i64 k, .slice bN N.length dN, .slice bS S.length dS, .slice bL L.length dL] 40)
  have hsm := same_any aN aS aL bN bS bL cN cS cL dN dS dL vs us N S L _ (hA.below hb) (hB.below hb) hN hS hL hu
  have HSM := Lib.hid hsm
  have q1 : ((k : Int) == k) = true := beq_self_eq_true _
  clear hsm hA hB hu
  go_enter Tryd.func24, Tryd.ntmps24
  go_wp2_with fail
  refine HSM.out.mono ?_
  rintro e w1 ⟨rfl, hb1⟩
  go_wp2
  go_ret
  exact ⟨rfl, hb.trans (hb1.mono (by simp; omega))⟩

/-- A message that came in. -/
theorem open_msg {H : Type} {enc : TypeId × Value → H} {W : World} {r : Reach} {b0 : Nat} {v : Value} {d : DataW H} {p : List MemPlace} (hv : Value.okWide Tryd.prog W r b0 40 v) (h : DataW.Trod enc Tryd.prog W 0 (fun _ => true) true 40 v d p) :
    ∃ (x : Int) (aN : Option Addr) (cN : Nat) (N : List Nat) (aS : Option Addr) (cS : Nat) (S : List ByteArray) (aL : Option Addr) (cL : Nat) (L : List (List Nat)) (vs : List Value),
      v = .agg #[.int .i64 x, .slice aN N.length cN, .slice aS S.length cS, .slice aL L.length cL] ∧ (-9223372036854775808 ≤ x ∧ x ≤ 9223372036854775807) ∧
      Rd W W.heap.size aN (uv .u64 N) ∧ N.length ≤ cN ∧ N.length ≤ 9223372036854775807 ∧ (∀ n ∈ N, n < 18446744073709551616) ∧
      Rd W W.heap.size aS (sv S) ∧ S.length ≤ cS ∧ S.length ≤ 9223372036854775807 ∧
      Rd W W.heap.size aL vs ∧ Lss W W.heap.size vs L ∧ L.length ≤ cL ∧ L.length ≤ 9223372036854775807 ∧ (∀ u ∈ L, ∀ n ∈ u, n < 4294967296) := by
  obtain ⟨cs, rfl, hsz⟩ := WideShapes.okWide_struct Tryd.underlying40 hv
  obtain ⟨c0, c1, c2, c3, rfl⟩ := array4 (hsz.trans (show Tryd.prog.cellsOf 40 = 4 by kernel_rfl))
  obtain ⟨fuel, hf⟩ := h
  obtain ⟨y0, y1, n, _, _, h0, h1⟩ := trod_struct2 Tryd.underlying40 hf
  have e3 : Tryd.prog.cellsOf 3 = 1 := by kernel_rfl
  have e38 : Tryd.prog.cellsOf 38 = 3 := by kernel_rfl
  have e34 : Tryd.prog.cellsOf 34 = 1 := by kernel_rfl
  have e35 : Tryd.prog.cellsOf 35 = 1 := by kernel_rfl
  have e36 : Tryd.prog.cellsOf 36 = 1 := by kernel_rfl
  have g0 : DataW.trod enc Tryd.prog W 0 (fun _ => true) true n 3 [c0] = some y0 := by simpa [Value.cells, e3] using h0
  have g1 : DataW.trod enc Tryd.prog W 0 (fun _ => true) true n 38 [c1, c2, c3] = some y1 := by simpa [Value.cells, e38] using h1
  obtain ⟨x, hx, _, hw⟩ := DataW.trod_int Tryd.underlying3 g0
  obtain ⟨z0, z1, z2, m, _, _, f0, f1, f2⟩ := Deep.trod_struct3 Tryd.underlying38 g1
  have k0 : DataW.trod enc Tryd.prog W 0 (fun _ => true) true m 34 [c1] = some z0 := by simpa [e34] using f0
  have k1 : DataW.trod enc Tryd.prog W 0 (fun _ => true) true m 35 [c2] = some z1 := by simpa [e35] using f1
  have k2 : DataW.trod enc Tryd.prog W 0 (fun _ => true) true m 36 [c3] = some z2 := by simpa [e36] using f2
  obtain ⟨aN, cN, N, rfl, rN, lN, bN, xN⟩ := open_N k0
  obtain ⟨aS, cS, S, rfl, rS, lS, bS⟩ := open_S k1
  obtain ⟨aL, cL, L, vs, rfl, rL, ls, lL, bL, xL⟩ := open_L k2
  simp only [List.cons.injEq, and_true] at hx
  subst hx
  exact ⟨x, aN, cN, N, aS, cS, S, aL, cL, L, vs, rfl, bounds_i64 hw, rN, lN, bN, xN, rS, lS, bS, rL, ls, lL, bL, xL⟩

/-- What is encoded is decoded. -/
theorem dec_enc {k : Int} {N : List Nat} {S : List ByteArray} {L : List (List Nat)} {b : List UInt8} (h : encR k N S L = (b, 0)) (hu : ∀ u ∈ L, ∀ n ∈ u, n < 4294967296) : ∃ m : Nat, k = m ∧ decR b = (0, m, N, S, L) := by
  unfold encR at h
  split at h
  · simp at h
  · rename_i hs
    split at h
    · rename_i h0
      simp at h
      subst h
      have hkr : ¬ (k < 1 ∨ 198 < k) := fun hh => hs (side_out k hh)
      obtain ⟨n, rfl⟩ : ∃ n : Nat, k = n := ⟨k.toNat, by omega⟩
      refine ⟨n, rfl, ?_⟩
      have hw : writeR (entP (n : Int)).2.data.toList N S L = ((writeR (entP (n : Int)).2.data.toList N S L).1, 0) := by rw [← h0]
      have hr := (read_write _ _ _ _ _ hw hu).1
      have hn : (UInt8.ofNat n).toNat = n := by simp; omega
      show (if sideP ((UInt8.ofNat n).toNat : Int) = 0 then _ else _) = _
      simp only [Int.toNat_natCast, hn]
      rw [if_neg hs, hr]
      simp
    · rename_i h0
      simp at h
      exact absurd h.2 h0

/-- What is decoded is encoded. -/
theorem enc_dec {l : List UInt8} (h : (decR l).1 = 0) : encR ((decR l).2.1 : Int) (decR l).2.2.1 (decR l).2.2.2.1 (decR l).2.2.2.2 = (l, 0) := by
  rcases l with _ | ⟨c, l⟩
  · simp [decR] at h
  · unfold decR at h ⊢
    by_cases hs : sideP (c.toNat : Int) = 0
    · simp [hs] at h
    · simp only [hs, if_false] at h ⊢
      by_cases h0 : (readR (entP (c.toNat : Int)).2.data.toList l).1 = 0
      · simp only [h0, if_true] at h ⊢
        have hw := write_read (entP (c.toNat : Int)).2.data.toList l h0
        unfold encR
        rw [if_neg hs, hw]
        simp
      · simp only [h0, if_false] at h

theorem dec_err {l : List UInt8} (h : (decR l).1 ≠ 0) : (decR l).2 = (0, [], [], []) := by
  rcases l with _ | ⟨c, l⟩
  · rfl
  · unfold decR at h ⊢
    by_cases hs : sideP (c.toNat : Int) = 0
    · simp [hs]
    · simp only [hs, if_false] at h ⊢
      by_cases h0 : (readR (entP (c.toNat : Int)).2.data.toList l).1 = 0
      · simp [h0] at h
      · simp [h0]

theorem enc_err {k : Int} {N : List Nat} {S : List ByteArray} {L : List (List Nat)} (h : (encR k N S L).2 ≠ 0) : (encR k N S L).1 = [] := by
  unfold encR at h ⊢
  split
  · rfl
  · rename_i hs
    rw [if_neg hs] at h
    split
    · rename_i h0
      simp [h0] at h
    · rfl
end Go.Proofs.YtkhhbmbjmfdgdaaDoor
