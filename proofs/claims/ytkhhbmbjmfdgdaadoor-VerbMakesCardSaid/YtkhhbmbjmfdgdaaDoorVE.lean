/- Verb: the document's own Encode. -/
import Derived.Test.YtkhhbmbjmfdgdaaDoorVB
import Derived.Test.YtkhhbmbjmfdgdaaDoorC4
namespace Go.Proofs.YtkhhbmbjmfdgdaaDoor
open Go.RowKit
set_option maxRecDepth 20000

theorem ents_short : ∀ i : Fin 199, (entP (i.1 : Int)).2.size ≤ 100 := by decide +kernel
theorem ent_short (k : Int) : (entP k).2.size ≤ 100 := by
  by_cases h : k < 1 ∨ 198 < k
  · rw [ent_out k h]
    decide
  · obtain ⟨n, rfl⟩ : ∃ n : Nat, k = n := ⟨k.toNat, by omega⟩
    exact ents_short ⟨n, by omega⟩

set_option maxHeartbeats 2000000 in
theorem rencode_any (k : Int) (N : List Nat) (S : List ByteArray) (L : List (List Nat)) (vs : List Value) (aN aS aL : Option Addr) (cN cS cL : Nat) (w : World) (hf : Flds w aN aS aL cN cS cL vs N S L) :
    Calls Tryd.prog 21 #[.agg #[.int .i64 k, .slice aN N.length cN, .slice aS S.length cS, .slice aL L.length cL]] w (EncPost w (encR k N S L)) := by
  have hb0 := (Below.refl w.heap.size w).alloc (Nat.le_refl _) (.cells #[.int .i64 k, .slice aN N.length cN, .slice aS S.length cS, .slice aL L.length cL] 40)
  have hp0 := heap_alloc_new w (.cells #[.int .i64 k, .slice aN N.length cN, .slice aS S.length cS, .slice aL L.length cL] 40)
  have hfn := find_any k (w.alloc (.cells #[.int .i64 k, .slice aN N.length cN, .slice aS S.length cS, .slice aL L.length cL] 40))
  unfold FindPost at hfn
  obtain ⟨e1, e2, _⟩ := find_eq k
  rw [e1, e2] at hfn
  obtain ⟨kk, hkk⟩ : ∃ kk, kk = (rowD (findR k)).1 := ⟨_, rfl⟩
  rw [← hkk] at hfn
  obtain ⟨nm, hnm⟩ : ∃ nm, nm = (entP k).1 := ⟨_, rfl⟩
  rw [← hnm] at hfn
  by_cases hs : sideP k = 0
  · have e1 : encR k N S L = ([], 5) := by unfold encR; rw [if_pos hs]
    rw [e1]
    have t : (sideP k != 0) = false := by simp [hs]
    rw [t] at hfn
    obtain ⟨sh, hsh⟩ : ∃ sh, sh = (entP k).2 := ⟨_, rfl⟩
    rw [← hsh] at hfn
    have HS := Lib.hid hfn
    clear hfn hs e1 t hp0 hf hkk hnm hsh e2
    go_enter Tryd.func21, Tryd.ntmps21
    go_wp2_with fail
    refine HS.out.mono ?_
    rintro e w1 ⟨rfl, hb1⟩
    go_wp2
    go_ret2
    exact ⟨none, 0, rfl, World.ownsRow_nil _ _ _ _, by simp, (hb0.trans (hb1.mono (by simp))).alloc (hb0.trans (hb1.mono (by simp))).size _⟩
  · have t : (sideP k != 0) = true := by simp [hs]
    rw [t] at hfn
    have hkr : ¬ (k < 1 ∨ 198 < k) := fun h => hs (side_out k h)
    obtain ⟨n, rfl⟩ : ∃ n : Nat, k = n := ⟨k.toNat, by omega⟩
    obtain ⟨sh, hsh1⟩ : ∃ sh, sh = (entP (n : Int)).2 := ⟨_, rfl⟩
    obtain ⟨r, hr⟩ : ∃ r, r = writeR sh.data.toList N S L := ⟨_, rfl⟩
    have e1 : encR n N S L = if r.2 = 0 then (UInt8.ofNat n :: r.1, 0) else ([], r.2) := by
      unfold encR
      rw [if_neg hs, ← hsh1, ← hr]
      rfl
    rw [e1]
    have hsz : sh.size ≤ 100 := by rw [hsh1]; exact ent_short _
    have HSZ := Lib.hid hsz
    clear hsz
    obtain ⟨res, hres⟩ : ∃ res, res = (if r.2 = 0 then (UInt8.ofNat n :: r.1, 0) else ([], r.2)) := ⟨_, rfl⟩
    rw [← hres]
    have HRES := Lib.hid hres
    rw [← hsh1] at hfn
    have HS := Lib.hid hfn
    have HP := Lib.hid hp0
    have HF := Lib.hid hf
    have HR := Lib.hid hr
    have hn8 : n ≤ 198 := by omega
    have hw8 : IntKind.u8.wrap (n : Int) = (n : Int) := by unfold IntKind.wrap; simp [IntKind.signed, IntKind.bits]; omega
    clear hfn hs e1 e2 t hp0 hf hkr hsh1 hr hres hkk hnm
    go_enter Tryd.func21, Tryd.ntmps21
    go_wp2_with fail
    refine HS.out.mono ?_
    rintro e w1 ⟨rfl, hb1⟩
    have hp1 := (hb1.block w.heap.size (by simp)).trans HP.out
    have hb01 := hb0.trans (hb1.mono (by simp))
    obtain ⟨w2, hw2⟩ : ∃ w2, w2 = w1.alloc (.cells #[.int .i64 (kk : Int), .string nm, .string sh] 23) := ⟨_, rfl⟩
    have hb12 : Below w1.heap.size w1 w2 := by rw [hw2]; exact (Below.refl _ _).alloc (Nat.le_refl _) _
    have hb02 := hb01.trans (hb12.mono hb01.size)
    have hp2 := (hb12.block w.heap.size (lt_of_block hp1)).trans hp1
    have hq2 : w2.heap[w1.heap.size]? = some (.cells #[.int .i64 (kk : Int), .string nm, .string sh] 23 (0, 0)) := by rw [hw2]; exact heap_alloc_new w1 _
    have g1 := cell_of_row w2 w.heap.size 1 _ _ _ hp2
    have g2 := cell_of_row w2 w.heap.size 2 _ _ _ hp2
    have g3 := cell_of_row w2 w.heap.size 3 _ _ _ hp2
    have d2 := cell_of_row w2 w1.heap.size 2 _ _ _ hq2
    simp at g1 g2 g3 d2
    have hwr := rwrite_any sh N S L vs aN aS aL cN cS cL w2 HSZ.out (HF.out.below hb02)
    rw [← HR.out] at hwr
    have HW := Lib.hid hwr
    have HP1 := Lib.hid hp2
    have H2 := Lib.hid hw2
    clear hwr hp1 hp2 hq2 hb1 hb0 hb12 hw2 hb01
    go_upto_region 2 with (fail)
    rw [← H2.out]
    go_wp2_with fail
    refine HW.out.mono ?_
    rintro e w3 ⟨v2, rfl, hown, hl2, hb2⟩
    obtain ⟨A2, c2, rfl, hrd2, _, _⟩ := own_rd hown
    have hb03 := hb02.trans (hb2.mono hb02.size)
    have hp3 := (hb2.block w.heap.size (lt_of_block HP1.out)).trans HP1.out
    have g0 := cell_of_row w3 w.heap.size 0 _ _ _ hp3
    simp at g0
    have HRD := Lib.hid hrd2
    clear g1 g2 g3 d2 hown hb2 hb02 HP1 hp3 hrd2
    by_cases hr0 : r.2 = 0
    · have HX := Lib.hid (HRES.out.trans (if_pos hr0))
      have t0 : (((r.2 : Nat) : Int) != 0) = false := by simp [hr0]
      obtain ⟨i0, hi, hz0, hz1, hz2⟩ := info_parts Tryd.info5
      have hba : Below w3.heap.size w3 (w3.alloc (.cells #[.int .u8 (n : Int)] 5)) := (Below.refl _ _).alloc (Nat.le_refl _) _
      have HRA := Lib.hid (HRD.out.below hba (Nat.le_refl _))
      have hol := World.ownsRow_lit (base := w3.heap.size) (e := 5) (size := 1) w3 #[.int .u8 (n : Int)] 1 (Nat.le_refl _) (by unfold maxLen; omega) (by simp)
      have HOL := Lib.hid hol
      have hm63 : 1 + r.1.length ≤ maxLen := by unfold maxLen; omega
      have hm47 : (1 + r.1.length) * 1 ≤ 140737488355328 := by omega
      clear hol hba hr0
      go_wp2_with (at_builtin; refine wpList_append_rd rfl (.tmp 30) (.tmp 31) 42 5 1 (.int .u8 0) i0 rfl Tryd.underlying42 hi hz0 hz1 hz2 rfl w3.heap.size w3.heap.size (.slice (some ⟨w3.heap.size, 0, none⟩) 1 1) [.int .u8 (n : Int)] (bv r.1) A2 c2 r.1.length (UInt8.ofNat n :: r.1).length rfl rfl (bv_len _).symm (by simp [bv_len]) HOL.out HRA.out (bv_one _) hm63 hm47 (by simp) ?_; intro A' c' w4 hown4 hg4)
      have hb4 := (hb03.alloc hb03.size (.cells #[.int .u8 (n : Int)] 5)).grown hg4 (Nat.le_trans hb03.size (by simp)) (fun k hk => by simp [Value.ownBlock] at hk; have := hb03.size; omega)
      have ho : w4.ownsRow w.heap.size 5 1 (.slice A' (UInt8.ofNat n :: r.1).length c') (UInt8.ofNat n :: r.1).length (bv (UInt8.ofNat n :: r.1)) := by
        have e : bv (UInt8.ofNat n :: r.1) = [.int .u8 (n : Int)] ++ bv r.1 := by simp [bv]; omega
        rw [e]
        exact own_mono hown4 hb03.size
      clear hown4
      go_wp2
      go_ret2
      rw [HX.out]
      exact ⟨A', c', rfl, ho, by simp; omega, hb4⟩
    · have HX := Lib.hid (HRES.out.trans (if_neg hr0))
      have t0 : (((r.2 : Nat) : Int) != 0) = true := by simp; omega
      clear g0 hr0
      go_wp2
      go_ret2
      rw [HX.out]
      exact ⟨none, 0, rfl, World.ownsRow_nil _ _ _ _, by simp, hb03⟩
end Go.Proofs.YtkhhbmbjmfdgdaaDoor
