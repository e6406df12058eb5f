/- Verb: rows put behind rows; Make, Encode. -/
import Derived.Test.YtkhhbmbjmfdgdaaDoorV4
import Derived.Laws.OwnMore
namespace Go.Proofs.YtkhhbmbjmfdgdaaDoor
open Go.RowKit
set_option maxRecDepth 20000

/-- A row that reads as ys put behind a row of the call's own (elements of one cell). -/
theorem run_append_rd (w : World) (base B ty t e bytes : Nat) (z : Value) (i : TypeInfo) (ht : Tryd.prog.underlying t = some (.slice e)) (hi : Tryd.prog.info? e = some i) (hz0 : i.zero = some z) (hz1 : i.size = 1) (hz2 : i.bytes = bytes) (hzs : z.cells.size = 1)
    (v : Value) (xs ys : List Value) (A : Option Addr) (c m : Nat) (hm : m = ys.length) (hown : w.ownsRow base e 1 v xs.length xs) (hy : Rd w B A ys) (h1 : ∀ u ∈ ys, u.oneCell' = true) (hlen : xs.length + m ≤ maxLen) (hbytes : (xs.length + m) * bytes ≤ 140737488355328) (hbase : base ≤ w.heap.size) :
    ∃ v' w', (Builtin.append_ #[t, t] ty #[v, .slice A m c]).run Tryd.prog w = .ok v' w' ∧ w'.ownsRow base e 1 v' (xs ++ ys).length (xs ++ ys) ∧ w.grownBy w' v.ownBlock := by
  subst hm
  rcases A with _ | ad
  · have hl0 : ys = [] := by
      rcases ys with _ | ⟨y, l⟩
      · rfl
      · obtain ⟨b, o, hA, _⟩ := hy (by simp)
        cases hA
    subst hl0
    refine ⟨v, w, ?_, by simpa using hown, World.grownBy.refl w _⟩
    rcases hown.2 with ⟨rfl, _⟩ | ⟨g, cap, cur, rfl, _, _, hnc, _⟩
    · simp [Builtin.append_, run_underlying ht, sizeOf, typeInfo, hi, Builtin.lenOf, Builtin.firstCells]
    · simp [Builtin.append_, run_underlying ht, sizeOf, typeInfo, hi, Builtin.lenOf, Builtin.firstCells, hnc, storeCells]
  · obtain ⟨v', w', hrun, h2, h3, _⟩ := run_append_own (P := Tryd.prog) w base t ty e i z 1 bytes ht hi hz0 hz1 hz2 hzs (by decide) v xs.length xs hown ad ys.length c ys (by simp) hy.add h1 hlen hbytes hbase
    exact ⟨v', w', hrun, by simpa using h2, h3⟩

theorem wpList_append_rd {w : World} {ops : Array Oper} {rest : List Oper} {o : Oper} {a : Act} {Q : Exit → Act → World → Prop} (hgd : o.guard = none) (s x : Operand) (t e bytes : Nat) (z : Value) (i : TypeInfo)
    (ho : o.op = .call { callee := .builtin .append, args := #[s, x], argTypes := #[t, t] })
    (ht : Tryd.prog.underlying t = some (.slice e)) (hi : Tryd.prog.info? e = some i) (hz0 : i.zero = some z) (hz1 : i.size = 1) (hz2 : i.bytes = bytes) (hzs : z.cells.size = 1)
    (base B : Nat) (v : Value) (xs ys : List Value) (A : Option Addr) (c m n : Nat) (hs : a.eval s = v) (hx : a.eval x = .slice A m c) (hm : m = ys.length) (hn : n = (xs ++ ys).length)
    (hown : w.ownsRow base e 1 v xs.length xs) (hy : Rd w B A ys) (h1 : ∀ u ∈ ys, u.oneCell' = true) (hlen : xs.length + m ≤ maxLen) (hbytes : (xs.length + m) * bytes ≤ 140737488355328) (hbase : base ≤ w.heap.size)
    (h : ∀ A' c' w', w'.ownsRow base e 1 (.slice A' n c') n (xs ++ ys) → w.grownBy w' v.ownBlock → wpList Tryd.prog ops Q rest (a.put o.dst (.slice A' n c')) w') : wpList Tryd.prog ops Q (o :: rest) a w := by
  refine wpList_plain hgd fun K hK => ?_
  obtain ⟨v', w', hr, h2, h3⟩ := run_append_rd w base B o.type t e bytes z i ht hi hz0 hz1 hz2 hzs v xs ys A c m hm hown hy h1 hlen hbytes hbase
  rw [← hn] at h2
  obtain ⟨A', c', rfl, _⟩ := own_rd h2
  unfold Oper.wp execOp
  simp only [ho, resolve, invoke, builtin, Sem.run_bind, Sem.run_pure, Result.andThen_ok, List.map_toArray, List.map_cons, List.map_nil, hs, hx, hr]
  exact hK _ _ (h A' c' w' h2 h3)

theorem uv_one (k : IntKind) (N : List Nat) : ∀ u ∈ uv k N, u.oneCell' = true := by
  intro u hu
  simp only [uv, List.mem_map] at hu
  obtain ⟨n, _, rfl⟩ := hu
  rfl

theorem uv_len (k : IntKind) (N : List Nat) : (uv k N).length = N.length := by simp [uv]
theorem bv_len (l : List UInt8) : (bv l).length = l.length := by simp [bv]

theorem own_far {w : World} {base size n b i : Nat} {e : TypeId} {v u : Value} {xs : List Value} (h : w.ownsRow base e size v n xs) (hb : b < base) : (w.setCell ⟨b, i, none⟩ u).ownsRow base e size v n xs := by
  refine h.kept (grown_setCell w b i u) ?_
  rcases hv : v.ownBlock with _ | k
  · exact .inl rfl
  · refine .inr fun e => ?_
    have := (h.lt k hv).1
    injection e with e
    omega

set_option maxHeartbeats 2000000 in
theorem make_any (k : Int) (A : Option Addr) (c : Nat) (N : List Nat) (B : Nat) (w : World) (hr : Rd w B A (uv .u64 N)) (hB : B ≤ w.heap.size) (hl : N.length ≤ 1000000) :
    Calls Tryd.prog 27 #[.int .i64 k, .slice A N.length c] w fun e w' => ∃ A' c', e = .returned (.agg #[.int .i64 k, .slice A' N.length c', .slice none 0 0, .slice none 0 0]) ∧
      w'.ownsRow w.heap.size 66 1 (.slice A' N.length c') N.length (uv .u64 N) ∧ Below w.heap.size w w' := by
  obtain ⟨w2, hw2⟩ : ∃ w2, w2 = (w.alloc (.cells #[.int .i64 0, .slice none 0 0, .slice none 0 0, .slice none 0 0] 48)).alloc (.cells #[.int .i64 k, .slice none 0 0, .slice none 0 0, .slice none 0 0] 48) := ⟨_, rfl⟩
  obtain ⟨i0, hi, hz0, hz1, hz2⟩ := info_parts Tryd.info66
  have hb2 : Below w.heap.size w w2 := by rw [hw2]; exact ((Below.refl _ _).alloc (Nat.le_refl _) _).alloc (by simp) _
  have hp1 : w2.heap[w.heap.size]? = some (.cells #[.int .i64 0, .slice none 0 0, .slice none 0 0, .slice none 0 0] 48 (0, 0)) := by
    rw [hw2]; exact (Below.heap_alloc _ _ _ (by simp)).trans (heap_alloc_new w _)
  have hp2 : w2.heap[w.heap.size + 1]? = some (.cells #[.int .i64 k, .slice none 0 0, .slice none 0 0, .slice none 0 0] 48 (0, 0)) := by
    have := heap_alloc_new (w.alloc (.cells #[.int .i64 0, .slice none 0 0, .slice none 0 0, .slice none 0 0] 48)) (.cells #[.int .i64 k, .slice none 0 0, .slice none 0 0, .slice none 0 0] 48)
    rw [hw2]
    rwa [World.size_alloc] at this
  have hm63 : (0 : Nat) + N.length ≤ maxLen := by unfold maxLen; omega
  have hr2 := (hr.below hb2 hB)
  have HR := Lib.hid hr2
  have HP1 := Lib.hid hp1
  have HP2 := Lib.hid hp2
  have HB2 := Lib.hid hb2
  have H2 := Lib.hid hw2
  clear hr hr2 hp1 hp2 hb2 hw2
  go_enter Tryd.func27, Tryd.ntmps27
  go_wp2_with (at_builtin; rw [← H2.out]; refine wpList_append_rd rfl (.tmp 10) (.tmp 11) 34 66 8 (.int .u64 0) i0 rfl Tryd.underlying34 hi hz0 hz1 hz2 rfl w2.heap.size B (.slice none 0 0) [] (uv .u64 N) A c N.length N.length rfl rfl (uv_len _ _).symm (by simp [uv_len]) (World.ownsRow_nil _ _ _ _) HR.out (uv_one _ _) hm63 (by simp; omega) (Nat.le_refl _) ?_; intro A' c' w3 hown3 hg3; have q2 := (hg3.block _ (lt_of_block HP2.out) (by simp [Value.ownBlock])).trans HP2.out; have q1 := (hg3.block _ (lt_of_block HP1.out) (by simp [Value.ownBlock])).trans HP1.out; have d1 : ∀ i, w3.frozen? ⟨w.heap.size, i, none⟩ = false := (fun i => frozen_of_row w3 _ i _ _ q1); have d2 : ∀ i, w3.frozen? ⟨w.heap.size + 1, i, none⟩ = false := (fun i => frozen_of_row w3 _ i _ _ q2); have e0 := cell_of_row w3 (w.heap.size + 1) 0 _ _ _ q2; have e1 := cell_of_row w3 (w.heap.size + 1) 1 _ _ _ q2; have e2 := cell_of_row w3 (w.heap.size + 1) 2 _ _ _ q2; have e3 := cell_of_row w3 (w.heap.size + 1) 3 _ _ _ q2; have c0 := cell_of_row w3 w.heap.size 0 _ _ _ q1; have c1 := cell_of_row w3 w.heap.size 1 _ _ _ q1; have c2 := cell_of_row w3 w.heap.size 2 _ _ _ q1; have c3 := cell_of_row w3 w.heap.size 3 _ _ _ q1; clear q1 q2; simp at c0 c1 c2 c3 e0 e1 e2 e3)
  have hbw := HB2.out.grown hg3 HB2.out.size (by simp [Value.ownBlock])
  have hz2 : w.heap.size + 1 < w2.heap.size := lt_of_block HP2.out
  have ho := own_far (own_far (own_far (own_far (own_far (b := w.heap.size + 1) (i := 1) (u := .slice A' N.length c') hown3 hz2) (b := w.heap.size) (i := 0) (u := .int .i64 k) (by omega)) (b := w.heap.size) (i := 1) (u := .slice A' N.length c') (by omega)) (b := w.heap.size) (i := 2) (u := .slice none 0 0) (by omega)) (b := w.heap.size) (i := 3) (u := .slice none 0 0) (by omega)
  exact bodyPost_ret (v := .agg #[.int .i64 k, .slice A' N.length c', .slice none 0 0, .slice none 0 0]) (by simp [results, Tryd.results27, go_sem, c0, c1, c2, c3]) rfl ⟨A', c', rfl, own_mono ho (by omega), (((((hbw.setCell (by simp) _).setCell (by simp) _).setCell (by simp) _).setCell (by simp) _).setCell (by simp) _)⟩

/-- What Encode hands back. -/
def encR (k : Int) (N : List Nat) (S : List ByteArray) (L : List (List Nat)) : List UInt8 × Nat :=
  if sideP k = 0 then ([], 5)
  else if (writeR (entP k).2.data.toList N S L).2 = 0 then (UInt8.ofNat k.toNat :: (writeR (entP k).2.data.toList N S L).1, 0)
  else ([], (writeR (entP k).2.data.toList N S L).2)
def EncPost (w : World) (r : List UInt8 × Nat) (e : Ending) (w' : World) : Prop :=
  ∃ A c, e = .returned (.tuple #[.slice A r.1.length c, .int .i64 (r.2 : Int)]) ∧ w'.ownsRow w.heap.size 5 1 (.slice A r.1.length c) r.1.length (bv r.1) ∧ r.1.length ≤ 8801 ∧ Below w.heap.size w w'

set_option maxHeartbeats 2000000 in
theorem encode_any (k : Int) (N : List Nat) (S : List ByteArray) (L : List (List Nat)) (vs : List Value) (aN aS aL : Option Addr) (cN cS cL : Nat) (w : World) (he : Ents w) (hk1 : -9223372036854775808 ≤ k) (hk2 : k ≤ 9223372036854775807)
    (hf : Flds w aN aS aL cN cS cL vs N S L) :
    Calls Tryd.prog 19 #[.agg #[.int .i64 k, .slice aN N.length cN, .slice aS S.length cS, .slice aL L.length cL]] w (EncPost w (encR k N S L)) := by
  have hb0 := (Below.refl w.heap.size w).alloc (Nat.le_refl _) (.cells #[.int .i64 k, .slice aN N.length cN, .slice aS S.length cS, .slice aL L.length cL] 48)
  have hp0 := heap_alloc_new w (.cells #[.int .i64 k, .slice aN N.length cN, .slice aS S.length cS, .slice aL L.length cL] 48)
  have hsh := shape_any k _ (he.keep hb0) hk1 hk2
  by_cases hs : sideP k = 0
  · have e1 : encR k N S L = ([], 5) := by unfold encR; rw [if_pos hs]
    rw [e1]
    have t : (sideP k != 0) = false := by simp [hs]
    rw [t] at hsh
    have HS := Lib.hid hsh
    clear hsh hs e1 t hp0 hf he
    go_enter Tryd.func19, Tryd.ntmps19
    go_wp2_with fail
    refine HS.out.mono ?_
    rintro e w1 ⟨rfl, hb1⟩
    go_wp2
    go_ret2
    exact ⟨none, 0, rfl, World.ownsRow_nil _ _ _ _, by simp, hb0.trans (hb1.mono (by simp))⟩
  · have t : (sideP k != 0) = true := by simp [hs]
    rw [t] at hsh
    have hkr : ¬ (k < 1 ∨ 198 < k) := fun h => hs (side_out k h)
    obtain ⟨n, rfl⟩ : ∃ n : Nat, k = n := ⟨k.toNat, by omega⟩
    obtain ⟨sh, hsh1⟩ : ∃ sh, sh = (entP (n : Int)).2 := ⟨_, rfl⟩
    obtain ⟨r, hr⟩ : ∃ r, r = writeR sh.data.toList N S L := ⟨_, rfl⟩
    have e1 : encR n N S L = if r.2 = 0 then (UInt8.ofNat n :: r.1, 0) else ([], r.2) := by
      unfold encR
      rw [if_neg hs, ← hsh1, ← hr]
      rfl
    rw [e1]
    obtain ⟨res, hres⟩ : ∃ res, res = (if r.2 = 0 then (UInt8.ofNat n :: r.1, 0) else ([], r.2)) := ⟨_, rfl⟩
    rw [← hres]
    have HRES := Lib.hid hres
    rw [← hsh1] at hsh
    have HS := Lib.hid hsh
    have HP := Lib.hid hp0
    have HF := Lib.hid hf
    have HR := Lib.hid hr
    have hn8 : n ≤ 198 := by omega
    have hw8 : IntKind.u8.wrap (n : Int) = (n : Int) := by unfold IntKind.wrap; simp [IntKind.signed, IntKind.bits]; omega
    clear hsh hs e1 t hp0 hf he hkr hk1 hk2 hsh1 hr hres
    go_enter Tryd.func19, Tryd.ntmps19
    go_wp2_with fail
    refine HS.out.mono ?_
    rintro e w1 ⟨rfl, hb1⟩
    have hp1 := (hb1.block w.heap.size (by simp)).trans HP.out
    have hb01 := hb0.trans (hb1.mono (by simp))
    have g1 := cell_of_row w1 w.heap.size 1 _ _ _ hp1
    have g2 := cell_of_row w1 w.heap.size 2 _ _ _ hp1
    have g3 := cell_of_row w1 w.heap.size 3 _ _ _ hp1
    simp at g1 g2 g3
    have hwr := (HF.out.below hb01).write sh
    rw [← HR.out] at hwr
    have HW := Lib.hid hwr
    have HP1 := Lib.hid hp1
    clear hwr hp1 hb1 hb0
    go_wp2_with fail
    refine HW.out.mono ?_
    rintro e w2 ⟨v2, rfl, hown, hl2, hb2⟩
    obtain ⟨A2, c2, rfl, hrd2, _, _⟩ := own_rd hown
    have hb02 := hb01.trans (hb2.mono hb01.size)
    have hp2 := (hb2.block w.heap.size (lt_of_block HP1.out)).trans HP1.out
    have g0 := cell_of_row w2 w.heap.size 0 _ _ _ hp2
    simp at g0
    have HRD := Lib.hid hrd2
    clear g1 g2 g3 hown hb2 hb01 HP1 hp2 hrd2
    by_cases hr0 : r.2 = 0
    · have HX := Lib.hid (HRES.out.trans (if_pos hr0))
      have t0 : (((r.2 : Nat) : Int) != 0) = false := by simp [hr0]
      obtain ⟨i0, hi, hz0, hz1, hz2⟩ := info_parts Tryd.info5
      have hba : Below w2.heap.size w2 (w2.alloc (.cells #[.int .u8 (n : Int)] 5)) := (Below.refl _ _).alloc (Nat.le_refl _) _
      have HRA := Lib.hid (HRD.out.below hba (Nat.le_refl _))
      have hol := World.ownsRow_lit (base := w2.heap.size) (e := 5) (size := 1) w2 #[.int .u8 (n : Int)] 1 (Nat.le_refl _) (by unfold maxLen; omega) (by simp)
      have HOL := Lib.hid hol
      have hm63 : 1 + r.1.length ≤ maxLen := by unfold maxLen; omega
      have hm47 : (1 + r.1.length) * 1 ≤ 140737488355328 := by omega
      clear hol hba hr0
      go_wp2_with (at_builtin; refine wpList_append_rd rfl (.tmp 29) (.tmp 30) 42 5 1 (.int .u8 0) i0 rfl Tryd.underlying42 hi hz0 hz1 hz2 rfl w2.heap.size w2.heap.size (.slice (some ⟨w2.heap.size, 0, none⟩) 1 1) [.int .u8 (n : Int)] (bv r.1) A2 c2 r.1.length (UInt8.ofNat n :: r.1).length rfl rfl (bv_len _).symm (by simp [bv_len]) HOL.out HRA.out (bv_one _) hm63 hm47 (by simp) ?_; intro A' c' w3 hown3 hg3)
      have hb3 := (hb02.alloc hb02.size (.cells #[.int .u8 (n : Int)] 5)).grown hg3 (Nat.le_trans hb02.size (by simp)) (fun k hk => by simp [Value.ownBlock] at hk; have := hb02.size; omega)
      have ho : w3.ownsRow w.heap.size 5 1 (.slice A' (UInt8.ofNat n :: r.1).length c') (UInt8.ofNat n :: r.1).length (bv (UInt8.ofNat n :: r.1)) := by
        have e : bv (UInt8.ofNat n :: r.1) = [.int .u8 (n : Int)] ++ bv r.1 := by simp [bv]; omega
        rw [e]
        exact own_mono hown3 hb02.size
      clear hown3
      go_wp2
      go_ret2
      rw [HX.out]
      exact ⟨A', c', rfl, ho, by simp; omega, hb3⟩
    · have HX := Lib.hid (HRES.out.trans (if_neg hr0))
      have t0 : (((r.2 : Nat) : Int) != 0) = true := by simp; omega
      clear g0 hr0
      go_wp2
      go_ret2
      rw [HX.out]
      exact ⟨none, 0, rfl, World.ownsRow_nil _ _ _ _, by simp, hb02⟩
end Go.Proofs.YtkhhbmbjmfdgdaaDoor
