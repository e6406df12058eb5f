/- Session: Conn, Idle. -/
import Derived.Test.YtfgabmjnpjmmgaaSA
namespace Go.Proofs.Ytfgabmjnpjmmgaa
open Go.RowKit
set_option maxRecDepth 20000
set_option linter.unusedVariables false
set_option linter.unusedSimpArgs false

theorem wpList_append_u32 {w : World} {ops : Array Oper} {rest : List Oper} {op : Oper} {a : Act} {Q : Exit → Act → World → Prop} (hgd : op.guard = none) (s x : Operand)
    (ho : op.op = .call { callee := .builtin .append, args := #[s, x], argTypes := #[45, 45] }) (base G : Nat) (v : Value) (m : Nat) (xs : List Value) (y : Nat) (hs : a.eval s = v) (hx : a.eval x = .slice (some ⟨G, 0, none⟩) 1 1)
    (hown : w.ownsRow base 28 1 v m xs) (hG : w.heap[G]? = some (.cells #[.int .u32 (y : Int)] 28 (0, 0))) (hm : m ≤ 1000) (hbase : base ≤ w.heap.size)
    (h : ∀ v' w', w'.ownsRow base 28 1 v' (m + 1) (xs ++ [.int .u32 (y : Int)]) → w.grownBy w' v.ownBlock → wpList Try.prog ops Q rest (a.put op.dst v') w') : wpList Try.prog ops Q (op :: rest) a w := by
  refine wpList_plain hgd fun K hK => ?_
  obtain ⟨i0, hi, hz0, hz1, hz2⟩ := info_parts info28
  obtain ⟨v', w', hr, h2, h3, _⟩ := run_append_own (P := Try.prog) w base 45 op.type 28 i0 _ 1 _ Try.underlying45 hi hz0 hz1 hz2 rfl (by decide) v m xs hown ⟨G, 0, none⟩ 1 1 [.int .u32 (y : Int)] rfl (fun j u hu => by
    have := cell_of_row w G j _ _ _ hG
    rw [show (#[.int .u32 (y : Int)] : Array Value) = ([.int .u32 (y : Int)] : List Value).toArray from rfl, List.getElem?_toArray, hu] at this
    rw [← this, Go.WideShapes.add_plain, Nat.zero_add]) (by
    intro u hu
    simp only [List.mem_cons, List.not_mem_nil, or_false] at hu
    rw [hu]
    rfl) (by unfold maxLen; omega) (by omega) hbase
  unfold Oper.wp execOp
  simp only [ho, resolve, invoke, builtin, Sem.run_bind, Sem.run_pure, Result.andThen_ok, List.map_toArray, List.map_cons, List.map_nil, hs, hx, hr]
  exact hK _ _ (h v' w' h2 h3)
/-- Where a player is logged in. -/
def connQ (pl : Int) : List (Nat × Mk) → Nat
  | [] => 0
  | z :: l => if z.2.2 = pl then z.1 else connQ pl l
theorem connQ_at (pl : Int) : ∀ (l : List (Nat × Mk)) (k : Nat) (z : Nat × Mk), l[k]? = some z → z.2.2 = pl → (∀ x ∈ l.take k, x.2.2 ≠ pl) → connQ pl l = z.1
  | [], k, z, h, _, _ => by simp at h
  | a :: l, 0, z, h, hz, _ => by
    simp at h
    subst h
    simp [connQ, hz]
  | a :: l, k + 1, z, h, hz, hp => by
    have h1 : a.2.2 ≠ pl := hp a (by simp)
    rw [connQ, if_neg h1]
    exact connQ_at pl l k z (by simpa using h) hz fun x hx => hp x (by simp [hx])
theorem connQ_none (pl : Int) : ∀ (l : List (Nat × Mk)), (∀ x ∈ l, x.2.2 ≠ pl) → connQ pl l = 0
  | [], _ => rfl
  | a :: l, h => by
    rw [connQ, if_neg (h a (by simp))]
    exact connQ_none pl l fun x hx => h x (by simp [hx])
/-- Which are idle. -/
def idleQ (idle now : Int) (l : List (Nat × Mk)) : List Nat := (l.filter fun z => decide (addP z.2.1 idle ≤ now)).map (·.1)
theorem idleQ_snoc (idle now : Int) (l : List (Nat × Mk)) (k : Nat) (z : Nat × Mk) (h : l[k]? = some z) : idleQ idle now (l.take (k + 1)) = idleQ idle now (l.take k) ++ if addP z.2.1 idle ≤ now then [z.1] else [] := by
  rw [List.take_add_one, h]
  simp only [idleQ, Option.toList, List.filter_append, List.map_append]
  congr 1
  by_cases hc : addP z.2.1 idle ≤ now <;> simp [hc]
theorem idleQ_len (idle now : Int) (l : List (Nat × Mk)) : (idleQ idle now l).length ≤ l.length := by
  unfold idleQ
  rw [List.length_map]
  exact List.length_filter_le _ _
theorem up_same {ids : List Nat} (hu : Up ids) {p k x : Nat} (hp : ids[p]? = some x) (hk : ids[k]? = some x) : p = k := by
  rcases Nat.lt_trichotomy p k with h | h | h
  · have := hu p k x x h hp hk; omega
  · exact h
  · have := hu k p x x h hk hp; omega
theorem zip_at {ids : List Nat} {ths : List Mk} (hl : ths.length = ids.length) {k : Nat} (hk : k < ids.length) : ∃ x y, ids[k]? = some x ∧ ths[k]? = some y ∧ (ids.zip ths)[k]? = some (x, y) := by
  refine ⟨ids[k], ths[k]'(by omega), List.getElem?_eq_getElem hk, List.getElem?_eq_getElem _, ?_⟩
  rw [List.getElem?_zip_eq_some]
  exact ⟨List.getElem?_eq_getElem hk, List.getElem?_eq_getElem _⟩
theorem Tb.facts {w : World} {B T : Nat} {idle most : Int} {ids : List Nat} {ths : List Mk} (h : Tb w B T idle most ids ths) : ths.length = ids.length ∧ Up ids ∧ ∀ x ∈ ids, 1 ≤ x ∧ x ≤ 2147483647 := by
  obtain ⟨-, R, vi, vt, -, -, h4⟩ := h
  exact ⟨h4.len, h4.up, h4.ok⟩

set_option maxHeartbeats 4000000 in
theorem conn_any (B T : Nat) (idle most : Int) (ids : List Nat) (ths : List Mk) (pl : Int) (w : World) (h : Tb w B T idle most ids ths) (hl : ids.length ≤ 1000) (hpl : ¬ pl = 0) :
    Calls Try.prog 20 #[.pointer (some ⟨T, 0, none⟩), .int .u32 pl] w fun r w' => r = .returned (.int .u32 (connQ pl (ids.zip ths) : Nat)) ∧ Below w.heap.size w w' := by
  obtain ⟨hlen, hup, -⟩ := h.facts
  have HC := Lib.hid (conns_any B T idle most ids ths w h hl)
  have HT := Lib.hid h
  have HL := Lib.hid hl
  have HLEN := Lib.hid hlen
  have HUP := Lib.hid hup
  obtain ⟨n, hn⟩ : ∃ n, n = ids.length := ⟨_, rfl⟩
  have HN := Lib.hid hn
  rw [← hn] at hl
  clear h hlen hup hn
  have hpb : (pl == 0) = false := by simp [hpl]
  go_enter Try.func20, Try.ntmps20
  go_wp2_with fail
  refine HC.out.mono ?_
  rintro r w1 ⟨v', rfl, ho, hb1⟩
  obtain ⟨A, c, rfl, hS⟩ := S32.of_own ho
  have HS := Lib.hid hS
  have HB1 := Lib.hid hb1
  have HBr : Hid (Below w1.heap.size w1 w1) := Below.refl _ _
  rw [← HN.out]
  clear ho hS hb1
  go_wp2_with fail
  go_loopw [12] (fun u wr => ∃ k : Nat, k ≤ n ∧ u = .int .i64 (k : Int) ∧ Hid ((∀ x ∈ (ids.zip ths).take k, x.2.2 ≠ pl) ∧ Below w1.heap.size w1 wr)) (fun u _ => n - (intOf u).toNat)
  case atStart => exact ⟨0, by omega, rfl, by simp, HBr.out⟩
  case round =>
    obtain ⟨k, hk, rfl, HV⟩ := hrel
    by_cases hlt : k < n
    · obtain ⟨x, y, hx, hy, hz⟩ := zip_at HLEN.out (k := k) (by rw [← HN.out]; exact hlt)
      obtain ⟨b, o, rfl, hbs, hat⟩ := HS.out (by have := HN.out; omega)
      have hcell : wr.cell? ⟨b, o + k, none⟩ = some (.int .u32 (x : Int)) := (HV.out.2.cell (p := ⟨b, _, none⟩) hbs).trans (hat k x hx)
      have HBW : Hid (Below w.heap.size w wr) := HB1.out.trans (HV.out.2.mono HB1.out.size)
      obtain ⟨y1, y2⟩ := y
      have HP : Hid (Calls Try.prog 21 #[.pointer (some ⟨T, 0, none⟩), .int .u32 (x : Int)] wr fun r w' => r = .returned (.int .u32 y2) ∧ Below wr.heap.size wr w') :=
        (player_there B T idle most ids ths x wr (HT.out.after HBW.out) HL.out (List.mem_of_getElem? hx)).mono fun r w' ⟨⟨p, z1, z2, hp1, hp2, e⟩, hb⟩ => by
          obtain rfl := up_same HUP.out hp1 hx
          rw [hy] at hp2
          injection hp2 with hp2
          injection hp2 with e1 e2
          subst e1 e2
          exact ⟨e, hb⟩
      have HZ := Lib.hid hz
      clear hx hy hz hat hbs
      go_wp2_with fail
      refine HP.out.mono ?_
      rintro r w2 ⟨rfl, hb2⟩
      have HB2 : Hid (Below w1.heap.size w1 w2) := HV.out.2.trans (hb2.mono HV.out.2.size)
      clear hb2
      by_cases he : y2 = pl
      · subst he
        have HF : Hid (connQ y2 (ids.zip ths) = x) := connQ_at y2 _ k _ HZ.out rfl HV.out.1
        go_wp2
        go_ret
        exact ⟨by rw [HF.out]; rfl, HB1.out.trans (HB2.out.mono HB1.out.size)⟩
      · have heb : (y2 == pl) = false := by simp [he]
        go_wp2
        go_roundw
        case rel =>
          refine ⟨k + 1, by omega, by go_num, fun z hz => ?_, HB2.out⟩
          rw [List.take_add_one, HZ.out] at hz
          rcases List.mem_append.1 hz with h | h
          · exact HV.out.1 z h
          · simp at h
            subst h
            exact he
        case measure => simp [intOf] <;> omega
    · have hkn : k = n := by omega
      subst hkn
      have HF : Hid (connQ pl (ids.zip ths) = 0) := by
        have h := HV.out.1
        rw [List.take_of_length_le (by rw [List.length_zip, HLEN.out, ← HN.out]; omega)] at h
        exact connQ_none _ _ h
      go_wp2
      go_ret
      exact ⟨by rw [HF.out]; rfl, HB1.out.trans (HV.out.2.mono HB1.out.size)⟩

set_option maxHeartbeats 4000000 in
theorem idle_any (B T : Nat) (idle most : Int) (ids : List Nat) (ths : List Mk) (now : Int) (w : World) (h : Tb w B T idle most ids ths) (hl : ids.length ≤ 900) (hi : idle ≤ 9223372036854775807) (hy64 : ∀ y ∈ ths, -9223372036854775808 ≤ y.1 ∧ y.1 ≤ 9223372036854775807) :
    Calls Try.prog 24 #[.pointer (some ⟨T, 0, none⟩), .int .i64 now] w fun r w' => ∃ v', r = .returned v' ∧ w'.ownsRow w.heap.size 28 1 v' (idleQ idle now (ids.zip ths)).length (un (idleQ idle now (ids.zip ths))) ∧ Below w.heap.size w w' := by
  obtain ⟨hlen, hup, -⟩ := h.facts
  have HC := Lib.hid (conns_any B T idle most ids ths w h (by omega))
  have HT := Lib.hid h
  have HL := Lib.hid hl
  have HLEN := Lib.hid hlen
  have HUP := Lib.hid hup
  have H64 := Lib.hid hy64
  have HI := Lib.hid hi
  obtain ⟨n, hn⟩ : ∃ n, n = ids.length := ⟨_, rfl⟩
  have HN := Lib.hid hn
  have HCT : Hid (∀ W, Below w.heap.size w W → W.cell? ⟨T, 1, none⟩ = some (.int .i64 idle)) := fun W hW => by
    obtain ⟨-, R, vi, vt, -, h3, -⟩ := h.after hW
    exact cell_of_row W T 1 _ _ _ h3
  rw [← hn] at hl
  clear h hlen hup hn hy64 hi
  go_enter Try.func24, Try.ntmps24
  go_wp2_with fail
  refine HC.out.mono ?_
  rintro r w1 ⟨v', rfl, ho, hb1⟩
  obtain ⟨A, c, rfl, hS⟩ := S32.of_own ho
  have HS := Lib.hid hS
  have HB1 := Lib.hid hb1
  have HBr : Hid (Below w1.heap.size w1 w1) := Below.refl _ _
  rw [← HN.out]
  clear ho hS hb1
  go_wp2_with fail
  go_loopw [5, 13] (fun o u wr => ∃ (k m : Nat), k ≤ n ∧ m ≤ k ∧ u = .int .i64 (k : Int) ∧ Hid (m = (idleQ idle now ((ids.zip ths).take k)).length ∧ wr.ownsRow w1.heap.size 28 1 o m (un (idleQ idle now ((ids.zip ths).take k))) ∧ Below w1.heap.size w1 wr)) (fun _ u _ => n - (intOf u).toNat)
  case atStart => exact ⟨0, 0, by omega, by omega, rfl, rfl, World.ownsRow_nil w1 _ 28 1, HBr.out⟩
  case round =>
    obtain ⟨k, m, hk, hm, rfl, HV⟩ := hrel
    obtain ⟨O, co, rfl⟩ := own_form1 HV.out.2.1
    by_cases hlt : k < n
    · obtain ⟨x, y, hx, hy, hz⟩ := zip_at HLEN.out (k := k) (by rw [← HN.out]; exact hlt)
      obtain ⟨b, o, rfl, hbs, hat⟩ := HS.out (by have := HN.out; omega)
      have hcell : wr.cell? ⟨b, o + k, none⟩ = some (.int .u32 (x : Int)) := (HV.out.2.2.cell (p := ⟨b, _, none⟩) hbs).trans (hat k x hx)
      have HBW : Hid (Below w.heap.size w wr) := HB1.out.trans (HV.out.2.2.mono HB1.out.size)
      have hyb := H64.out y (List.mem_of_getElem? hy)
      have HSN := Lib.hid (idleQ_snoc idle now (ids.zip ths) k _ hz)
      obtain ⟨y1, y2⟩ := y
      simp only at hyb HSN
      have HP : Hid (Calls Try.prog 29 #[.pointer (some ⟨T, 0, none⟩), .int .u32 (x : Int)] wr fun r w' => r = .returned (.tuple #[mV y1 y2, .bool true]) ∧ Below wr.heap.size wr w') :=
        (at_there B T idle most ids ths x wr (HT.out.after HBW.out) (by have := HL.out; omega) (List.mem_of_getElem? hx)).mono fun r w' ⟨⟨p, z1, z2, hp1, hp2, e⟩, hb⟩ => by
          obtain rfl := up_same HUP.out hp1 hx
          rw [hy] at hp2
          injection hp2 with hp2
          injection hp2 with e1 e2
          subst e1 e2
          exact ⟨e, hb⟩
      obtain ⟨ad, had⟩ : ∃ ad, ad = addP y1 idle := ⟨_, rfl⟩
      have HAD : Hid (∀ W, Calls Try.prog 41 #[.int .i64 y1, .int .i64 idle] W fun r w' => r = .returned (.int .i64 ad) ∧ Below W.heap.size W w') := fun W => (add_any y1 idle W hyb.1 hyb.2 HI.out).mono fun r w' h => ⟨by rw [h.1, had], by rw [h.2]; exact Below.refl _ _⟩
      rw [← had] at HSN
      clear hx hy hz hat hbs hyb had
      go_wp2_with fail
      refine HP.out.mono ?_
      rintro r w2 ⟨rfl, hb2⟩
      obtain ⟨Z, hZ⟩ : ∃ Z, Z = w2.heap.size := ⟨_, rfl⟩
      obtain ⟨w3, hw3⟩ : ∃ w3, w3 = w2.alloc (.cells (mC y1 y2) 55) := ⟨_, rfl⟩
      have hb3 : Below w2.heap.size w2 w3 := by rw [hw3]; exact (Below.refl _ _).alloc (Nat.le_refl _) _
      have hq3 : w3.heap[Z]? = some (.cells (mC y1 y2) 55 (0, 0)) := by rw [hw3, hZ]; exact heap_alloc_new w2 _
      have HB23 : Hid (Below wr.heap.size wr w3) := hb2.trans (hb3.mono hb2.size)
      have HB3 : Hid (Below w1.heap.size w1 w3) := HV.out.2.2.trans (HB23.out.mono HV.out.2.2.size)
      have HO3 : Hid (w3.ownsRow w1.heap.size 28 1 (.slice O m co) m (un (idleQ idle now ((ids.zip ths).take k)))) := own_after HV.out.2.1 fun g hg => HB23.out.block g (ownlt HV.out.2.1 g hg).2
      have HCF : Hid (∀ W, Below w3.heap.size w3 W → W.cell? ⟨Z, 0, none⟩ = some (.int .i64 y1) ∧ W.cell? ⟨T, 1, none⟩ = some (.int .i64 idle)) := fun W hW => ⟨cell_of_row W Z 0 _ _ _ ((hW.block Z (lt_of_block hq3)).trans hq3), HCT.out W (HB1.out.trans ((HB3.out.trans (hW.mono HB3.out.size)).mono HB1.out.size))⟩
      have HB33 : Hid (Below w3.heap.size w3 w3) := Below.refl _ _
      have H3 := Lib.hid hw3
      have HZZ := Lib.hid hZ
      clear hb2 hb3 hq3 hw3 hZ hcell
      go_upto_region 6 with (fail)
      rw [← H3.out, ← HZZ.out]
      clear H3 HZZ
      by_cases hdue : ad ≤ now
      · have HQ : Hid (idleQ idle now ((ids.zip ths).take (k + 1)) = idleQ idle now ((ids.zip ths).take k) ++ [x]) := by have := HSN.out; rw [if_pos hdue] at this; exact this
        have HDp : Hid (Below w3.heap.size w3 w3.drew) := HB33.out.drew
        refine wp_region_held_drew (S := fun W : World => W.cell? ⟨Z, 0, none⟩ = some (.int .i64 y1) ∧ W.cell? ⟨T, 1, none⟩ = some (.int .i64 idle)) (by kernel_rfl) (HCF.out _ (HDp.out)) (fun hHeld => ?_)
        obtain ⟨Wp0, hW0⟩ : ∃ W0, W0 = w3.drew := ⟨_, rfl⟩
        rw [← hW0] at hHeld HDp ⊢
        clear hW0
        refine wpAnyH_take (i := 0) (oi := ?oi0p) (v := ?v0p) ?hi0p ?hs0p ?hf0p ?hr0p ?hQ0p ?hy0p ?hS0p ?h0p
        case hi0p => exact (by simp only [List.getElem?_toArray, List.getElem?_cons_zero]; rfl)
        case hs0p => kernel_rfl
        case hf0p => kernel_rfl
        case hr0p => kernel_rfl
        case hQ0p => exact fun _ _ _ h => h
        case hy0p =>
          refine Or.inl ⟨rfl, ?_⟩
          intro W hSw
          obtain ⟨y0, y9⟩ := hSw
          go_simp
          try with_reducible rfl
        case hS0p => assumption
        try simp only [Act.put, List.setIfInBounds_toArray, List.set_cons_zero, List.set_cons_succ]
        refine wpAnyH_take (i := 1) (oi := ?oi1p) (v := ?v1p) ?hi1p ?hs1p ?hf1p ?hr1p ?hQ1p ?hy1p ?hS1p ?h1p
        case hi1p => exact (by simp only [List.getElem?_toArray, List.getElem?_cons_succ, List.getElem?_cons_zero]; rfl)
        case hs1p => kernel_rfl
        case hf1p => kernel_rfl
        case hr1p => kernel_rfl
        case hQ1p => exact fun _ _ _ h => h
        case hy1p =>
          refine Or.inl ⟨rfl, ?_⟩
          intro W hSw
          obtain ⟨y0, y9⟩ := hSw
          go_simp
          try with_reducible rfl
        case hS1p => assumption
        try simp only [Act.put, List.setIfInBounds_toArray, List.set_cons_zero, List.set_cons_succ]
        refine wpAnyH_take (i := 2) (oi := ?oi2p) (v := ?v2p) ?hi2p ?hs2p ?hf2p ?hr2p ?hQ2p ?hy2p ?hS2p ?h2p
        case hi2p => exact (by simp only [List.getElem?_toArray, List.getElem?_cons_succ, List.getElem?_cons_zero]; rfl)
        case hs2p => kernel_rfl
        case hf2p => kernel_rfl
        case hr2p => kernel_rfl
        case hQ2p => exact fun _ _ _ h => h
        case hy2p =>
          refine Or.inl ⟨rfl, ?_⟩
          intro W hSw
          obtain ⟨y0, y9⟩ := hSw
          go_simp
          try with_reducible rfl
        case hS2p => assumption
        try simp only [Act.put, List.setIfInBounds_toArray, List.set_cons_zero, List.set_cons_succ]
        refine wpAnyH_take (i := 3) (oi := ?oi3p) (v := ?v3p) ?hi3p ?hs3p ?hf3p ?hr3p ?hQ3p ?hy3p ?hS3p ?h3p
        case hi3p => exact (by simp only [List.getElem?_toArray, List.getElem?_cons_succ, List.getElem?_cons_zero]; rfl)
        case hs3p => kernel_rfl
        case hf3p => kernel_rfl
        case hr3p => kernel_rfl
        case hQ3p => exact fun _ _ _ h => h
        case hy3p =>
          refine Or.inl ⟨rfl, ?_⟩
          intro W hSw
          obtain ⟨y0, y9⟩ := hSw
          go_simp
          try with_reducible rfl
        case hS3p => assumption
        try simp only [Act.put, List.setIfInBounds_toArray, List.set_cons_zero, List.set_cons_succ]
        refine wpAnyH_take (i := 4) (oi := ?oi4p) (v := ?v4p) ?hi4p ?hs4p ?hf4p ?hr4p ?hQ4p ?hy4p ?hS4p ?h4p
        case hi4p => exact (by simp only [List.getElem?_toArray, List.getElem?_cons_succ, List.getElem?_cons_zero]; rfl)
        case hs4p => kernel_rfl
        case hf4p => kernel_rfl
        case hr4p => kernel_rfl
        case hQ4p => exact fun _ _ _ h => h
        case hy4p =>
          refine Or.inl ⟨rfl, ?_⟩
          intro W hSw
          obtain ⟨y0, y9⟩ := hSw
          go_simp
          try with_reducible rfl
        case hS4p => assumption
        try simp only [Act.put, List.setIfInBounds_toArray, List.set_cons_zero, List.set_cons_succ]
        refine wpAnyH_take (i := 5) (oi := ?oi5p) (v := ?v5p) ?hi5p ?hs5p ?hf5p ?hr5p ?hQ5p ?hy5p ?hS5p ?h5p
        case hi5p => exact (by simp only [List.getElem?_toArray, List.getElem?_cons_succ, List.getElem?_cons_zero]; rfl)
        case hs5p => kernel_rfl
        case hf5p => kernel_rfl
        case hr5p => kernel_rfl
        case hQ5p => exact fun _ _ _ h => h
        case hy5p =>
          refine Or.inl ⟨rfl, ?_⟩
          intro W hSw
          obtain ⟨y0, y9⟩ := hSw
          go_simp
          try with_reducible rfl
        case hS5p => assumption
        try simp only [Act.put, List.setIfInBounds_toArray, List.set_cons_zero, List.set_cons_succ]
        refine wpAnyH_take (i := 6) (oi := ?oi6p) (v := ?v6p) ?hi6p ?hs6p ?hf6p ?hr6p ?hQ6p ?hy6p ?hS6p ?h6p
        case hi6p => exact (by simp only [List.getElem?_toArray, List.getElem?_cons_succ, List.getElem?_cons_zero]; rfl)
        case hs6p => kernel_rfl
        case hf6p => kernel_rfl
        case hr6p => kernel_rfl
        case hQ6p => exact fun _ _ _ h => h
        case hy6p =>
          refine Or.inl ⟨rfl, ?_⟩
          intro W hSw
          obtain ⟨y0, y9⟩ := hSw
          go_simp
          try with_reducible rfl
        case hS6p => assumption
        try simp only [Act.put, List.setIfInBounds_toArray, List.set_cons_zero, List.set_cons_succ]
        refine wpAnyH_ready (rs := [7]) (by kernel_rfl) (by simp) ?_
        refine AllReadyH.cons (o := _) rfl (fun K hK => ?_) AllReadyH.nil
        go_simp
        refine (HAD.out Wp0).mono ?_
        rintro r Wp1 ⟨rfl, hbq⟩
        have HBp1 := Lib.hid (HDp.out.trans (hbq.mono HDp.out.size))
        clear hbq
        refine hK.out _ _ (HCF.out _ (HBp1.out)) (fun hHeld => ?_)
        clear hK K
        try simp only [Act.put, List.setIfInBounds_toArray, List.set_cons_zero, List.set_cons_succ]
        refine wpAnyH_take (i := 8) (oi := ?oi8p) (v := (.bool true)) ?hi8p ?hs8p ?hf8p ?hr8p ?hQ8p ?hy8p ?hS8p ?h8p
        case hi8p => exact (by simp only [List.getElem?_toArray, List.getElem?_cons_succ, List.getElem?_cons_zero]; rfl)
        case hs8p => kernel_rfl
        case hf8p => kernel_rfl
        case hr8p => kernel_rfl
        case hQ8p => exact fun _ _ _ h => h
        case hy8p =>
          refine Or.inl ⟨rfl, ?_⟩
          intro W hSw
          go_simp
          try simp [hdue]
        case hS8p => assumption
        try simp only [Act.put, List.setIfInBounds_toArray, List.set_cons_zero, List.set_cons_succ]
        refine wpAnyH_done (by kernel_rfl) ?_ _
        obtain ⟨w5, hw5⟩ : ∃ w5, w5 = Wp1.alloc (.cells #[.int .u32 (x : Int)] 28) := ⟨_, rfl⟩
        have hg5 : w5.heap[Wp1.heap.size]? = some (.cells #[.int .u32 (x : Int)] 28 (0, 0)) := by rw [hw5]; exact heap_alloc_new Wp1 _
        have hb5 : Below w3.heap.size w3 w5 := by rw [hw5]; exact HBp1.out.alloc HBp1.out.size _
        have HB5 : Hid (Below w1.heap.size w1 w5) := HB3.out.trans (hb5.mono HB3.out.size)
        have HO5 : Hid (w5.ownsRow w1.heap.size 28 1 (.slice O m co) m (un (idleQ idle now ((ids.zip ths).take k)))) := own_after HO3.out fun g hg => hb5.block g (ownlt HO3.out g hg).2
        have H5 := Lib.hid hw5
        have ht : Hid (∀ W : World, W = w5 → W.ownsRow w1.heap.size 28 1 (.slice O m co) m (un (idleQ idle now ((ids.zip ths).take k))) ∧ W.heap[Wp1.heap.size]? = some (.cells #[.int .u32 (x : Int)] 28 (0, 0)) ∧ w1.heap.size ≤ W.heap.size) := fun W e => by rw [e]; exact ⟨HO5.out, hg5, HB5.out.size⟩
        clear hw5 hg5 hb5
        go_wp2_with (at_builtin; refine wpList_append_u32 rfl (.tmp 32) (.tmp 34) rfl w1.heap.size Wp1.heap.size (.slice O m co) m (un (idleQ idle now ((ids.zip ths).take k))) x rfl rfl (ht.out _ H5.out.symm).1 (ht.out _ H5.out.symm).2.1 (by omega) (ht.out _ H5.out.symm).2.2 ?_; intro v6 w6 hown6 hg6; rw [← H5.out] at hg6; obtain ⟨O6, c6, rfl⟩ := own_form1 hown6; have HO6 := Lib.hid hown6; have HB6 : Hid (Below w1.heap.size w1 w6) := HB5.out.grown hg6 HB5.out.size (fun g h => (ownlt HO5.out g h).1); clear hown6 hg6)
        go_roundw
        case rel =>
          refine ⟨k + 1, m + 1, by omega, by omega, by go_num, ?_, ?_, HB6.out⟩
          · rw [HQ.out, List.length_append, ← HV.out.1]; rfl
          · have h := HO6.out
            rw [HQ.out]
            have e : un (idleQ idle now ((ids.zip ths).take k) ++ [x]) = un (idleQ idle now ((ids.zip ths).take k)) ++ [.int .u32 (x : Int)] := by simp [un]
            rw [e]
            exact h
        case measure => simp [intOf] <;> omega
      · have HQ : Hid (idleQ idle now ((ids.zip ths).take (k + 1)) = idleQ idle now ((ids.zip ths).take k)) := by have := HSN.out; rw [if_neg hdue, List.append_nil] at this; exact this
        have HDq : Hid (Below w3.heap.size w3 w3.drew) := HB33.out.drew
        refine wp_region_held_drew (S := fun W : World => W.cell? ⟨Z, 0, none⟩ = some (.int .i64 y1) ∧ W.cell? ⟨T, 1, none⟩ = some (.int .i64 idle)) (by kernel_rfl) (HCF.out _ (HDq.out)) (fun hHeld => ?_)
        obtain ⟨Wq0, hW0⟩ : ∃ W0, W0 = w3.drew := ⟨_, rfl⟩
        rw [← hW0] at hHeld HDq ⊢
        clear hW0
        refine wpAnyH_take (i := 0) (oi := ?oi0q) (v := ?v0q) ?hi0q ?hs0q ?hf0q ?hr0q ?hQ0q ?hy0q ?hS0q ?h0q
        case hi0q => exact (by simp only [List.getElem?_toArray, List.getElem?_cons_zero]; rfl)
        case hs0q => kernel_rfl
        case hf0q => kernel_rfl
        case hr0q => kernel_rfl
        case hQ0q => exact fun _ _ _ h => h
        case hy0q =>
          refine Or.inl ⟨rfl, ?_⟩
          intro W hSw
          obtain ⟨y0, y9⟩ := hSw
          go_simp
          try with_reducible rfl
        case hS0q => assumption
        try simp only [Act.put, List.setIfInBounds_toArray, List.set_cons_zero, List.set_cons_succ]
        refine wpAnyH_take (i := 1) (oi := ?oi1q) (v := ?v1q) ?hi1q ?hs1q ?hf1q ?hr1q ?hQ1q ?hy1q ?hS1q ?h1q
        case hi1q => exact (by simp only [List.getElem?_toArray, List.getElem?_cons_succ, List.getElem?_cons_zero]; rfl)
        case hs1q => kernel_rfl
        case hf1q => kernel_rfl
        case hr1q => kernel_rfl
        case hQ1q => exact fun _ _ _ h => h
        case hy1q =>
          refine Or.inl ⟨rfl, ?_⟩
          intro W hSw
          obtain ⟨y0, y9⟩ := hSw
          go_simp
          try with_reducible rfl
        case hS1q => assumption
        try simp only [Act.put, List.setIfInBounds_toArray, List.set_cons_zero, List.set_cons_succ]
        refine wpAnyH_take (i := 2) (oi := ?oi2q) (v := ?v2q) ?hi2q ?hs2q ?hf2q ?hr2q ?hQ2q ?hy2q ?hS2q ?h2q
        case hi2q => exact (by simp only [List.getElem?_toArray, List.getElem?_cons_succ, List.getElem?_cons_zero]; rfl)
        case hs2q => kernel_rfl
        case hf2q => kernel_rfl
        case hr2q => kernel_rfl
        case hQ2q => exact fun _ _ _ h => h
        case hy2q =>
          refine Or.inl ⟨rfl, ?_⟩
          intro W hSw
          obtain ⟨y0, y9⟩ := hSw
          go_simp
          try with_reducible rfl
        case hS2q => assumption
        try simp only [Act.put, List.setIfInBounds_toArray, List.set_cons_zero, List.set_cons_succ]
        refine wpAnyH_take (i := 3) (oi := ?oi3q) (v := ?v3q) ?hi3q ?hs3q ?hf3q ?hr3q ?hQ3q ?hy3q ?hS3q ?h3q
        case hi3q => exact (by simp only [List.getElem?_toArray, List.getElem?_cons_succ, List.getElem?_cons_zero]; rfl)
        case hs3q => kernel_rfl
        case hf3q => kernel_rfl
        case hr3q => kernel_rfl
        case hQ3q => exact fun _ _ _ h => h
        case hy3q =>
          refine Or.inl ⟨rfl, ?_⟩
          intro W hSw
          obtain ⟨y0, y9⟩ := hSw
          go_simp
          try with_reducible rfl
        case hS3q => assumption
        try simp only [Act.put, List.setIfInBounds_toArray, List.set_cons_zero, List.set_cons_succ]
        refine wpAnyH_take (i := 4) (oi := ?oi4q) (v := ?v4q) ?hi4q ?hs4q ?hf4q ?hr4q ?hQ4q ?hy4q ?hS4q ?h4q
        case hi4q => exact (by simp only [List.getElem?_toArray, List.getElem?_cons_succ, List.getElem?_cons_zero]; rfl)
        case hs4q => kernel_rfl
        case hf4q => kernel_rfl
        case hr4q => kernel_rfl
        case hQ4q => exact fun _ _ _ h => h
        case hy4q =>
          refine Or.inl ⟨rfl, ?_⟩
          intro W hSw
          obtain ⟨y0, y9⟩ := hSw
          go_simp
          try with_reducible rfl
        case hS4q => assumption
        try simp only [Act.put, List.setIfInBounds_toArray, List.set_cons_zero, List.set_cons_succ]
        refine wpAnyH_take (i := 5) (oi := ?oi5q) (v := ?v5q) ?hi5q ?hs5q ?hf5q ?hr5q ?hQ5q ?hy5q ?hS5q ?h5q
        case hi5q => exact (by simp only [List.getElem?_toArray, List.getElem?_cons_succ, List.getElem?_cons_zero]; rfl)
        case hs5q => kernel_rfl
        case hf5q => kernel_rfl
        case hr5q => kernel_rfl
        case hQ5q => exact fun _ _ _ h => h
        case hy5q =>
          refine Or.inl ⟨rfl, ?_⟩
          intro W hSw
          obtain ⟨y0, y9⟩ := hSw
          go_simp
          try with_reducible rfl
        case hS5q => assumption
        try simp only [Act.put, List.setIfInBounds_toArray, List.set_cons_zero, List.set_cons_succ]
        refine wpAnyH_take (i := 6) (oi := ?oi6q) (v := ?v6q) ?hi6q ?hs6q ?hf6q ?hr6q ?hQ6q ?hy6q ?hS6q ?h6q
        case hi6q => exact (by simp only [List.getElem?_toArray, List.getElem?_cons_succ, List.getElem?_cons_zero]; rfl)
        case hs6q => kernel_rfl
        case hf6q => kernel_rfl
        case hr6q => kernel_rfl
        case hQ6q => exact fun _ _ _ h => h
        case hy6q =>
          refine Or.inl ⟨rfl, ?_⟩
          intro W hSw
          obtain ⟨y0, y9⟩ := hSw
          go_simp
          try with_reducible rfl
        case hS6q => assumption
        try simp only [Act.put, List.setIfInBounds_toArray, List.set_cons_zero, List.set_cons_succ]
        refine wpAnyH_ready (rs := [7]) (by kernel_rfl) (by simp) ?_
        refine AllReadyH.cons (o := _) rfl (fun K hK => ?_) AllReadyH.nil
        go_simp
        refine (HAD.out Wq0).mono ?_
        rintro r Wq1 ⟨rfl, hbq⟩
        have HBq1 := Lib.hid (HDq.out.trans (hbq.mono HDq.out.size))
        clear hbq
        refine hK.out _ _ (HCF.out _ (HBq1.out)) (fun hHeld => ?_)
        clear hK K
        try simp only [Act.put, List.setIfInBounds_toArray, List.set_cons_zero, List.set_cons_succ]
        refine wpAnyH_take (i := 8) (oi := ?oi8q) (v := (.bool false)) ?hi8q ?hs8q ?hf8q ?hr8q ?hQ8q ?hy8q ?hS8q ?h8q
        case hi8q => exact (by simp only [List.getElem?_toArray, List.getElem?_cons_succ, List.getElem?_cons_zero]; rfl)
        case hs8q => kernel_rfl
        case hf8q => kernel_rfl
        case hr8q => kernel_rfl
        case hQ8q => exact fun _ _ _ h => h
        case hy8q =>
          refine Or.inl ⟨rfl, ?_⟩
          intro W hSw
          go_simp
          try simp [hdue]
        case hS8q => assumption
        try simp only [Act.put, List.setIfInBounds_toArray, List.set_cons_zero, List.set_cons_succ]
        refine wpAnyH_done (by kernel_rfl) ?_ _
        go_wp2
        go_roundw
        case rel =>
          refine ⟨k + 1, m, by omega, by omega, by go_num, by rw [HQ.out]; exact HV.out.1, ?_, HB3.out.trans (HBq1.out.mono HB3.out.size)⟩
          rw [HQ.out]
          exact own_after HO3.out fun g hg => HBq1.out.block g (ownlt HO3.out g hg).2
        case measure => simp [intOf] <;> omega
    · have hkn : k = n := by omega
      subst hkn
      have HF : Hid (wr.ownsRow w.heap.size 28 1 (.slice O m co) (idleQ idle now (ids.zip ths)).length (un (idleQ idle now (ids.zip ths)))) := by
        have h1 := HV.out.1
        have h2 := HV.out.2.1
        rw [List.take_of_length_le (by rw [List.length_zip, HLEN.out, ← HN.out]; omega)] at h1 h2
        rw [← h1]
        refine ⟨h2.1, ?_⟩
        rcases h2.2 with h | ⟨g, cap, cur, e1, e2, e3⟩
        · exact .inl h
        · exact .inr ⟨g, cap, cur, e1, Nat.le_trans HB1.out.size e2, e3⟩
      go_wp2
      go_ret
      exact ⟨_, rfl, HF.out, HB1.out.trans (HV.out.2.2.mono HB1.out.size)⟩
end Go.Proofs.Ytfgabmjnpjmmgaa
