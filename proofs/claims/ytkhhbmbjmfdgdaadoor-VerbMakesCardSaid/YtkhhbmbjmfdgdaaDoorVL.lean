/- Verb: VerbMakes' walk. -/
import Derived.Test.YtkhhbmbjmfdgdaaDoorVM
import Derived.Test.YtkhhbmbjmfdgdaaDoorVB
import Derived.Deep.DeepCutAuto
import Derived.Deep.QuietTactic
import Derived.BigQuiet
namespace Go.Proofs.YtkhhbmbjmfdgdaaDoor
open Go.RowKit Go.ChangeShapes
set_option maxRecDepth 20000

/-- What stands when the copies are made: the box of the message, the numbers and the lists copied. -/
structure Cp (w W : World) (k : Int) (aN aS aL : Option Addr) (cN cS cL : Nat) (N : List Nat) (S : List ByteArray) (nL : Nat) (L : List (List Nat)) (bn bl : Option Addr) (en el q : Nat) (vs : List Value) : Prop where
  hb : Below w.heap.size w W
  m : W.heap[w.heap.size]? = some (.cells #[.int .i64 k, .slice aN N.length cN, .slice aS S.length cS, .slice aL nL cL] 40 (0, 0))
  on : W.ownsRow (w.heap.size + 1) 66 1 (.slice bn N.length en) N.length (uv .u64 N)
  ol : W.ownsRow (w.heap.size + 1) 62 1 (.slice bl q el) q vs
  ll : Lq W (w.heap.size + 1) vs L

theorem Lq.len {w : World} {B : Nat} : ∀ {vs : List Value} {us : List (List Nat)}, Lq w B vs us → vs.length = us.length
  | [], [], _ => rfl
  | _ :: _, _ :: _, ⟨_, h⟩ => by simp [h.len]

def MkPost (w : World) (e : Ending) (w' : World) : Prop := e = .returned (.bool true) ∧ Below w.heap.size w w'

set_option maxHeartbeats 30000000 in
theorem vmakes_small (k : Int) (N : List Nat) (S : List ByteArray) (L : List (List Nat)) (vs : List Value) (aN aS aL : Option Addr) (cN cS cL : Nat) (at' : Nat) (w : World) (he : Ents w) (hat : at' ≤ 255)
    (hf : Flds w aN aS aL cN cS cL vs N S L) (hN : N.length ≤ 12) (hS : S.length ≤ 12) (hL : L.length ≤ 12) (hu3 : ∀ u ∈ L, u.length ≤ 300) (hu : ∀ u ∈ L, ∀ n ∈ u, n < 4294967296) (hsb : smallB N S L = true) :
    Calls Tryd.prog 9 #[.agg #[.int .i64 k, .slice aN N.length cN, .slice aS S.length cS, .slice aL L.length cL], .int .u8 (at' : Int)] w (MkPost w) := by
  obtain ⟨w0, hw0⟩ : ∃ w0, w0 = w.alloc (.cells #[.int .i64 k, .slice aN N.length cN, .slice aS S.length cS, .slice aL L.length cL] 40) := ⟨_, rfl⟩
  have hb0 : Below w.heap.size w w0 := by rw [hw0]; exact (Below.refl w.heap.size w).alloc (Nat.le_refl _) _
  have m0 : w0.heap[w.heap.size]? = some (.cells #[.int .i64 k, .slice aN N.length cN, .slice aS S.length cS, .slice aL L.length cL] 40 (0, 0)) := by rw [hw0]; exact heap_alloc_new w _
  have e1 := cell_of_row w0 w.heap.size 1 _ _ _ m0
  have e2 := cell_of_row w0 w.heap.size 2 _ _ _ m0
  have e3 := cell_of_row w0 w.heap.size 3 _ _ _ m0
  simp at e1 e2 e3
  have hsm := small_any aN aS aL cN cS cL vs N S L w0 (hf.below hb0) (by omega) (by omega) (by omega)
  rw [hsb] at hsm
  have HSM := Lib.hid hsm
  have H0 := Lib.hid hw0
  have HM0 := Lib.hid m0
  have HE := Lib.hid he
  have HF := Lib.hid hf
  have HU := Lib.hid hu
  have HU3 := Lib.hid hu3
  clear hsm hsb hw0 m0 he hf hu hu3
  go_enter Tryd.func9, Tryd.ntmps9
  go_upto_region 1 with (fail)
  rw [← H0.out]
  go_wp2_with fail
  refine HSM.out.mono ?_
  rintro e w1 ⟨rfl, hb1⟩
  have hb01 := hb0.trans (hb1.mono hb0.size)
  have m1 := (hb1.block _ (lt_of_block HM0.out)).trans HM0.out
  have d1 := cell_of_row w1 w.heap.size 1 _ _ _ m1
  have d2 := cell_of_row w1 w.heap.size 2 _ _ _ m1
  have d3 := cell_of_row w1 w.heap.size 3 _ _ _ m1
  simp at d1 d2 d3
  obtain ⟨i, hi⟩ : ∃ i, i = at' % (S.length + 1) := ⟨_, rfl⟩
  obtain ⟨p, hp⟩ : ∃ p, p = at' % (L.length + 1) := ⟨_, rfl⟩
  have hiS : i ≤ S.length := by have := Nat.mod_lt at' (show 0 < S.length + 1 by omega); omega
  have hpL : p ≤ L.length := by have := Nat.mod_lt at' (show 0 < L.length + 1 by omega); omega
  have ei : (at' : Int) % ((S.length : Int) + 1) = (i : Int) := by subst hi; simp
  have ep : (at' : Int) % ((L.length : Int) + 1) = (p : Int) := by subst hp; simp
  have ww1 : IntKind.i64.wrap ((S.length : Int) + 1) = (S.length : Int) + 1 := IntWalk.i64_in _ (by omega)
  have ww2 : IntKind.i64.wrap ((L.length : Int) + 1) = (L.length : Int) + 1 := IntWalk.i64_in _ (by omega)
  have z1 : ((S.length : Int) + 1 == 0) = false := by rw [beq_eq_false_iff_ne]; omega
  have z2 : ((L.length : Int) + 1 == 0) = false := by rw [beq_eq_false_iff_ne]; omega
  have HM1 := Lib.hid m1
  have HB1 := Lib.hid hb01
  clear e1 e2 e3 hb1 hb0 hi hp m1 hb01
  go_wp2_with fail
  go_quiet (fail)
  go_upto_region 4 with (fail)
  obtain ⟨w2, hw2⟩ : ∃ w2, w2 = w1.drewN nq := ⟨_, rfl⟩
  have m2 : w2.heap[w.heap.size]? = some (.cells #[.int .i64 k, .slice aN N.length cN, .slice aS S.length cS, .slice aL L.length cL] 40 (0, 0)) := by rw [hw2]; exact HM1.out
  have hb2 : Below w.heap.size w w2 := by rw [hw2]; exact below_drewN' HB1.out nq
  rw [ei, ep, ← hw2]
  clear hw2 ei ep ww1 ww2 z1 z2 d1 d2 d3 HM1 HB1
  have hba : Below w2.heap.size w2 (w2.alloc (.cells #[] 66)) := (Below.refl _ _).alloc (Nat.le_refl _) _
  have ma := (hba.block _ (lt_of_block m2)).trans m2
  have d1 := cell_of_row (w2.alloc (.cells #[] 66)) w.heap.size 1 _ _ _ ma
  simp at d1
  obtain ⟨i0, hi0, hy0, hy1, hy2⟩ := info_parts Tryd.info66
  have hm63 : (0 : Nat) + N.length ≤ maxLen := by unfold maxLen; omega
  have hm47 : ((0 : Nat) + N.length) * 8 ≤ 140737488355328 := by omega
  have hH2 : w.heap.size + 1 ≤ w2.heap.size := lt_of_block m2
  have HOL := Lib.hid (World.ownsRow_lit (base := w.heap.size + 1) (e := 66) (size := 1) w2 #[] 0 hH2 (by unfold maxLen; omega) (by simp))
  have HRN := Lib.hid (((HF.out.below hb2).rN).below hba (Nat.le_refl _))
  have HM2 := Lib.hid m2
  have HMA := Lib.hid ma
  have HB2 := Lib.hid (hb2.alloc hb2.size (.cells #[] 66))
  clear m2 hba ma hb2
  go_upto_region 5 with (at_builtin; refine wpList_append_rd rfl (.tmp 36) (.tmp 39) 34 66 8 (.int .u64 0) i0 rfl Tryd.underlying34 hi0 hy0 hy1 hy2 rfl (w.heap.size + 1) w2.heap.size (.slice (some ⟨w2.heap.size, 0, none⟩) 0 0) [] (uv .u64 N) aN cN N.length N.length rfl rfl (uv_len _ _).symm (by simp [uv_len]) HOL.out HRN.out (uv_one _ _) hm63 hm47 (Nat.le_trans hH2 (by simp)) ?_; intro bn en w3 o3 hg3)
  have k3 := Kp.grown hg3 (rowT_own HOL.out)
  have m3 := k3 _ _ _ _ HMA.out (by decide)
  have hb3 : Below w.heap.size w w3 := HB2.out.grown hg3 HB2.out.size (fun k hk => by simp [Value.ownBlock] at hk; omega)
  have HC3 := Lib.hid (show Cp w w3 k aN aS aL cN cS cL N S L.length (L.take 0) bn none en 0 0 [] from ⟨hb3, m3, by simpa using o3, World.ownsRow_nil _ _ _ _, trivial⟩)
  clear d1 hm63 hm47 hH2 k3 m3 hb3 o3 hg3 HOL HRN HM2 HMA HB2
  go_wp2_with fail
  go_loopw [8, 9] (fun v j wr => ∃ (q : Nat) (bl : Option Addr) (el : Nat) (us : List Value), q ≤ L.length ∧ j = .int .i64 q ∧ v = .slice bl q el ∧ Hid (Cp w wr k aN aS aL cN cS cL N S L.length (L.take q) bn bl en el q us)) (fun _ j _ => L.length - (intOf j).toNat)
  case atStart => exact ⟨0, none, 0, [], by omega, rfl, rfl, HC3⟩
  case round =>
    obtain ⟨q, bl, el, us, hq, rfl, rfl, hc⟩ := hrel
    have hH := lt_of_block hc.out.m
    by_cases hlt : q < L.length
    · have hul := HF.out.ls.length
      obtain ⟨g, o, rfl, hgB, hcell⟩ := HF.out.rL.get (k := q) (by omega)
      obtain ⟨au, cu, hvu, hru, hnu⟩ := Lss.get32 q hlt HF.out.ls
      obtain ⟨u, huu⟩ : ∃ u, u = L[q] := ⟨_, rfl⟩
      rw [← huu] at hvu hru hnu
      have huj : vs[q]'(by omega) = .slice au u.length cu := (List.getElem?_eq_some_iff.1 hvu).2
      rw [huj] at hcell
      have hba : Below wr.heap.size wr (wr.alloc (.cells #[] 67)) := (Below.refl _ _).alloc (Nat.le_refl _) _
      have hbwa : Below w.heap.size w (wr.alloc (.cells #[] 67)) := hc.out.hb.alloc hc.out.hb.size _
      have hcw := (hbwa.cell (p := ⟨g, o + q, none⟩) hgB).trans hcell
      have ma := (hba.block _ hH).trans hc.out.m
      have d3 := cell_of_row (wr.alloc (.cells #[] 67)) w.heap.size 3 _ _ _ ma
      simp at d3
      have c3 := cell_of_row wr w.heap.size 3 _ _ _ hc.out.m
      simp at c3
      have hul1 : u.length ≤ 300 := HU3.out u (by rw [huu]; exact List.getElem_mem _)
      have HRU := Lib.hid (hru.below hbwa (Nat.le_refl _))
      have HNU := Lib.hid hnu
      have htk : L.take (q + 1) = L.take q ++ [u] := by rw [List.take_succ_eq_append_getElem hlt, huu]
      have HTK := Lib.hid htk
      have hlen : (L.take q).length = q := by rw [List.length_take]; omega
      obtain ⟨j0, hj0, hx0, hx1, hx2⟩ := info_parts Tryd.info67
      obtain ⟨j1, hj1, hw0, hw1, hw2⟩ := info_parts Tryd.info62
      have HOL := Lib.hid (World.ownsRow_lit (base := w.heap.size + 1) (e := 67) (size := 1) wr #[] 0 hH (by unfold maxLen; omega) (by simp))
      have hm63 : (0 : Nat) + u.length ≤ maxLen := by unfold maxLen; omega
      have hm47 : ((0 : Nat) + u.length) * 4 ≤ 140737488355328 := by omega
      have hn63 : q + 1 ≤ maxLen := by unfold maxLen; omega
      have hn47 : (q + 1) * 24 ≤ 140737488355328 := by omega
      have on1 : ∀ an cn, ∀ x ∈ [Value.slice an u.length cn], x.oneCell' = true := by intro an cn x hx; simp at hx; subst hx; rfl
      clear hul hcell hru hnu huj hvu huu htk hbwa ma hlen hba
      go_wp2_with (at_builtin; first
        | (refine wpList_append_rd rfl (.tmp 50) (.tmp 56) 62 67 4 (.int .u32 0) j0 rfl Tryd.underlying62 hj0 hx0 hx1 hx2 rfl (w.heap.size + 1) w.heap.size (.slice (some ⟨wr.heap.size, 0, none⟩) 0 0) [] (uv .u32 u) au cu u.length u.length rfl rfl (uv_len _ _).symm (by simp [uv_len]) HOL.out HRU.out (uv_one _ _) hm63 hm47 (Nat.le_trans hH (by simp)) ?_; intro an cn w2 hown2 hg2; have hb2 : Below wr.heap.size wr w2 := ((Below.refl wr.heap.size wr).alloc (Nat.le_refl _) (.cells #[] 67)).grown hg2 (by simp) (fun k hk => by simp [Value.ownBlock] at hk; omega); have hbs3 : w.heap.size + 1 ≤ (w2.alloc (.cells #[.slice an u.length cn] 62)).heap.size := Nat.le_trans hH (Nat.le_trans hb2.size (by simp)); have HO3 := Lib.hid ((own_after hc.out.ol hb2).alloc (.cells #[.slice an u.length cn] 62)); have HOWN2 := Lib.hid hown2; have HB2 := Lib.hid hb2; clear hown2 hg2 hb2)
        | (refine wpList_append_lies _ rfl (.tmp 49) (.tmp 58) 36 rfl (w.heap.size + 1) 62 j1 (.slice none 0 0) 1 24 Tryd.underlying36 hj1 hw0 hw1 hw2 rfl Nat.one_pos (.slice bl q el) q us rfl HO3.out ⟨w2.heap.size, 0, none⟩ 1 1 [.slice an u.length cn] rfl rfl (World.news_of_block (cs := #[.slice an u.length cn]) (t := 62) (fr := (0, 0)) (heap_alloc_new w2 _)) (on1 an cn) Nat.one_pos hn63 hn47 hbs3 (w2.heap.size + 1) (size_alloc' _ _) ?_; intro gg cap w3 hown3 hg3 hat3 hlt3))
      have k23 := ((Kp.alloc w2 (.cells #[.slice an u.length cn] 62))).trans (Kp.grown hg3 (rowT_own HO3.out))
      have hb3 : Below w.heap.size w w3 := ((hc.out.hb.trans (HB2.out.mono hc.out.hb.size)).alloc (Nat.le_trans hc.out.hb.size HB2.out.size) (.cells #[.slice an u.length cn] 62)).grown hg3 (by omega) (fun k hk => by have := (HO3.out.lt k hk).1; omega)
      have hc3 : Cp w w3 k aN aS (some ⟨g, o, none⟩) cN cS cL N S L.length (L.take (q + 1)) bn (some ⟨gg, 0, none⟩) en cap (q + 1) (us ++ [.slice an u.length cn]) := by
        refine ⟨hb3, k23 _ _ _ _ ((HB2.out.block _ hH).trans hc.out.m) (by decide), k23.own (own_after hc.out.on HB2.out) (by decide), hown3, ?_⟩
        rw [HTK.out]
        exact (k23.lq (by decide) (hc.out.ll.below HB2.out)).snoc (k23.own HOWN2.out (by decide)) HNU.out
      have HC3 := Lib.hid hc3
      clear k23 hb3 hc3 hown3 hg3 hat3 hlt3
      go_roundw
      case rel => exact ⟨q + 1, some ⟨gg, 0, none⟩, cap, _, by omega, by go_num, rfl, HC3⟩
      case measure => simp [intOf] <;> omega
    · obtain rfl : q = L.length := by omega
      rw [List.take_length] at hc
      have c3 := cell_of_row wr w.heap.size 3 _ _ _ hc.out.m
      have c0 := cell_of_row wr w.heap.size 0 _ _ _ hc.out.m
      simp at c3 c0
      obtain ⟨_, _, e, hrn, _, _⟩ := own_rd hc.out.on
      injection e with ea _ ec
      subst ea ec
      have hmk := make_any k bn en N wr.heap.size wr hrn (Nat.le_refl _) (by omega)
      have HMK := Lib.hid hmk
      obtain ⟨wo, hwo⟩ : ∃ wo, wo = wr := ⟨_, rfl⟩
      rw [← hwo] at HMK hc hH c0 c3
      rw [← hwo]
      clear hwo hmk hrn HC3
      go_wp2_with fail
      refine HMK.out.mono ?_
      rintro e w4 ⟨xN, yN, rfl, oX, hb4⟩
      obtain ⟨w5, hw5⟩ : ∃ w5, w5 = w4.alloc (.cells #[.int .i64 k, .slice xN N.length yN, .slice none 0 0, .slice none 0 0] 48) := ⟨_, rfl⟩
      have hb45 : Below w4.heap.size w4 w5 := by rw [hw5]; exact (Below.refl _ _).alloc (Nat.le_refl _) _
      have x5 : w5.heap[w4.heap.size]? = some (.cells #[.int .i64 k, .slice xN N.length yN, .slice none 0 0, .slice none 0 0] 48 (0, 0)) := by rw [hw5]; exact heap_alloc_new w4 _
      have hbo5 : Below wo.heap.size wo w5 := hb4.trans (hb45.mono hb4.size)
      have hb05 : Below w.heap.size w w5 := hc.out.hb.trans (hbo5.mono hc.out.hb.size)
      have m5 := (hbo5.block _ hH).trans hc.out.m
      have hfx : Fo w5 wo.heap.size xN none none yN 0 0 [] N [] [] := ⟨own_after oX hb45, World.ownsRow_nil _ _ _ _, World.ownsRow_nil _ _ _ _, trivial, HF.out.bN⟩
      have HM5 := Lib.hid m5
      have HX5 := Lib.hid x5
      have HFX := Lib.hid hfx
      have HB5 := Lib.hid hb05
      have HBO5 := Lib.hid hbo5
      have hXo4 := hb4.size
      have H5 := Lib.hid hw5
      -- the parts
      obtain ⟨S1, hS1⟩ : ∃ S1, S1 = S.take i := ⟨_, rfl⟩
      obtain ⟨S2, hS2⟩ : ∃ S2, S2 = S.drop i := ⟨_, rfl⟩
      obtain ⟨L1, hL1⟩ : ∃ L1, L1 = L.take p := ⟨_, rfl⟩
      obtain ⟨L2, hL2⟩ : ∃ L2, L2 = L.drop p := ⟨_, rfl⟩
      have hS1l : S1.length = i := by rw [hS1, List.length_take]; omega
      have hL1l : L1.length = p := by rw [hL1, List.length_take]; omega
      have hS2l : S2.length = S.length - i := by rw [hS2, List.length_drop]
      have hL2l : L2.length = L.length - p := by rw [hL2, List.length_drop]
      have hSS : S1 ++ S2 = S := by rw [hS1, hS2]; exact List.take_append_drop _ _
      have hLL : L1 ++ L2 = L := by rw [hL1, hL2]; exact List.take_append_drop _ _
      have hvl : us.length = L.length := hc.out.ll.len
      obtain ⟨a1, d1, hs1, hr1, hd1⟩ := sl_to (t := 35) Tryd.underlying35 (by kernel_rfl) Tryd.info9 aS S.length cS i hiS HF.out.lS
      obtain ⟨a2, d2, hs2, hr2, hd2⟩ := sl_from (t := 35) Tryd.underlying35 (by kernel_rfl) Tryd.info9 aS S.length cS i S2.length hiS HF.out.lS hS2l
      have hcl : L.length ≤ el := by
        obtain ⟨_, _, e, _, h, _⟩ := own_rd hc.out.ol
        injection e with _ _ e
        omega
      obtain ⟨a3, d3, hs3, hr3, hd3⟩ := sl_to (t := 36) Tryd.underlying36 (by kernel_rfl) Tryd.info62 bl L.length el p hpL hcl
      obtain ⟨a4, d4, hs4, hr4, hd4⟩ := sl_from (t := 36) Tryd.underlying36 (by kernel_rfl) Tryd.info62 bl L.length el p L2.length hpL hcl hL2l
      have hol5 := own_after hc.out.ol hbo5
      have hll5 := hc.out.ll.below hbo5
      have HRS : Hid (∀ W, Below w5.heap.size w5 W → Rd W W.heap.size a1 (sv S1) ∧ Rd W W.heap.size a2 (sv S2) ∧ Rd W W.heap.size a3 (us.take p) ∧ Lss W W.heap.size (us.take p) L1 ∧ Rd W W.heap.size a4 (us.drop p) ∧ Lss W W.heap.size (us.drop p) L2) := fun W hW => by
        have hwW := hb05.trans (hW.mono hb05.size)
        have hS := (HF.out.below hwW).rS
        have hRL : Rd W W.heap.size bl us := by
          obtain ⟨_, _, e, hr, _, _⟩ := own_rd (own_after hol5 hW)
          injection e with ea _ _
          subst ea
          exact hr
        have hLs := lss_q (hll5.below hW)
        refine ⟨?_, ?_, hr3 W _ us hvl hRL, by rw [hL1]; exact Lss.take p hLs, hr4 W _ us hvl hRL, by rw [hL2]; exact Lss.drop p hLs⟩
        · rw [hS1]
          have := hr1 W _ (sv S) (sv_len S) hS
          simpa [sv, List.map_take] using this
        · rw [hS2]
          have := hr2 W _ (sv S) (sv_len S) hS
          simpa [sv, List.map_drop] using this
      have HOL5 := Lib.hid hol5
      have HLL5 := Lib.hid hll5
      have HON5 := Lib.hid (own_after hc.out.on hbo5)
      have HS1L := Lib.hid hS1l
      have HL1L := Lib.hid hL1l
      have HSS := Lib.hid hSS
      have HLL := Lib.hid hLL
      have HL3 : Hid (∀ u ∈ L, u.length ≤ 300) := HU3
      have HPL : Hid (∀ u ∈ L1, u.length ≤ 1000) := fun u hu => by have := HU3.out u (by rw [hL1] at hu; exact List.mem_of_mem_take hu); omega
      have HPL2 : Hid (∀ u ∈ L2, u.length ≤ 1000) := fun u hu => by have := HU3.out u (by rw [hL2] at hu; exact List.mem_of_mem_drop hu); omega
      have hS1n : S1.length ≤ 12 := by omega
      have hL1n : L1.length ≤ 12 := by omega
      have hS2n : S2.length ≤ 12 := by omega
      have hL2n : L2.length ≤ 12 := by omega
      rw [← hS1l] at hs1 hs2
      rw [← hL1l] at hs3 hs4
      have ri : (i : Int) = (S1.length : Int) := by rw [hS1l]
      have rp : (p : Int) = (L1.length : Int) := by rw [hL1l]
      rw [ri, rp]
      -- With and And in whatever later world
      have HW : Hid (∀ W, Below w5.heap.size w5 W → Calls Tryd.prog 28 #[.agg #[.int .i64 k, .slice xN N.length yN, .slice none 0 0, .slice none 0 0], .slice a1 S1.length d1] W (FrPost W k N S1 [])) := fun W hW => by
        have h := with_any k N [] [] [] xN none none yN 0 0 W ((hfx.after hW).flds) (by omega) (by simp) (by simp) (by simp) a1 d1 S1.length S1 (by omega) (by simp) (HRS.out W hW).1
        simpa only [List.nil_append, List.length_nil] using h
      have HA : Hid (∀ (W : World) (sN sS sL : Option Addr) (tN tS tL : Nat) (ys : List Value), Below w5.heap.size w5 W → Flds W sN sS sL tN tS tL ys N S1 [] → Calls Tryd.prog 29 #[.agg #[.int .i64 k, .slice sN N.length tN, .slice sS S1.length tS, .slice sL 0 tL], .slice a3 L1.length d3] W (FrPost W k N S1 L1)) := fun W sN sS sL tN tS tL ys hW hfl => by
        have h := and_any k N S1 [] ys sN sS sL tN tS tL W hfl (by omega) (by omega) (by simp) (by simp) a3 d3 L1.length L1 (us.take p) (by omega) HPL.out (by simp) (HRS.out W hW).2.2.1 (HRS.out W hW).2.2.2.1
        simpa only [List.nil_append, List.length_nil] using h
      have HD1 : Hid (Below w5.heap.size w5 w5.drew) := (Below.refl _ _).drew
      have HD2 : Hid (Below w5.heap.size w5 (w5.alloc (.cells #[.int .i64 0, .slice none 0 0, .slice none 0 0, .slice none 0 0] 48)).drew) := ((Below.refl _ _).alloc (Nat.le_refl _) _).drew
      have HF2 : Hid ((w5.alloc (.cells #[.int .i64 0, .slice none 0 0, .slice none 0 0, .slice none 0 0] 48)).drew.heap[w5.heap.size]? = some (.cells #[.int .i64 0, .slice none 0 0, .slice none 0 0, .slice none 0 0] 48 (0, 0))) := heap_alloc_new w5 _
      have HZ2 : Hid ((w5.alloc (.cells #[.int .i64 0, .slice none 0 0, .slice none 0 0, .slice none 0 0] 48)).drew.heap.size = w5.heap.size + 1) := size_alloc' w5 _
      have q0 := cell_of_row w5 w4.heap.size 0 _ _ _ x5
      have q1 := cell_of_row w5 w4.heap.size 1 _ _ _ x5
      have q2 := cell_of_row w5 w4.heap.size 2 _ _ _ x5
      have q3 := cell_of_row w5 w4.heap.size 3 _ _ _ x5
      have g2 := cell_of_row w5 w.heap.size 2 _ _ _ m5
      simp at q0 q1 q2 q3 g2
      have hxa := ((Below.refl w5.heap.size w5).alloc (Nat.le_refl _) (.cells #[.int .i64 0, .slice none 0 0, .slice none 0 0, .slice none 0 0] 48))
      have q0' := (hxa.cell (p := ⟨w4.heap.size, 0, none⟩) (lt_of_block x5)).trans q0
      have q1' := (hxa.cell (p := ⟨w4.heap.size, 1, none⟩) (lt_of_block x5)).trans q1
      have q2' := (hxa.cell (p := ⟨w4.heap.size, 2, none⟩) (lt_of_block x5)).trans q2
      have q3' := (hxa.cell (p := ⟨w4.heap.size, 3, none⟩) (lt_of_block x5)).trans q3
      have g2' := (hxa.cell (p := ⟨w.heap.size, 2, none⟩) (lt_of_block m5)).trans g2
      clear hw5 hb45 x5 hbo5 hb05 m5 hfx hS1 hS2 hL1 hL2 hS1l hL1l hS2l hL2l hSS hLL hvl hr1 hr2 hr3 hr4 hcl hol5 hll5 ri rp oX hb4 c0 c3 hxa HMK
      go_upto_region 11 with (fail)
      rw [← H5.out]
      go_cut [11] (fun y wy => ∃ (Y : Nat) (sN sS sL : Option Addr) (tN tS tL : Nat) (ys : List Value), y = .pointer (some ⟨Y, 0, none⟩) ∧ Hid (Below w5.heap.size w5 wy ∧ w5.heap.size ≤ Y ∧ wy.heap[Y]? = some (.cells #[.int .i64 k, .slice sN N.length tN, .slice sS S1.length tS, .slice sL L1.length tL] 48 (0, 0)) ∧ Fo wy w5.heap.size sN sS sL tN tS tL ys N S1 L1))
      case first =>
        go_wp2_with fail
        go_region_law (first
          | (go_simp; go_at_call 28; refine (HW.out w5.drew HD1.out).mono ?_; rintro e w7 ⟨sN, sS, sL, tN, tS, tL, ys, rfl, hb7, hfo7⟩; have hb57 := HD1.out.trans (hb7.mono HD1.out.size); have hfo7' := hfo7.mono HD1.out.size)
          | (go_simp; go_at_call 28; refine (HW.out _ HD2.out).mono ?_; rintro e w7 ⟨sN, sS, sL, tN, tS, tL, ys, rfl, hb7, hfo7⟩; have hb57 := HD2.out.trans (hb7.mono HD2.out.size); have hfo7' := hfo7.mono HD2.out.size; have pY7 := (hb7.block w5.heap.size (by rw [HZ2.out]; omega)).trans HF2.out)
          | (go_simp; go_at_call 29; refine (HA.out w7 _ _ _ _ _ _ _ hb57 hfo7.flds).mono ?_; rintro e w8 ⟨fN, fS, fL, eN, eS, eL, zs, rfl, hb8, hfo8⟩; have pY8 := (hb8.block w5.heap.size (lt_of_block pY7)).trans pY7; have fY8 : ∀ i, w8.frozen? ⟨w5.heap.size, i, none⟩ = false := (fun i => frozen_of_row w8 _ i _ _ pY8); have y0 := cell_of_row w8 w5.heap.size 0 _ _ _ pY8; have y1 := cell_of_row w8 w5.heap.size 1 _ _ _ pY8; have y2 := cell_of_row w8 w5.heap.size 2 _ _ _ pY8; have y3 := cell_of_row w8 w5.heap.size 3 _ _ _ pY8; simp at y0 y1 y2 y3; have hb58 := hb57.trans (hb8.mono hb57.size); have hfo8' := hfo8.mono hb57.size)
          | (go_simp; go_at_call 29; refine (HA.out w7 _ _ _ _ _ _ _ hb57 hfo7.flds).mono ?_; rintro e w8 ⟨fN, fS, fL, eN, eS, eL, zs, rfl, hb8, hfo8⟩; have hb58 := hb57.trans (hb8.mono hb57.size); have hfo8' := hfo8.mono hb57.size)
          | (go_simp; go_at_call 29; refine (HA.out (w7.alloc (.cells #[.int .i64 0, .slice none 0 0, .slice none 0 0, .slice none 0 0] 48)) _ _ _ _ _ _ _ (hb57.alloc hb57.size _) (hfo7.flds.below ((Below.refl _ _).alloc (Nat.le_refl _) _))).mono ?_; rintro e w8 ⟨fN, fS, fL, eN, eS, eL, zs, rfl, hb8, hfo8⟩; have pY8 := (hb8.block w7.heap.size (by simp)).trans (heap_alloc_new w7 _); have fY8 : ∀ i, w8.frozen? ⟨w7.heap.size, i, none⟩ = false := (fun i => frozen_of_row w8 _ i _ _ pY8); have y0 := cell_of_row w8 w7.heap.size 0 _ _ _ pY8; have y1 := cell_of_row w8 w7.heap.size 1 _ _ _ pY8; have y2 := cell_of_row w8 w7.heap.size 2 _ _ _ pY8; have y3 := cell_of_row w8 w7.heap.size 3 _ _ _ pY8; simp at y0 y1 y2 y3; have hb57a := hb57.alloc hb57.size (.cells #[.int .i64 0, .slice none 0 0, .slice none 0 0, .slice none 0 0] 48); have hb58 := hb57a.trans (hb8.mono hb57a.size); have hfo8' := hfo8.mono hb57a.size)
          | fail)
        all_goals
          go_wp2_with fail
          go_meet
          first
            | exact ⟨w8.heap.size, fN, fS, fL, eN, eS, eL, zs, rfl, mk_last hb58 hfo8'⟩
            | exact ⟨w7.heap.size, fN, fS, fL, eN, eS, eL, zs, rfl, mk_set hb58 hb57.size pY8 hfo8'⟩
            | exact ⟨w5.heap.size, fN, fS, fL, eN, eS, eL, zs, rfl, mk_set hb58 (Nat.le_refl _) pY8 hfo8'⟩
      case rest =>
        obtain ⟨Y, sN, sS, sL, tN, tS, tL, ys, rfl, hy⟩ := hcut
        obtain ⟨w9, hw9⟩ : ∃ w9, w9 = wc := ⟨_, rfl⟩
        rw [← hw9] at hy ⊢
        clear hw9 q0 q1 q2 q3 g2 q0' q1' q2' q3' g2'
        have hb59 := hy.out.1
        have m9 := (hb59.block _ (lt_of_block HM5.out)).trans HM5.out
        have HA2 : Hid (∀ W, Below w9.heap.size w9 W → Calls Tryd.prog 29 #[.agg #[.int .i64 k, .slice sN N.length tN, .slice sS S1.length tS, .slice sL L1.length tL], .slice a4 L2.length d4] W (FrPost W k N S1 L)) := fun W hW => by
          have h := and_any k N S1 L1 ys sN sS sL tN tS tL W ((hy.out.2.2.2.after hW).flds) (by omega) (by omega) (by omega) HPL.out a4 d4 (L1.length + L2.length) L2 (us.drop p) (by omega) HPL2.out rfl (HRS.out W (hb59.trans (hW.mono hb59.size))).2.2.2.2.1 (HRS.out W (hb59.trans (hW.mono hb59.size))).2.2.2.2.2
          rwa [HLL.out] at h
        have HW2 : Hid (∀ (W : World) (rN rS rL : Option Addr) (vN vS vL : Nat) (zs : List Value), Below w9.heap.size w9 W → Flds W rN rS rL vN vS vL zs N S1 L → Calls Tryd.prog 28 #[.agg #[.int .i64 k, .slice rN N.length vN, .slice rS S1.length vS, .slice rL L.length vL], .slice a2 S2.length d2] W (FrPost W k N S L)) := fun W rN rS rL vN vS vL zs hW hfl => by
          have h := with_any k N S1 L zs rN rS rL vN vS vL W hfl (by omega) (by omega) (by omega) (fun u hu => by have := HL3.out u hu; omega) a2 d2 (S1 ++ S2).length S2 (by omega) rfl (HRS.out W (hb59.trans (hW.mono hb59.size))).2.1
          rwa [HSS.out] at h
        have HD1 : Hid (Below w9.heap.size w9 w9.drew) := (Below.refl _ _).drew
        have HD2 : Hid (Below w9.heap.size w9 (w9.alloc (.cells #[.int .i64 0, .slice none 0 0, .slice none 0 0, .slice none 0 0] 48)).drew) := ((Below.refl _ _).alloc (Nat.le_refl _) _).drew
        have HF2 : Hid ((w9.alloc (.cells #[.int .i64 0, .slice none 0 0, .slice none 0 0, .slice none 0 0] 48)).drew.heap[w9.heap.size]? = some (.cells #[.int .i64 0, .slice none 0 0, .slice none 0 0, .slice none 0 0] 48 (0, 0))) := heap_alloc_new w9 _
        have HZ2 : Hid ((w9.alloc (.cells #[.int .i64 0, .slice none 0 0, .slice none 0 0, .slice none 0 0] 48)).drew.heap.size = w9.heap.size + 1) := size_alloc' w9 _
        have x9 := hy.out.2.2.1
        have q0 := cell_of_row w9 Y 0 _ _ _ x9
        have q1 := cell_of_row w9 Y 1 _ _ _ x9
        have q2 := cell_of_row w9 Y 2 _ _ _ x9
        have q3 := cell_of_row w9 Y 3 _ _ _ x9
        have g2 := cell_of_row w9 w.heap.size 2 _ _ _ m9
        simp at q0 q1 q2 q3 g2
        have hxa := ((Below.refl w9.heap.size w9).alloc (Nat.le_refl _) (.cells #[.int .i64 0, .slice none 0 0, .slice none 0 0, .slice none 0 0] 48))
        have q0' := (hxa.cell (p := ⟨Y, 0, none⟩) (lt_of_block x9)).trans q0
        have q1' := (hxa.cell (p := ⟨Y, 1, none⟩) (lt_of_block x9)).trans q1
        have q2' := (hxa.cell (p := ⟨Y, 2, none⟩) (lt_of_block x9)).trans q2
        have q3' := (hxa.cell (p := ⟨Y, 3, none⟩) (lt_of_block x9)).trans q3
        have g2' := (hxa.cell (p := ⟨w.heap.size, 2, none⟩) (lt_of_block m9)).trans g2
        have HM9 := Lib.hid m9
        have HB59 := Lib.hid hb59
        clear m9 hb59 x9 hxa
        -- after With the box's texts are still wanted: in whatever later world
        have HG : Hid (∀ W, Below w9.heap.size w9 W → W.cell? ⟨w.heap.size, 2, none⟩ = some (.slice aS S.length cS)) := fun W hW => (hW.cell (p := ⟨w.heap.size, 2, none⟩) (lt_of_block HM9.out)).trans g2
        go_upto_region 12 with (fail)
        go_cut [12] (fun z wz => ∃ (Z : Nat) (rN rS rL : Option Addr) (vN vS vL : Nat) (zs : List Value), z = .pointer (some ⟨Z, 0, none⟩) ∧ Hid (Below w9.heap.size w9 wz ∧ w9.heap.size ≤ Z ∧ wz.heap[Z]? = some (.cells #[.int .i64 k, .slice rN N.length vN, .slice rS S.length vS, .slice rL L.length vL] 48 (0, 0)) ∧ Fo wz w9.heap.size rN rS rL vN vS vL zs N S L))
        case first =>
          go_wp2_with fail
          go_region_law (first
            | (go_simp; go_at_call 29; refine (HA2.out w9.drew HD1.out).mono ?_; rintro e w7 ⟨rN, rS, rL, vN, vS, vL, zs, rfl, hb7, hfo7⟩; have hb57 := HD1.out.trans (hb7.mono HD1.out.size); have g7 := HG.out w7 hb57; have g7' := HG.out (w7.alloc (.cells #[.int .i64 0, .slice none 0 0, .slice none 0 0, .slice none 0 0] 48)) (hb57.alloc hb57.size _))
            | (go_simp; go_at_call 29; refine (HA2.out _ HD2.out).mono ?_; rintro e w7 ⟨rN, rS, rL, vN, vS, vL, zs, rfl, hb7, hfo7⟩; have hb57 := HD2.out.trans (hb7.mono HD2.out.size); have g7 := HG.out w7 hb57; have pY7 := (hb7.block w9.heap.size (by rw [HZ2.out]; omega)).trans HF2.out)
            | (go_simp; go_at_call 28; refine (HW2.out w7 _ _ _ _ _ _ _ hb57 hfo7.flds).mono ?_; rintro e w8 ⟨fN, fS, fL, eN, eS, eL, ws, rfl, hb8, hfo8⟩; have pY8 := (hb8.block w9.heap.size (lt_of_block pY7)).trans pY7; have fY8 : ∀ i, w8.frozen? ⟨w9.heap.size, i, none⟩ = false := (fun i => frozen_of_row w8 _ i _ _ pY8); have y0 := cell_of_row w8 w9.heap.size 0 _ _ _ pY8; have y1 := cell_of_row w8 w9.heap.size 1 _ _ _ pY8; have y2 := cell_of_row w8 w9.heap.size 2 _ _ _ pY8; have y3 := cell_of_row w8 w9.heap.size 3 _ _ _ pY8; simp at y0 y1 y2 y3; have hb58 := hb57.trans (hb8.mono hb57.size); have hfo8' := hfo8.mono hb57.size)
            | (go_simp; go_at_call 28; refine (HW2.out w7 _ _ _ _ _ _ _ hb57 hfo7.flds).mono ?_; rintro e w8 ⟨fN, fS, fL, eN, eS, eL, ws, rfl, hb8, hfo8⟩; have hb58 := hb57.trans (hb8.mono hb57.size); have hfo8' := hfo8.mono hb57.size)
            | (go_simp; go_at_call 28; refine (HW2.out (w7.alloc (.cells #[.int .i64 0, .slice none 0 0, .slice none 0 0, .slice none 0 0] 48)) _ _ _ _ _ _ _ (hb57.alloc hb57.size _) (hfo7.flds.below ((Below.refl _ _).alloc (Nat.le_refl _) _))).mono ?_; rintro e w8 ⟨fN, fS, fL, eN, eS, eL, ws, rfl, hb8, hfo8⟩; have pY8 := (hb8.block w7.heap.size (by simp)).trans (heap_alloc_new w7 _); have fY8 : ∀ i, w8.frozen? ⟨w7.heap.size, i, none⟩ = false := (fun i => frozen_of_row w8 _ i _ _ pY8); have y0 := cell_of_row w8 w7.heap.size 0 _ _ _ pY8; have y1 := cell_of_row w8 w7.heap.size 1 _ _ _ pY8; have y2 := cell_of_row w8 w7.heap.size 2 _ _ _ pY8; have y3 := cell_of_row w8 w7.heap.size 3 _ _ _ pY8; simp at y0 y1 y2 y3; have hb57a := hb57.alloc hb57.size (.cells #[.int .i64 0, .slice none 0 0, .slice none 0 0, .slice none 0 0] 48); have hb58 := hb57a.trans (hb8.mono hb57a.size); have hfo8' := hfo8.mono hb57a.size)
            | fail)
          all_goals
            go_wp2_with fail
            go_meet
            first
              | exact ⟨w8.heap.size, fN, fS, fL, eN, eS, eL, ws, rfl, mk_last hb58 hfo8'⟩
              | exact ⟨w7.heap.size, fN, fS, fL, eN, eS, eL, ws, rfl, mk_set hb58 hb57.size pY8 hfo8'⟩
              | exact ⟨w9.heap.size, fN, fS, fL, eN, eS, eL, ws, rfl, mk_set hb58 (Nat.le_refl _) pY8 hfo8'⟩
        case rest =>
          obtain ⟨Z, rN, rS, rL, vN, vS, vL, zs, rfl, hz⟩ := hcut
          obtain ⟨wZ, hwZ⟩ : ∃ wZ, wZ = wc := ⟨_, rfl⟩
          rw [← hwZ] at hz ⊢
          clear hwZ q0 q1 q2 q3 g2 q0' q1' q2' q3' g2' HA2 HW2 HA HW HD1 HD2 HF2 HZ2 HG HRS hs1 hs2 hs3 hs4
          have hb9Z := hz.out.1
          have hb5Z := HB59.out.trans (hb9Z.mono HB59.out.size)
          have hboZ := HBO5.out.trans (hb5Z.mono HBO5.out.size)
          have hbwZ := hc.out.hb.trans (hboZ.mono hc.out.hb.size)
          have mZ := (hb9Z.block _ (lt_of_block HM9.out)).trans HM9.out
          have xZ := (hb5Z.block _ (lt_of_block HX5.out)).trans HX5.out
          have yZ := (hb9Z.block _ (lt_of_block hy.out.2.2.1)).trans hy.out.2.2.1
          have zZ := hz.out.2.2.1
          have onZ := own_after (own_after HON5.out HB59.out) hb9Z
          have olZ := own_after (own_after HOL5.out HB59.out) hb9Z
          have wkZ : Wk wZ (w.heap.size + 1) wo.heap.size us L := Wk.map (fun g n h => h.kept (fun cs e => (hboZ.block g (lt_of_block e)).trans e)) (Wk.of_q hc.out.ll)
          have HBN : Hid (∀ g, (Value.slice bn N.length en).ownBlock = some g → w.heap.size + 1 ≤ g ∧ g < wo.heap.size) := fun g hg => hc.out.on.lt g hg
          have hXo : wo.heap.size ≤ w4.heap.size := hXo4
          have hYo : wo.heap.size ≤ Y := Nat.le_trans HBO5.out.size hy.out.2.1
          have hZo : wo.heap.size ≤ Z := Nat.le_trans HBO5.out.size (Nat.le_trans HB59.out.size hz.out.2.1)
          have h9o : wo.heap.size ≤ w9.heap.size := Nat.le_trans HBO5.out.size HB59.out.size
          have HMZ := Lib.hid mZ
          have HXZ := Lib.hid xZ
          have HYZ := Lib.hid yZ
          have HZZ := Lib.hid zZ
          have HOZ := Lib.hid onZ
          have HLZ := Lib.hid olZ
          have HWZ := Lib.hid wkZ
          have HBZ := Lib.hid hbwZ
          have HFZ := Lib.hid hz.out.2.2.2
          clear hb9Z hb5Z hboZ hbwZ mZ xZ yZ zZ onZ olZ wkZ hy hz HM9 HX5 HON5 HOL5 HLL5 HB59 HBO5 HB5 HFX HM5
          go_wp2_with fail
          go_loopw [13] (fun v wr => ∃ (q : Nat) (xs : List Value), q ≤ N.length ∧ v = .int .i64 q ∧ Hid (wr.ownsRow (w.heap.size + 1) 66 1 (.slice bn N.length en) N.length xs ∧ (∀ j, j < N.length → ∃ z : Int, xs[j]? = some (.int .u64 z)) ∧ Below (w.heap.size + 1) wZ wr ∧ Up wo.heap.size wZ wr ∧ Kp [66] wZ wr)) (fun v _ => N.length - (intOf v).toNat)
          case atStart => exact ⟨0, _, by omega, rfl, HOZ.out, (fun j hj => ⟨((N[j]'hj : Nat) : Int), by simp [uv, hj]⟩), Below.refl _ _, Up.refl _ _, fun _ _ _ _ h _ => h⟩
          case round =>
            obtain ⟨q, xs, hq, rfl, hr⟩ := hrel
            by_cases hlt : q < N.length
            · obtain ⟨ho, hx, hbz, hup, hkp⟩ := hr.out
              obtain ⟨z, hz⟩ := hx q hlt
              obtain ⟨g, cap, hform, _⟩ := ho.form (by omega)
              injection hform with ha _ hcp
              subst ha hcp
              have hg1 := HBN.out g rfl
              have cq := (ho.cellAt q (by omega)).trans hz
              have fq := ho.frozenAt q
              have HR := Lib.hid (show wr.ownsRow (w.heap.size + 1) 66 1 (.slice (some ⟨g, 0, none⟩) N.length en) N.length xs ∧ (∀ j, j < N.length → ∃ z : Int, xs[j]? = some (.int .u64 z)) ∧ Below (w.heap.size + 1) wZ wr ∧ Up wo.heap.size wZ wr ∧ Kp [66] wZ wr from ⟨ho, hx, hbz, hup, hkp⟩)
              clear ho hx hbz hup hkp hr hz
              go_wp2
              go_roundw
              case rel =>
                refine ⟨q + 1, _, by omega, by go_num, (HR.out.1.stored q _).1, fun j hj => ?_, HR.out.2.2.1.setCell hg1.1 _, HR.out.2.2.2.1.set hg1.2, (HR.out.2.2.2.2.trans (Kp.grown (HR.out.1.stored q _).2 (rowT_own HR.out.1))).weak (by decide)⟩
                rcases Nat.lt_or_ge j xs.length with h1 | h1
                · by_cases hjq : q = j
                  · subst hjq
                    rw [List.getElem?_set_self h1]
                    exact ⟨_, rfl⟩
                  · rw [List.getElem?_set_ne hjq]
                    exact HR.out.2.1 j hj
                · obtain ⟨z, hz⟩ := HR.out.2.1 j hj
                  rw [List.getElem?_eq_none h1] at hz
                  cases hz
              case measure => simp [intOf] <;> omega
            · obtain ⟨wA, hwA⟩ : ∃ wA, wA = wr := ⟨_, rfl⟩
              rw [← hwA] at hr ⊢
              clear hwA
              have HS0 : Hid (wA.ownsRow (w.heap.size + 1) 62 1 (.slice bl L.length el) L.length us ∧ Wk wA (w.heap.size + 1) wo.heap.size us L ∧ Below (w.heap.size + 1) wZ wA ∧ Up wo.heap.size wZ wA) :=
                ⟨hr.out.2.2.2.2.own HLZ.out (by decide), Wk.map (fun g n h => h.kept (fun cs e => hr.out.2.2.2.2 _ _ _ _ e (by decide))) HWZ.out, hr.out.2.2.1, hr.out.2.2.2.1⟩
              clear hr HOZ HLZ HWZ
              go_wp2_with fail
              go_loopw [14] (fun v wr => ∃ (q : Nat), q ≤ L.length ∧ v = .int .i64 q ∧ Hid (wr.ownsRow (w.heap.size + 1) 62 1 (.slice bl L.length el) L.length us ∧ Wk wr (w.heap.size + 1) wo.heap.size us L ∧ Below (w.heap.size + 1) wZ wr ∧ Up wo.heap.size wZ wr)) (fun v _ => L.length - (intOf v).toNat)
              case atStart => exact ⟨0, by omega, rfl, HS0⟩
              case round =>
                obtain ⟨q, hq, rfl, hr⟩ := hrel
                obtain ⟨wB, hwB⟩ : ∃ wB, wB = wr := ⟨_, rfl⟩
                rw [← hwB] at hr ⊢
                clear hwB HS0
                by_cases hlt : q < L.length
                · obtain ⟨u, hu⟩ : ∃ u, u = L[q] := ⟨_, rfl⟩
                  have HU9 := Lib.hid hu
                  have hul : u.length ≤ 300 := HU3.out u (by rw [hu]; exact List.getElem_mem _)
                  clear hu
                  go_wp2_with fail
                  go_loopw [15] (fun v wr => ∃ (j : Nat), j ≤ u.length ∧ v = .int .i64 j ∧ Hid (wr.ownsRow (w.heap.size + 1) 62 1 (.slice bl L.length el) L.length us ∧ Wk wr (w.heap.size + 1) wo.heap.size us L ∧ Below (w.heap.size + 1) wZ wr ∧ Up wo.heap.size wZ wr)) (fun v _ => u.length - (intOf v).toNat)
                  case atStart => exact ⟨0, by omega, rfl, hr⟩
                  case round =>
                    clear hr
                    obtain ⟨j, hj, rfl, hs⟩ := hrel
                    obtain ⟨ho, hw, hbz, hup⟩ := hs.out
                    obtain ⟨a, cc, hvq, hint⟩ := Wk.get q hlt hw
                    rw [← HU9.out] at hvq hint
                    obtain ⟨gl, cap, hform, _⟩ := ho.form (by omega)
                    injection hform with ha _ hcp
                    subst ha hcp
                    have cq := (ho.cellAt q (by omega)).trans hvq
                    by_cases hju : j < u.length
                    · obtain ⟨g, rfl, hg1, hg2, cs, hcs, hzz⟩ := hint (by omega)
                      obtain ⟨z, hz⟩ := hzz j hju
                      have cj := (cell_of_row wr g j cs 67 (0, 0) hcs).trans hz
                      have fj := frozen_of_row wr g j cs 67 hcs
                      have HCS := Lib.hid hcs
                      have HS := Lib.hid (show wr.ownsRow (w.heap.size + 1) 62 1 (.slice (some ⟨gl, 0, none⟩) L.length el) L.length us ∧ Wk wr (w.heap.size + 1) wo.heap.size us L ∧ Below (w.heap.size + 1) wZ wr ∧ Up wo.heap.size wZ wr from ⟨ho, hw, hbz, hup⟩)
                      clear ho hw hbz hup hs hvq hint hcs hzz hz
                      go_wp2
                      go_roundw
                      case rel => exact ⟨j + 1, by omega, by go_num, (Kp.set HCS.out j _).own HS.out.1 (by decide), Wk.map (fun _ _ h => h.set) HS.out.2.1, HS.out.2.2.1.setCell hg1 _, HS.out.2.2.2.set hg2⟩
                      case measure => simp [intOf] <;> omega
                    · have HS := Lib.hid (show wr.ownsRow (w.heap.size + 1) 62 1 (.slice (some ⟨gl, 0, none⟩) L.length el) L.length us ∧ Wk wr (w.heap.size + 1) wo.heap.size us L ∧ Below (w.heap.size + 1) wZ wr ∧ Up wo.heap.size wZ wr from ⟨ho, hw, hbz, hup⟩)
                      clear ho hw hbz hup hs hvq hint
                      go_wp2
                      go_roundw
                      case rel => exact ⟨q + 1, by omega, by go_num, HS.out⟩
                      case measure => simp [intOf] <;> omega
                · have hbz := hr.out.2.2.1
                  have hup := hr.out.2.2.2
                  obtain ⟨w5', hw5'⟩ : ∃ w5', w5' = wB := ⟨_, rfl⟩
                  have mB := (hbz.block w.heap.size (by omega)).trans HMZ.out
                  have xB := (hup.2 _ hXo (lt_of_block HXZ.out)).trans HXZ.out
                  have yB := (hup.2 _ hYo (lt_of_block HYZ.out)).trans HYZ.out
                  have zB := (hup.2 _ hZo (lt_of_block HZZ.out)).trans HZZ.out
                  have hbwB : Below w.heap.size w wB := HBZ.out.trans (hbz.mono (by omega))
                  have hfoB : Fo wB w9.heap.size rN rS rL vN vS vL zs N S L := hup.fo h9o HFZ.out
                  have HFA : Hid (∀ W, Below wB.heap.size wB W → Flds W rN rS rL vN vS vL zs N S L) := fun W hW => (hfoB.after hW).flds
                  have HFB : Hid (∀ W, Below wB.heap.size wB W → Flds W aN aS aL cN cS cL vs N S L) := fun W hW => HF.out.below (hbwB.trans (hW.mono hbwB.size))
                  have HEN2 : Hid (∀ W, Below wB.heap.size wB W → Ents W) := fun W hW => HE.out.keep (hbwB.trans (hW.mono hbwB.size))
                  have HK : Hid (∀ W, Below wB.heap.size wB W → W.cell? ⟨w4.heap.size, 2, none⟩ = some (.slice none 0 0) ∧ W.cell? ⟨w4.heap.size, 3, none⟩ = some (.slice none 0 0) ∧ W.cell? ⟨Y, 2, none⟩ = some (.slice sS S1.length tS) ∧ W.cell? ⟨Y, 3, none⟩ = some (.slice sL L1.length tL) ∧
                      W.cell? ⟨w.heap.size, 0, none⟩ = some (.int .i64 k) ∧ W.cell? ⟨w.heap.size, 1, none⟩ = some (.slice aN N.length cN) ∧ W.cell? ⟨w.heap.size, 2, none⟩ = some (.slice aS S.length cS) ∧ W.cell? ⟨w.heap.size, 3, none⟩ = some (.slice aL L.length cL) ∧
                      W.cell? ⟨Z, 0, none⟩ = some (.int .i64 k) ∧ W.cell? ⟨Z, 1, none⟩ = some (.slice rN N.length vN) ∧ W.cell? ⟨Z, 2, none⟩ = some (.slice rS S.length vS) ∧ W.cell? ⟨Z, 3, none⟩ = some (.slice rL L.length vL)) := fun W hW => by
                    have e1 := (hW.block _ (lt_of_block mB)).trans mB
                    have e2 := (hW.block _ (lt_of_block xB)).trans xB
                    have e3 := (hW.block _ (lt_of_block yB)).trans yB
                    have e4 := (hW.block _ (lt_of_block zB)).trans zB
                    exact ⟨cell_of_row W _ 2 _ _ _ e2, cell_of_row W _ 3 _ _ _ e2, cell_of_row W _ 2 _ _ _ e3, cell_of_row W _ 3 _ _ _ e3, cell_of_row W _ 0 _ _ _ e1, cell_of_row W _ 1 _ _ _ e1, cell_of_row W _ 2 _ _ _ e1, cell_of_row W _ 3 _ _ _ e1, cell_of_row W _ 0 _ _ _ e4, cell_of_row W _ 1 _ _ _ e4, cell_of_row W _ 2 _ _ _ e4, cell_of_row W _ 3 _ _ _ e4⟩
                  have HD : Hid (Below wB.heap.size wB wB.drew) := (Below.refl _ _).drew
                  have HBB := Lib.hid hbwB
                  have HSZ : Hid (N.length ≤ 1000 ∧ S.length ≤ 1000 ∧ L.length ≤ 1000 ∧ ∀ u ∈ L, u.length ≤ 1000) := ⟨by omega, by omega, by omega, fun u hu => by have := HU3.out u hu; omega⟩
                  have n1 : ((S1.length : Int) == (S1.length : Int)) = true := beq_self_eq_true _
                  have n2 : ((L1.length : Int) == (L1.length : Int)) = true := beq_self_eq_true _
                  clear hbz hup hw5' mB xB yB zB hbwB hfoB hr HMZ HXZ HYZ HZZ HBZ HFZ HE HF HU HU3 HBN
                  go_wp2_with fail
                  go_region_held3 (fun W => W.cell? ⟨w4.heap.size, 2, none⟩ = some (.slice none 0 0) ∧ W.cell? ⟨w4.heap.size, 3, none⟩ = some (.slice none 0 0) ∧ W.cell? ⟨Y, 2, none⟩ = some (.slice sS S1.length tS) ∧ W.cell? ⟨Y, 3, none⟩ = some (.slice sL L1.length tL) ∧
                      W.cell? ⟨w.heap.size, 0, none⟩ = some (.int .i64 k) ∧ W.cell? ⟨w.heap.size, 1, none⟩ = some (.slice aN N.length cN) ∧ W.cell? ⟨w.heap.size, 2, none⟩ = some (.slice aS S.length cS) ∧ W.cell? ⟨w.heap.size, 3, none⟩ = some (.slice aL L.length cL) ∧
                      W.cell? ⟨Z, 0, none⟩ = some (.int .i64 k) ∧ W.cell? ⟨Z, 1, none⟩ = some (.slice rN N.length vN) ∧ W.cell? ⟨Z, 2, none⟩ = some (.slice rS S.length vS) ∧ W.cell? ⟨Z, 3, none⟩ = some (.slice rL L.length vL))
                    (first | exact HK.out _ hc8 | exact HK.out _ hc7 | exact HK.out _ hc6 | exact HK.out _ HD.out | go_keep)
                    (first
                      | (go_at_call 25; refine (mback_any _ _ _ _ _ _ _ _ _ _ wB.drew).mono ?_; rintro e w6 ⟨rfl, hb6⟩; have hc6 := HD.out.trans hb6)
                      | (go_at_call 24; refine (msame_any _ rN rS rL aN aS aL vN vS vL cN cS cL zs vs N S L w6 (HFA.out w6 hc6) (HFB.out w6 hc6) HSZ.out.1 HSZ.out.2.1 HSZ.out.2.2.1 HSZ.out.2.2.2).mono ?_; rintro e w7 ⟨rfl, hb7⟩; have hc7 := hc6.trans (hb7.mono hc6.size))
                      | (go_at_call 17; refine (vawake w7 (HEN2.out w7 hc7)).mono ?_; rintro e w8 ⟨rfl, hb8⟩; have hc8 := hc7.trans (hb8.mono hc7.size))
                      | fail)
                  go_wp2
                  go_ret
                  exact ⟨rfl, HBB.out.trans (hc8.mono HBB.out.size)⟩
end Go.Proofs.YtkhhbmbjmfdgdaaDoor
