/- Frames: the walk of FrameHeld. -/
import Derived.Test.YtggoclmboemmlaaFJ
namespace Go.Proofs.Ytggoclmboemmlaa
open Go.RowKit

theorem nxt_right (r : List UInt8) (d : Bool) (p : List UInt8) : ∀ f ∈ (nxt r d p).1, f.length ≤ 3000000 := by
  unfold nxt
  split
  · intro f hf; cases hf
  · intro f hf
    have := frames_right _ f hf
    omega
theorem IsR.kp {C : Nat → Prop} {w w' : World} {H : Nat} {x : Value} {r : List UInt8} {d : Bool} (h : IsR w H x r d) (hk : Kp C w w') (h1 : ¬ C H) (h2 : ∀ g, x.ownBlock = some g → ¬ C g) : IsR w' H x r d :=
  ⟨hk.heap h.1 h1, hk.own h.2 h2⟩
theorem Frs.frl {w : World} {B : Nat} {fv : Value} {gs : List (List UInt8)} {us : List Value} (h : Frs w B fv gs us) : FrL w B gs.length fv us (fun j => (gs.getD j []).length) := by
  refine ⟨h.1, fun j hj => ?_⟩
  obtain ⟨A, n, c, h1, h2⟩ := h.2 j hj
  have hn : n = gs[j].length := by
    obtain ⟨_, _, e, _⟩ := own_pb h2
    injection e
  have hg : (gs.getD j []).length = gs[j].length := by simp [List.getD, hj]
  show ∃ A c, us[j]? = some (.slice A (gs.getD j []).length c) ∧ ∃ ys : List UInt8, ys.length = (gs.getD j []).length ∧ w.ownsRow B 5 1 (.slice A (gs.getD j []).length c) ys.length (bv ys)
  rw [hg]
  subst hn
  exact ⟨A, c, h1, gs[j], rfl, h2⟩
theorem FrL.set {w : World} {B n g j : Nat} {fv : Value} {us : List Value} {N : Nat → Nat} {y : UInt8} (h : FrL w B n fv us N) (hg : ∃ cs fz, w.heap[g]? = some (.cells cs 5 fz)) : FrL (w.setCell ⟨g, j, none⟩ (.int .u8 (y.toNat : Int))) B n fv us N := by
  obtain ⟨cs, fz, hg⟩ := hg
  refine ⟨(Kp.setCell w ⟨g, j, none⟩ _).own h.1 (fun k hk e => own_type h.1 hg (by decide) (by rw [hk]; exact congrArg some e)), fun i hi => ?_⟩
  obtain ⟨A, c, h1, ys, h2, h3⟩ := h.2 i hi
  obtain ⟨zs, h4, h5⟩ := own_set (g := g) (j := j) (y := y) h3
  exact ⟨A, c, h1, zs, by rw [h4, h2], by rw [h4]; exact h5⟩

set_option maxHeartbeats 4000000 in
set_option maxRecDepth 4000 in
theorem held_walk (v : Value) (ps : List (List UInt8)) (w : World) (hp : Pbs w v ps) (hpl : ps.length ≤ 9223372036854775807) (hql : ∀ p ∈ ps, p.length ≤ 9223372036854775807) :
    Calls Try.prog 8 #[v] w fun e w' => e = .returned (.bool true) ∧ Below w.heap.size w w' := by
  obtain ⟨A, c, rfl, _, _⟩ := id hp
  have hsh := short_any _ ps w hp hpl hql
  obtain ⟨sb, hsb⟩ : ∃ sb, sb = shortB ps := ⟨_, rfl⟩
  rw [← hsb] at hsh
  have HSH := Lib.hid hsh
  have HSB := Lib.hid hsb
  have HP := Lib.hid hp
  have HA := Lib.hid (fun (W : World) => awake_any W)
  obtain ⟨H, hH⟩ : ∃ H, H = w.heap.size := ⟨_, rfl⟩
  have HHH := Lib.hid hH
  clear hsh hsb hp hql
  go_enter Try.func8, Try.ntmps8
  go_wp2_with fail
  refine HSH.out.mono ?_
  rintro e w0 ⟨rfl, rfl⟩
  clear HSH
  cases sb with
  | false =>
    go_wp2_with fail
    go_ret
    exact ⟨rfl, Below.refl _ _⟩
  | true =>
    have HSL := Lib.hid (short_len HSB.out.symm).1
    go_wp2_with fail
    refine (new_any w).mono ?_
    rintro e w1 ⟨rfl, hw1⟩
    rw [← hH]
    have hr1 : w1.heap[H]? = some (.cells #[.slice none 0 0, .bool false] 50 (0, 0)) := by rw [hw1, hH]; exact heap_alloc_new w _
    have hb1 : Below w.heap.size w w1 := by rw [hw1]; exact (Below.refl _ _).alloc (Nat.le_refl _) _
    have HR1 := Lib.hid hr1
    have HB1 := Lib.hid hb1
    clear hr1 hb1 hw1 hH
    go_wp2_with fail
    refine (new_any w1).mono ?_
    rintro e w2 ⟨rfl, hw2⟩
    obtain ⟨G, hG⟩ : ∃ G, G = w1.heap.size := ⟨_, rfl⟩
    rw [← hG]
    have hr2 : w2.heap[G]? = some (.cells #[.slice none 0 0, .bool false] 50 (0, 0)) := by rw [hw2, hG]; exact heap_alloc_new w1 _
    have hk2 : Kp (fun _ => False) w1 w2 := by rw [hw2]; exact Kp.alloc _ _ _
    have HG := Lib.hid (show H < G ∧ w.heap.size ≤ H by rw [hG]; exact ⟨lt_of_block' HR1.out, by rw [HHH.out]; exact Nat.le_refl _⟩)
    have HI2 := Lib.hid (show IsR w2 H (.slice none 0 0) [] false ∧ IsR w2 G (.slice none 0 0) [] false ∧ Below w.heap.size w w2 from ⟨⟨hk2.heap HR1.out (fun e => e), World.ownsRow_nil w2 (H + 1) 5 1⟩, ⟨hr2, World.ownsRow_nil w2 (G + 1) 5 1⟩, by rw [hw2]; exact HB1.out.alloc HB1.out.size _⟩)
    clear hr2 hk2 hw2 hG HR1 HB1
    go_wp2_with fail
    go_loopw [5] (fun iv wr => ∃ (k : Nat) (xr xq : Value) (r : List UInt8) (d : Bool), k ≤ ps.length ∧ iv = .int .i64 (k : Int) ∧ Hid (IsR wr H xr r d ∧ IsR wr G xq r d ∧ Below w.heap.size w wr) ∧ Hid (∀ g, xr.ownBlock = some g → xq.ownBlock ≠ some g) ∧ Hid (r.length ≤ 1025)) (fun iv _ => ps.length - (intOf iv).toNat)
    case atStart => exact ⟨0, _, _, [], false, by omega, rfl, HI2, Lib.hid (fun g h e => by cases e), Lib.hid (by simp)⟩
    case round =>
      clear HI2
      obtain ⟨k, xr, xq, r, d, hk, rfl, hi, hdj, hrl⟩ := hrel
      by_cases hlt : k < ps.length
      · obtain ⟨b, o, c2, u, e2, hbl, hcw, hpw⟩ := HP.out.get hlt
        injection e2 with e3 _ e4
        subst e3 e4
        have hpl2 := HSL.out ps[k] (List.getElem_mem hlt)
        obtain ⟨p, hpk⟩ : ∃ p, p = ps[k] := ⟨_, rfl⟩
        rw [← hpk] at hpw hpl2
        obtain ⟨A3, c3, rfl, _, _⟩ := id hpw
        have hcell1 : (wr.alloc (.cells #[] 5)).cell? ⟨b, o + k, none⟩ = some (.slice A3 p.length c3) := ((hi.out.2.2.alloc hi.out.2.2.size (.cells #[] 5)).cell (p := ⟨b, o + k, none⟩) hbl).trans hcw
        have HCW := Lib.hid (show w.cell? ⟨b, o + k, none⟩ = some (.slice A3 p.length c3) from hcw)
        have ho0 : (wr.alloc (.cells #[] 5)).ownsRow wr.heap.size 5 1 (.slice (some ⟨wr.heap.size, 0, none⟩) 0 0) ([] : List UInt8).length (bv []) := World.ownsRow_lit wr #[] 0 (Nat.le_refl _) (by unfold maxLen; omega) rfl
        have HO0 := Lib.hid ho0
        have HPW := Lib.hid hpw
        have HPA := Lib.hid (hpw.below (hi.out.2.2.alloc hi.out.2.2.size (.cells #[] 5)))
        have HPL := Lib.hid hpl2
        have HZ := Lib.hid (show wr.heap.size ≤ (wr.alloc (.cells #[] 5)).heap.size by simp)
        clear hpl2 hpk hpw hcw ho0
        go_wp2_with (at_builtin; refine wpList_append_bytes rfl (.tmp 25) (.tmp 29) rfl wr.heap.size (.slice (some ⟨wr.heap.size, 0, none⟩) 0 0) (.slice A3 p.length c3) [] p rfl rfl HO0.out HPA.out (by have := HPL.out; simp; omega) HZ.out ?_; intro v2 w2 hown2 hg2 hat2; have hown2 : w2.ownsRow wr.heap.size 5 1 v2 p.length (bv p) := hown2; obtain ⟨A2, c2', rfl, _, _⟩ := id (own_pb hown2))
        have hk2 : Kp (fun _ => False) wr w2 := (Kp.alloc _ wr _).trans (Kp.of_grown hg2) (fun i hi e => by have := (HO0.out.lt i e).1; omega)
        have hir2 := hi.out.1.kp hk2 (fun e => e) (fun _ _ e => e)
        have hiq2 := hi.out.2.1.kp hk2 (fun e => e) (fun _ _ e => e)
        have hfd := feed_both H xr _ r p d w2 hir2 (own_pb hown2) (by have := hrl.out; have := HPL.out; omega)
        have hnl := nxt_le r d p hrl.out
        have hnf := nxt_few r d p
        have hng := nxt_right r d p
        have hfq := fun (W : World) (hi : IsR W G xq r d) (hb : Below w.heap.size w W) => feed_both G xq _ r p d W hi (HPW.out.below hb) (by have := hrl.out; have := HPL.out; omega)
        obtain ⟨q2, hq2⟩ : ∃ q2, q2 = nxt r d p := ⟨_, rfl⟩
        rw [← hq2] at hfd hnl hnf hng
        rw [← hq2] at hfq
        obtain ⟨gs, r2, d2⟩ := q2
        obtain ⟨er, her⟩ : ∃ er : Int, er = if d2 then 6 else 0 := ⟨_, rfl⟩
        have HFD := Lib.hid hfd
        have HFQ := Lib.hid hfq
        rw [← her] at HFD HFQ
        have HNL := Lib.hid (show r2.length ≤ 1025 from hnl)
        have HNG := Lib.hid (show ∀ f ∈ gs, f.length ≤ 3000000 from hng)
        clear hng
        have HNF := Lib.hid (show gs.length ≤ 3000 by have := hrl.out; have := HPL.out; simp at hnf; omega)
        have HK2 := Lib.hid hk2
        have HIQ2 := Lib.hid hiq2
        have HIR2 := Lib.hid hir2
        have HOWN := Lib.hid hown2
        have HBW2 := Lib.hid (show Below w.heap.size w w2 from hi.out.2.2.trans (hk2.below hi.out.2.2.size (fun k e => e.elim)))
        have HXR := Lib.hid (show (∀ g, xr.ownBlock = some g → H < g ∧ g < wr.heap.size) ∧ (∀ g, xq.ownBlock = some g → G < g ∧ g < wr.heap.size) ∧ wr.heap.size ≤ w2.heap.size ∧ G < wr.heap.size from ⟨fun g h => hi.out.1.2.lt g h, fun g h => hi.out.2.1.2.lt g h, hk2.size, lt_of_block' hi.out.2.1.1⟩)
        clear hk2 hir2 hiq2 hfd hnl hnf hfq hq2 her hown2 hg2 hat2 hi HO0 HPA HZ hcell1
        go_wp2_with fail
        refine HFD.out.mono ?_
        rintro e w3 ⟨A7, n7, c7, us, x2, rfl, hfr3, hir3, hob3, hdj3, hk3⟩
        have hiq3 := HIQ2.out.kp hk3 (fun e => by
          rcases e with e | e
          · have := HG.out.1; omega
          · exact own_type HIR2.out.2 HIQ2.out.1 (by decide) e) (fun g hg e => by
          rcases e with e | e
          · have := (HXR.out.2.1 g hg).1; have := HG.out.1; omega
          · exact hdj.out g e hg)
        have hown3 := hk3.own HOWN.out (fun g hg e => by
          have h1 := (HOWN.out.lt g hg).1
          rcases e with e | e
          · have := HXR.out.2.2.2; have := HG.out.1; omega
          · have := (HXR.out.1 g e).2; omega)
        have hb3 : Below w.heap.size w w3 := HBW2.out.trans (hk3.below HBW2.out.size (fun g e => by
          rcases e with e | e
          · have := HG.out.2; omega
          · have := (HXR.out.1 g e).1; have := HG.out.2; omega))
        have HX2 := Lib.hid (show (∀ g, x2.ownBlock = some g → (xr.ownBlock = some g ∧ g < wr.heap.size) ∨ w2.heap.size ≤ g) ∧ (∀ g, x2.ownBlock = some g → g < w3.heap.size) ∧ (∀ g, (Value.slice A2 p.length c2').ownBlock = some g → wr.heap.size ≤ g ∧ g < w2.heap.size) from ⟨fun g h => by
          rcases hob3 with e | e | ⟨g2, e, hge⟩
          · exact .inl ⟨by rw [← e]; exact h, (HXR.out.1 g (by rw [← e]; exact h)).2⟩
          · rw [e] at h; cases h
          · rw [e] at h; injection h with h; exact .inr (by omega), fun g h => (hir3.2.lt g h).2, fun g h => HOWN.out.lt g h⟩)
        have HDJ3 := Lib.hid hdj3
        have HLT3 := Lib.hid (show ∀ u ∈ us, ∀ g, u.ownBlock = some g → w2.heap.size ≤ g ∧ g < w3.heap.size from fun u hu g hg => by
          obtain ⟨j, hj, e⟩ := List.getElem_of_mem hu
          have hl := hfr3.1.1
          obtain ⟨A, n, c, h1, h2⟩ := hfr3.2 j (by omega)
          rw [List.getElem?_eq_getElem hj, e] at h1
          injection h1 with h1
          subst h1
          exact h2.lt g hg)
        have HST := Lib.hid (show w3.ownsRow wr.heap.size 5 1 (.slice A2 p.length c2') p.length (bv p) ∧ Frs w3 w2.heap.size (.slice A7 n7 c7) gs us ∧ IsR w3 H x2 r2 d2 ∧ IsR w3 G xq r d ∧ Below w.heap.size w w3 ∧ w3.heap.size ≤ w3.heap.size from ⟨hown3, hfr3, hir3, hiq3, hb3, Nat.le_refl _⟩)
        clear hfr3 hir3 hob3 hdj3 hk3 hiq3 hown3 hb3 HFD HIQ2 HIR2 HOWN HBW2
        go_wp2_with fail
        obtain ⟨wB, hwB⟩ : ∃ B, B = wr.heap.size := ⟨_, rfl⟩
        rw [← hwB] at HST HX2 HXR
        clear hwB
        go_loopw [9] (fun i wi => ∃ (j : Nat) (ys : List UInt8), j ≤ p.length ∧ i = .int .i64 (j : Int) ∧ Hid (ys.length = p.length) ∧ Hid (wi.ownsRow wB 5 1 (.slice A2 p.length c2') p.length (bv ys) ∧ Frs wi w2.heap.size (.slice A7 n7 c7) gs us ∧ IsR wi H x2 r2 d2 ∧ IsR wi G xq r d ∧ Below w.heap.size w wi ∧ w3.heap.size ≤ wi.heap.size)) (fun i _ => p.length - (intOf i).toNat)
        case atStart => exact ⟨0, p, by omega, rfl, Lib.hid rfl, HST⟩
        case round =>
          clear HST
          obtain ⟨j, ys, hj, rfl, hyl, hst⟩ := hrel
          have hp12 := HPL.out
          by_cases hjl : j < p.length
          · obtain ⟨g, cap, e6⟩ := own_some hst.out.1 (by omega)
            injection e6 with e7 _ e8
            subst e7 e8
            have hyq : j < ys.length := by rw [hyl.out]; exact hjl
            have hcellb := hst.out.1.cellAt j (by omega)
            rw [bv_get ys j hyq] at hcellb
            have hfr := hst.out.1.frozenAt j
            obtain ⟨y, hy⟩ : ∃ y, y = ys[j] := ⟨_, rfl⟩
            rw [← hy] at hcellb
            clear hy
            go_wp2_with fail
            go_roundw
            case rel =>
              have hsr := hst.out.1.stored j (.int .u8 ((y ^^^ 255).toNat : Int))
              have hkk := Kp.of_grown hsr.2
              have hgb := HX2.out.2.2 g rfl
              rw [xor_byte]
              refine ⟨j + 1, ys.set j (y ^^^ 255), by omega, by go_num, Lib.hid (by simp [hyl.out]), Lib.hid ⟨by rw [← bv_set]; exact hsr.1, hst.out.2.1.kept (Nat.le_refl _) hkk (fun k hk e => ?_), hst.out.2.2.1.kp hkk (fun e => ?_) (fun g2 hg2 e => ?_), hst.out.2.2.2.1.kp hkk (fun e => ?_) (fun g2 hg2 e => ?_), hst.out.2.2.2.2.1.trans (hkk.below hst.out.2.2.2.2.1.size (fun k e => ?_)), Nat.le_trans hst.out.2.2.2.2.2 hkk.size⟩⟩
              · injection e with e; have e : g = k := e; omega
              · injection e with e; have e : g = H := e; have := HXR.out.2.2.2; have := HG.out.1; omega
              · injection e with e; have e : g = g2 := e
                rcases HX2.out.1 g2 hg2 with h | h
                · omega
                · omega
              · injection e with e; have e : g = G := e; have := HXR.out.2.2.2; omega
              · injection e with e; have e : g = g2 := e; have := (HXR.out.2.1 g2 hg2).2; omega
              · injection e with e; have e : g = k := e; have := HXR.out.2.2.2; have := HG.out; omega
            case measure => simp [intOf] <;> omega
          · have hcell4 := (hst.out.2.2.2.2.1.cell (p := ⟨b, o + k, none⟩) hbl).trans HCW.out
            have HQF := Lib.hid (HFQ.out wr hst.out.2.2.2.1 hst.out.2.2.2.2.1)
            have HST := Lib.hid hst.out.2
            clear hst hyl
            go_wp2_with fail
            refine HQF.out.mono ?_
            rintro e w5 ⟨A8, n8, c8, us8, xq2, rfl, hfr5, hiq5, hob5, _, hk5⟩
            have hir5 := HST.out.2.1.kp hk5 (fun e => by
              rcases e with e | e
              · have := HG.out.1; omega
              · have := (HXR.out.2.1 H e).1; have := HG.out.1; omega) (fun g hg e => by
              rcases e with e | e
              · exact own_type HST.out.2.1.2 HST.out.2.2.1.1 (by decide) (by rw [hg]; exact congrArg some e)
              · rcases HX2.out.1 g hg with h | h
                · exact hdj.out g h.1 e
                · have := (HXR.out.2.1 g e).2; have := HXR.out.2.2.1; omega)
            have hf5 := HST.out.1.kept (Nat.le_refl _) hk5 (fun g hg e => by
              rcases e with e | e
              · have := HXR.out.2.2; omega
              · have := (HXR.out.2.1 g e).2; have := HXR.out.2.2.1; omega)
            have hb5 : Below w.heap.size w w5 := HST.out.2.2.2.1.trans (hk5.below HST.out.2.2.2.1.size (fun g e => by
              rcases e with e | e
              · have := HG.out; omega
              · have := (HXR.out.2.1 g e).1; have := HG.out; omega))
            have hxq2 : ∀ g, xq2.ownBlock = some g → (xq.ownBlock = some g ∧ g < wB) ∨ w3.heap.size ≤ g := by
              intro g h
              rcases hob5 with e | e | ⟨g2, e, hge⟩
              · exact .inl ⟨by rw [← e]; exact h, (HXR.out.2.1 g (by rw [← e]; exact h)).2⟩
              · rw [e] at h; cases h
              · rw [e] at h; injection h with h; have := HST.out.2.2.2.2; exact .inr (by omega)
            have hdjn : ∀ g, x2.ownBlock = some g → xq2.ownBlock ≠ some g := by
              intro g hg hq
              have h3 := HX2.out.2.1 g hg
              rcases hxq2 g hq with h | h
              · rcases HX2.out.1 g hg with h2 | h2
                · exact hdj.out g h2.1 h.1
                · have := HXR.out.2.2.1; omega
              · omega
            have hdf : ∀ u ∈ us, ∀ g, u.ownBlock = some g → x2.ownBlock ≠ some g ∧ xq2.ownBlock ≠ some g ∧ H ≠ g ∧ G ≠ g ∧ w.heap.size ≤ g := by
              intro u hu g hg
              have h1 := HLT3.out u hu g hg
              refine ⟨fun e => HDJ3.out u hu g e hg, fun e => ?_, ?_, ?_, ?_⟩
              · rcases hxq2 g e with h | h
                · have := HXR.out.2.2.1; omega
                · omega
              · have := HXR.out.2.2; have := HG.out; omega
              · have := HXR.out.2.2; omega
              · have := HXR.out.2.2; have := HG.out; omega
            have hsm := same_any _ _ gs gs w5 hf5.pbs hfr5.pbs (by have := HNF.out; omega) (by have := HNF.out; omega)
            rw [decide_eq_true rfl] at hsm
            have HSM := Lib.hid hsm
            have HDF := Lib.hid hdf
            have HDJN := Lib.hid hdjn
            have HST5 := Lib.hid (show FrL w5 w2.heap.size gs.length (.slice A7 n7 c7) us (fun j => (gs.getD j []).length) ∧ IsR w5 H x2 r2 d2 ∧ IsR w5 G xq2 r2 d2 ∧ Below w.heap.size w w5 from ⟨hf5.frl, hir5, hiq5, hb5⟩)
            have HN7 := Lib.hid (show n7 = gs.length by obtain ⟨_, _, e⟩ := hf5.form; injection e)
            clear hsm hdf hdjn hxq2 hb5 hf5 hir5 hiq5 hob5 hk5 hfr5 HQF HST hcell4
            go_wp2_with fail
            refine HSM.out.mono ?_
            rintro e w6 ⟨rfl, hb6⟩
            have hst6 : FrL w6 w2.heap.size gs.length (.slice A7 n7 c7) us (fun j => (gs.getD j []).length) ∧ IsR w6 H x2 r2 d2 ∧ IsR w6 G xq2 r2 d2 ∧ Below w.heap.size w w6 := ⟨⟨own_below HST5.out.1.1 hb6, fun j hj => by
              obtain ⟨A, c, h1, ys, h2, h3⟩ := HST5.out.1.2 j hj
              exact ⟨A, c, h1, ys, h2, own_below h3 hb6⟩⟩, HST5.out.2.1.kp (Kp.of_below (fun _ => False) hb6) (fun e => e) (fun _ _ e => e), HST5.out.2.2.1.kp (Kp.of_below (fun _ => False) hb6) (fun e => e) (fun _ _ e => e), HST5.out.2.2.2.trans (hb6.mono HST5.out.2.2.2.size)⟩
            have hh1 := held_any H x2 r2 d2 w6 hst6.2.1.1 (own_pb hst6.2.1.2)
            have hh2 := held_any G xq2 r2 d2 w6 hst6.2.2.1.1 (own_pb hst6.2.2.1.2)
            obtain ⟨rl, hrl2⟩ : ∃ rl, rl = r2.length := ⟨_, rfl⟩
            rw [← hrl2] at hh1 hh2
            have hrl3 : rl ≤ 1025 := by rw [hrl2]; exact HNL.out
            have HH1 := Lib.hid hh1
            have HH2 := Lib.hid hh2
            have HST6 := Lib.hid hst6
            clear hh1 hh2 hrl2 hst6 hb6 HSM HST5
            go_wp2_with fail
            refine HH1.out.mono ?_
            rintro e w7 ⟨rfl, rfl⟩
            go_wp2_with fail
            refine HH2.out.mono ?_
            rintro e w7 ⟨rfl, rfl⟩
            clear HH2
            go_wp2_with fail
            refine HH1.out.mono ?_
            rintro e w7 ⟨rfl, rfl⟩
            clear HH1
            have hn3 := HNF.out
            obtain ⟨n, hn⟩ : ∃ n, n = gs.length := ⟨_, rfl⟩
            have hn7 := HN7.out
            rw [← hn] at hn7 hn3 HST6
            subst hn7
            have HGN := Lib.hid (show ∀ j, (gs.getD j []).length ≤ 3000000 from fun j => by
              by_cases hj : j < gs.length
              · simp only [List.getD, List.getElem?_eq_getElem hj, Option.getD_some]
                exact HNG.out _ (List.getElem_mem hj)
              · simp [List.getD, List.getElem?_eq_none (Nat.le_of_not_lt hj)])
            obtain ⟨N, hN⟩ : ∃ N : Nat → Nat, N = fun j => (gs.getD j []).length := ⟨_, rfl⟩
            rw [← hN] at HST6
            have HNB := Lib.hid (show ∀ j, N j ≤ 3000000 by rw [hN]; exact HGN.out)
            clear hN hn HGN
            go_wp2_with fail
            go_loopw [12] (fun i wi => ∃ k2 : Nat, k2 ≤ n7 ∧ i = .int .i64 (k2 : Int) ∧ Hid (FrL wi w2.heap.size n7 (.slice A7 n7 c7) us N ∧ IsR wi H x2 r2 d2 ∧ IsR wi G xq2 r2 d2 ∧ Below w.heap.size w wi)) (fun i _ => n7 - (intOf i).toNat)
            case atStart => exact ⟨0, by omega, rfl, HST6⟩
            case round =>
              clear HST6
              obtain ⟨k2, hk2, rfl, hs6⟩ := hrel
              by_cases hk2l : k2 < n7
              · go_wp2_with fail
                go_loopw [13] (fun i wi => ∃ j2 : Nat, j2 ≤ N k2 ∧ i = .int .i64 (j2 : Int) ∧ Hid (FrL wi w2.heap.size n7 (.slice A7 n7 c7) us N ∧ IsR wi H x2 r2 d2 ∧ IsR wi G xq2 r2 d2 ∧ Below w.heap.size w wi)) (fun i _ => N k2 - (intOf i).toNat)
                case atStart => exact ⟨0, by omega, rfl, hs6⟩
                case round =>
                  obtain ⟨j2, hj2, rfl, hs7⟩ := hrel
                  obtain ⟨Ak, ck, hu, ys2, hy2, ho2⟩ := hs7.out.1.2 k2 hk2l
                  have hcellf : ∃ gf, A7 = some ⟨gf, 0, none⟩ ∧ wr.cell? ⟨gf, k2, none⟩ = some (.slice Ak (N k2) ck) := by
                    have hcs := fun g => hs7.out.1.1.cells (g := g)
                    rcases hs7.out.1.1.2 with ⟨h, h0⟩ | ⟨g, cap, cur, h, _, _, _⟩
                    · omega
                    · injection h with h1 h2 h3
                      subst h1
                      have := hcs g rfl k2 _ hu
                      rw [Addr.add_mid, Nat.zero_add] at this
                      exact ⟨g, rfl, this⟩
                  obtain ⟨gf, rfl, hcellf⟩ := hcellf
                  have hnb := HNB.out k2
                  obtain ⟨nk, hnk⟩ : ∃ nk, nk = N k2 := ⟨_, rfl⟩
                  rw [← hnk] at hu hcellf hnb hj2 hy2 ho2
                  have HNK := Lib.hid hnk
                  have HU := Lib.hid hu
                  clear hu
                  by_cases hjk : j2 < nk
                  · have ho3 : wr.ownsRow w2.heap.size 5 1 (.slice Ak nk ck) nk (bv ys2) := by rw [← hy2]; rw [hy2]; exact (by rw [hy2] at ho2; exact ho2)
                    obtain ⟨gk, capk, e6⟩ := own_some ho3 (by omega)
                    injection e6 with e7 _ e8
                    subst e7 e8
                    have hyq : j2 < ys2.length := by rw [hy2]; exact hjk
                    have hcellb := ho3.cellAt j2 (by omega)
                    rw [bv_get ys2 j2 hyq] at hcellb
                    have hfr := ho3.frozenAt j2
                    obtain ⟨y, hy⟩ : ∃ y, y = ys2[j2] := ⟨_, rfl⟩
                    rw [← hy] at hcellb
                    have hrowk : ∃ cs fz, wr.heap[gk]? = some (.cells cs 5 fz) := by
                      rcases ho3.2 with ⟨h, _⟩ | ⟨g, cap, cur, h, _, hg, _⟩
                      · cases h
                      · injection h with h
                        injection h with h
                        injection h with h
                        subst h
                        exact ⟨_, _, hg⟩
                    have HRK := Lib.hid hrowk
                    have hmem := HDF.out _ (List.mem_of_getElem? HU.out) gk rfl
                    have HME := Lib.hid hmem
                    clear hy ho2 ho3 hrowk hmem hy2 hyq
                    go_wp2_with fail
                    go_roundw
                    case rel =>
                      rw [xor_byte]
                      have hks := Kp.setCell wr ⟨gk, j2, none⟩ (.int .u8 ((y ^^^ 255).toNat : Int))
                      refine ⟨j2 + 1, by rw [← HNK.out]; omega, by go_num, Lib.hid ⟨hs7.out.1.set HRK.out, hs7.out.2.1.kp hks (fun e => HME.out.2.2.1 e) (fun g hg e => ?_), hs7.out.2.2.1.kp hks (fun e => HME.out.2.2.2.1 e) (fun g hg e => ?_), hs7.out.2.2.2.setCell HME.out.2.2.2.2 _⟩⟩
                      · have e2 : g = gk := e
                        exact HME.out.1 (by rw [← e2]; exact hg)
                      · have e2 : g = gk := e
                        exact HME.out.2.1 (by rw [← e2]; exact hg)
                    case measure =>
                      rw [← HNK.out]
                      simp [intOf] <;> omega
                  · clear ho2 hy2
                    go_wp2_with fail
                    go_roundw
                    case rel => exact ⟨k2 + 1, by omega, by go_num, hs7⟩
                    case measure => simp [intOf] <;> omega
              · clear hk2
                go_wp2_with fail
                go_roundw
                case rel => exact ⟨k + 1, x2, xq2, r2, d2, by omega, by go_num, Lib.hid hs6.out.2, HDJN, HNL⟩
                case measure => simp [intOf] <;> omega
      · go_wp2_with fail
        refine (HA.out wr).mono ?_
        rintro e w6 ⟨rfl, hb6⟩
        have HB6 := Lib.hid (hi.out.2.2.trans (hb6.mono hi.out.2.2.size))
        clear hb6
        go_wp2_with fail
        go_ret
        exact ⟨rfl, HB6.out⟩
end Go.Proofs.Ytggoclmboemmlaa
