/- Ledger: the document's Issue. -/
import Derived.Test.YticegnbdpihdpaaLK
namespace Go.Proofs.Yticegnbdpihdpaa
open Go.RowKit Go.Maps
set_option maxRecDepth 20000
set_option linter.unusedVariables false
set_option linter.unusedSimpArgs false
set_option maxHeartbeats 8000000 in
theorem rissue_1 (A : Option Addr) (m c : Nat) (most now : Int) (e : Ent) (l : List Ent) (w : World) (hm : m = l.length) (hR : Ds w A l) (hs : Srt l) (hl : m ≤ 500) (h1 : e.2.2.2 < now) :
    Calls Try.prog 16 #[.slice A m c, .int .i64 most, eVe e, .int .i64 now] w (RA2 l 9 w) := by
  obtain ⟨n, o, a, x⟩ := e
  obtain ⟨w0, hw0⟩ : ∃ w0, w0 = w.alloc (.cells #[.int .u64 (n : Int), .int .u32 (o : Int), .int .u32 (a : Int), .int .i64 x] 29) := ⟨_, rfl⟩
  obtain ⟨T, hT⟩ : ∃ T, T = w.heap.size := ⟨_, rfl⟩
  have hb0 : Below w.heap.size w w0 := by rw [hw0]; exact (Below.refl _ _).alloc (Nat.le_refl _) _
  have hq0 : w0.heap[T]? = some (.cells #[.int .u64 (n : Int), .int .u32 (o : Int), .int .u32 (a : Int), .int .i64 x] 29 (0, 0)) := by rw [hw0, hT]; exact heap_alloc_new w _
  have HG := Lib.hid (rget_any A m c n l w0 hm (hR.below hb0) hs hl)
  obtain ⟨ge, hge⟩ : ∃ e, e = getE l n := ⟨_, rfl⟩
  obtain ⟨n', o', a', x'⟩ := ge
  rw [← hge] at HG
  have HR := Lib.hid hR
  have HM := Lib.hid hm
  have HST := Lib.hid hs
  have H0 := Lib.hid hw0
  have HTT := Lib.hid hT
  have HQ0 := Lib.hid hq0
  have HB0 := Lib.hid hb0
  have HTC : Hid (∀ W, Below w0.heap.size w0 W → W.cell? ⟨T, 0, none⟩ = some (.int .u64 (n : Int)) ∧ W.cell? ⟨T, 1, none⟩ = some (.int .u32 (o : Int)) ∧ W.cell? ⟨T, 2, none⟩ = some (.int .u32 (a : Int)) ∧ W.cell? ⟨T, 3, none⟩ = some (.int .i64 x)) := fun W hW => by
    have e := (hW.block _ (lt_of_block hq0)).trans hq0
    exact ⟨cell_of_row W _ 0 _ _ _ e, cell_of_row W _ 1 _ _ _ e, cell_of_row W _ 2 _ _ _ e, cell_of_row W _ 3 _ _ _ e⟩
  have HBR : Hid (Below w0.heap.size w0 w0) := Below.refl _ _
  obtain ⟨t0, t1, t2, t3⟩ := HTC.out w0 HBR.out
  simp only at h1
  clear hw0 hT hq0 hb0 hge hm hR hs
  go_enter Try.func16, Try.ntmps16
  go_upto_region 1 with (fail)
  rw [← H0.out, ← HTT.out]
  go_wp2
  exact bodyPost_ret (v := .tuple #[.slice A m c, .int .i64 9]) (by simp [results, Try.results16, go_sem]) rfl ⟨_, _, _, rfl, HM.out, HR.out.below HB0.out, HB0.out⟩
set_option maxHeartbeats 8000000 in
theorem rissue_2 (A : Option Addr) (m c : Nat) (most now : Int) (e : Ent) (l : List Ent) (w : World) (hm : m = l.length) (hR : Ds w A l) (hs : Srt l) (hl : m ≤ 500) (h1 : ¬ e.2.2.2 < now) (h2 : anyN l e.1 = true) :
    Calls Try.prog 16 #[.slice A m c, .int .i64 most, eVe e, .int .i64 now] w (RA2 l 11 w) := by
  obtain ⟨n, o, a, x⟩ := e
  obtain ⟨w0, hw0⟩ : ∃ w0, w0 = w.alloc (.cells #[.int .u64 (n : Int), .int .u32 (o : Int), .int .u32 (a : Int), .int .i64 x] 29) := ⟨_, rfl⟩
  obtain ⟨T, hT⟩ : ∃ T, T = w.heap.size := ⟨_, rfl⟩
  have hb0 : Below w.heap.size w w0 := by rw [hw0]; exact (Below.refl _ _).alloc (Nat.le_refl _) _
  have hq0 : w0.heap[T]? = some (.cells #[.int .u64 (n : Int), .int .u32 (o : Int), .int .u32 (a : Int), .int .i64 x] 29 (0, 0)) := by rw [hw0, hT]; exact heap_alloc_new w _
  have HG := Lib.hid (rget_any A m c n l w0 hm (hR.below hb0) hs hl)
  obtain ⟨ge, hge⟩ : ∃ e, e = getE l n := ⟨_, rfl⟩
  obtain ⟨n', o', a', x'⟩ := ge
  rw [← hge] at HG
  have HR := Lib.hid hR
  have HM := Lib.hid hm
  have HST := Lib.hid hs
  have H0 := Lib.hid hw0
  have HTT := Lib.hid hT
  have HQ0 := Lib.hid hq0
  have HB0 := Lib.hid hb0
  have HTC : Hid (∀ W, Below w0.heap.size w0 W → W.cell? ⟨T, 0, none⟩ = some (.int .u64 (n : Int)) ∧ W.cell? ⟨T, 1, none⟩ = some (.int .u32 (o : Int)) ∧ W.cell? ⟨T, 2, none⟩ = some (.int .u32 (a : Int)) ∧ W.cell? ⟨T, 3, none⟩ = some (.int .i64 x)) := fun W hW => by
    have e := (hW.block _ (lt_of_block hq0)).trans hq0
    exact ⟨cell_of_row W _ 0 _ _ _ e, cell_of_row W _ 1 _ _ _ e, cell_of_row W _ 2 _ _ _ e, cell_of_row W _ 3 _ _ _ e⟩
  have HBR : Hid (Below w0.heap.size w0 w0) := Below.refl _ _
  obtain ⟨t0, t1, t2, t3⟩ := HTC.out w0 HBR.out
  simp only at h1 h2
  rw [h2] at HG
  clear hw0 hT hq0 hb0 hge hm hR hs
  go_enter Try.func16, Try.ntmps16
  go_upto_region 1 with (fail)
  rw [← H0.out, ← HTT.out]
  go_wp2_with fail
  refine HG.out.mono ?_
  rintro r w1 ⟨rfl, hb1⟩
  obtain ⟨w2, hw2⟩ : ∃ w2, w2 = w1.alloc (.cells #[.int .u64 (n' : Int), .int .u32 (o' : Int), .int .u32 (a' : Int), .int .i64 x'] 29) := ⟨_, rfl⟩
  have HB2 : Hid (Below w0.heap.size w0 w2) := by rw [hw2]; exact hb1.alloc hb1.size _
  have HW2 : Hid (Below w.heap.size w w2) := HB0.out.trans (HB2.out.mono HB0.out.size)
  have H2 := Lib.hid hw2
  clear hb1 hw2 t0 t1 t2 t3
  go_upto_region 4 with (fail)
  rw [← H2.out]
  go_wp2
  exact bodyPost_ret (v := .tuple #[.slice A m c, .int .i64 11]) (by simp [results, Try.results16, go_sem]) rfl ⟨_, _, _, rfl, HM.out, HR.out.below HW2.out, HW2.out⟩
set_option maxHeartbeats 8000000 in
theorem rissue_3 (A : Option Addr) (m c : Nat) (most now : Int) (e : Ent) (l : List Ent) (w : World) (hm : m = l.length) (hR : Ds w A l) (hs : Srt l) (hl : m ≤ 500) (h1 : ¬ e.2.2.2 < now) (h2 : anyN l e.1 = false) (h3 : most ≤ (m : Int)) :
    Calls Try.prog 16 #[.slice A m c, .int .i64 most, eVe e, .int .i64 now] w (RA2 l 10 w) := by
  obtain ⟨n, o, a, x⟩ := e
  obtain ⟨w0, hw0⟩ : ∃ w0, w0 = w.alloc (.cells #[.int .u64 (n : Int), .int .u32 (o : Int), .int .u32 (a : Int), .int .i64 x] 29) := ⟨_, rfl⟩
  obtain ⟨T, hT⟩ : ∃ T, T = w.heap.size := ⟨_, rfl⟩
  have hb0 : Below w.heap.size w w0 := by rw [hw0]; exact (Below.refl _ _).alloc (Nat.le_refl _) _
  have hq0 : w0.heap[T]? = some (.cells #[.int .u64 (n : Int), .int .u32 (o : Int), .int .u32 (a : Int), .int .i64 x] 29 (0, 0)) := by rw [hw0, hT]; exact heap_alloc_new w _
  have HG := Lib.hid (rget_any A m c n l w0 hm (hR.below hb0) hs hl)
  obtain ⟨ge, hge⟩ : ∃ e, e = getE l n := ⟨_, rfl⟩
  obtain ⟨n', o', a', x'⟩ := ge
  rw [← hge] at HG
  have HR := Lib.hid hR
  have HM := Lib.hid hm
  have HST := Lib.hid hs
  have H0 := Lib.hid hw0
  have HTT := Lib.hid hT
  have HQ0 := Lib.hid hq0
  have HB0 := Lib.hid hb0
  have HTC : Hid (∀ W, Below w0.heap.size w0 W → W.cell? ⟨T, 0, none⟩ = some (.int .u64 (n : Int)) ∧ W.cell? ⟨T, 1, none⟩ = some (.int .u32 (o : Int)) ∧ W.cell? ⟨T, 2, none⟩ = some (.int .u32 (a : Int)) ∧ W.cell? ⟨T, 3, none⟩ = some (.int .i64 x)) := fun W hW => by
    have e := (hW.block _ (lt_of_block hq0)).trans hq0
    exact ⟨cell_of_row W _ 0 _ _ _ e, cell_of_row W _ 1 _ _ _ e, cell_of_row W _ 2 _ _ _ e, cell_of_row W _ 3 _ _ _ e⟩
  have HBR : Hid (Below w0.heap.size w0 w0) := Below.refl _ _
  obtain ⟨t0, t1, t2, t3⟩ := HTC.out w0 HBR.out
  simp only at h1 h2
  rw [h2] at HG
  clear hw0 hT hq0 hb0 hge hm hR hs
  go_enter Try.func16, Try.ntmps16
  go_upto_region 1 with (fail)
  rw [← H0.out, ← HTT.out]
  go_wp2_with fail
  refine HG.out.mono ?_
  rintro r w1 ⟨rfl, hb1⟩
  obtain ⟨w2, hw2⟩ : ∃ w2, w2 = w1.alloc (.cells #[.int .u64 (n' : Int), .int .u32 (o' : Int), .int .u32 (a' : Int), .int .i64 x'] 29) := ⟨_, rfl⟩
  have HB2 : Hid (Below w0.heap.size w0 w2) := by rw [hw2]; exact hb1.alloc hb1.size _
  have HW2 : Hid (Below w.heap.size w w2) := HB0.out.trans (HB2.out.mono HB0.out.size)
  have H2 := Lib.hid hw2
  clear hb1 hw2 t0 t1 t2 t3
  go_upto_region 4 with (fail)
  rw [← H2.out]
  go_wp2
  exact bodyPost_ret (v := .tuple #[.slice A m c, .int .i64 10]) (by simp [results, Try.results16, go_sem]) rfl ⟨_, _, _, rfl, HM.out, HR.out.below HW2.out, HW2.out⟩
namespace V
theorem own4_after {w w' : World} {base T m : Nat} {v : Value} {xs : List Value} (h : w.ownsRow base T 4 v m xs) (hb : ∀ g, v.ownBlock = some g → w'.heap[g]? = w.heap[g]?) : w'.ownsRow base T 4 v m xs := by
  refine ⟨h.1, ?_⟩
  rcases h.2 with hn | ⟨g, cap, cur, rfl, hbg, hg, rest⟩
  · exact .inl hn
  · exact .inr ⟨g, cap, cur, rfl, hbg, (hb g rfl).trans hg, rest⟩
end V
/-- What stands in the document's new rows when k rows were looked at. -/
def outL (e : Ent) (l : List Ent) (k : Nat) (b : Bool) : List Ent := if b then insE e (l.take k) else l.take k
theorem outL_len (e : Ent) (l : List Ent) (k : Nat) (b : Bool) : (outL e l k b).length ≤ l.length + 1 := by
  unfold outL
  have h : (l.take k).length ≤ l.length := by rw [List.length_take]; omega
  split
  · rw [insE_len]; omega
  · omega
set_option maxHeartbeats 8000000 in
theorem rissue_4 (A : Option Addr) (m c : Nat) (most now : Int) (e : Ent) (l : List Ent) (w : World) (hm : m = l.length) (hR : Ds w A l) (hs : Srt l) (hl : m ≤ 500) (h1 : ¬ e.2.2.2 < now) (h2 : anyN l e.1 = false) (h3 : ¬ most ≤ (m : Int)) :
    Calls Try.prog 16 #[.slice A m c, .int .i64 most, eVe e, .int .i64 now] w (RA2 (insE e l) 0 w) := by
  obtain ⟨n, o, a, x⟩ := e
  obtain ⟨w0, hw0⟩ : ∃ w0, w0 = w.alloc (.cells #[.int .u64 (n : Int), .int .u32 (o : Int), .int .u32 (a : Int), .int .i64 x] 29) := ⟨_, rfl⟩
  obtain ⟨T, hT⟩ : ∃ T, T = w.heap.size := ⟨_, rfl⟩
  have hb0 : Below w.heap.size w w0 := by rw [hw0]; exact (Below.refl _ _).alloc (Nat.le_refl _) _
  have hq0 : w0.heap[T]? = some (.cells #[.int .u64 (n : Int), .int .u32 (o : Int), .int .u32 (a : Int), .int .i64 x] 29 (0, 0)) := by rw [hw0, hT]; exact heap_alloc_new w _
  have HG := Lib.hid (rget_any A m c n l w0 hm (hR.below hb0) hs hl)
  obtain ⟨ge, hge⟩ : ∃ e, e = getE l n := ⟨_, rfl⟩
  obtain ⟨n', o', a', x'⟩ := ge
  rw [← hge] at HG
  have HR := Lib.hid hR
  have HM := Lib.hid hm
  have HST := Lib.hid hs
  have H0 := Lib.hid hw0
  have HTT := Lib.hid hT
  have HQ0 := Lib.hid hq0
  have HB0 := Lib.hid hb0
  have HTC : Hid (∀ W, Below w0.heap.size w0 W → W.cell? ⟨T, 0, none⟩ = some (.int .u64 (n : Int)) ∧ W.cell? ⟨T, 1, none⟩ = some (.int .u32 (o : Int)) ∧ W.cell? ⟨T, 2, none⟩ = some (.int .u32 (a : Int)) ∧ W.cell? ⟨T, 3, none⟩ = some (.int .i64 x)) := fun W hW => by
    have e := (hW.block _ (lt_of_block hq0)).trans hq0
    exact ⟨cell_of_row W _ 0 _ _ _ e, cell_of_row W _ 1 _ _ _ e, cell_of_row W _ 2 _ _ _ e, cell_of_row W _ 3 _ _ _ e⟩
  have HBR : Hid (Below w0.heap.size w0 w0) := Below.refl _ _
  obtain ⟨t0, t1, t2, t3⟩ := HTC.out w0 HBR.out
  simp only at h1 h2
  rw [h2] at HG
  clear hw0 hT hq0 hb0 hge hm hR hs
  go_enter Try.func16, Try.ntmps16
  go_upto_region 1 with (fail)
  rw [← H0.out, ← HTT.out]
  go_wp2_with fail
  refine HG.out.mono ?_
  rintro r w1 ⟨rfl, hb1⟩
  obtain ⟨w2, hw2⟩ : ∃ w2, w2 = w1.alloc (.cells #[.int .u64 (n' : Int), .int .u32 (o' : Int), .int .u32 (a' : Int), .int .i64 x'] 29) := ⟨_, rfl⟩
  have HB2 : Hid (Below w0.heap.size w0 w2) := by rw [hw2]; exact hb1.alloc hb1.size _
  have HW2 : Hid (Below w.heap.size w w2) := HB0.out.trans (HB2.out.mono HB0.out.size)
  have H2 := Lib.hid hw2
  clear hb1 hw2 t0 t1 t2 t3
  go_upto_region 4 with (fail)
  rw [← H2.out]
  have HTW : Hid (∀ W, Below w2.heap.size w2 W → W.cell? ⟨T, 0, none⟩ = some (.int .u64 (n : Int)) ∧ W.cell? ⟨T, 1, none⟩ = some (.int .u32 (o : Int)) ∧ W.cell? ⟨T, 2, none⟩ = some (.int .u32 (a : Int)) ∧ W.cell? ⟨T, 3, none⟩ = some (.int .i64 x)) := fun W hW => HTC.out W (HB2.out.trans (hW.mono HB2.out.size))
  have HB22 : Hid (Below w2.heap.size w2 w2) := Below.refl _ _
  go_wp2_with fail
  go_loopw [12, 13, 14] (fun v pb i wr => ∃ (k mm : Nat) (B : Option Addr) (c2 : Nat) (b : Bool), k ≤ m ∧ i = .int .i64 (k : Int) ∧ v = .slice B mm c2 ∧ pb = .bool b ∧ Hid (wr.ownsRow w2.heap.size 29 4 (.slice B mm c2) mm (er (outL (n, o, a, x) l k b))) ∧ Hid (b = true ↔ ∃ f ∈ l.take k, n < f.1) ∧ Hid (Below w2.heap.size w2 wr)) (fun _ _ i _ => m - (intOf i).toNat)
  case atStart => exact ⟨0, 0, none, 0, false, by omega, rfl, rfl, rfl, World.ownsRow_nil w2 _ 29 4, ⟨fun h => absurd h (by decide), fun ⟨f, hf, _⟩ => by simp at hf⟩, HB22.out⟩
  case round =>
    obtain ⟨k, mm, B, c2, b, hk, rfl, rfl, rfl, HV0, HPB, HVB⟩ := hrel
    have HMM : Hid (mm ≤ 600) := by
      have h1 := own4_len HV0.out
      have h2 := outL_len (n, o, a, x) l k b
      have := HM.out
      simp only [Hid]
      omega
    obtain ⟨s0, s1, s2, s3⟩ := HTW.out wr HVB.out
    by_cases hlt : k < m
    · obtain ⟨⟨y, p, q, z⟩, hy⟩ : ∃ e, l[k]? = some e := ⟨l[k]'(by rw [← HM.out]; exact hlt), List.getElem?_eq_getElem _⟩
      obtain ⟨b1, o1, cc, rfl, hb1, ha1⟩ := HR.out (by have := HM.out; omega)
      have HCELL : Hid (∀ W, Below w2.heap.size w2 W → W.cell? ⟨b1, o1 + k * 4, none⟩ = some (.int .u64 (y : Int)) ∧ W.cell? ⟨b1, o1 + k * 4 + 1, none⟩ = some (.int .u32 (p : Int)) ∧ W.cell? ⟨b1, o1 + k * 4 + 2, none⟩ = some (.int .u32 (q : Int)) ∧ W.cell? ⟨b1, o1 + k * 4 + 3, none⟩ = some (.int .i64 z)) := fun W hW => by
        obtain ⟨q1, q2, q3, q4⟩ := ha1 k _ hy
        have e := (HW2.out.trans (hW.mono HW2.out.size)).block b1 (lt_of_block hb1)
        exact ⟨(World.cell?_of_block e).trans q1, (World.cell?_of_block e).trans q2, (World.cell?_of_block e).trans q3, (World.cell?_of_block e).trans q4⟩
      obtain ⟨d0, d1, d2, d3⟩ := HCELL.out wr HVB.out
      have HTK : Hid (l.take (k + 1) = l.take k ++ [(y, p, q, z)]) := by simp only [Hid]; rw [List.take_add_one, hy]; rfl
      have HS13 : Hid (∀ W, Below wr.heap.size wr W → (fun W : World => W.cell? ⟨b1, o1 + k * 4, none⟩ = some (.int .u64 (y : Int)) ∧ W.cell? ⟨T, 0, none⟩ = some (.int .u64 (n : Int))) W) := fun W hW => by
        have h := HVB.out.trans (hW.mono HVB.out.size)
        exact ⟨(HCELL.out W h).1, (HTW.out W h).1⟩
      have HRR : Hid (Below wr.heap.size wr wr) := Below.refl _ _
      clear hy ha1 hb1
      cases b with
      | true =>
        have HV : Hid (wr.ownsRow w2.heap.size 29 4 (.slice B mm c2) mm (er (insE (n, o, a, x) (l.take k))) ∧ True) := ⟨HV0.out, trivial⟩
        clear HV0
        have HNX : Hid (insE (n, o, a, x) (l.take (k + 1)) = insE (n, o, a, x) (l.take k) ++ [(y, p, q, z)] ∧ (∃ f ∈ l.take (k + 1), n < f.1)) := by
          simp only [Hid]
          rw [HTK.out]
          obtain ⟨f, hf, hf2⟩ := HPB.out.1 rfl
          exact ⟨insE_snoc ⟨f, hf, hf2⟩, f, by simp [hf], hf2⟩
        go_upto_region 13 with (fail)
        clear d0 d1 d2 d3 s0 s1 s2 s3
        have HDdA : Hid (Below wr.heap.size wr wr.drew) := HRR.out.drew
        refine wp_region_held_drew (S := fun W : World => W.cell? ⟨b1, o1 + k * 4, none⟩ = some (.int .u64 (y : Int)) ∧ W.cell? ⟨T, 0, none⟩ = some (.int .u64 (n : Int))) (by kernel_rfl) (HS13.out _ (HDdA.out)) (fun hHeld => ?_)
        obtain ⟨WdA0, hW0⟩ : ∃ W0, W0 = wr.drew := ⟨_, rfl⟩
        rw [← hW0] at hHeld HDdA ⊢
        clear hW0
        refine wpAnyH_take (i := 0) (oi := ?oi0dA) (v := ?v0dA) ?hi0dA ?hs0dA ?hf0dA ?hr0dA ?hQ0dA ?hy0dA ?hS0dA ?h0dA
        case hi0dA => exact (by simp only [List.getElem?_toArray, List.getElem?_cons_zero]; rfl)
        case hs0dA => kernel_rfl
        case hf0dA => kernel_rfl
        case hr0dA => kernel_rfl
        case hQ0dA => exact fun _ _ _ h => h
        case hy0dA =>
          refine Or.inl ⟨rfl, ?_⟩
          intro W hSw
          obtain ⟨y0, y1⟩ := hSw
          go_simp
          try with_reducible rfl
        case hS0dA => assumption
        try simp only [Act.put, List.setIfInBounds_toArray, List.set_cons_zero, List.set_cons_succ]
        refine wpAnyH_take (i := 1) (oi := ?oi1dA) (v := (.bool false)) ?hi1dA ?hs1dA ?hf1dA ?hr1dA ?hQ1dA ?hy1dA ?hS1dA ?h1dA
        case hi1dA => exact (by simp only [List.getElem?_toArray, List.getElem?_cons_succ, List.getElem?_cons_zero]; rfl)
        case hs1dA => kernel_rfl
        case hf1dA => kernel_rfl
        case hr1dA => kernel_rfl
        case hQ1dA => exact fun _ _ _ h => h
        case hy1dA =>
          refine Or.inl ⟨rfl, ?_⟩
          intro W hSw
          obtain ⟨y0, y1⟩ := hSw
          go_simp
          try simp
        case hS1dA => assumption
        try simp only [Act.put, List.setIfInBounds_toArray, List.set_cons_zero, List.set_cons_succ]
        refine wpAnyH_take (i := 2) (oi := ?oi2dA) (v := ?v2dA) ?hi2dA ?hs2dA ?hf2dA ?hr2dA ?hQ2dA ?hy2dA ?hS2dA ?h2dA
        case hi2dA => exact (by simp only [List.getElem?_toArray, List.getElem?_cons_succ, List.getElem?_cons_zero]; rfl)
        case hs2dA => kernel_rfl
        case hf2dA => kernel_rfl
        case hr2dA => kernel_rfl
        case hQ2dA => exact fun _ _ _ h => h
        case hy2dA =>
          refine Or.inl ⟨rfl, ?_⟩
          intro W hSw
          obtain ⟨y0, y1⟩ := hSw
          go_simp
          try with_reducible rfl
        case hS2dA => assumption
        try simp only [Act.put, List.setIfInBounds_toArray, List.set_cons_zero, List.set_cons_succ]
        refine wpAnyH_take (i := 3) (oi := ?oi3dA) (v := undef) ?hi3dA ?hs3dA ?hf3dA ?hr3dA ?hQ3dA ?hy3dA ?hS3dA ?h3dA
        case hi3dA => exact (by simp only [List.getElem?_toArray, List.getElem?_cons_succ, List.getElem?_cons_zero]; rfl)
        case hs3dA => kernel_rfl
        case hf3dA => kernel_rfl
        case hr3dA => kernel_rfl
        case hQ3dA => exact fun _ _ _ h => h
        case hy3dA =>
          exact Or.inr ⟨rfl, rfl⟩
        case hS3dA => assumption
        try simp only [Act.put, List.setIfInBounds_toArray, List.set_cons_zero, List.set_cons_succ]
        refine wpAnyH_take (i := 4) (oi := ?oi4dA) (v := undef) ?hi4dA ?hs4dA ?hf4dA ?hr4dA ?hQ4dA ?hy4dA ?hS4dA ?h4dA
        case hi4dA => exact (by simp only [List.getElem?_toArray, List.getElem?_cons_succ, List.getElem?_cons_zero]; rfl)
        case hs4dA => kernel_rfl
        case hf4dA => kernel_rfl
        case hr4dA => kernel_rfl
        case hQ4dA => exact fun _ _ _ h => h
        case hy4dA =>
          exact Or.inr ⟨rfl, rfl⟩
        case hS4dA => assumption
        try simp only [Act.put, List.setIfInBounds_toArray, List.set_cons_zero, List.set_cons_succ]
        refine wpAnyH_take (i := 5) (oi := ?oi5dA) (v := undef) ?hi5dA ?hs5dA ?hf5dA ?hr5dA ?hQ5dA ?hy5dA ?hS5dA ?h5dA
        case hi5dA => exact (by simp only [List.getElem?_toArray, List.getElem?_cons_succ, List.getElem?_cons_zero]; rfl)
        case hs5dA => kernel_rfl
        case hf5dA => kernel_rfl
        case hr5dA => kernel_rfl
        case hQ5dA => exact fun _ _ _ h => h
        case hy5dA =>
          exact Or.inr ⟨rfl, rfl⟩
        case hS5dA => assumption
        try simp only [Act.put, List.setIfInBounds_toArray, List.set_cons_zero, List.set_cons_succ]
        refine wpAnyH_take (i := 6) (oi := ?oi6dA) (v := undef) ?hi6dA ?hs6dA ?hf6dA ?hr6dA ?hQ6dA ?hy6dA ?hS6dA ?h6dA
        case hi6dA => exact (by simp only [List.getElem?_toArray, List.getElem?_cons_succ, List.getElem?_cons_zero]; rfl)
        case hs6dA => kernel_rfl
        case hf6dA => kernel_rfl
        case hr6dA => kernel_rfl
        case hQ6dA => exact fun _ _ _ h => h
        case hy6dA =>
          exact Or.inr ⟨rfl, rfl⟩
        case hS6dA => assumption
        try simp only [Act.put, List.setIfInBounds_toArray, List.set_cons_zero, List.set_cons_succ]
        refine wpAnyH_take (i := 7) (oi := ?oi7dA) (v := undef) ?hi7dA ?hs7dA ?hf7dA ?hr7dA ?hQ7dA ?hy7dA ?hS7dA ?h7dA
        case hi7dA => exact (by simp only [List.getElem?_toArray, List.getElem?_cons_succ, List.getElem?_cons_zero]; rfl)
        case hs7dA => kernel_rfl
        case hf7dA => kernel_rfl
        case hr7dA => kernel_rfl
        case hQ7dA => exact fun _ _ _ h => h
        case hy7dA =>
          exact Or.inr ⟨rfl, rfl⟩
        case hS7dA => assumption
        try simp only [Act.put, List.setIfInBounds_toArray, List.set_cons_zero, List.set_cons_succ]
        refine wpAnyH_take (i := 8) (oi := ?oi8dA) (v := undef) ?hi8dA ?hs8dA ?hf8dA ?hr8dA ?hQ8dA ?hy8dA ?hS8dA ?h8dA
        case hi8dA => exact (by simp only [List.getElem?_toArray, List.getElem?_cons_succ, List.getElem?_cons_zero]; rfl)
        case hs8dA => kernel_rfl
        case hf8dA => kernel_rfl
        case hr8dA => kernel_rfl
        case hQ8dA => exact fun _ _ _ h => h
        case hy8dA =>
          exact Or.inr ⟨rfl, rfl⟩
        case hS8dA => assumption
        try simp only [Act.put, List.setIfInBounds_toArray, List.set_cons_zero, List.set_cons_succ]
        refine wpAnyH_take (i := 9) (oi := ?oi9dA) (v := undef) ?hi9dA ?hs9dA ?hf9dA ?hr9dA ?hQ9dA ?hy9dA ?hS9dA ?h9dA
        case hi9dA => exact (by simp only [List.getElem?_toArray, List.getElem?_cons_succ, List.getElem?_cons_zero]; rfl)
        case hs9dA => kernel_rfl
        case hf9dA => kernel_rfl
        case hr9dA => kernel_rfl
        case hQ9dA => exact fun _ _ _ h => h
        case hy9dA =>
          exact Or.inr ⟨rfl, rfl⟩
        case hS9dA => assumption
        try simp only [Act.put, List.setIfInBounds_toArray, List.set_cons_zero, List.set_cons_succ]
        refine wpAnyH_take (i := 10) (oi := ?oi10dA) (v := undef) ?hi10dA ?hs10dA ?hf10dA ?hr10dA ?hQ10dA ?hy10dA ?hS10dA ?h10dA
        case hi10dA => exact (by simp only [List.getElem?_toArray, List.getElem?_cons_succ, List.getElem?_cons_zero]; rfl)
        case hs10dA => kernel_rfl
        case hf10dA => kernel_rfl
        case hr10dA => kernel_rfl
        case hQ10dA => exact fun _ _ _ h => h
        case hy10dA =>
          exact Or.inr ⟨rfl, rfl⟩
        case hS10dA => assumption
        try simp only [Act.put, List.setIfInBounds_toArray, List.set_cons_zero, List.set_cons_succ]
        refine wpAnyH_take (i := 11) (oi := ?oi11dA) (v := ?v11dA) ?hi11dA ?hs11dA ?hf11dA ?hr11dA ?hQ11dA ?hy11dA ?hS11dA ?h11dA
        case hi11dA => exact (by simp only [List.getElem?_toArray, List.getElem?_cons_succ, List.getElem?_cons_zero]; rfl)
        case hs11dA => kernel_rfl
        case hf11dA => kernel_rfl
        case hr11dA => kernel_rfl
        case hQ11dA => exact fun _ _ _ h => h
        case hy11dA =>
          refine Or.inl ⟨rfl, ?_⟩
          intro W hSw
          obtain ⟨y0, y1⟩ := hSw
          go_simp
          try with_reducible rfl
        case hS11dA => assumption
        try simp only [Act.put, List.setIfInBounds_toArray, List.set_cons_zero, List.set_cons_succ]
        refine wpAnyH_done (by kernel_rfl) ?_ _
        obtain ⟨d0, d1, d2, d3⟩ := HCELL.out WdA0 (HVB.out.trans (HDdA.out.mono HVB.out.size))
        obtain ⟨s0, s1, s2, s3⟩ := HTW.out WdA0 (HVB.out.trans (HDdA.out.mono HVB.out.size))
        have HBc : Hid (Below w2.heap.size w2 WdA0) := HVB.out.trans (HDdA.out.mono HVB.out.size)
        have HOc : Hid (WdA0.ownsRow w2.heap.size 29 4 (.slice B mm c2) mm (er (insE (n, o, a, x) (l.take k)))) := V.own4_after HV.out.1 fun g hg => HDdA.out.block g (own4_lt HV.out.1 g hg).2
        go_wp2_with (at_builtin; refine wpList_append_de rfl _ _ rfl w2.heap.size WdA0.heap.size (.slice B mm c2) mm (insE (n, o, a, x) (l.take k)) (y, p, q, z) rfl rfl (HOc.out.alloc _) (heap_alloc_new _ _) (by have := HMM.out; omega) (by have := (HBc.out).size; simp; omega) ?_; intro v6 w6 hownw6 hgw6; obtain ⟨Bw6, cw6, rfl⟩ := own4_form hownw6; have HBw6 : Hid (Below w2.heap.size w2 w6) := ((HBc.out).alloc (HBc.out).size _).grown hgw6 (by have := (HBc.out).size; simp; omega) (fun g h => (own4_lt HOc.out g h).1); have HOw6 := Lib.hid hownw6; clear hownw6 hgw6; obtain ⟨q0w6, q1w6, q2w6, q3w6⟩ := HCELL.out w6 HBw6.out; obtain ⟨s0w6, s1w6, s2w6, s3w6⟩ := HTW.out w6 HBw6.out)
        go_roundw
        case rel => exact ⟨k + 1, mm + 1, Bw6, cw6, true, by omega, by go_num, rfl, rfl, by have h := HOw6.out; rw [← HNX.out.1] at h; exact h, ⟨fun _ => HNX.out.2, fun _ => rfl⟩, HBw6.out⟩
        case measure => simp [intOf] <;> omega
      | false =>
        have HV : Hid (wr.ownsRow w2.heap.size 29 4 (.slice B mm c2) mm (er (l.take k)) ∧ True) := ⟨HV0.out, trivial⟩
        clear HV0
        by_cases hc : n < y
        · have HC := Lib.hid hc
          clear hc
          have HNX : Hid (insE (n, o, a, x) (l.take (k + 1)) = l.take k ++ [(n, o, a, x)] ++ [(y, p, q, z)] ∧ (∃ f ∈ l.take (k + 1), n < f.1)) := by
            simp only [Hid]
            rw [HTK.out]
            exact ⟨insE_gt (fun f hf hf2 => absurd (HPB.out.2 ⟨f, hf, hf2⟩) (by decide)) HC.out, (y, p, q, z), by simp, HC.out⟩
          go_upto_region 13 with (fail)
          clear d0 d1 d2 d3 s0 s1 s2 s3
          have HDdB : Hid (Below wr.heap.size wr wr.drew) := HRR.out.drew
          refine wp_region_held_drew (S := fun W : World => W.cell? ⟨b1, o1 + k * 4, none⟩ = some (.int .u64 (y : Int)) ∧ W.cell? ⟨T, 0, none⟩ = some (.int .u64 (n : Int))) (by kernel_rfl) (HS13.out _ (HDdB.out)) (fun hHeld => ?_)
          obtain ⟨WdB0, hW0⟩ : ∃ W0, W0 = wr.drew := ⟨_, rfl⟩
          rw [← hW0] at hHeld HDdB ⊢
          clear hW0
          refine wpAnyH_take (i := 0) (oi := ?oi0dB) (v := ?v0dB) ?hi0dB ?hs0dB ?hf0dB ?hr0dB ?hQ0dB ?hy0dB ?hS0dB ?h0dB
          case hi0dB => exact (by simp only [List.getElem?_toArray, List.getElem?_cons_zero]; rfl)
          case hs0dB => kernel_rfl
          case hf0dB => kernel_rfl
          case hr0dB => kernel_rfl
          case hQ0dB => exact fun _ _ _ h => h
          case hy0dB =>
            refine Or.inl ⟨rfl, ?_⟩
            intro W hSw
            obtain ⟨y0, y1⟩ := hSw
            go_simp
            try with_reducible rfl
          case hS0dB => assumption
          try simp only [Act.put, List.setIfInBounds_toArray, List.set_cons_zero, List.set_cons_succ]
          refine wpAnyH_take (i := 1) (oi := ?oi1dB) (v := (.bool true)) ?hi1dB ?hs1dB ?hf1dB ?hr1dB ?hQ1dB ?hy1dB ?hS1dB ?h1dB
          case hi1dB => exact (by simp only [List.getElem?_toArray, List.getElem?_cons_succ, List.getElem?_cons_zero]; rfl)
          case hs1dB => kernel_rfl
          case hf1dB => kernel_rfl
          case hr1dB => kernel_rfl
          case hQ1dB => exact fun _ _ _ h => h
          case hy1dB =>
            refine Or.inl ⟨rfl, ?_⟩
            intro W hSw
            obtain ⟨y0, y1⟩ := hSw
            go_simp
            try simp
          case hS1dB => assumption
          try simp only [Act.put, List.setIfInBounds_toArray, List.set_cons_zero, List.set_cons_succ]
          refine wpAnyH_take (i := 2) (oi := ?oi2dB) (v := ?v2dB) ?hi2dB ?hs2dB ?hf2dB ?hr2dB ?hQ2dB ?hy2dB ?hS2dB ?h2dB
          case hi2dB => exact (by simp only [List.getElem?_toArray, List.getElem?_cons_succ, List.getElem?_cons_zero]; rfl)
          case hs2dB => kernel_rfl
          case hf2dB => kernel_rfl
          case hr2dB => kernel_rfl
          case hQ2dB => exact fun _ _ _ h => h
          case hy2dB =>
            refine Or.inl ⟨rfl, ?_⟩
            intro W hSw
            obtain ⟨y0, y1⟩ := hSw
            go_simp
            try with_reducible rfl
          case hS2dB => assumption
          try simp only [Act.put, List.setIfInBounds_toArray, List.set_cons_zero, List.set_cons_succ]
          refine wpAnyH_take (i := 3) (oi := ?oi3dB) (v := ?v3dB) ?hi3dB ?hs3dB ?hf3dB ?hr3dB ?hQ3dB ?hy3dB ?hS3dB ?h3dB
          case hi3dB => exact (by simp only [List.getElem?_toArray, List.getElem?_cons_succ, List.getElem?_cons_zero]; rfl)
          case hs3dB => kernel_rfl
          case hf3dB => kernel_rfl
          case hr3dB => kernel_rfl
          case hQ3dB => exact fun _ _ _ h => h
          case hy3dB =>
            refine Or.inl ⟨rfl, ?_⟩
            intro W hSw
            obtain ⟨y0, y1⟩ := hSw
            go_simp
            try with_reducible rfl
          case hS3dB => assumption
          try simp only [Act.put, List.setIfInBounds_toArray, List.set_cons_zero, List.set_cons_succ]
          refine wpAnyH_take (i := 4) (oi := ?oi4dB) (v := ?v4dB) ?hi4dB ?hs4dB ?hf4dB ?hr4dB ?hQ4dB ?hy4dB ?hS4dB ?h4dB
          case hi4dB => exact (by simp only [List.getElem?_toArray, List.getElem?_cons_succ, List.getElem?_cons_zero]; rfl)
          case hs4dB => kernel_rfl
          case hf4dB => kernel_rfl
          case hr4dB => kernel_rfl
          case hQ4dB => exact fun _ _ _ h => h
          case hy4dB =>
            refine Or.inl ⟨rfl, ?_⟩
            intro W hSw
            obtain ⟨y0, y1⟩ := hSw
            go_simp
            try with_reducible rfl
          case hS4dB => assumption
          try simp only [Act.put, List.setIfInBounds_toArray, List.set_cons_zero, List.set_cons_succ]
          refine wpAnyH_take (i := 5) (oi := ?oi5dB) (v := ?v5dB) ?hi5dB ?hs5dB ?hf5dB ?hr5dB ?hQ5dB ?hy5dB ?hS5dB ?h5dB
          case hi5dB => exact (by simp only [List.getElem?_toArray, List.getElem?_cons_succ, List.getElem?_cons_zero]; rfl)
          case hs5dB => kernel_rfl
          case hf5dB => kernel_rfl
          case hr5dB => kernel_rfl
          case hQ5dB => exact fun _ _ _ h => h
          case hy5dB =>
            refine Or.inl ⟨rfl, ?_⟩
            intro W hSw
            obtain ⟨y0, y1⟩ := hSw
            go_simp
            try with_reducible rfl
          case hS5dB => assumption
          try simp only [Act.put, List.setIfInBounds_toArray, List.set_cons_zero, List.set_cons_succ]
          refine wpAnyH_take (i := 6) (oi := ?oi6dB) (v := ?v6dB) ?hi6dB ?hs6dB ?hf6dB ?hr6dB ?hQ6dB ?hy6dB ?hS6dB ?h6dB
          case hi6dB => exact (by simp only [List.getElem?_toArray, List.getElem?_cons_succ, List.getElem?_cons_zero]; rfl)
          case hs6dB => kernel_rfl
          case hf6dB => kernel_rfl
          case hr6dB => kernel_rfl
          case hQ6dB => exact fun _ _ _ h => h
          case hy6dB =>
            refine Or.inl ⟨rfl, ?_⟩
            intro W hSw
            obtain ⟨y0, y1⟩ := hSw
            go_simp
            try with_reducible rfl
          case hS6dB => assumption
          try simp only [Act.put, List.setIfInBounds_toArray, List.set_cons_zero, List.set_cons_succ]
          refine wpAnyH_take (i := 7) (oi := ?oi7dB) (v := ?v7dB) ?hi7dB ?hs7dB ?hf7dB ?hr7dB ?hQ7dB ?hy7dB ?hS7dB ?h7dB
          case hi7dB => exact (by simp only [List.getElem?_toArray, List.getElem?_cons_succ, List.getElem?_cons_zero]; rfl)
          case hs7dB => kernel_rfl
          case hf7dB => kernel_rfl
          case hr7dB => kernel_rfl
          case hQ7dB => exact fun _ _ _ h => h
          case hy7dB =>
            refine Or.inl ⟨rfl, ?_⟩
            intro W hSw
            obtain ⟨y0, y1⟩ := hSw
            go_simp
            try with_reducible rfl
          case hS7dB => assumption
          try simp only [Act.put, List.setIfInBounds_toArray, List.set_cons_zero, List.set_cons_succ]
          refine wpAnyH_take (i := 8) (oi := ?oi8dB) (v := ?v8dB) ?hi8dB ?hs8dB ?hf8dB ?hr8dB ?hQ8dB ?hy8dB ?hS8dB ?h8dB
          case hi8dB => exact (by simp only [List.getElem?_toArray, List.getElem?_cons_succ, List.getElem?_cons_zero]; rfl)
          case hs8dB => kernel_rfl
          case hf8dB => kernel_rfl
          case hr8dB => kernel_rfl
          case hQ8dB => exact fun _ _ _ h => h
          case hy8dB =>
            refine Or.inl ⟨rfl, ?_⟩
            intro W hSw
            obtain ⟨y0, y1⟩ := hSw
            go_simp
            try with_reducible rfl
          case hS8dB => assumption
          try simp only [Act.put, List.setIfInBounds_toArray, List.set_cons_zero, List.set_cons_succ]
          refine wpAnyH_take (i := 9) (oi := ?oi9dB) (v := ?v9dB) ?hi9dB ?hs9dB ?hf9dB ?hr9dB ?hQ9dB ?hy9dB ?hS9dB ?h9dB
          case hi9dB => exact (by simp only [List.getElem?_toArray, List.getElem?_cons_succ, List.getElem?_cons_zero]; rfl)
          case hs9dB => kernel_rfl
          case hf9dB => kernel_rfl
          case hr9dB => kernel_rfl
          case hQ9dB => exact fun _ _ _ h => h
          case hy9dB =>
            refine Or.inl ⟨rfl, ?_⟩
            intro W hSw
            obtain ⟨y0, y1⟩ := hSw
            go_simp
            try with_reducible rfl
          case hS9dB => assumption
          try simp only [Act.put, List.setIfInBounds_toArray, List.set_cons_zero, List.set_cons_succ]
          refine wpAnyH_take (i := 10) (oi := ?oi10dB) (v := (.bool true)) ?hi10dB ?hs10dB ?hf10dB ?hr10dB ?hQ10dB ?hy10dB ?hS10dB ?h10dB
          case hi10dB => exact (by simp only [List.getElem?_toArray, List.getElem?_cons_succ, List.getElem?_cons_zero]; rfl)
          case hs10dB => kernel_rfl
          case hf10dB => kernel_rfl
          case hr10dB => kernel_rfl
          case hQ10dB => exact fun _ _ _ h => h
          case hy10dB =>
            refine Or.inl ⟨rfl, ?_⟩
            intro W hSw
            obtain ⟨y0, y1⟩ := hSw
            go_simp
            try simp [HC.out]
          case hS10dB => assumption
          try simp only [Act.put, List.setIfInBounds_toArray, List.set_cons_zero, List.set_cons_succ]
          refine wpAnyH_take (i := 11) (oi := ?oi11dB) (v := ?v11dB) ?hi11dB ?hs11dB ?hf11dB ?hr11dB ?hQ11dB ?hy11dB ?hS11dB ?h11dB
          case hi11dB => exact (by simp only [List.getElem?_toArray, List.getElem?_cons_succ, List.getElem?_cons_zero]; rfl)
          case hs11dB => kernel_rfl
          case hf11dB => kernel_rfl
          case hr11dB => kernel_rfl
          case hQ11dB => exact fun _ _ _ h => h
          case hy11dB =>
            refine Or.inl ⟨rfl, ?_⟩
            intro W hSw
            obtain ⟨y0, y1⟩ := hSw
            go_simp
            try with_reducible rfl
          case hS11dB => assumption
          try simp only [Act.put, List.setIfInBounds_toArray, List.set_cons_zero, List.set_cons_succ]
          refine wpAnyH_done (by kernel_rfl) ?_ _
          obtain ⟨d0, d1, d2, d3⟩ := HCELL.out WdB0 (HVB.out.trans (HDdB.out.mono HVB.out.size))
          obtain ⟨s0, s1, s2, s3⟩ := HTW.out WdB0 (HVB.out.trans (HDdB.out.mono HVB.out.size))
          have HBc : Hid (Below w2.heap.size w2 WdB0) := HVB.out.trans (HDdB.out.mono HVB.out.size)
          have HOc : Hid (WdB0.ownsRow w2.heap.size 29 4 (.slice B mm c2) mm (er (l.take k))) := V.own4_after HV.out.1 fun g hg => HDdB.out.block g (own4_lt HV.out.1 g hg).2
          go_upto_region 16 with (at_builtin; refine wpList_append_de rfl _ _ rfl w2.heap.size WdB0.heap.size (.slice B mm c2) mm (l.take k) (n, o, a, x) rfl rfl (HOc.out.alloc _) (heap_alloc_new _ _) (by have := HMM.out; omega) (by have := (HBc.out).size; simp; omega) ?_; intro v6 w6 hownw6 hgw6; obtain ⟨Bw6, cw6, rfl⟩ := own4_form hownw6; have HBw6 : Hid (Below w2.heap.size w2 w6) := ((HBc.out).alloc (HBc.out).size _).grown hgw6 (by have := (HBc.out).size; simp; omega) (fun g h => (own4_lt HOc.out g h).1); have HOw6 := Lib.hid hownw6; clear hownw6 hgw6; obtain ⟨q0w6, q1w6, q2w6, q3w6⟩ := HCELL.out w6 HBw6.out; obtain ⟨s0w6, s1w6, s2w6, s3w6⟩ := HTW.out w6 HBw6.out)
          go_wp2_with (at_builtin; refine wpList_append_de rfl _ _ rfl w2.heap.size w6.heap.size (.slice Bw6 (mm + 1) cw6) (mm + 1) (l.take k ++ [(n, o, a, x)]) (y, p, q, z) rfl rfl (HOw6.out.alloc _) (heap_alloc_new _ _) (by have := HMM.out; omega) (by have := (HBw6.out).size; simp; omega) ?_; intro v7 w7 hownw7 hgw7; obtain ⟨Bw7, cw7, rfl⟩ := own4_form hownw7; have HBw7 : Hid (Below w2.heap.size w2 w7) := ((HBw6.out).alloc (HBw6.out).size _).grown hgw7 (by have := (HBw6.out).size; simp; omega) (fun g h => (own4_lt HOw6.out g h).1); have HOw7 := Lib.hid hownw7; clear hownw7 hgw7; obtain ⟨q0w7, q1w7, q2w7, q3w7⟩ := HCELL.out w7 HBw7.out; obtain ⟨s0w7, s1w7, s2w7, s3w7⟩ := HTW.out w7 HBw7.out)
          go_roundw
          case rel => exact ⟨k + 1, mm + 1 + 1, Bw7, cw7, true, by omega, by go_num, rfl, rfl, by have h := HOw7.out; rw [← HNX.out.1] at h; exact h, ⟨fun _ => HNX.out.2, fun _ => rfl⟩, HBw7.out⟩
          case measure => simp [intOf] <;> omega
        · have HC := Lib.hid hc
          clear hc
          have HNX : Hid (¬ ∃ f ∈ l.take (k + 1), n < f.1) := by
            simp only [Hid]
            rw [HTK.out]
            rintro ⟨f, hf, hf2⟩
            rw [List.mem_append, List.mem_singleton] at hf
            rcases hf with hf | rfl
            · exact absurd (HPB.out.2 ⟨f, hf, hf2⟩) (by decide)
            · exact HC.out hf2
          go_upto_region 13 with (fail)
          clear d0 d1 d2 d3 s0 s1 s2 s3
          have HDdC : Hid (Below wr.heap.size wr wr.drew) := HRR.out.drew
          refine wp_region_held_drew (S := fun W : World => W.cell? ⟨b1, o1 + k * 4, none⟩ = some (.int .u64 (y : Int)) ∧ W.cell? ⟨T, 0, none⟩ = some (.int .u64 (n : Int))) (by kernel_rfl) (HS13.out _ (HDdC.out)) (fun hHeld => ?_)
          obtain ⟨WdC0, hW0⟩ : ∃ W0, W0 = wr.drew := ⟨_, rfl⟩
          rw [← hW0] at hHeld HDdC ⊢
          clear hW0
          refine wpAnyH_take (i := 0) (oi := ?oi0dC) (v := ?v0dC) ?hi0dC ?hs0dC ?hf0dC ?hr0dC ?hQ0dC ?hy0dC ?hS0dC ?h0dC
          case hi0dC => exact (by simp only [List.getElem?_toArray, List.getElem?_cons_zero]; rfl)
          case hs0dC => kernel_rfl
          case hf0dC => kernel_rfl
          case hr0dC => kernel_rfl
          case hQ0dC => exact fun _ _ _ h => h
          case hy0dC =>
            refine Or.inl ⟨rfl, ?_⟩
            intro W hSw
            obtain ⟨y0, y1⟩ := hSw
            go_simp
            try with_reducible rfl
          case hS0dC => assumption
          try simp only [Act.put, List.setIfInBounds_toArray, List.set_cons_zero, List.set_cons_succ]
          refine wpAnyH_take (i := 1) (oi := ?oi1dC) (v := (.bool true)) ?hi1dC ?hs1dC ?hf1dC ?hr1dC ?hQ1dC ?hy1dC ?hS1dC ?h1dC
          case hi1dC => exact (by simp only [List.getElem?_toArray, List.getElem?_cons_succ, List.getElem?_cons_zero]; rfl)
          case hs1dC => kernel_rfl
          case hf1dC => kernel_rfl
          case hr1dC => kernel_rfl
          case hQ1dC => exact fun _ _ _ h => h
          case hy1dC =>
            refine Or.inl ⟨rfl, ?_⟩
            intro W hSw
            obtain ⟨y0, y1⟩ := hSw
            go_simp
            try simp
          case hS1dC => assumption
          try simp only [Act.put, List.setIfInBounds_toArray, List.set_cons_zero, List.set_cons_succ]
          refine wpAnyH_take (i := 2) (oi := ?oi2dC) (v := ?v2dC) ?hi2dC ?hs2dC ?hf2dC ?hr2dC ?hQ2dC ?hy2dC ?hS2dC ?h2dC
          case hi2dC => exact (by simp only [List.getElem?_toArray, List.getElem?_cons_succ, List.getElem?_cons_zero]; rfl)
          case hs2dC => kernel_rfl
          case hf2dC => kernel_rfl
          case hr2dC => kernel_rfl
          case hQ2dC => exact fun _ _ _ h => h
          case hy2dC =>
            refine Or.inl ⟨rfl, ?_⟩
            intro W hSw
            obtain ⟨y0, y1⟩ := hSw
            go_simp
            try with_reducible rfl
          case hS2dC => assumption
          try simp only [Act.put, List.setIfInBounds_toArray, List.set_cons_zero, List.set_cons_succ]
          refine wpAnyH_take (i := 3) (oi := ?oi3dC) (v := ?v3dC) ?hi3dC ?hs3dC ?hf3dC ?hr3dC ?hQ3dC ?hy3dC ?hS3dC ?h3dC
          case hi3dC => exact (by simp only [List.getElem?_toArray, List.getElem?_cons_succ, List.getElem?_cons_zero]; rfl)
          case hs3dC => kernel_rfl
          case hf3dC => kernel_rfl
          case hr3dC => kernel_rfl
          case hQ3dC => exact fun _ _ _ h => h
          case hy3dC =>
            refine Or.inl ⟨rfl, ?_⟩
            intro W hSw
            obtain ⟨y0, y1⟩ := hSw
            go_simp
            try with_reducible rfl
          case hS3dC => assumption
          try simp only [Act.put, List.setIfInBounds_toArray, List.set_cons_zero, List.set_cons_succ]
          refine wpAnyH_take (i := 4) (oi := ?oi4dC) (v := ?v4dC) ?hi4dC ?hs4dC ?hf4dC ?hr4dC ?hQ4dC ?hy4dC ?hS4dC ?h4dC
          case hi4dC => exact (by simp only [List.getElem?_toArray, List.getElem?_cons_succ, List.getElem?_cons_zero]; rfl)
          case hs4dC => kernel_rfl
          case hf4dC => kernel_rfl
          case hr4dC => kernel_rfl
          case hQ4dC => exact fun _ _ _ h => h
          case hy4dC =>
            refine Or.inl ⟨rfl, ?_⟩
            intro W hSw
            obtain ⟨y0, y1⟩ := hSw
            go_simp
            try with_reducible rfl
          case hS4dC => assumption
          try simp only [Act.put, List.setIfInBounds_toArray, List.set_cons_zero, List.set_cons_succ]
          refine wpAnyH_take (i := 5) (oi := ?oi5dC) (v := ?v5dC) ?hi5dC ?hs5dC ?hf5dC ?hr5dC ?hQ5dC ?hy5dC ?hS5dC ?h5dC
          case hi5dC => exact (by simp only [List.getElem?_toArray, List.getElem?_cons_succ, List.getElem?_cons_zero]; rfl)
          case hs5dC => kernel_rfl
          case hf5dC => kernel_rfl
          case hr5dC => kernel_rfl
          case hQ5dC => exact fun _ _ _ h => h
          case hy5dC =>
            refine Or.inl ⟨rfl, ?_⟩
            intro W hSw
            obtain ⟨y0, y1⟩ := hSw
            go_simp
            try with_reducible rfl
          case hS5dC => assumption
          try simp only [Act.put, List.setIfInBounds_toArray, List.set_cons_zero, List.set_cons_succ]
          refine wpAnyH_take (i := 6) (oi := ?oi6dC) (v := ?v6dC) ?hi6dC ?hs6dC ?hf6dC ?hr6dC ?hQ6dC ?hy6dC ?hS6dC ?h6dC
          case hi6dC => exact (by simp only [List.getElem?_toArray, List.getElem?_cons_succ, List.getElem?_cons_zero]; rfl)
          case hs6dC => kernel_rfl
          case hf6dC => kernel_rfl
          case hr6dC => kernel_rfl
          case hQ6dC => exact fun _ _ _ h => h
          case hy6dC =>
            refine Or.inl ⟨rfl, ?_⟩
            intro W hSw
            obtain ⟨y0, y1⟩ := hSw
            go_simp
            try with_reducible rfl
          case hS6dC => assumption
          try simp only [Act.put, List.setIfInBounds_toArray, List.set_cons_zero, List.set_cons_succ]
          refine wpAnyH_take (i := 7) (oi := ?oi7dC) (v := ?v7dC) ?hi7dC ?hs7dC ?hf7dC ?hr7dC ?hQ7dC ?hy7dC ?hS7dC ?h7dC
          case hi7dC => exact (by simp only [List.getElem?_toArray, List.getElem?_cons_succ, List.getElem?_cons_zero]; rfl)
          case hs7dC => kernel_rfl
          case hf7dC => kernel_rfl
          case hr7dC => kernel_rfl
          case hQ7dC => exact fun _ _ _ h => h
          case hy7dC =>
            refine Or.inl ⟨rfl, ?_⟩
            intro W hSw
            obtain ⟨y0, y1⟩ := hSw
            go_simp
            try with_reducible rfl
          case hS7dC => assumption
          try simp only [Act.put, List.setIfInBounds_toArray, List.set_cons_zero, List.set_cons_succ]
          refine wpAnyH_take (i := 8) (oi := ?oi8dC) (v := ?v8dC) ?hi8dC ?hs8dC ?hf8dC ?hr8dC ?hQ8dC ?hy8dC ?hS8dC ?h8dC
          case hi8dC => exact (by simp only [List.getElem?_toArray, List.getElem?_cons_succ, List.getElem?_cons_zero]; rfl)
          case hs8dC => kernel_rfl
          case hf8dC => kernel_rfl
          case hr8dC => kernel_rfl
          case hQ8dC => exact fun _ _ _ h => h
          case hy8dC =>
            refine Or.inl ⟨rfl, ?_⟩
            intro W hSw
            obtain ⟨y0, y1⟩ := hSw
            go_simp
            try with_reducible rfl
          case hS8dC => assumption
          try simp only [Act.put, List.setIfInBounds_toArray, List.set_cons_zero, List.set_cons_succ]
          refine wpAnyH_take (i := 9) (oi := ?oi9dC) (v := ?v9dC) ?hi9dC ?hs9dC ?hf9dC ?hr9dC ?hQ9dC ?hy9dC ?hS9dC ?h9dC
          case hi9dC => exact (by simp only [List.getElem?_toArray, List.getElem?_cons_succ, List.getElem?_cons_zero]; rfl)
          case hs9dC => kernel_rfl
          case hf9dC => kernel_rfl
          case hr9dC => kernel_rfl
          case hQ9dC => exact fun _ _ _ h => h
          case hy9dC =>
            refine Or.inl ⟨rfl, ?_⟩
            intro W hSw
            obtain ⟨y0, y1⟩ := hSw
            go_simp
            try with_reducible rfl
          case hS9dC => assumption
          try simp only [Act.put, List.setIfInBounds_toArray, List.set_cons_zero, List.set_cons_succ]
          refine wpAnyH_take (i := 10) (oi := ?oi10dC) (v := (.bool false)) ?hi10dC ?hs10dC ?hf10dC ?hr10dC ?hQ10dC ?hy10dC ?hS10dC ?h10dC
          case hi10dC => exact (by simp only [List.getElem?_toArray, List.getElem?_cons_succ, List.getElem?_cons_zero]; rfl)
          case hs10dC => kernel_rfl
          case hf10dC => kernel_rfl
          case hr10dC => kernel_rfl
          case hQ10dC => exact fun _ _ _ h => h
          case hy10dC =>
            refine Or.inl ⟨rfl, ?_⟩
            intro W hSw
            obtain ⟨y0, y1⟩ := hSw
            go_simp
            try simp [Nat.le_of_not_lt HC.out]
          case hS10dC => assumption
          try simp only [Act.put, List.setIfInBounds_toArray, List.set_cons_zero, List.set_cons_succ]
          refine wpAnyH_take (i := 11) (oi := ?oi11dC) (v := ?v11dC) ?hi11dC ?hs11dC ?hf11dC ?hr11dC ?hQ11dC ?hy11dC ?hS11dC ?h11dC
          case hi11dC => exact (by simp only [List.getElem?_toArray, List.getElem?_cons_succ, List.getElem?_cons_zero]; rfl)
          case hs11dC => kernel_rfl
          case hf11dC => kernel_rfl
          case hr11dC => kernel_rfl
          case hQ11dC => exact fun _ _ _ h => h
          case hy11dC =>
            refine Or.inl ⟨rfl, ?_⟩
            intro W hSw
            obtain ⟨y0, y1⟩ := hSw
            go_simp
            try with_reducible rfl
          case hS11dC => assumption
          try simp only [Act.put, List.setIfInBounds_toArray, List.set_cons_zero, List.set_cons_succ]
          refine wpAnyH_done (by kernel_rfl) ?_ _
          obtain ⟨d0, d1, d2, d3⟩ := HCELL.out WdC0 (HVB.out.trans (HDdC.out.mono HVB.out.size))
          obtain ⟨s0, s1, s2, s3⟩ := HTW.out WdC0 (HVB.out.trans (HDdC.out.mono HVB.out.size))
          have HBc : Hid (Below w2.heap.size w2 WdC0) := HVB.out.trans (HDdC.out.mono HVB.out.size)
          have HOc : Hid (WdC0.ownsRow w2.heap.size 29 4 (.slice B mm c2) mm (er (l.take k))) := V.own4_after HV.out.1 fun g hg => HDdC.out.block g (own4_lt HV.out.1 g hg).2
          go_wp2_with (at_builtin; refine wpList_append_de rfl _ _ rfl w2.heap.size WdC0.heap.size (.slice B mm c2) mm (l.take k) (y, p, q, z) rfl rfl (HOc.out.alloc _) (heap_alloc_new _ _) (by have := HMM.out; omega) (by have := (HBc.out).size; simp; omega) ?_; intro v6 w6 hownw6 hgw6; obtain ⟨Bw6, cw6, rfl⟩ := own4_form hownw6; have HBw6 : Hid (Below w2.heap.size w2 w6) := ((HBc.out).alloc (HBc.out).size _).grown hgw6 (by have := (HBc.out).size; simp; omega) (fun g h => (own4_lt HOc.out g h).1); have HOw6 := Lib.hid hownw6; clear hownw6 hgw6; obtain ⟨q0w6, q1w6, q2w6, q3w6⟩ := HCELL.out w6 HBw6.out; obtain ⟨s0w6, s1w6, s2w6, s3w6⟩ := HTW.out w6 HBw6.out)
          go_roundw
          case rel => exact ⟨k + 1, mm + 1, Bw6, cw6, false, by omega, by go_num, rfl, rfl, by have h := HOw6.out; rw [← HTK.out] at h; exact h, ⟨fun h => absurd h (by decide), fun h => absurd h HNX.out⟩, HBw6.out⟩
          case measure => simp [intOf] <;> omega
    · obtain rfl : k = m := by omega
      have htk : l.take k = l := List.take_of_length_le (by rw [← HM.out]; exact Nat.le_refl _)
      cases b with
      | true =>
        have HRES : Hid (mm = (insE (n, o, a, x) l).length ∧ Ds wr B (insE (n, o, a, x) l) ∧ Below w.heap.size w wr) := by
          have h1 := HV0.out
          simp only [outL, if_true] at h1
          rw [htk] at h1
          exact ⟨own4_len h1, Ds.of_own h1, HW2.out.trans (HVB.out.mono HW2.out.size)⟩
        clear htk HV0
        go_wp2
        exact bodyPost_ret (v := .tuple #[.slice B mm c2, .int .i64 0]) (by simp [results, Try.results16, go_sem]) rfl ⟨_, _, _, rfl, HRES.out⟩
      | false =>
        have HV : Hid (wr.ownsRow w2.heap.size 29 4 (.slice B mm c2) mm (er l) ∧ True) := ⟨by have h1 := HV0.out; simp only [outL, Bool.false_eq_true, if_false] at h1; rwa [htk] at h1, trivial⟩
        have HNX : Hid (insE (n, o, a, x) l = l ++ [(n, o, a, x)]) := by
          have h2 := HPB.out.2
          rw [htk] at h2
          exact insE_end (fun y hy hlt => absurd (h2 ⟨y, hy, hlt⟩) (by decide))
        have HCELL : Hid (∀ W, Below w2.heap.size w2 W → True ∧ True ∧ True ∧ True) := fun _ _ => ⟨trivial, trivial, trivial, trivial⟩
        clear htk HV0
        go_wp2_with (at_builtin; refine wpList_append_de rfl _ _ rfl w2.heap.size wr.heap.size (.slice B mm c2) mm (l) (n, o, a, x) rfl rfl (HV.out.1.alloc _) (heap_alloc_new _ _) (by have := HMM.out; omega) (by have := (HVB.out).size; simp; omega) ?_; intro v6 w6 hownw6 hgw6; obtain ⟨Bw6, cw6, rfl⟩ := own4_form hownw6; have HBw6 : Hid (Below w2.heap.size w2 w6) := ((HVB.out).alloc (HVB.out).size _).grown hgw6 (by have := (HVB.out).size; simp; omega) (fun g h => (own4_lt HV.out.1 g h).1); have HOw6 := Lib.hid hownw6; clear hownw6 hgw6; obtain ⟨q0w6, q1w6, q2w6, q3w6⟩ := HCELL.out w6 HBw6.out; obtain ⟨s0w6, s1w6, s2w6, s3w6⟩ := HTW.out w6 HBw6.out)
        have HRES : Hid (mm + 1 = (insE (n, o, a, x) l).length ∧ Ds w6 Bw6 (insE (n, o, a, x) l) ∧ Below w.heap.size w w6) := by
          have h1 := HOw6.out
          rw [← HNX.out] at h1
          exact ⟨own4_len h1, Ds.of_own h1, HW2.out.trans (HBw6.out.mono HW2.out.size)⟩
        exact bodyPost_ret (v := .tuple #[.slice Bw6 (mm + 1) cw6, .int .i64 0]) (by simp [results, Try.results16, go_sem]) rfl ⟨_, _, _, rfl, HRES.out⟩
theorem rissue_any (A : Option Addr) (m c : Nat) (most now : Int) (e : Ent) (l : List Ent) (w : World) (hm : m = l.length) (hR : Ds w A l) (hs : Srt l) (hl : m ≤ 500) : Calls Try.prog 16 #[.slice A m c, .int .i64 most, eVe e, .int .i64 now] w (RA2 (issE most l e now).1 (issE most l e now).2 w) := by
  by_cases h1 : e.2.2.2 < now
  · have hr : issE most l e now = (l, 9) := by unfold issE; rw [if_pos h1]
    rw [hr]
    exact rissue_1 A m c most now e l w hm hR hs hl h1
  · cases h2 : anyN l e.1 with
    | true =>
      have hr : issE most l e now = (l, 11) := by unfold issE; rw [if_neg h1, if_pos h2]
      rw [hr]
      exact rissue_2 A m c most now e l w hm hR hs hl h1 h2
    | false =>
      by_cases h3 : most ≤ (l.length : Int)
      · have hr : issE most l e now = (l, 10) := by unfold issE; rw [if_neg h1, if_neg (by rw [h2]; decide), if_pos h3]
        rw [hr]
        exact rissue_3 A m c most now e l w hm hR hs hl h1 h2 (by rw [hm]; exact h3)
      · have hr : issE most l e now = (insE e l, 0) := by unfold issE; rw [if_neg h1, if_neg (by rw [h2]; decide), if_neg h3]
        rw [hr]
        exact rissue_4 A m c most now e l w hm hR hs hl h1 h2 (by rw [hm]; exact h3)
end Go.Proofs.Yticegnbdpihdpaa
