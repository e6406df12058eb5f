/- Ready: Sorted of Values; those who did not say yes. -/
import Derived.Test.YtemjmnpclknfaaaV1
import Derived.Test.YtemjmnpclknfaaaZE
import Derived.Test.YtemjmnpclknfaaaQ1
import Derived.Shelf.SlicesE.DeleteFunc
import Derived.Shelf.Lay
import Derived.Ground.SlgfProg
import Derived.Lib.OwnBridge
namespace Go.Proofs
open Go.Shelf
shelf_lay_g SlLaysH.n10 Slgf 10 at Try 54 as Ytemjmnpclknfaaa.P.dfU
namespace Ytemjmnpclknfaaa.P
open Go.RowKit Go.Lib Go.Sort
set_option maxRecDepth 20000
set_option linter.unusedVariables false
set_option linter.unusedSimpArgs false

set_option maxHeartbeats 2000000 in
theorem sorted_any (Bs : Nat) (A : Option Addr) (len cap : Nat) (zs : List Nat) (hlen : len = zs.length) (hreach : len ≤ 100000) (w : World) (hBs : Bs < w.heap.size)
    (hc : w.cell? ⟨Bs, 0, none⟩ = some (.slice A len cap)) (hI : Rn w A zs) :
    Calls Try.prog 52 #[.func (.func 87) #[] #[.pointer (some ⟨Bs, 0, none⟩)]] w fun e W' => ∃ v, e = .returned v ∧ W'.ownsRow w.heap.size 26 1 v zs.length (un (Z.sortedN zs)) ∧ Below w.heap.size w W' := by
  have HC := Lib.hid (collect_any Bs A len cap zs hlen hreach w hBs hc hI)
  have HL : Hid (zs.length < 1000000000) := by simp only [Hid]; omega
  clear hlen hreach hBs hc hI
  go_enter Try.func52, Try.ntmps52
  go_wp2_with fail
  refine HC.out.mono ?_
  rintro r w1 ⟨v, rfl, ho, hb⟩
  obtain ⟨A1, c1, rfl⟩ := own_form1 ho
  have HS := Lib.hid (Z.sort_own w.heap.size _ zs w1 ho HL.out)
  have HB := Lib.hid hb
  clear ho hb
  go_wp2_with fail
  refine HS.out.mono ?_
  rintro r w2 ⟨rfl, ho, hb⟩
  have HO := Lib.hid ho
  have HB2 := Lib.hid (HB.out.trans hb)
  clear ho hb
  go_wp2
  go_ret
  exact ⟨_, rfl, HO.out, HB2.out⟩

abbrev encU : Nat → Value := fun x => .int .u32 (x : Int)
theorem zeroU (w : World) : (zeroValue 26).run Try.prog w = .ok (encU 0) w := by kernel_rfl
theorem eg55 : ∀ args w, (callFunc 55 args).run Try.prog w = .ok (.enter 55 args) w := enters_of Try.func55 (by kernel_rfl) rfl
/-- A sorted row, as the closure has it. -/
def Srt (W : World) (s : Value) (ys : List Nat) : Prop := (s = .slice none 0 0 ∧ ys = []) ∨ ∃ Y c, s = .slice (some ⟨Y, 0, none⟩) ys.length c ∧ At32 W Y 0 ys
theorem gives55 {s : Value} {ys : List Nat} (hu : Up ys) (hl : ys.length ≤ 1000) (x K : Nat) (W : World) (hK : W.cell? ⟨K, 0, none⟩ = some s) (hS : Srt W s ys) :
    FnGives Try.prog 55 #[.pointer (some ⟨K, 0, none⟩)] #[encU x] (.bool (decide (x ∈ ys))) W := by
  show Calls Try.prog 55 #[.int .u32 (x : Int), .pointer (some ⟨K, 0, none⟩)] W _
  rcases hS with ⟨rfl, rfl⟩ | ⟨Y, c, rfl, hA⟩
  · have HS := Lib.hid (search_nil x W)
    go_enter Try.func55, Try.ntmps55
    go_wp2_with fail
    refine HS.out.mono ?_
    rintro r w1 ⟨rfl, rfl⟩
    go_wp2
    go_ret
    exact ⟨by simp, 0, rfl⟩
  · have HS := Lib.hid (search_any Y 0 c ys.length ys x W rfl hl hu hA)
    obtain ⟨t, ht⟩ : ∃ t, t = decide (x ∈ ys) := ⟨_, rfl⟩
    have HT := Lib.hid ht
    have HU := Lib.hid hu
    rw [← ht]
    clear ht hA hu
    go_enter Try.func55, Try.ntmps55
    go_wp2_with fail
    refine HS.out.mono ?_
    rintro r w1 ⟨rfl, p, hp, h1, h2, rfl⟩
    have e : decide (ys[p]? = some x) = t := by
      rw [HT.out, decide_eq_decide]
      exact (pl_mem HU.out ⟨hp, h1, h2⟩).symm
    rw [e]
    clear e h1 h2
    go_wp2
    go_ret
    exact ⟨rfl, 0, rfl⟩
set_option maxHeartbeats 2000000 in
theorem idx_nil (f : Value) (w : World) : Calls Try.prog 80 #[.slice none 0 0, f] w fun r w' => r = .returned (.int .i64 (-1)) ∧ Below w.heap.size w w' := by
  have HBr : Hid (Below w.heap.size w w) := Below.refl _ _
  go_enter Try.func80, Try.ntmps80
  go_wp2_with fail
  go_loopw [8] (fun u wr => u = .int .i64 0 ∧ Hid (Below w.heap.size w wr)) (fun u _ => 0)
  case atStart => exact ⟨rfl, HBr.out⟩
  case round =>
    obtain ⟨rfl, HV⟩ := hrel
    go_wp2
    go_ret
    exact ⟨rfl, HV.out⟩
set_option maxHeartbeats 2000000 in
theorem del_nil (f : Value) (w : World) : Calls Try.prog 54 #[.slice none 0 0, f] w fun r w' => r = .returned (.slice none 0 0) ∧ Below w.heap.size w w' := by
  have HC := Lib.hid (idx_nil f w)
  go_enter Try.func54, Try.ntmps54
  go_wp2_with fail
  refine HC.out.mono ?_
  rintro r w1 ⟨rfl, hb⟩
  have HB := Lib.hid hb
  clear hb
  go_wp2
  go_ret
  exact ⟨rfl, HB.out⟩
theorem own_base' {w : World} {B B' T S m : Nat} {v : Value} {xs : List Value} (h : w.ownsRow B T S v m xs) (hB : B' ≤ B) : w.ownsRow B' T S v m xs := ⟨h.1, h.2.imp id fun ⟨g, cap, cur, e, h1, h2⟩ => ⟨g, cap, cur, e, Nat.le_trans hB h1, h2⟩⟩
def miss (l ys : List Nat) : List Nat := l.filter fun x => decide (x ∉ ys)
theorem miss_eq (l ys : List Nat) : (l.filter fun x => !decide (x ∈ ys)) = miss l ys := by unfold miss; congr 1; funext x; simp
theorem miss_len (l ys : List Nat) : (miss l ys).length ≤ l.length := List.length_filter_le _ _
theorem miss_congr {l ys zs : List Nat} (h : ∀ x, x ∈ ys ↔ x ∈ zs) : miss l ys = miss l zs := by unfold miss; congr 1; funext x; simp [h x]
/-- DeleteFunc of those who said yes, at a row of one's own. -/
theorem del_own (B K : Nat) (s v : Value) (l ys : List Nat) (w : World) (h : w.ownsRow B 26 1 v l.length (un l)) (hK : K < B) (hB : B ≤ w.heap.size) (hc : w.cell? ⟨K, 0, none⟩ = some s) (hu : Up ys) (hyl : ys.length ≤ 1000) (hS : Srt w s ys) (hsb : ∀ g, s.ownBlock = some g → g < B) :
    Calls Try.prog 54 #[v, .func (.func 55) #[] #[.pointer (some ⟨K, 0, none⟩)]] w fun r w' => ∃ A c, r = .returned (.slice A (miss l ys).length c) ∧ w'.ownsRow B 26 1 (.slice A (miss l ys).length c) (miss l ys).length (un (miss l ys)) ∧ Below B w w' := by
  by_cases hv : v = .slice none 0 0
  · subst hv
    have hl : l = [] := by
      rcases h.2 with ⟨_, h0⟩ | ⟨g, cap, cur, e, _⟩
      · exact List.eq_nil_of_length_eq_zero h0
      · cases e
    subst hl
    exact (del_nil _ w).mono fun r w' ⟨h1, h2⟩ => ⟨_, _, h1, World.ownsRow_nil w' B 26 1, h2.mono hB⟩
  · have h : w.ownsRow B 26 1 v l.length (l.map encU) := h
    obtain ⟨g, cap, rfl, hg, hgs, hn, hm, hlen, hH⟩ := holds_of_ownsRow h hv
    have hp : PredAt Try.prog 55 #[.pointer (some ⟨K, 0, none⟩)] encU (fun x => decide (x ∈ ys)) w := fun W x hb => gives55 hu hyl x K W ((hb.cell (p := ⟨K, 0, none⟩) (by show K < _; omega)).trans hc) (by
      rcases hS with hS | ⟨Y, c, rfl, hA⟩
      · exact .inl hS
      · have hY : Y < B := hsb Y rfl
        exact .inr ⟨Y, c, rfl, fun j x hj => (hb.cell (p := ⟨Y, _, none⟩) (by show Y < _; omega)).trans (hA j x hj)⟩)
    have ho : PredOver Try.prog 55 #[.pointer (some ⟨K, 0, none⟩)] encU (fun x => decide (x ∈ ys)) g 0 l.toArray.size w := fun n os dk x _ => by
      have hcell : ∀ (k o : Nat) (u : Value), k < B → w.cell? ⟨k, o, none⟩ = some u → (sortWorld encU w g 0 n dk os).cell? ⟨k, o, none⟩ = some u := fun k o u hk hu => by
        unfold sortWorld
        rw [cell?_grow _ _ _ (by show k < (putRow _ _ _ _ _).heap.size; rw [size_putRow]; show k < w.heap.size; omega), cell?_putRow_other _ _ g 0 _ _ (Or.inl (by show k ≠ g; omega))]
        exact hu
      refine gives55 hu hyl x K _ (hcell K 0 s hK hc) ?_
      rcases hS with hS | ⟨Y, c, rfl, hA⟩
      · exact .inl hS
      · exact .inr ⟨Y, c, rfl, fun j x hj => hcell Y _ _ (hsb Y rfl) (hA j x hj)⟩
    have hcon := AnyE.slices_DeleteFunc dfU encU (fun _ => rfl) (fun x => decide (x ∈ ys)) 55 #[.pointer (some ⟨K, 0, none⟩)] eg55 0 zeroU g 0 cap l.toArray w hp ho hH (by simp only [maxLen] at hm; simp; omega) (by simpa using hn)
    rw [show l.toArray.toList = l from rfl, miss_eq] at hcon
    have hsz : l.toArray.size = l.length := rfl
    rw [hsz] at hcon
    refine hcon.mono ?_
    rintro r w' ⟨rfl, q, rfl⟩
    have hle := miss_len l ys
    refine ⟨_, _, rfl, ?_, below_putRow (Below.refl _ _) hg⟩
    have := ownsRow_putRow (q := q) (k := (miss l ys).length) (ys := miss l ys ++ List.replicate (l.length - (miss l ys).length) 0) h (by simp; omega) hle
    rw [List.take_left] at this
    exact this
theorem up_sorted {l : List Nat} (h : l.Nodup) : Up (Z.sortedN l) := fun i j x y hij hx hy => by
  obtain ⟨h1, rfl⟩ := List.getElem?_eq_some_iff.1 hx
  obtain ⟨h2, rfl⟩ := List.getElem?_eq_some_iff.1 hy
  exact List.pairwise_iff_getElem.1 (Z.sortedN_lt l h) i j h1 h2 hij
theorem srt_own {w : World} {B : Nat} {v : Value} {ys : List Nat} (h : w.ownsRow B 26 1 v ys.length (un ys)) : Srt w v ys := by
  rcases h.2 with ⟨rfl, h0⟩ | ⟨g, cap, cur, rfl, hr⟩
  · exact .inl ⟨rfl, List.eq_nil_of_length_eq_zero h0⟩
  · exact .inr ⟨g, cap, rfl, At32.of_own h⟩
theorem Srt.after {w w' : World} {v : Value} {ys : List Nat} (h : Srt w v ys) (hb : Below w.heap.size w w') (hs : ∀ g, v.ownBlock = some g → g < w.heap.size) : Srt w' v ys := by
  rcases h with h | ⟨Y, c, rfl, hA⟩
  · exact .inl h
  · exact .inr ⟨Y, c, rfl, fun j x hj => (hb.cell (p := ⟨Y, _, none⟩) (hs Y rfl)).trans (hA j x hj)⟩
/-- A check, as it is told. -/
abbrev cC (id : Nat) (a b : Sl) (t : Int) : Array Value := #[.int .u32 (id : Int), .slice a.a a.n a.c, .slice b.a b.n b.c, .int .i64 t]
abbrev cV (id : Nat) (a b : Sl) (t : Int) : Value := .agg (cC id a b t)
set_option maxHeartbeats 4000000 in
theorem missing_any (id : Nat) (a b : Sl) (t : Int) (l ys : List Nat) (w : World) (ha : a.n = l.length) (hb : b.n = ys.length) (hA : Rn w a.a l) (hB : Rn w b.a ys) (hn : ys.Nodup) (hl : l.length ≤ 100) (hyl : ys.length ≤ 100) :
    Calls Try.prog 22 #[cV id a b t] w fun r w' => ∃ A c, r = .returned (.slice A (miss l ys).length c) ∧ w'.ownsRow w.heap.size 26 1 (.slice A (miss l ys).length c) (miss l ys).length (un (miss l ys)) ∧ Below w.heap.size w w' := by
  obtain ⟨w0, hw0⟩ : ∃ w0, w0 = w.alloc (.cells (cC id a b t) 33) := ⟨_, rfl⟩
  obtain ⟨w1, hw1⟩ : ∃ w1, w1 = w0.alloc (.cells #[.slice b.a b.n b.c] 27) := ⟨_, rfl⟩
  have hb0 : Below w.heap.size w w0 := by rw [hw0]; exact (Below.refl _ _).alloc (Nat.le_refl _) _
  have hb1 : Below w0.heap.size w0 w1 := by rw [hw1]; exact (Below.refl _ _).alloc (Nat.le_refl _) _
  have hq0 : w0.heap[w.heap.size]? = some (.cells (cC id a b t) 33 (0, 0)) := by rw [hw0]; exact heap_alloc_new w _
  have hq1 : w1.heap[w0.heap.size]? = some (.cells #[.slice b.a b.n b.c] 27 (0, 0)) := by rw [hw1]; exact heap_alloc_new w0 _
  have hb01 := hb0.trans (hb1.mono hb0.size)
  have hs0 : w0.heap.size = w.heap.size + 1 := by rw [hw0]; simp
  have hx1 := cell_of_row w1 w0.heap.size 0 _ _ _ hq1
  simp at hx1
  have HV := Lib.hid (values_any b.a b.n b.c w0)
  have HS := Lib.hid (sorted_any w0.heap.size b.a b.n b.c ys hb (by omega) w1 (lt_of_block hq1) hx1 (hB.after hb01))
  have p1 := cell_of_row w0 w.heap.size 1 _ _ _ hq0
  have p2 := cell_of_row w0 w.heap.size 2 _ _ _ hq0
  simp at p1 p2
  have H0 := Lib.hid hw0
  have H1 := Lib.hid hw1
  have HB1 := Lib.hid hb01
  have HQ0 := Lib.hid hq0
  have HA := Lib.hid hA
  have HN := Lib.hid hn
  have HLA := Lib.hid ha
  have HL := Lib.hid hl
  have HYL := Lib.hid hyl
  have HS0 : Hid (w.heap.size < w1.heap.size) := Nat.lt_of_lt_of_le (lt_of_block hq0) hb1.size
  have HQ1 := Lib.hid ((hb1.block _ (lt_of_block hq0)).trans hq0)
  clear hw0 hw1 hb0 hb1 hq0 hq1 hb01 hs0 hx1 hA hB hn ha hb hl hyl
  go_enter Try.func22, Try.ntmps22
  go_upto_region 1 with (fail)
  rw [← H0.out]
  go_wp2_with fail
  refine HV.out.mono ?_
  rintro r wx ⟨rfl, e⟩
  rw [← H1.out] at e
  rw [e]
  clear e
  clear p1 p2
  go_wp2_with fail
  refine HS.out.mono ?_
  rintro r w2 ⟨v, rfl, ho, hb2⟩
  obtain ⟨A2, c2, rfl⟩ := own_form1 ho
  obtain ⟨K, hK⟩ : ∃ K, K = w2.heap.size := ⟨_, rfl⟩
  obtain ⟨w3, hw3⟩ : ∃ w3, w3 = w2.alloc (.cells #[.slice A2 ys.length c2] 27) := ⟨_, rfl⟩
  have hb3 : Below w2.heap.size w2 w3 := by rw [hw3]; exact (Below.refl _ _).alloc (Nat.le_refl _) _
  have hq3 : w3.heap[K]? = some (.cells #[.slice A2 ys.length c2] 27 (0, 0)) := by rw [hw3, hK]; exact heap_alloc_new w2 _
  have hs3 : w3.heap.size = K + 1 := by rw [hw3, hK]; simp
  have hz : (Z.sortedN ys).length = ys.length := (Z.sortedN_perm ys).length_eq
  have ho' : w2.ownsRow w1.heap.size 26 1 (.slice A2 ys.length c2) (Z.sortedN ys).length (un (Z.sortedN ys)) := by rw [hz]; exact ho
  have hown : ∀ g, (Value.slice A2 ys.length c2).ownBlock = some g → g < w2.heap.size := fun g hg => (ownlt ho g hg).2
  have hsrt := (srt_own ho').after hb3 hown
  have hb13 := hb2.trans (hb3.mono hb2.size)
  have hq03 := (hb13.block _ HS0.out).trans HQ1.out
  have p1 := cell_of_row w3 w.heap.size 1 _ _ _ hq03
  simp at p1
  have HC := Lib.hid (clone_rn a.a a.n a.c l w3 HLA.out (HA.out.after (HB1.out.trans (hb13.mono HB1.out.size))) (by have := HLA.out; have := HL.out; omega))
  have HF : Hid (∀ (B : Nat) (v : Value) (W : World), W.ownsRow B 26 1 v l.length (un l) → K < B → B ≤ W.heap.size → Below w3.heap.size w3 W →
      Calls Try.prog 54 #[v, .func (.func 55) #[] #[.pointer (some ⟨K, 0, none⟩)]] W fun r w' => ∃ A c, r = .returned (.slice A (miss l ys).length c) ∧ w'.ownsRow B 26 1 (.slice A (miss l ys).length c) (miss l ys).length (un (miss l ys)) ∧ Below B W w') := fun B v W hW h1 h2 h3 => by
    have hk : W.heap[K]? = some (.cells #[.slice A2 ys.length c2] 27 (0, 0)) := (h3.block _ (lt_of_block hq3)).trans hq3
    have hkc := cell_of_row W K 0 _ _ _ hk
    simp at hkc
    have := del_own B K (.slice A2 ys.length c2) v l (Z.sortedN ys) W hW h1 h2 hkc (up_sorted HN.out) (by rw [hz]; have := HYL.out; omega) (hsrt.after h3 (fun g hg => by have := hown g hg; omega)) (fun g hg => by have := hown g hg; omega)
    rw [miss_congr (fun x => Z.sortedN_mem ys x)] at this
    exact this
  have H3 := Lib.hid hw3
  have HK := Lib.hid hK
  have HS3 := Lib.hid hs3
  have HB3 : Hid (Below w.heap.size w w3) := HB1.out.trans (hb13.mono HB1.out.size)
  clear ho ho' hb2 hw3 hb3 hq3 hz hown hsrt hb13 hq03 hK hs3
  go_upto_region 2 with (fail)
  rw [← H3.out, ← HK.out]
  go_wp2_with fail
  refine HC.out.mono ?_
  rintro r w4 ⟨A4, c4, rfl, ho4, hb4⟩
  have HF4 := Lib.hid (HF.out w3.heap.size (.slice A4 a.n c4) w4 (by rw [← HLA.out]; exact ho4) (by have := HS3.out; omega) hb4.size hb4)
  have HB4 : Hid (Below w.heap.size w w4) := HB3.out.trans (hb4.mono HB3.out.size)
  clear ho4 hb4
  go_wp2_with fail
  refine HF4.out.mono ?_
  rintro r w5 ⟨A5, c5, rfl, ho5, hb5⟩
  have HB5 : Hid (Below w.heap.size w w5) := HB4.out.trans (hb5.mono HB3.out.size)
  have HO5 := Lib.hid (own_base' ho5 HB3.out.size)
  clear ho5 hb5
  go_wp2
  go_ret
  exact ⟨_, _, rfl, HO5.out, HB5.out⟩
end Ytemjmnpclknfaaa.P
end Go.Proofs
