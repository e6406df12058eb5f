/- Ready: ReadyAll's walk. -/
import Derived.Test.YtemjmnpclknfaaaQF
import Derived.Deep.OwnRows
namespace Go.Proofs.Ytemjmnpclknfaaa.P
open Go.RowKit Go.Deep
set_option maxRecDepth 20000
set_option linter.unusedVariables false
set_option linter.unusedSimpArgs false

theorem mkBool (m : Nat) : madeCells #[Value.bool false] m = ((List.replicate m false).map Value.bool).toArray := by
  apply Array.ext
  · simp [size_madeCells]
  · intro i h1 h2
    simp [madeCells, Nat.mod_one]
theorem info4 : (Try.prog.info? 4).map (fun i => (i.zero, i.size, i.bytes)) = some (some (.bool false), 1, 1) := by kernel_rfl
/-- Who has said yes, place by place. -/
def bl (a n : Nat) (ys : List Nat) : Array Value := ((List.range n).map fun j => Value.bool (decide (a + j ∈ ys))).toArray
theorem bl_start (a n : Nat) : ((List.replicate n false).map Value.bool).toArray = bl a n [] := by
  unfold bl
  congr 1
  refine List.ext_getElem? fun i => ?_
  by_cases h : i < n <;> simp [h]
theorem bl_get {a n k : Nat} (ys : List Nat) (h : k < n) : (bl a n ys)[k]? = some (.bool (decide (a + k ∈ ys))) := by
  unfold bl
  rw [List.getElem?_toArray, List.getElem?_map, List.getElem?_range h]
  rfl
theorem bl_set {a n k : Nat} (ys : List Nat) (h : k < n) : (bl a n ys).setIfInBounds k (.bool true) = bl a n (ys ++ [a + k]) := by
  unfold bl
  rw [List.setIfInBounds_toArray]
  congr 1
  refine List.ext_getElem? fun i => ?_
  rw [List.getElem?_set, List.length_map, List.length_range, List.getElem?_map, List.getElem?_map]
  by_cases hi : k = i
  · subst hi
    rw [if_pos rfl, if_pos h, List.getElem?_range h]
    simp
  · rw [if_neg hi]
    by_cases hn : i < n
    · rw [List.getElem?_range hn]
      simp only [Option.map_some, Option.some.injEq, Value.bool.injEq, decide_eq_decide, List.mem_append, List.mem_singleton]
      constructor
      · exact .inl
      · rintro (h | h)
        · exact h
        · omega
    · rw [List.getElem?_eq_none (by simp; omega)]
      rfl
/-- How things stand: who has said yes; is the check over? -/
structure AL (w : World) (n B R Sd b1 o1 : Nat) (ys : List Nat) (o : Bool) (W : World) : Prop where
  bk : ∃ vi, Bk W B R 1 vi (if o = true then [] else [⟨7, 0, pl 10 n, ys⟩])
  row : W.heap[Sd]? = some (.cells (bl 10 n ys) 4 (0, 0))
  nod : ys.Nodup
  sub : ∀ x ∈ ys, x ∈ pl 10 n
  ov : o = decide (ys.length = n)
  pls : At32 W b1 o1 (pl 10 n)
  all : Below w.heap.size w W
theorem AL.after {w W W' : World} {n B R Sd b1 o1 : Nat} {ys : List Nat} {o : Bool} (h : AL w n B R Sd b1 o1 ys o W) (hb : Below W.heap.size W W') (hl : b1 < W.heap.size) : AL w n B R Sd b1 o1 ys o W' := by
  obtain ⟨vi, hk⟩ := h.bk
  exact ⟨⟨vi, hk.after hb⟩, (hb.block _ (lt_of_block h.row)).trans h.row, h.nod, h.sub, h.ov, fun j x hj => (hb.cell (p := ⟨b1, _, none⟩) hl).trans (h.pls j x hj), h.all.trans (hb.mono h.all.size)⟩
theorem AL.len {w W : World} {n B R Sd b1 o1 : Nat} {ys : List Nat} {o : Bool} (h : AL w n B R Sd b1 o1 ys o W) : ys.length ≤ n := by
  have := sub_len h.nod h.sub
  rw [pl_len] at this
  exact this
/-- A yes. -/
theorem AL.yes {w W W' : World} {n B R Sd b1 o1 p : Nat} {ys : List Nat} {vi : Value} {L' : List Pt} (h : AL w n B R Sd b1 o1 ys false W) (hp : PutP B R 1 vi L' W W') (hL : L' = if miss (pl 10 n) (ys ++ [p]) = [] then [] else [⟨7, 0, pl 10 n, ys ++ [p]⟩]) (hpm : p ∈ pl 10 n) (hpn : p ∉ ys) (hR : b1 < R) (hSR : w.heap.size ≤ R) :
    (∃ vi, Bk W' B R 1 vi (if decide (ys.length + 1 = n) = true then [] else [⟨7, 0, pl 10 n, ys ++ [p]⟩])) ∧ W'.heap[Sd]? = some (.cells (bl 10 n ys) 4 (0, 0)) ∧ (ys ++ [p]).Nodup ∧ (∀ x ∈ ys ++ [p], x ∈ pl 10 n) ∧ At32 W' b1 o1 (pl 10 n) ∧ Below w.heap.size w W' ∧ decide (miss (pl 10 n) (ys ++ [p]) = []) = decide (ys.length + 1 = n) := by
  obtain ⟨vi', hk, hs⟩ := hp
  have hnd : (ys ++ [p]).Nodup := List.nodup_append.2 ⟨h.nod, by simp, fun a ha b hb => by
    simp at hb
    subst hb
    exact fun e => hpn (e ▸ ha)⟩
  have hsub : ∀ x ∈ ys ++ [p], x ∈ pl 10 n := fun x hx => by
    rcases List.mem_append.1 hx with hx | hx
    · exact h.sub x hx
    · simp at hx
      rw [hx]
      exact hpm
  have hm : miss (pl 10 n) (ys ++ [p]) = [] ↔ ys.length + 1 = n := by
    rw [miss_count (pl_nodup 10 n) hnd hsub, pl_len, List.length_append]
    rfl
  refine ⟨⟨vi', ?_⟩, (hs.keep Sd _ 4 h.row (by decide) (by decide) (fun e => absurd e (by decide))).trans h.row, hnd, hsub, fun j x hj => (hs.below.cell (p := ⟨b1, _, none⟩) hR).trans (h.pls j x hj), h.all.trans (hs.below.mono hSR), by rw [decide_eq_decide]; exact hm⟩
  have e : (if decide (ys.length + 1 = n) = true then ([] : List Pt) else [⟨7, 0, pl 10 n, ys ++ [p]⟩]) = L' := by
    rw [hL]
    by_cases hc : ys.length + 1 = n
    · rw [if_pos (by simpa using hc), if_pos (hm.2 hc)]
    · rw [if_neg (by simpa using hc), if_neg (fun e => hc (hm.1 e))]
  rw [e]
  exact hk
theorem Bk.kept {W W' : World} {B R T0 : Nat} {most : Int} {vi : Value} {L : List Pt} (h : Bk W B R most vi L) (ho : ∀ (g : Nat) (cur : Array Value) (T : TypeId), W.heap[g]? = some (.cells cur T (0, 0)) → T ≠ T0 → W'.heap[g]? = W.heap[g]?) (h1 : T0 ≠ 88) (h2 : T0 ≠ 136) (h3 : T0 ≠ 26) (h4 : T0 ≠ 86) : Bk W' B R most vi L := by
  obtain ⟨vt, ths, k1, k2⟩ := h.ex
  refine ⟨(ho B _ 88 h.blk (Ne.symm h1)).trans h.blk, vt, ths, ⟨(ho R _ 136 k1.row (Ne.symm h2)).trans k1.row, own_after k1.rio fun g hg => ?_, own_after k1.rto fun g hg => ?_, k1.len, k1.up, k1.ok⟩, fun i p hp => ?_⟩
  · obtain ⟨cur, hc⟩ := own_type k1.rio hg
    exact ho g cur 26 hc (Ne.symm h3)
  · obtain ⟨cur, hc⟩ := own_type k1.rto hg
    exact ho g cur 86 hc (Ne.symm h4)
  · obtain ⟨th, e1, e2⟩ := k2 i p hp
    have hf : ∀ s l, Fl W R vi s l → Fl W' R vi s l := fun s l hs => ⟨hs.1, fun hl => by
      obtain ⟨b', o', a1, a2, a3, ⟨cur, a4⟩, a5⟩ := hs.2 hl
      have k := ho b' cur 26 a4 (Ne.symm h3)
      exact ⟨b', o', a1, a2, a3, ⟨cur, k.trans a4⟩, fun j x hj => (World.cell?_of_block k).trans (a5 j x hj)⟩⟩
    exact ⟨th, e1, e2.1, hf _ _ e2.2.1, hf _ _ e2.2.2⟩
theorem AL.set {w W : World} {n B R Sd b1 o1 kk : Nat} {ys : List Nat} {o : Bool} (hk : kk < n) (h1 : ∃ vi, Bk W B R 1 vi (if o = true then [] else [⟨7, 0, pl 10 n, ys ++ [10 + kk]⟩])) (h2 : W.heap[Sd]? = some (.cells (bl 10 n ys) 4 (0, 0))) (h3 : (ys ++ [10 + kk]).Nodup) (h4 : ∀ x ∈ ys ++ [10 + kk], x ∈ pl 10 n) (h5 : At32 W b1 o1 (pl 10 n)) (h6 : Below w.heap.size w W) (h7 : o = decide (ys.length + 1 = n)) (hS : b1 ≠ Sd) (hw : w.heap.size ≤ Sd) : AL w n B R Sd b1 o1 (ys ++ [10 + kk]) o (W.setCell ⟨Sd, kk, none⟩ (.bool true)) := by
  have ho : ∀ (g : Nat) (cur : Array Value) (T : TypeId), W.heap[g]? = some (.cells cur T (0, 0)) → T ≠ 4 → (W.setCell ⟨Sd, kk, none⟩ (.bool true)).heap[g]? = W.heap[g]? := fun g cur T hg hT => Below.heap_setCell _ _ _ _ (fun e => by
    rw [show g = Sd from e, h2] at hg
    injection hg with hg
    injection hg with _ hg
    exact hT hg.symm)
  obtain ⟨vi, hb⟩ := h1
  refine ⟨⟨vi, hb.kept ho (by decide) (by decide) (by decide) (by decide)⟩, ?_, h3, h4, by rw [h7, List.length_append]; rfl, fun j x hj => (World.cell?_of_block (Below.heap_setCell _ _ _ _ hS)).trans (h5 j x hj), h6.setCell hw _⟩
  rw [← bl_set ys hk]
  exact heap_setCell_same W Sd kk _ 4 _ h2
def On8 (w : World) (B : Nat) (A : Option Addr) (l : List Nat) : Prop := 0 < l.length → ∃ b o, A = some ⟨b, o, none⟩ ∧ b < B ∧ ∀ (j x : Nat), l[j]? = some x → w.cell? ⟨b, o + j, none⟩ = some (.int .u8 (x : Int))
theorem u8s_of {H : Type} {enc : TypeId × Value → H} {W : World} {m : Nat} {c0 : Value} {y0 : DataW H × List MemPlace} (h : DataW.trod enc Try.prog W 0 (fun _ => true) true m 47 [c0] = some y0) :
    ∃ (A : Option Addr) (c : Nat) (l : List Nat), c0 = .slice A l.length c ∧ On8 W W.heap.size A l ∧ l.length ≤ 9223372036854775807 ∧ l.length ≤ c ∧ ∀ e ∈ l, e < 256 := by
  have k5 : Try.prog.cellsOf 5 = 1 := by kernel_rfl
  rcases Deep.open_slice Try.underlying47 h with ⟨hcs, _⟩ | ⟨a, n, c, m, k, D, Pl, hcs, _, hl, hm, hmm, _, hx⟩
  · simp at hcs
    subst hcs
    exact ⟨none, 0, [], rfl, fun h => by simp at h, by simp, by simp, fun e he => by cases he⟩
  · simp at hcs
    subst hcs
    rw [k5] at hx
    have each : ∀ i, i < n → ∃ e : Nat, e < 256 ∧ W.cell? (a.add (i * 1)) = some (.int .u8 (e : Int)) := fun i hi => by
      obtain ⟨cs', h1, h2⟩ := hx i (by rw [hmm]; simp; omega)
      obtain ⟨_, hlen, hcell⟩ := World.cells?_some h1
      match cs', hlen with
      | [c0], _ =>
        obtain ⟨x0, e0, _, w0⟩ := DataW.trod_int Try.underlying5 h2
        simp only [List.cons.injEq, and_true] at e0
        subst e0
        have b0 := bounds_u8 w0
        have q0 := hcell 0 (by omega)
        rw [Deep.add_add] at q0
        exact ⟨x0.toNat, by omega, by simpa [show (x0.toNat : Int) = x0 by omega] using q0⟩
    obtain ⟨f, hf⟩ := Deep.choose_lt each
    refine ⟨some a, c, (List.range n).map f, by simp, fun h0 => ?_, by unfold maxLen at hm; simp; omega, by simpa using hl, fun e he => ?_⟩
    · simp at h0
      have hc0 := (hf 0 h0).2
      obtain ⟨b, off, spot⟩ := a
      have hspot : spot = none := by simpa [Addr.add] using World.cell?_spot hc0
      subst hspot
      refine ⟨b, off, rfl, World.block_lt_of_cell? W ⟨b, off + 0 * 1, none⟩ (by rw [← Go.WideShapes.add_plain]; exact hc0), fun i e he => ?_⟩
      rw [List.getElem?_map] at he
      obtain ⟨i', hi', rfl⟩ := Option.map_eq_some_iff.1 he
      obtain ⟨hin, rfl⟩ := List.getElem?_eq_some_iff.1 hi'
      simp at hin
      simp only [List.getElem_range]
      obtain ⟨_, r0⟩ := hf i hin
      rw [Go.WideShapes.add_plain, Nat.mul_one] at r0
      exact r0
    · obtain ⟨i, hi, rfl⟩ := List.mem_map.1 he
      exact (hf i (List.mem_range.1 hi)).1
theorem open_u8s {H : Type} {enc : TypeId × Value → H} {W : World} {r : Reach} {b0 : Nat} {v : Value} {d : DataW H} {q : List MemPlace} (hv : Value.okWide Try.prog W r b0 47 v) (h : DataW.Trod enc Try.prog W 0 (fun _ => true) true 47 v d q) :
    ∃ (A : Option Addr) (c : Nat) (l : List Nat), v = .slice A l.length c ∧ On8 W W.heap.size A l ∧ l.length ≤ 9223372036854775807 ∧ ∀ e ∈ l, e < 256 := by
  obtain ⟨A, n, c, rfl⟩ := Go.WideShapes.okWide_slice Try.underlying47 hv
  obtain ⟨fuel, hf⟩ := h
  obtain ⟨A', c', l, e, h1, h2, _, h3⟩ := u8s_of (c0 := .slice A n c) (by simpa [Value.cells] using hf)
  exact ⟨A', c', l, e, h1, h2, h3⟩
set_option maxRecDepth 100000 in
set_option maxHeartbeats 16000000 in
theorem all_walk (many : Nat) (A : Option Addr) (cc : Nat) (zs : List Nat) (w : World) (hm : many < 256) (hZ : On8 w w.heap.size A zs) (hzl : zs.length ≤ 9223372036854775807) (hz8 : ∀ e ∈ zs, e < 256) :
    Calls Try.prog 4 #[.int .u8 (many : Int), .slice A zs.length cc] w fun r w' => r = .returned (.bool true) ∧ Below w.heap.size w w' := by
  obtain ⟨m8, hm8⟩ : ∃ m8, m8 = many % 8 := ⟨_, rfl⟩
  obtain ⟨n, hn⟩ : ∃ n, n = 1 + m8 := ⟨_, rfl⟩
  have hn8 : n ≤ 8 := by omega
  have hn1 : 1 ≤ n := by omega
  have q1 : (many : Int).tmod 8 = (m8 : Int) := by rw [Int.tmod_eq_emod_of_nonneg (by omega)]; omega
  have HNE : Hid ((1 : Int) + (m8 : Int) = (n : Int)) := by simp only [Hid]; omega
  have hm7 : m8 ≤ 7 := by omega
  obtain ⟨m2, hm2⟩ : ∃ m2, m2 = zs.length := ⟨_, rfl⟩
  rw [← hm2] at hzl ⊢
  have HZ := Lib.hid hZ
  have HZ8 := Lib.hid hz8
  have HM2 := Lib.hid hm2
  have HB0 : Hid (Below w.heap.size w w) := Below.refl _ _
  clear hZ hz8 hm2 hn hm8
  by_cases h40 : 40 < m2
  · go_enter Try.func4, Try.ntmps4
    go_wp2
    go_ret
    exact ⟨rfl, HB0.out⟩
  go_enter Try.func4, Try.ntmps4
  go_upto_region 2 with (fail)
  rw [HNE.out]
  clear q1 HNE hm7 hm
  go_wp2_with fail
  go_loopw [6, 7] (fun v i wr => ∃ (k c : Nat) (A2 : Option Addr), k ≤ n ∧ i = .int .i64 (k : Int) ∧ v = .slice A2 k c ∧ Hid (wr.ownsRow w.heap.size 26 1 (.slice A2 k c) k (un (pl 10 k)) ∧ Below w.heap.size w wr)) (fun _ i _ => n - (intOf i).toNat)
  case atStart => exact ⟨0, 0, none, by omega, rfl, rfl, World.ownsRow_nil _ _ 26 1, HB0.out⟩
  case round =>
    obtain ⟨k, c, A2, hk, rfl, rfl, HV⟩ := hrel
    by_cases hlt : k < n
    · obtain ⟨y, hy⟩ : ∃ y, y = 10 + k := ⟨_, rfl⟩
      have q1 : IntKind.u32.wrap (10 + (k : Int)) = (y : Int) := by rw [IntKind.wrap_u32]; omega
      have HY := Lib.hid hy
      clear hy
      go_wp2_with (at_builtin; refine wpList_append_u32 rfl _ _ rfl w.heap.size wr.heap.size (.slice A2 k c) k _ y rfl rfl (HV.out.1.alloc _) (heap_alloc_new _ _) (by omega) (by have := HV.out.2.size; simp; omega) ?_; intro v7 w7 hown7 hg7; obtain ⟨A8, c8, rfl⟩ := own_form1 hown7; have HO7 := Lib.hid hown7; have HB7 : Hid (Below w.heap.size w w7) := (HV.out.2.alloc HV.out.2.size _).grown hg7 (by have := HV.out.2.size; simp; omega) (fun g h => (ownlt HV.out.1 g h).1); clear hown7 hg7)
      go_roundw
      case rel => exact ⟨k + 1, c8, A8, by omega, by go_num, rfl, by rw [pl_succ, un_snoc, ← HY.out]; exact HO7.out, HB7.out⟩
      case measure => simp [intOf] <;> omega
    · have hkn : k = n := by omega
      subst hkn
      have hR := (Rn.of_own HV.out.1).2
      obtain ⟨b1, o1, rfl, hb1, hA1⟩ := hR (by rw [pl_len]; omega)
      have HA1 := Lib.hid hA1
      have HNW := Lib.hid (new_bk 1 wr)
      have hbw : w.heap.size ≤ b1 := (ownlt HV.out.1 b1 rfl).1
      have HBW := Lib.hid hbw
      have HB1L := Lib.hid hb1
      have HO := Lib.hid HV.out.1
      have HBR := Lib.hid HV.out.2
      have hkc : k ≤ c := by
        rcases HV.out.1.2 with ⟨e, _⟩ | ⟨g, cap, cur, e, _, _, h1, _⟩
        · cases e
        · injection e with _ _ e
          omega
      clear hR hA1 hb1 hbw HV
      go_wp2_with fail
      refine HNW.out.mono ?_
      rintro r w2 ⟨B, rfl, hB, hbk, hb2⟩
      rw [show max (1 : Int) 0 = 1 from by decide] at hbk
      have hr2 : Rn w2 (some ⟨b1, o1, none⟩) (pl 10 k) := fun _ => ⟨b1, o1, rfl, Nat.lt_of_lt_of_le HB1L.out hb2.size, fun j x hj => (hb2.cell (p := ⟨b1, _, none⟩) HB1L.out).trans (HA1.out j x hj)⟩
      have HOP := Lib.hid (open_any B wr.heap.size 1 _ [] 7 0 (some ⟨b1, o1, none⟩) k c (pl 10 k) w2 hbk (by simp) (by simp) (pl_len 10 k).symm hr2 (by omega) hkc)
      rw [(open_pl 0 (by decide) (by decide) (by decide) (by decide) hn1 hn8).1, (open_pl (id := 7) 0 (by decide) (by decide) (by decide) (by decide) hn1 hn8).2] at HOP
      have HB2 := Lib.hid hb2
      obtain ⟨R, hRR⟩ : ∃ R, R = wr.heap.size := ⟨_, rfl⟩
      rw [← hRR] at HOP
      have HBRL : Hid (b1 < R) := by rw [hRR]; exact HB1L.out
      have HWR : Hid (w.heap.size ≤ R) := by rw [hRR]; exact HBR.out.size
      have HR2 : Hid (R ≤ w2.heap.size) := by rw [hRR]; exact hb2.size
      have HA2 : Hid (At32 w2 b1 o1 (pl 10 k)) := fun j x hj => (hb2.cell (p := ⟨b1, _, none⟩) HB1L.out).trans (HA1.out j x hj)
      have HBW2 := Lib.hid (HBR.out.trans (hb2.mono HBR.out.size))
      clear hbk hb2 hr2 hRR hB
      go_wp2_with fail
      refine HOP.out.mono ?_
      rintro r w3 ⟨rfl, vi, hk3, hs3⟩
      obtain ⟨C, hC⟩ : ∃ C, C = ((List.replicate k false).map Value.bool).toArray := ⟨_, rfl⟩
      have hmk : ∀ W : World, (Instr.makeSlice 50 (.int .i64 (k : Int)) (.int .i64 (k : Int))).run Try.prog W = .ok (.slice (some ⟨W.heap.size, 0, none⟩) k k) (W.alloc (.cells C 4)) := fun W => by
        rw [hC, ← mkBool k]
        exact run_make_row' (P := Try.prog) 50 4 (.bool false) 1 Try.underlying50 info4 rfl .i64 .i64 k (by omega) (by omega) W
      obtain ⟨Sd, hSd⟩ : ∃ g, g = w3.heap.size := ⟨_, rfl⟩
      obtain ⟨w4, hw4⟩ : ∃ w4, w4 = w3.alloc (.cells C 4) := ⟨_, rfl⟩
      have hb4 : Below w3.heap.size w3 w4 := by rw [hw4]; exact (Below.refl _ _).alloc (Nat.le_refl _) _
      have hq4 : w4.heap[Sd]? = some (.cells (bl 10 k []) 4 (0, 0)) := by rw [hw4, hSd, hC, bl_start 10]; exact heap_alloc_new w3 _
      have HAL : Hid (AL w k B R Sd b1 o1 [] false w4) :=
        ⟨⟨vi, by simpa using hk3.after hb4⟩, hq4, List.nodup_nil, (fun x hx => by cases hx), (by symm; rw [decide_eq_false_iff_not]; simp; omega), fun j x hj => (hb4.cell (p := ⟨b1, _, none⟩) (Nat.lt_of_lt_of_le (Nat.lt_of_lt_of_le HBRL.out HR2.out) hs3.size)).trans ((hs3.below.cell (p := ⟨b1, _, none⟩) HBRL.out).trans (HA2.out j x hj)), (HBW2.out.trans (hs3.below.mono HWR.out)).trans (hb4.mono (Nat.le_trans HBW2.out.size hs3.size))⟩
      have HSR : Hid (R < Sd) := by
        obtain ⟨vt, ths, h1, _⟩ := hk3.ex
        rw [Hid, hSd]
        exact lt_of_block h1.row
      have H4 := Lib.hid hw4
      have HSD := Lib.hid hSd
      clear hC hSd hw4 hb4 hq4 hk3 hs3
      go_upto_region 14 with (fail)
      rw [← H4.out, ← HSD.out]
      clear hmk
      go_loopw [10, 11, 12] (fun lf ov i wr => ∃ (j : Nat) (ys : List Nat) (o : Bool), j ≤ m2 ∧ lf = .int .i64 ((k : Int) - (ys.length : Int)) ∧ ov = .bool o ∧ i = .int .i64 (j : Int) ∧ Hid (AL w k B R Sd b1 o1 ys o wr)) (fun _ _ i _ => m2 - (intOf i).toNat)
      case atStart => exact ⟨0, [], false, by omega, by simp, rfl, rfl, HAL.out⟩
      case round =>
        obtain ⟨j, ys, o, hj, rfl, rfl, rfl, HV⟩ := hrel
        have hql := HV.out.len
        obtain ⟨q, hq⟩ : ∃ q, q = ys.length := ⟨_, rfl⟩
        rw [← hq] at hql ⊢
        have HQ := Lib.hid hq
        have hSd := lt_of_block HV.out.row
        have HB1S : Hid (b1 < wr.heap.size) := by have := HBRL.out; have := HSR.out; simp only [Hid]; omega
        clear hq
        by_cases hlt2 : j < m2
        · obtain ⟨y, hy⟩ : ∃ y, zs[j]? = some y := ⟨zs[j]'(by rw [← HM2.out]; exact hlt2), List.getElem?_eq_getElem _⟩
          have hy8 := HZ8.out y (List.mem_of_getElem? hy)
          obtain ⟨b2, o2, rfl, hb2l, hcl⟩ := HZ.out (by have := HM2.out; omega)
          have d0 := (HV.out.all.cell (p := ⟨b2, _, none⟩) hb2l).trans (hcl j _ hy)
          obtain ⟨kk, hkk⟩ : ∃ kk, kk = y % k := ⟨_, rfl⟩
          have hkl : kk < k := by rw [hkk]; exact Nat.mod_lt _ (by omega)
          have q1 : (y : Int).tmod (k : Int) = (kk : Int) := by rw [Int.tmod_eq_emod_of_nonneg (by omega), hkk]; rfl
          have d1 := HV.out.pls kk (10 + kk) (pl_get hkl)
          obtain ⟨p, hp⟩ : ∃ p, p = 10 + kk := ⟨_, rfl⟩
          rw [← hp] at d1
          have hpm : p ∈ pl 10 k := pl_mem'.2 ⟨by omega, by omega⟩
          have HPM := Lib.hid hpm
          have HPP := Lib.hid hp
          clear hy hcl hb2l hkk hp hpm
          have hk0 : ¬ ((k : Int) = 0) := by omega
          cases o
          · obtain ⟨vi, hbk⟩ := HV.out.bk
            rw [if_neg (by decide)] at hbk
            have HBK := Lib.hid hbk
            by_cases hin : p ∈ ys
            · have HAcc := Lib.hid (acc_again B R 1 vi [⟨7, 0, pl 10 k, ys⟩] p ⟨7, 0, pl 10 k, ys⟩ wr hbk (by simp) (by simp [pl_len]; omega) (by rw [of_one HPM.out]; exact get_one _) (by show ys.length ≤ 100; have := HQ.out; omega) hin)
              have ds : ∀ W, Below wr.heap.size wr W → W.cell? ⟨Sd, kk, none⟩ = some (.bool true) := fun W hW => by
                rw [cell_of_row W Sd kk _ _ _ ((hW.block _ hSd).trans HV.out.row), bl_get ys hkl, ← HPP.out, decide_eq_true hin]
              have HDS := Lib.hid ds
              clear hbk hin ds
              go_wp2_with fail
              refine HAcc.out.mono ?_
              rintro r w5 ⟨rfl, hb5⟩
              obtain ⟨w6, hw6⟩ : ∃ w6, w6 = w5.alloc (.cells #[.int .u32 0, .slice none 0 0, .slice none 0 0, .int .i64 0] 33) := ⟨_, rfl⟩
              have hb6 : Below w5.heap.size w5 w6 := by rw [hw6]; exact (Below.refl _ _).alloc (Nat.le_refl _) _
              have hb56 := hb5.trans (hb6.mono hb5.size)
              have H6 := Lib.hid hw6
              have s0 := HDS.out w6 hb56
              have HAL6 := Lib.hid (HV.out.after hb56 HB1S.out)
              clear hb5 hb6 hb56 hw6
              go_upto_region 23 with (fail)
              rw [← H6.out]
              clear d0 d1 q1
              go_wp2_with fail
              go_roundw
              case rel => exact ⟨j + 1, ys, false, by omega, by rw [HQ.out], rfl, by go_num, HAL6.out⟩
              case measure => simp [intOf] <;> omega
            · have HAcc : Hid (Calls Try.prog 20 #[bp B, .int .u32 (p : Int)] wr fun r w' => ∃ (A1 A2 : Option Addr) (n1 n2 c1 c2 : Nat), r = .returned (.tuple #[.agg #[.int .u32 7, .slice A1 n1 c1, .slice A2 n2 c2, .int .i64 0], .bool (decide (q + 1 = k)), .int .i64 0]) ∧ ((∃ vi, Bk w' B R 1 vi (if decide (q + 1 = k) = true then [] else [⟨7, 0, pl 10 k, ys ++ [p]⟩])) ∧ w'.heap[Sd]? = some (.cells (bl 10 k ys) 4 (0, 0)) ∧ (ys ++ [p]).Nodup ∧ (∀ x ∈ ys ++ [p], x ∈ pl 10 k) ∧ At32 w' b1 o1 (pl 10 k) ∧ Below w.heap.size w w') ∧ wr.heap.size ≤ w'.heap.size) := by
                have hx : ofP [(⟨7, 0, pl 10 k, ys⟩ : Pt)] p = 7 := of_one HPM.out
                have h0 := acc_some B R 1 vi [⟨7, 0, pl 10 k, ys⟩] p ⟨7, 0, pl 10 k, ys⟩ wr hbk (by simp) (by simp [pl_len]; omega) (by rw [hx]; exact get_one _) (by show (pl 10 k).length ≤ 99; rw [pl_len]; omega) (by show ys.length ≤ 98; have := HQ.out; omega) hin HV.out.nod
                rw [hx] at h0
                refine h0.mono ?_
                rintro r w' ⟨v, rfl, ⟨A1, A2, c1, c2, rfl, -, -⟩, hpp⟩
                have hsz : wr.heap.size ≤ w'.heap.size := by obtain ⟨_, _, hs⟩ := hpp; exact hs.size
                obtain ⟨a1, a2, a3, a4, a5, a6, a7⟩ := HV.out.yes hpp (by
                  show (if miss (pl 10 k) (ys ++ [p]) = [] then delL [⟨7, 0, pl 10 k, ys⟩] 7 else insL [⟨7, 0, pl 10 k, ys⟩] (yesP ⟨7, 0, pl 10 k, ys⟩ p)) = _
                  rw [show delL [(⟨7, 0, pl 10 k, ys⟩ : Pt)] 7 = [] from del_one _, show insL [(⟨7, 0, pl 10 k, ys⟩ : Pt)] (yesP ⟨7, 0, pl 10 k, ys⟩ p) = [yesP ⟨7, 0, pl 10 k, ys⟩ p] from ins_one rfl]
                  rfl) HPM.out hin HBRL.out HWR.out
                have e7 : decide (miss (pl 10 k) (ys ++ [p]) = []) = decide (q + 1 = k) := by rw [a7, HQ.out]
                refine ⟨A1, A2, _, _, c1, c2, by rw [← e7]; rfl, ⟨?_, a2, a3, a4, a5, a6⟩, hsz⟩
                rw [HQ.out]
                exact a1
              have HIN := Lib.hid hin
              clear hbk hin
              go_wp2_with fail
              refine HAcc.out.mono ?_
              rintro r w5 ⟨A3, A4, n3, n4, c3, c4, rfl, hst, hs5⟩
              obtain ⟨w6, hw6⟩ : ∃ w6, w6 = w5.alloc (.cells #[.int .u32 7, .slice A3 n3 c3, .slice A4 n4 c4, .int .i64 0] 33) := ⟨_, rfl⟩
              have hb6 : Below w5.heap.size w5 w6 := by rw [hw6]; exact (Below.refl _ _).alloc (Nat.le_refl _) _
              have H6 := Lib.hid hw6
              obtain ⟨⟨vi2, h1⟩, h2, h3, h4, h5, h6⟩ := hst
              have r6 := (hb6.block _ (lt_of_block h2)).trans h2
              have s0 : w6.cell? ⟨Sd, kk, none⟩ = some (.bool false) := by
                rw [cell_of_row w6 Sd kk _ _ _ r6, bl_get ys hkl, ← HPP.out, decide_eq_false HIN.out]
              have sf : ∀ i, w6.frozen? ⟨Sd, i, none⟩ = false := fun i => frozen_of_row w6 _ i _ _ r6
              have HST : Hid (AL w k B R Sd b1 o1 (ys ++ [p]) (decide (q + 1 = k)) (w6.setCell ⟨Sd, kk, none⟩ (.bool true))) := by
                rw [HPP.out] at h1 h3 h4 ⊢
                exact AL.set hkl ⟨vi2, h1.after hb6⟩ r6 h3 h4 (fun j x hj => (hb6.cell (p := ⟨b1, _, none⟩) (Nat.lt_of_lt_of_le HB1S.out hs5)).trans (h5 j x hj)) (h6.trans (hb6.mono h6.size)) (by rw [HQ.out]) (by have := HBRL.out; have := HSR.out; omega) (by have := HWR.out; have := HSR.out; omega)
              clear hb6 hw6 h1 h2 h3 h4 h5 h6 r6
              go_upto_region 23 with (fail)
              rw [← H6.out]
              clear d0 d1 q1
              obtain ⟨w7, hw7⟩ : ∃ w7, w7 = w6.setCell ⟨Sd, kk, none⟩ (.bool true) := ⟨_, rfl⟩
              rw [← hw7] at HST
              have H7 := Lib.hid hw7
              clear hw7
              have HLN : Hid ((k : Int) - ((ys ++ [p]).length : Int) = (k : Int) - (q : Int) - 1) := by
                simp only [Hid]
                rw [List.length_append, ← HQ.out]
                simp
                omega
              by_cases hov : q + 1 = k
              · have HOV : Hid (decide (q + 1 = k) = true) := decide_eq_true hov
                rw [HOV.out] at HST ⊢
                have hz : (k : Int) - (q : Int) - 1 = 0 := by omega
                go_wp2_with fail
                rw [← H7.out]
                go_roundw
                case rel => exact ⟨j + 1, ys ++ [p], true, by omega, by rw [HLN.out, hz], rfl, by go_num, HST.out⟩
                case measure => simp [intOf] <;> omega
              · have HOV : Hid (decide (q + 1 = k) = false) := decide_eq_false hov
                rw [HOV.out] at HST ⊢
                have hz : ¬ ((k : Int) - (q : Int) - 1 = 0) := by omega
                go_wp2_with fail
                rw [← H7.out]
                go_roundw
                case rel => exact ⟨j + 1, ys ++ [p], false, by omega, by rw [HLN.out], by rw [show ((k : Int) - (q : Int) - 1 == 0) = false from beq_eq_false_iff_ne.2 hz], by go_num, HST.out⟩
                case measure => simp [intOf] <;> omega
          · obtain ⟨vi, hbk⟩ := HV.out.bk
            rw [if_pos rfl] at hbk
            have HAcc := Lib.hid (acc_none B R 1 vi [] p wr hbk (by simp) (by simp) rfl)
            clear hbk
            go_wp2_with fail
            refine HAcc.out.mono ?_
            rintro r w5 ⟨rfl, hb5⟩
            obtain ⟨w6, hw6⟩ : ∃ w6, w6 = w5.alloc (.cells #[.int .u32 0, .slice none 0 0, .slice none 0 0, .int .i64 0] 33) := ⟨_, rfl⟩
            have hb6 : Below w5.heap.size w5 w6 := by rw [hw6]; exact (Below.refl _ _).alloc (Nat.le_refl _) _
            have hb56 := hb5.trans (hb6.mono hb5.size)
            have H6 := Lib.hid hw6
            have HAL6 := Lib.hid (HV.out.after hb56 HB1S.out)
            clear hb5 hb6 hb56 hw6
            go_upto_region 23 with (fail)
            rw [← H6.out]
            clear d0 d1 q1
            go_wp2_with fail
            go_roundw
            case rel => exact ⟨j + 1, ys, true, by omega, by rw [HQ.out], rfl, by go_num, HAL6.out⟩
            case measure => simp [intOf] <;> omega
        · have hjm : j = m2 := by omega
          subst hjm
          have HBA := Lib.hid HV.out.all
          cases o
          · obtain ⟨vi, hbk⟩ := HV.out.bk
            rw [if_neg (by decide)] at hbk
            have HCK : Hid (Calls Try.prog 10 #[bp B, .int .u32 7] wr fun r w' => ∃ (A1 A2 : Option Addr) (n1 n2 c1 c2 : Nat), r = .returned (.tuple #[.agg #[.int .u32 7, .slice A1 n1 c1, .slice A2 n2 c2, .int .i64 0], .bool true]) ∧ Below wr.heap.size wr w') :=
              (check_some B R 1 vi [⟨7, 0, pl 10 k, ys⟩] 7 ⟨7, 0, pl 10 k, ys⟩ wr hbk (by simp) (get_one _) (by show (pl 10 k).length ≤ 100; rw [pl_len]; omega) (by show ys.length ≤ 100; have := HQ.out; omega)).mono (by
                rintro r w' ⟨v, rfl, ⟨A1, A2, c1, c2, rfl, -, -⟩, hb⟩
                exact ⟨A1, A2, _, _, c1, c2, rfl, hb⟩)
            clear hbk
            go_wp2_with fail
            refine HCK.out.mono ?_
            rintro r w5 ⟨A3, A4, n3, n4, c3, c4, rfl, hb5⟩
            obtain ⟨w6, hw6⟩ : ∃ w6, w6 = w5.alloc (.cells #[.int .u32 7, .slice A3 n3 c3, .slice A4 n4 c4, .int .i64 0] 33) := ⟨_, rfl⟩
            have hb6 : Below w5.heap.size w5 w6 := by rw [hw6]; exact (Below.refl _ _).alloc (Nat.le_refl _) _
            have HB6 := Lib.hid (HBA.out.trans ((hb5.trans (hb6.mono hb5.size)).mono HBA.out.size))
            have H6 := Lib.hid hw6
            have HAW := Lib.hid (awake_any w6)
            clear hb5 hb6 hw6
            go_upto_region 30 with (fail)
            rw [← H6.out]
            go_wp2_with fail
            refine HAW.out.mono ?_
            rintro r w7 ⟨rfl, hb7⟩
            have HB7 := Lib.hid (HB6.out.trans (hb7.mono HB6.out.size))
            clear hb7
            go_wp2
            go_ret
            exact ⟨rfl, HB7.out⟩
          · obtain ⟨vi, hbk⟩ := HV.out.bk
            rw [if_pos rfl] at hbk
            have HCK := Lib.hid (check_none B R 1 vi [] 7 wr hbk (by simp) rfl)
            clear hbk
            go_wp2_with fail
            refine HCK.out.mono ?_
            rintro r w5 ⟨rfl, hb5⟩
            obtain ⟨w6, hw6⟩ : ∃ w6, w6 = w5.alloc (.cells #[.int .u32 0, .slice none 0 0, .slice none 0 0, .int .i64 0] 33) := ⟨_, rfl⟩
            have hb6 : Below w5.heap.size w5 w6 := by rw [hw6]; exact (Below.refl _ _).alloc (Nat.le_refl _) _
            have HB6 := Lib.hid (HBA.out.trans ((hb5.trans (hb6.mono hb5.size)).mono HBA.out.size))
            have H6 := Lib.hid hw6
            have HAW := Lib.hid (awake_any w6)
            clear hb5 hb6 hw6
            go_upto_region 30 with (fail)
            rw [← H6.out]
            go_wp2_with fail
            refine HAW.out.mono ?_
            rintro r w7 ⟨rfl, hb7⟩
            have HB7 := Lib.hid (HB6.out.trans (hb7.mono HB6.out.size))
            clear hb7
            go_wp2
            go_ret
            exact ⟨rfl, HB7.out⟩
end Go.Proofs.Ytemjmnpclknfaaa.P
