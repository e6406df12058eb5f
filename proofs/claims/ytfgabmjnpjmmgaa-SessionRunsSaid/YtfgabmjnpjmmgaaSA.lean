/- Session: a table in memory; New, at, Player, Conns, Open; Add of timers. -/
import Derived.Test.YtfgabmjnpjmmgaaRB
import Derived.OwnWalk
namespace Go.Proofs.Ytfgabmjnpjmmgaa
open Go.RowKit
set_option maxRecDepth 20000
set_option linter.unusedVariables false

/-- A table in block T. -/
def Tb (w : World) (B T : Nat) (idle most : Int) (ids : List Nat) (ths : List Mk) : Prop :=
  B ≤ T ∧ ∃ (R : Nat) (vi vt : Value), B ≤ R ∧ w.heap[T]? = some (.cells #[.pointer (some ⟨R, 0, none⟩), .int .i64 idle] 57 (0, 0)) ∧ IsR w R most vi vt ids ths
theorem Tb.after {w w' : World} {B T : Nat} {idle most : Int} {ids : List Nat} {ths : List Mk} (h : Tb w B T idle most ids ths) (hb : Below w.heap.size w w') : Tb w' B T idle most ids ths := by
  obtain ⟨h1, R, vi, vt, h2, h3, h4⟩ := h
  exact ⟨h1, R, vi, vt, h2, (hb.block T (lt_of_block h3)).trans h3, h4.after hb⟩
theorem tb_turned {w w' : World} {T R : Nat} {idle most : Int} {vi vt : Value} {ids : List Nat} {ths : List Mk} (h3 : w.heap[T]? = some (.cells #[.pointer (some ⟨R, 0, none⟩), .int .i64 idle] 57 (0, 0))) (h4 : IsR w R most vi vt ids ths) (hc : ChR R vi vt w w') : w'.heap[T]? = some (.cells #[.pointer (some ⟨R, 0, none⟩), .int .i64 idle] 57 (0, 0)) := by
  have n1 : T ≠ R := fun e => by
    have := h4.row
    rw [← e, h3] at this
    injection this with this
    injection this with _ this _
    exact absurd this (by decide)
  have n2 : some T ≠ vi.ownBlock := fun e => by
    obtain ⟨c, hcc⟩ := own_type h4.rio e.symm
    rw [h3] at hcc
    injection hcc with hcc
    injection hcc with _ hcc _
    exact absurd hcc (by decide)
  have n3 : some T ≠ vt.ownBlock := fun e => by
    obtain ⟨c, hcc⟩ := own_type h4.rto e.symm
    rw [h3] at hcc
    injection hcc with hcc
    injection hcc with _ hcc _
    exact absurd hcc (by decide)
  exact (hc.2.2 T (lt_of_block h3) n1 n2 n3).trans h3
/-- Below B all is as it was, and so is each block but a rack's own: of whatever type but 74, 28, 55. -/
structure Bt (B : Nat) (w w' : World) : Prop where
  below : Below B w w'
  keep : ∀ (g : Nat) (cs : Array Value) (t : Nat), t ≠ 74 → t ≠ 28 → t ≠ 55 → w.heap[g]? = some (.cells cs t (0, 0)) → w'.heap[g]? = some (.cells cs t (0, 0))
theorem Bt.trans {B : Nat} {a b c : World} (h : Bt B a b) (k : Bt B b c) : Bt B a c := ⟨h.below.trans k.below, fun g cs t h1 h2 h3 hg => k.keep g cs t h1 h2 h3 (h.keep g cs t h1 h2 h3 hg)⟩
theorem Bt.of_below {B : Nat} {w w' : World} (h : Below w.heap.size w w') (hB : B ≤ w.heap.size) : Bt B w w' := ⟨h.mono hB, fun g cs t _ _ _ hg => (h.block g (lt_of_block hg)).trans hg⟩
theorem chr_bt {B R : Nat} {most : Int} {vi vt : Value} {ids : List Nat} {ths : List Mk} {w w' : World} (h4 : IsR w R most vi vt ids ths) (hc : ChR R vi vt w w') (hB : B ≤ R) : Bt B w w' :=
  ⟨hc.1.mono hB, fun g cs t t1 t2 t3 hg => by
    have n1 : g ≠ R := fun e => by
      have := h4.row
      rw [← e, hg] at this
      injection this with this
      injection this with _ this _
      exact t1 this
    have n2 : some g ≠ vi.ownBlock := fun e => by
      obtain ⟨c, hcc⟩ := own_type h4.rio e.symm
      rw [hg] at hcc
      injection hcc with hcc
      injection hcc with _ hcc _
      exact t2 hcc
    have n3 : some g ≠ vt.ownBlock := fun e => by
      obtain ⟨c, hcc⟩ := own_type h4.rto e.symm
      rw [hg] at hcc
      injection hcc with hcc
      injection hcc with _ hcc _
      exact t3 hcc
    exact (hc.2.2 g (lt_of_block hg) n1 n2 n3).trans hg⟩
theorem chr_below {B R : Nat} {vi vt : Value} {w w' : World} (hc : ChR R vi vt w w') (hB : B ≤ R) : Below B w w' := hc.1.mono hB

set_option maxHeartbeats 1000000 in
theorem tnew_any (m idle : Int) (w : World) : Calls Try.prog 7 #[.int .i64 m, .int .i64 idle] w fun r w' => ∃ T, r = .returned (.pointer (some ⟨T, 0, none⟩)) ∧ Tb w' w.heap.size T idle (max m 0) [] [] ∧ Below w.heap.size w w' := by
  have HN := Lib.hid (new_any m w)
  go_enter Try.func7, Try.ntmps7
  go_wp2_with fail
  refine HN.out.mono ?_
  rintro r w1 ⟨rfl, h1, hb1⟩
  obtain ⟨w2, hw2⟩ : ∃ w2, w2 = w1.alloc (.cells #[.pointer (some ⟨w.heap.size, 0, none⟩), .int .i64 idle] 57) := ⟨_, rfl⟩
  have hq2 : w2.heap[w1.heap.size]? = some (.cells #[.pointer (some ⟨w.heap.size, 0, none⟩), .int .i64 idle] 57 (0, 0)) := by rw [hw2]; exact heap_alloc_new w1 _
  have hb2 : Below w1.heap.size w1 w2 := by rw [hw2]; exact (Below.refl _ _).alloc (Nat.le_refl _) _
  have HF : Hid (Tb w2 w.heap.size w1.heap.size idle (max m 0) [] [] ∧ Below w.heap.size w w2) := ⟨⟨hb1.size, _, _, _, Nat.le_refl _, hq2, h1.after hb2⟩, hb1.trans (hb2.mono hb1.size)⟩
  have H2 := Lib.hid hw2
  clear h1 hb1 hw2 hq2 hb2
  go_wp2
  rw [← H2.out]
  go_ret
  exact ⟨_, rfl, HF.out.1, HF.out.2⟩
def AtPost (ids : List Nat) (ths : List Mk) (x : Nat) (r : Ending) : Prop := ∃ (p : Nat) (y1 y2 : Int), ids[p]? = some x ∧ ths[p]? = some (y1, y2) ∧ r = .returned (.tuple #[mV y1 y2, .bool true])

set_option maxHeartbeats 2000000 in
theorem at_there (B T : Nat) (idle most : Int) (ids : List Nat) (ths : List Mk) (x : Nat) (w : World) (h : Tb w B T idle most ids ths) (hl : ids.length ≤ 1000) (hx : x ∈ ids) :
    Calls Try.prog 29 #[.pointer (some ⟨T, 0, none⟩), .int .u32 (x : Int)] w fun r w' => AtPost ids ths x r ∧ Below w.heap.size w w' := by
  obtain ⟨-, R, vi, vt, -, h3, h4⟩ := h
  obtain ⟨w0, hw0⟩ : ∃ w0, w0 = w.alloc (.cells (mC 0 0) 55) := ⟨_, rfl⟩
  have hb0 : Below w.heap.size w w0 := by rw [hw0]; exact (Below.refl _ _).alloc (Nat.le_refl _) _
  have hq0 : w0.heap[w.heap.size]? = some (.cells (mC 0 0) 55 (0, 0)) := by rw [hw0]; exact heap_alloc_new w _
  have c0 := cell_of_row w0 T 0 _ _ _ ((hb0.block T (lt_of_block h3)).trans h3)
  simp at c0
  have HG := Lib.hid (get_there R most vi vt ids ths x w0 (h4.after hb0) hl hx)
  have H0 := Lib.hid hw0
  have HB0 := Lib.hid hb0
  have HQ0 := Lib.hid hq0
  clear h3 h4 hw0 hb0 hq0
  go_enter Try.func29, Try.ntmps29
  go_upto_region 1 with (fail)
  rw [← H0.out]
  go_wp2_with fail
  refine HG.out.mono ?_
  rintro r w1 ⟨⟨p, y1, y2, h1, h2, rfl⟩, hb1⟩
  have hq1 := (hb1.block _ (lt_of_block HQ0.out)).trans HQ0.out
  have z0 := cell_of_row w1 w.heap.size 0 _ _ _ hq1
  have z1 := cell_of_row w1 w.heap.size 1 _ _ _ hq1
  have zf : ∀ i, w1.frozen? ⟨w.heap.size, i, none⟩ = false := fun i => frozen_of_row w1 _ i _ _ hq1
  simp at z0 z1
  have HP := Lib.hid (And.intro h1 h2)
  have HT := Lib.hid (three (.int .i64 y1) (.int .u32 y2) hq1)
  have HTB := Lib.hid (three_below (.int .i64 y1) (.int .u32 y2) (HB0.out.trans (hb1.mono HB0.out.size)) (Nat.le_refl w.heap.size))
  clear h1 h2 hb1 hq1 c0
  go_wp2
  obtain ⟨e0, e1, _⟩ := HT.out
  exact bodyPost_ret (v := .tuple #[mV y1 y2, .bool true]) (by simp [results, Try.results29, go_sem, e0, e1]) rfl ⟨⟨p, y1, y2, HP.out.1, HP.out.2, rfl⟩, HTB.out⟩

set_option maxHeartbeats 2000000 in
theorem at_nil (x : Int) (w : World) : Calls Try.prog 29 #[.pointer none, .int .u32 x] w fun r w' => r = .returned (.tuple #[mV 0 0, .bool false]) ∧ Below w.heap.size w w' := by
  obtain ⟨w0, hw0⟩ : ∃ w0, w0 = w.alloc (.cells (mC 0 0) 55) := ⟨_, rfl⟩
  have hb0 : Below w.heap.size w w0 := by rw [hw0]; exact (Below.refl _ _).alloc (Nat.le_refl _) _
  have hq0 : w0.heap[w.heap.size]? = some (.cells (mC 0 0) 55 (0, 0)) := by rw [hw0]; exact heap_alloc_new w _
  have z0 := cell_of_row w0 w.heap.size 0 _ _ _ hq0
  have z1 := cell_of_row w0 w.heap.size 1 _ _ _ hq0
  have zf : ∀ i, w0.frozen? ⟨w.heap.size, i, none⟩ = false := fun i => frozen_of_row w0 _ i _ _ hq0
  simp at z0 z1
  have HT := Lib.hid (three (.int .i64 0) (.int .u32 0) hq0)
  have HTB := Lib.hid (three_below (.int .i64 0) (.int .u32 0) hb0 (Nat.le_refl w.heap.size))
  have H0 := Lib.hid hw0
  clear hw0 hb0 hq0
  go_enter Try.func29, Try.ntmps29
  go_upto_region 1 with (fail)
  rw [← H0.out]
  go_wp2
  obtain ⟨e0, e1, _⟩ := HT.out
  exact bodyPost_ret (v := .tuple #[mV 0 0, .bool false]) (by simp [results, Try.results29, go_sem, e0, e1]) rfl ⟨rfl, HTB.out⟩

set_option maxHeartbeats 2000000 in
theorem player_there (B T : Nat) (idle most : Int) (ids : List Nat) (ths : List Mk) (x : Nat) (w : World) (h : Tb w B T idle most ids ths) (hl : ids.length ≤ 1000) (hx : x ∈ ids) :
    Calls Try.prog 21 #[.pointer (some ⟨T, 0, none⟩), .int .u32 (x : Int)] w fun r w' => (∃ (p : Nat) (y1 y2 : Int), ids[p]? = some x ∧ ths[p]? = some (y1, y2) ∧ r = .returned (.int .u32 y2)) ∧ Below w.heap.size w w' := by
  have HA := Lib.hid (at_there B T idle most ids ths x w h hl hx)
  clear h hx hl
  go_enter Try.func21, Try.ntmps21
  go_wp2_with fail
  refine HA.out.mono ?_
  rintro r w1 ⟨⟨p, y1, y2, h1, h2, rfl⟩, hb1⟩
  have HP := Lib.hid (And.intro h1 h2)
  have HB := Lib.hid (hb1.alloc hb1.size (.cells (mC y1 y2) 55))
  clear h1 h2 hb1
  go_wp2
  go_ret
  exact ⟨⟨p, y1, y2, HP.out.1, HP.out.2, rfl⟩, HB.out⟩
set_option maxHeartbeats 2000000 in
theorem player_nil (x : Int) (w : World) : Calls Try.prog 21 #[.pointer none, .int .u32 x] w fun r w' => r = .returned (.int .u32 0) ∧ Below w.heap.size w w' := by
  have HA := Lib.hid (at_nil x w)
  go_enter Try.func21, Try.ntmps21
  go_wp2_with fail
  refine HA.out.mono ?_
  rintro r w1 ⟨rfl, hb1⟩
  have HB := Lib.hid (hb1.alloc hb1.size (.cells (mC 0 0) 55))
  clear hb1
  go_wp2
  go_ret
  exact ⟨rfl, HB.out⟩
set_option maxHeartbeats 2000000 in
theorem conns_any (B T : Nat) (idle most : Int) (ids : List Nat) (ths : List Mk) (w : World) (h : Tb w B T idle most ids ths) (hl : ids.length ≤ 1000) :
    Calls Try.prog 23 #[.pointer (some ⟨T, 0, none⟩)] w fun r w' => ∃ v', r = .returned v' ∧ w'.ownsRow w.heap.size 28 1 v' ids.length (un ids) ∧ Below w.heap.size w w' := by
  obtain ⟨-, R, vi, vt, -, h3, h4⟩ := h
  have c0 := cell_of_row w T 0 _ _ _ h3
  simp at c0
  have HI := Lib.hid (ids_any R most vi vt ids ths w h4 hl)
  clear h3 h4 hl
  go_enter Try.func23, Try.ntmps23
  go_wp2_with fail
  refine HI.out.mono ?_
  rintro r w1 ⟨v', rfl, h1, h2⟩
  have H1 := Lib.hid (And.intro h1 h2)
  clear h1 h2
  go_wp2
  go_ret
  exact ⟨v', rfl, H1.out.1, H1.out.2⟩
set_option maxHeartbeats 2000000 in
theorem conns_nil (w : World) : Calls Try.prog 23 #[.pointer none] w fun r w' => r = .returned (.slice none 0 0) ∧ w' = w := by
  go_enter Try.func23, Try.ntmps23
  go_wp2
  go_ret
  exact ⟨rfl, rfl⟩
set_option maxHeartbeats 1000000 in
/-- Add where nothing stands, told by what lay answers. -/
theorem add_core (R : Nat) (most : Int) (vi vt : Value) (ids : List Nat) (ths : List Mk) (x : Nat) (z1 z2 : Int) (w : World) (h : IsR w R most vi vt ids ths) (hl : ids.length ≤ 1000) (hx : x ∉ ids) (Q : Ending → World → Prop)
    (hlay : ∀ p W, Below w.heap.size w W → Pl ids x p → ids[p]? ≠ some x → Calls Try.prog 43 #[.pointer (some ⟨R, 0, none⟩), .int .i64 (p : Int), .int .u32 (x : Int), mV z1 z2] W fun r w' => ∃ c, r = .returned (.int .i64 c) ∧ Q r w') :
    Calls Try.prog 26 #[.pointer (some ⟨R, 0, none⟩), .int .u32 (x : Int), mV z1 z2] w Q := by
  obtain ⟨w0, hw0⟩ : ∃ w0, w0 = w.alloc (.cells (mC z1 z2) 55) := ⟨_, rfl⟩
  have hb0 : Below w.heap.size w w0 := by rw [hw0]; exact (Below.refl _ _).alloc (Nat.le_refl _) _
  have hq0 : w0.heap[w.heap.size]? = some (.cells (mC z1 z2) 55 (0, 0)) := by rw [hw0]; exact heap_alloc_new w _
  have c0 := cell_of_row w0 w.heap.size 0 _ _ _ hq0
  have c1 := cell_of_row w0 w.heap.size 1 _ _ _ hq0
  simp at c0 c1
  have HP := Lib.hid (place_any R most vi vt ids ths x w0 (h.after hb0) hl)
  have HL := Lib.hid hlay
  have HU := Lib.hid h.up
  have HX := Lib.hid hx
  have HB := Lib.hid hb0
  have H0 := Lib.hid hw0
  clear h hl hlay hx hb0 hw0 hq0
  go_enter Try.func26, Try.ntmps26
  go_upto_region 1 with (fail)
  rw [← H0.out]
  go_wp2_with fail
  refine HP.out.mono ?_
  rintro r w' ⟨rfl, p, hp, rfl⟩
  have hne : ids[p]? ≠ some x := fun e => HX.out ((pl_mem HU.out hp).2 e)
  have hd : decide (ids[p]? = some x) = false := by rw [decide_eq_false_iff_not]; exact hne
  have HLp := Lib.hid (HL.out p _ HB.out hp hne)
  clear hne hp
  rw [hd]
  go_wp2_with fail
  refine HLp.out.mono ?_
  rintro r w1 ⟨c, rfl, hq⟩
  have HQ := Lib.hid hq
  clear hq
  go_wp2
  exact HQ.out
theorem add_new (R : Nat) (most : Int) (vi vt : Value) (ids : List Nat) (ths : List Mk) (x : Nat) (z1 z2 : Int) (w : World) (h : IsR w R most vi vt ids ths) (hl : ids.length < 1000) (hx : x ∉ ids) (hok : 1 ≤ x ∧ x ≤ 2147483647) (hf : (ids.length : Int) < min most 2147483647) :
    Calls Try.prog 26 #[.pointer (some ⟨R, 0, none⟩), .int .u32 (x : Int), mV z1 z2] w fun r w' => r = .returned (.int .i64 0) ∧ ChR R vi vt w w' ∧ ∃ p vi' vt', Pl ids x p ∧ IsR w' R most vi' vt' (ids.take p ++ [x] ++ ids.drop p) (ths.take p ++ [(z1, z2)] ++ ths.drop p) :=
  add_core R most vi vt ids ths x z1 z2 w h (Nat.le_of_lt hl) hx _ fun p W hB hp hne => (lay_ok R most vi vt ids ths p x z1 z2 W (h.after hB) hl hp hne hok hf).mono fun _ _ ⟨h1, h2, vi', vt', h3⟩ => ⟨0, h1, h1, ChR.from_below (Nat.le_of_lt (lt_of_block h.row)) hB h2, p, vi', vt', hp, h3⟩

set_option maxHeartbeats 2000000 in
theorem open_new (B T : Nat) (idle most : Int) (ids : List Nat) (ths : List Mk) (x : Nat) (now : Int) (w : World) (h : Tb w B T idle most ids ths) (hl : ids.length < 1000) (hx : x ∉ ids) (hok : 1 ≤ x ∧ x ≤ 2147483647) (hf : (ids.length : Int) < min most 2147483647) :
    Calls Try.prog 8 #[.pointer (some ⟨T, 0, none⟩), .int .u32 (x : Int), .int .i64 now] w fun r w' => r = .returned (.int .i64 0) ∧ (∃ p, Pl ids x p ∧ Tb w' B T idle most (ids.take p ++ [x] ++ ids.drop p) (ths.take p ++ [(now, 0)] ++ ths.drop p)) ∧ Bt B w w' := by
  obtain ⟨h1, R, vi, vt, h2, h3, h4⟩ := h
  have c0 := cell_of_row w T 0 _ _ _ h3
  simp at c0
  have HA : Hid (Calls Try.prog 26 #[.pointer (some ⟨R, 0, none⟩), .int .u32 (x : Int), mV now 0] w fun r w' => r = .returned (.int .i64 0) ∧ (∃ p, Pl ids x p ∧ Tb w' B T idle most (ids.take p ++ [x] ++ ids.drop p) (ths.take p ++ [(now, 0)] ++ ths.drop p)) ∧ Bt B w w') :=
    (add_new R most vi vt ids ths x now 0 w h4 hl hx hok hf).mono fun r w' ⟨e, hc, p, vi', vt', hp, hi⟩ => ⟨e, ⟨p, hp, h1, R, vi', vt', h2, tb_turned h3 h4 hc, hi⟩, chr_bt h4 hc h2⟩
  clear h1 h2 h3 h4 hl hx hok hf
  go_enter Try.func8, Try.ntmps8
  go_wp2_with fail
  refine HA.out.mono ?_
  rintro r w1 ⟨rfl, h1, h2⟩
  have H1 := Lib.hid (And.intro h1 h2)
  clear h1 h2
  go_wp2
  go_ret
  exact ⟨rfl, H1.out.1, H1.out.2⟩
set_option maxHeartbeats 1000000 in
theorem open_nil (x now : Int) (w : World) : Calls Try.prog 8 #[.pointer none, .int .u32 x, .int .i64 now] w fun r w' => r = .returned (.int .i64 10) ∧ w' = w := by
  go_enter Try.func8, Try.ntmps8
  go_wp2
  go_ret
  exact ⟨rfl, rfl⟩
def addP (now some_ : Int) : Int := min (now + max some_ 0) 9223372036854775807
set_option maxHeartbeats 2000000 in
theorem add_any (now s : Int) (w : World) (h1 : -9223372036854775808 ≤ now) (h2 : now ≤ 9223372036854775807) (h4 : s ≤ 9223372036854775807) :
    Calls Try.prog 41 #[.int .i64 now, .int .i64 s] w fun r w' => r = .returned (.int .i64 (addP now s)) ∧ w' = w := by
  by_cases hs : s ≤ 0
  · have hap : addP now s = now := by unfold addP; omega
    have hmx : max s 0 = 0 := by omega
    have hnov : ¬ now > 9223372036854775807 := by omega
    rw [hap]
    go_enter Try.func41, Try.ntmps41
    go_wp2
    all_goals
      go_ret
      refine ⟨?_, rfl⟩
      first | rfl | (simp; omega)
  · have hmx : max s 0 = s := by omega
    by_cases hov : now > 9223372036854775807 - s
    · have hap : addP now s = 9223372036854775807 := by unfold addP; omega
      rw [hap]
      go_enter Try.func41, Try.ntmps41
      go_wp2
      go_ret
      exact ⟨rfl, rfl⟩
    · have hap : addP now s = now + s := by unfold addP; omega
      rw [hap]
      go_enter Try.func41, Try.ntmps41
      go_wp2
      go_ret
      exact ⟨rfl, rfl⟩
end Go.Proofs.Ytfgabmjnpjmmgaa
