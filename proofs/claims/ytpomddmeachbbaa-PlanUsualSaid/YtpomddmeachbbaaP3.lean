/- Plan: rows of modes; a config; a config's Wrong. -/
import Derived.Test.YtpomddmeachbbaaP2
namespace Go.Proofs.Ytpomddmeachbbaa
open Go.RowKit
set_option maxRecDepth 20000

structure Md where
  k : Int
  b : Int
  s : Int
  c : Int
  e : Int
abbrev Md.v (m : Md) : Value := mV m.k m.b m.s m.c m.e
def Md.wrong (m : Md) : List UInt8 := wrongM m.k m.b m.s m.c m.e
def mc (m : Md) : List Value := [.int .i64 m.k, .int .i64 m.b, .int .i64 m.s, .int .i64 m.c, .int .i64 m.e]
def At5 (w : World) (b p : Nat) (m : Md) : Prop := w.cell? ⟨b, p, none⟩ = some (.int .i64 m.k) ∧ w.cell? ⟨b, p + 1, none⟩ = some (.int .i64 m.b) ∧ w.cell? ⟨b, p + 2, none⟩ = some (.int .i64 m.s) ∧ w.cell? ⟨b, p + 3, none⟩ = some (.int .i64 m.c) ∧ w.cell? ⟨b, p + 4, none⟩ = some (.int .i64 m.e)
/-- The modes l are read from A on. -/
def Ms (w : World) (B : Nat) (A : Option Addr) (l : List Md) : Prop :=
  0 < l.length → ∃ b o, A = some ⟨b, o, none⟩ ∧ b < B ∧ ∀ i m, l[i]? = some m → At5 w b (o + i * 5) m
theorem At5.below {w W : World} {B b p : Nat} {m : Md} (h : At5 w b p m) (hb : Below B w W) (hl : b < B) : At5 W b p m :=
  ⟨(hb.cell (p := ⟨b, _, none⟩) hl).trans h.1, (hb.cell (p := ⟨b, _, none⟩) hl).trans h.2.1, (hb.cell (p := ⟨b, _, none⟩) hl).trans h.2.2.1, (hb.cell (p := ⟨b, _, none⟩) hl).trans h.2.2.2.1, (hb.cell (p := ⟨b, _, none⟩) hl).trans h.2.2.2.2⟩
theorem Ms.below {w W : World} {B : Nat} {A : Option Addr} {l : List Md} (h : Ms w B A l) (hb : Below B w W) : Ms W B A l := fun hl => by
  obtain ⟨b, o, rfl, h1, h2⟩ := h hl
  exact ⟨b, o, rfl, h1, fun i m hi => (h2 i m hi).below hb h1⟩
theorem Ms.mono {w : World} {B B' : Nat} {A : Option Addr} {l : List Md} (h : Ms w B A l) (hb : B ≤ B') : Ms w B' A l := fun hl => by
  obtain ⟨b, o, rfl, h1, h2⟩ := h hl
  exact ⟨b, o, rfl, Nat.lt_of_lt_of_le h1 hb, h2⟩
structure Cfg where
  key : List UInt8
  n1 : Int
  n2 : Int
  n3 : Int
  n4 : Int
  t1 : Int
  t2 : Int
  t3 : Int
  t4 : Int
  t5 : Int
  t6 : Int
  rate : Int
  out : Int
abbrev Cfg.cells (C : Cfg) (v : Value) : Array Value := #[sV C.key, .int .i64 C.n1, .int .i64 C.n2, .int .i64 C.n3, .int .i64 C.n4, .int .i64 C.t1, .int .i64 C.t2, .int .i64 C.t3, .int .i64 C.t4, .int .i64 C.t5, .int .i64 C.t6, .int .i64 C.rate, .int .i64 C.out, v]
/-- What is looked at of a config, with its names. -/
def looks (C : Cfg) (n : Nat) : List (List UInt8 × Bool) :=
  [([75, 101, 121], inB 1 ((C.key.length : Nat) : Int) 255),
   ([67, 111, 110, 110, 115], inB 1 C.n1 64),
   ([80, 108, 97, 121, 101, 114, 115], inB 1 C.n2 64),
   ([80, 97, 114, 116, 105, 101, 115], inB 1 C.n3 32),
   ([73, 110, 115, 116, 97, 110, 99, 101, 115], inB 0 C.n4 16),
   ([73, 100, 108, 101], inB 1 C.t1 1099511627776),
   ([84, 105, 99, 107, 101, 116, 76, 105, 102, 101], inB 1 C.t2 1099511627776),
   ([84, 111, 107, 101, 110, 76, 105, 102, 101], inB 1 C.t3 1099511627776),
   ([82, 101, 97, 100, 121], inB 1 C.t4 1099511627776),
   ([71, 114, 97, 99, 101], inB 1 C.t5 1099511627776),
   ([66, 101, 97, 116], inB 1 C.t6 1099511627776),
   ([82, 97, 116, 101], inB 1 C.rate 65536),
   ([79, 117, 116], inB 1026 C.out 65536),
   ([77, 111, 100, 101, 115], inB 1 ((n : Nat) : Int) 4)]
def keeps (s : List UInt8) (l : List (List UInt8 × Bool)) : List UInt8 := l.foldl (fun s p => kp s p.1 p.2) s
/-- The first thing of a config that is not as it must be. -/
def wrongC (C : Cfg) (l : List Md) : List UInt8 := keeps (keeps [] (looks C l.length)) (l.map fun m => (m.wrong, m.wrong.isEmpty))
theorem keeps_snoc (s : List UInt8) (l : List (List UInt8 × Bool)) (p : List UInt8 × Bool) : keeps s (l ++ [p]) = kp (keeps s l) p.1 p.2 := by simp [keeps]

set_option maxHeartbeats 20000000 in
theorem cwrong_any (C : Cfg) (A : Option Addr) (n c : Nat) (l : List Md) (w : World) (hn : n = l.length) (hM : Ms w w.heap.size A l) (hl : n ≤ 1000) :
    Calls Try.prog 13 #[.agg (C.cells (.slice A n c))] w fun r w' => r = .returned (sV (wrongC C l)) ∧ Below w.heap.size w w' := by
  obtain ⟨w0, hw0⟩ : ∃ w0, w0 = w.alloc (.cells (C.cells (.slice A n c)) 31) := ⟨_, rfl⟩
  have hb0 : Below w.heap.size w w0 := by rw [hw0]; exact (Below.refl _ _).alloc (Nat.le_refl _) _
  have hp0 : w0.heap[w.heap.size]? = some (.cells (C.cells (.slice A n c)) 31 (0, 0)) := by rw [hw0]; exact heap_alloc_new w _
  obtain ⟨w1, hw1⟩ : ∃ w1, w1 = w0.alloc (.cells #[sV []] 9) := ⟨_, rfl⟩
  have hsz1 : w1.heap.size = w0.heap.size + 1 := by rw [hw1]; simp
  have HK0 := Lib.hid (Kps.mk0 w0)
  rw [← hw1] at HK0
  have HCE : Hid (∀ W, Below w0.heap.size w0 W → W.cell? ⟨w.heap.size, 0, none⟩ = some (sV C.key) ∧ W.cell? ⟨w.heap.size, 1, none⟩ = some (.int .i64 C.n1) ∧ W.cell? ⟨w.heap.size, 2, none⟩ = some (.int .i64 C.n2) ∧ W.cell? ⟨w.heap.size, 3, none⟩ = some (.int .i64 C.n3) ∧ W.cell? ⟨w.heap.size, 4, none⟩ = some (.int .i64 C.n4) ∧ W.cell? ⟨w.heap.size, 5, none⟩ = some (.int .i64 C.t1) ∧ W.cell? ⟨w.heap.size, 6, none⟩ = some (.int .i64 C.t2) ∧ W.cell? ⟨w.heap.size, 7, none⟩ = some (.int .i64 C.t3) ∧ W.cell? ⟨w.heap.size, 8, none⟩ = some (.int .i64 C.t4) ∧ W.cell? ⟨w.heap.size, 9, none⟩ = some (.int .i64 C.t5) ∧ W.cell? ⟨w.heap.size, 10, none⟩ = some (.int .i64 C.t6) ∧ W.cell? ⟨w.heap.size, 11, none⟩ = some (.int .i64 C.rate) ∧ W.cell? ⟨w.heap.size, 12, none⟩ = some (.int .i64 C.out) ∧ W.cell? ⟨w.heap.size, 13, none⟩ = some (.slice A n c)) := fun W hW => by
    have e2 := (hW.block _ (lt_of_block hp0)).trans hp0
    exact ⟨cell_of_row W _ 0 _ _ _ e2, cell_of_row W _ 1 _ _ _ e2, cell_of_row W _ 2 _ _ _ e2, cell_of_row W _ 3 _ _ _ e2, cell_of_row W _ 4 _ _ _ e2, cell_of_row W _ 5 _ _ _ e2, cell_of_row W _ 6 _ _ _ e2, cell_of_row W _ 7 _ _ _ e2, cell_of_row W _ 8 _ _ _ e2, cell_of_row W _ 9 _ _ _ e2, cell_of_row W _ 10 _ _ _ e2, cell_of_row W _ 11 _ _ _ e2, cell_of_row W _ 12 _ _ _ e2, cell_of_row W _ 13 _ _ _ e2⟩
  obtain ⟨r0, hr0⟩ : ∃ r, r = inB 1 ((C.key.length : Nat) : Int) 255 := ⟨_, rfl⟩
  have hC0 : ∀ W, Calls Try.prog 43 #[.int .i64 ((C.key.length : Nat) : Int), .int .i64 1, .int .i64 255] W fun r w' => r = .returned (.bool r0) ∧ w' = W := by rw [hr0]; exact within_int _ _ _
  have HC0 := Lib.hid hC0
  obtain ⟨r1, hr1⟩ : ∃ r, r = inB 1 C.n1 64 := ⟨_, rfl⟩
  have hC1 : ∀ W, Calls Try.prog 43 #[.int .i64 C.n1, .int .i64 1, .int .i64 64] W fun r w' => r = .returned (.bool r1) ∧ w' = W := by rw [hr1]; exact within_int _ _ _
  have HC1 := Lib.hid hC1
  obtain ⟨r2, hr2⟩ : ∃ r, r = inB 1 C.n2 64 := ⟨_, rfl⟩
  have hC2 : ∀ W, Calls Try.prog 43 #[.int .i64 C.n2, .int .i64 1, .int .i64 64] W fun r w' => r = .returned (.bool r2) ∧ w' = W := by rw [hr2]; exact within_int _ _ _
  have HC2 := Lib.hid hC2
  obtain ⟨r3, hr3⟩ : ∃ r, r = inB 1 C.n3 32 := ⟨_, rfl⟩
  have hC3 : ∀ W, Calls Try.prog 43 #[.int .i64 C.n3, .int .i64 1, .int .i64 32] W fun r w' => r = .returned (.bool r3) ∧ w' = W := by rw [hr3]; exact within_int _ _ _
  have HC3 := Lib.hid hC3
  obtain ⟨r4, hr4⟩ : ∃ r, r = inB 0 C.n4 16 := ⟨_, rfl⟩
  have hC4 : ∀ W, Calls Try.prog 43 #[.int .i64 C.n4, .int .i64 0, .int .i64 16] W fun r w' => r = .returned (.bool r4) ∧ w' = W := by rw [hr4]; exact within_int _ _ _
  have HC4 := Lib.hid hC4
  obtain ⟨r5, hr5⟩ : ∃ r, r = inB 1 C.t1 1099511627776 := ⟨_, rfl⟩
  have hC5 : ∀ W, Calls Try.prog 44 #[.int .i64 C.t1] W fun r w' => r = .returned (.bool r5) ∧ w' = W := by rw [hr5]; exact lasts_any _
  have HC5 := Lib.hid hC5
  obtain ⟨r6, hr6⟩ : ∃ r, r = inB 1 C.t2 1099511627776 := ⟨_, rfl⟩
  have hC6 : ∀ W, Calls Try.prog 44 #[.int .i64 C.t2] W fun r w' => r = .returned (.bool r6) ∧ w' = W := by rw [hr6]; exact lasts_any _
  have HC6 := Lib.hid hC6
  obtain ⟨r7, hr7⟩ : ∃ r, r = inB 1 C.t3 1099511627776 := ⟨_, rfl⟩
  have hC7 : ∀ W, Calls Try.prog 44 #[.int .i64 C.t3] W fun r w' => r = .returned (.bool r7) ∧ w' = W := by rw [hr7]; exact lasts_any _
  have HC7 := Lib.hid hC7
  obtain ⟨r8, hr8⟩ : ∃ r, r = inB 1 C.t4 1099511627776 := ⟨_, rfl⟩
  have hC8 : ∀ W, Calls Try.prog 44 #[.int .i64 C.t4] W fun r w' => r = .returned (.bool r8) ∧ w' = W := by rw [hr8]; exact lasts_any _
  have HC8 := Lib.hid hC8
  obtain ⟨r9, hr9⟩ : ∃ r, r = inB 1 C.t5 1099511627776 := ⟨_, rfl⟩
  have hC9 : ∀ W, Calls Try.prog 44 #[.int .i64 C.t5] W fun r w' => r = .returned (.bool r9) ∧ w' = W := by rw [hr9]; exact lasts_any _
  have HC9 := Lib.hid hC9
  obtain ⟨r10, hr10⟩ : ∃ r, r = inB 1 C.t6 1099511627776 := ⟨_, rfl⟩
  have hC10 : ∀ W, Calls Try.prog 44 #[.int .i64 C.t6] W fun r w' => r = .returned (.bool r10) ∧ w' = W := by rw [hr10]; exact lasts_any _
  have HC10 := Lib.hid hC10
  obtain ⟨r11, hr11⟩ : ∃ r, r = inB 1 C.rate 65536 := ⟨_, rfl⟩
  have hC11 : ∀ W, Calls Try.prog 43 #[.int .i64 C.rate, .int .i64 1, .int .i64 65536] W fun r w' => r = .returned (.bool r11) ∧ w' = W := by rw [hr11]; exact within_int _ _ _
  have HC11 := Lib.hid hC11
  obtain ⟨r12, hr12⟩ : ∃ r, r = inB 1026 C.out 65536 := ⟨_, rfl⟩
  have hC12 : ∀ W, Calls Try.prog 43 #[.int .i64 C.out, .int .i64 1026, .int .i64 65536] W fun r w' => r = .returned (.bool r12) ∧ w' = W := by rw [hr12]; exact within_int _ _ _
  have HC12 := Lib.hid hC12
  obtain ⟨r13, hr13⟩ : ∃ r, r = inB 1 ((n : Nat) : Int) 4 := ⟨_, rfl⟩
  have hC13 : ∀ W, Calls Try.prog 43 #[.int .i64 ((n : Nat) : Int), .int .i64 1, .int .i64 4] W fun r w' => r = .returned (.bool r13) ∧ w' = W := by rw [hr13]; exact within_int _ _ _
  have HC13 := Lib.hid hC13
  have hlk : looks C l.length = [([75, 101, 121], r0), ([67, 111, 110, 110, 115], r1), ([80, 108, 97, 121, 101, 114, 115], r2), ([80, 97, 114, 116, 105, 101, 115], r3), ([73, 110, 115, 116, 97, 110, 99, 101, 115], r4), ([73, 100, 108, 101], r5), ([84, 105, 99, 107, 101, 116, 76, 105, 102, 101], r6), ([84, 111, 107, 101, 110, 76, 105, 102, 101], r7), ([82, 101, 97, 100, 121], r8), ([71, 114, 97, 99, 101], r9), ([66, 101, 97, 116], r10), ([82, 97, 116, 101], r11), ([79, 117, 116], r12), ([77, 111, 100, 101, 115], r13)] := by
    unfold looks
    rw [hr0, hr1, hr2, hr3, hr4, hr5, hr6, hr7, hr8, hr9, hr10, hr11, hr12, hr13, hn]
  have HLK := Lib.hid hlk
  have HB0 := Lib.hid hb0
  have HM : Hid (Ms w0 w.heap.size A l) := hM.below hb0
  have H0 := Lib.hid hw0
  have H1 := Lib.hid hw1
  have HS1 := Lib.hid hsz1
  have HN := Lib.hid hn
  clear hlk hb0 hM hw0 hw1 hsz1 hn hp0 hC0 hr0 hC1 hr1 hC2 hr2 hC3 hr3 hC4 hr4 hC5 hr5 hC6 hr6 hC7 hr7 hC8 hr8 hC9 hr9 hC10 hr10 hC11 hr11 hC12 hr12 hC13 hr13
  obtain ⟨key, n1, n2, n3, n4, t1, t2, t3, t4, t5, t6, rate, out⟩ := C
  go_enter Try.func13, Try.ntmps13
  go_upto_region 1 with (fail)
  rw [← H0.out]
  go_upto_region 2 with (fail)
  rw [← H1.out]
  generalize Value.agg (Cfg.cells ⟨key, n1, n2, n3, n4, t1, t2, t3, t4, t5, t6, rate, out⟩ (Value.slice A n c)) = cv
  go_wp2_with fail
  refine (keeper_any w0.heap.size w1).mono ?_
  rintro r w2 ⟨rfl, rfl⟩
  rw [HS1.out]
  obtain ⟨w2, hw2⟩ : ∃ w2, w2 = w1.alloc (.cells #[.pointer (some ⟨w0.heap.size, 0, none⟩)] 82) := ⟨_, rfl⟩
  rw [← hw2] at HK0 ⊢
  clear hw2
  obtain ⟨c0, c1, c2, c3, c4, c5, c6, c7, c8, c9, c10, c11, c12, c13⟩ := HCE.out w2 HK0.out.1
  go_wp2_with fail
  refine (HC0.out w2).mono ?_
  rintro r w' ⟨rfl, rfl⟩
  go_wp2_with fail
  refine (keep_any [75, 101, 121] r0 w0.heap.size (w0.heap.size + 1) [] w0 w' HK0.out).mono ?_
  rintro r w3 ⟨rfl, hk⟩
  obtain ⟨s0, hs0⟩ : ∃ s, s = kp [] [75, 101, 121] r0 := ⟨_, rfl⟩
  rw [← hs0] at hk
  have HS0' := Lib.hid hs0
  have HK1 := Lib.hid hk
  clear hk hs0 c0 c1 c2 c3 c4 c5 c6 c7 c8 c9 c10 c11 c12 c13 HK0
  obtain ⟨c0, c1, c2, c3, c4, c5, c6, c7, c8, c9, c10, c11, c12, c13⟩ := HCE.out w3 HK1.out.1
  go_wp2_with fail
  refine (HC1.out w3).mono ?_
  rintro r w' ⟨rfl, rfl⟩
  go_wp2_with fail
  refine (keep_any [67, 111, 110, 110, 115] r1 w0.heap.size (w0.heap.size + 1) s0 w0 w' HK1.out).mono ?_
  rintro r w4 ⟨rfl, hk⟩
  obtain ⟨s1, hs1⟩ : ∃ s, s = kp s0 [67, 111, 110, 110, 115] r1 := ⟨_, rfl⟩
  rw [← hs1] at hk
  have HS1' := Lib.hid hs1
  have HK2 := Lib.hid hk
  clear hk hs1 c0 c1 c2 c3 c4 c5 c6 c7 c8 c9 c10 c11 c12 c13 HK1
  obtain ⟨c0, c1, c2, c3, c4, c5, c6, c7, c8, c9, c10, c11, c12, c13⟩ := HCE.out w4 HK2.out.1
  go_wp2_with fail
  refine (HC2.out w4).mono ?_
  rintro r w' ⟨rfl, rfl⟩
  go_wp2_with fail
  refine (keep_any [80, 108, 97, 121, 101, 114, 115] r2 w0.heap.size (w0.heap.size + 1) s1 w0 w' HK2.out).mono ?_
  rintro r w5 ⟨rfl, hk⟩
  obtain ⟨s2, hs2⟩ : ∃ s, s = kp s1 [80, 108, 97, 121, 101, 114, 115] r2 := ⟨_, rfl⟩
  rw [← hs2] at hk
  have HS2' := Lib.hid hs2
  have HK3 := Lib.hid hk
  clear hk hs2 c0 c1 c2 c3 c4 c5 c6 c7 c8 c9 c10 c11 c12 c13 HK2
  obtain ⟨c0, c1, c2, c3, c4, c5, c6, c7, c8, c9, c10, c11, c12, c13⟩ := HCE.out w5 HK3.out.1
  go_wp2_with fail
  refine (HC3.out w5).mono ?_
  rintro r w' ⟨rfl, rfl⟩
  go_wp2_with fail
  refine (keep_any [80, 97, 114, 116, 105, 101, 115] r3 w0.heap.size (w0.heap.size + 1) s2 w0 w' HK3.out).mono ?_
  rintro r w6 ⟨rfl, hk⟩
  obtain ⟨s3, hs3⟩ : ∃ s, s = kp s2 [80, 97, 114, 116, 105, 101, 115] r3 := ⟨_, rfl⟩
  rw [← hs3] at hk
  have HS3' := Lib.hid hs3
  have HK4 := Lib.hid hk
  clear hk hs3 c0 c1 c2 c3 c4 c5 c6 c7 c8 c9 c10 c11 c12 c13 HK3
  obtain ⟨c0, c1, c2, c3, c4, c5, c6, c7, c8, c9, c10, c11, c12, c13⟩ := HCE.out w6 HK4.out.1
  go_wp2_with fail
  refine (HC4.out w6).mono ?_
  rintro r w' ⟨rfl, rfl⟩
  go_wp2_with fail
  refine (keep_any [73, 110, 115, 116, 97, 110, 99, 101, 115] r4 w0.heap.size (w0.heap.size + 1) s3 w0 w' HK4.out).mono ?_
  rintro r w7 ⟨rfl, hk⟩
  obtain ⟨s4, hs4⟩ : ∃ s, s = kp s3 [73, 110, 115, 116, 97, 110, 99, 101, 115] r4 := ⟨_, rfl⟩
  rw [← hs4] at hk
  have HS4' := Lib.hid hs4
  have HK5 := Lib.hid hk
  clear hk hs4 c0 c1 c2 c3 c4 c5 c6 c7 c8 c9 c10 c11 c12 c13 HK4
  obtain ⟨c0, c1, c2, c3, c4, c5, c6, c7, c8, c9, c10, c11, c12, c13⟩ := HCE.out w7 HK5.out.1
  go_wp2_with fail
  refine (HC5.out w7).mono ?_
  rintro r w' ⟨rfl, rfl⟩
  go_wp2_with fail
  refine (keep_any [73, 100, 108, 101] r5 w0.heap.size (w0.heap.size + 1) s4 w0 w' HK5.out).mono ?_
  rintro r w8 ⟨rfl, hk⟩
  obtain ⟨s5, hs5⟩ : ∃ s, s = kp s4 [73, 100, 108, 101] r5 := ⟨_, rfl⟩
  rw [← hs5] at hk
  have HS5' := Lib.hid hs5
  have HK6 := Lib.hid hk
  clear hk hs5 c0 c1 c2 c3 c4 c5 c6 c7 c8 c9 c10 c11 c12 c13 HK5
  obtain ⟨c0, c1, c2, c3, c4, c5, c6, c7, c8, c9, c10, c11, c12, c13⟩ := HCE.out w8 HK6.out.1
  go_wp2_with fail
  refine (HC6.out w8).mono ?_
  rintro r w' ⟨rfl, rfl⟩
  go_wp2_with fail
  refine (keep_any [84, 105, 99, 107, 101, 116, 76, 105, 102, 101] r6 w0.heap.size (w0.heap.size + 1) s5 w0 w' HK6.out).mono ?_
  rintro r w9 ⟨rfl, hk⟩
  obtain ⟨s6, hs6⟩ : ∃ s, s = kp s5 [84, 105, 99, 107, 101, 116, 76, 105, 102, 101] r6 := ⟨_, rfl⟩
  rw [← hs6] at hk
  have HS6' := Lib.hid hs6
  have HK7 := Lib.hid hk
  clear hk hs6 c0 c1 c2 c3 c4 c5 c6 c7 c8 c9 c10 c11 c12 c13 HK6
  obtain ⟨c0, c1, c2, c3, c4, c5, c6, c7, c8, c9, c10, c11, c12, c13⟩ := HCE.out w9 HK7.out.1
  go_wp2_with fail
  refine (HC7.out w9).mono ?_
  rintro r w' ⟨rfl, rfl⟩
  go_wp2_with fail
  refine (keep_any [84, 111, 107, 101, 110, 76, 105, 102, 101] r7 w0.heap.size (w0.heap.size + 1) s6 w0 w' HK7.out).mono ?_
  rintro r w10 ⟨rfl, hk⟩
  obtain ⟨s7, hs7⟩ : ∃ s, s = kp s6 [84, 111, 107, 101, 110, 76, 105, 102, 101] r7 := ⟨_, rfl⟩
  rw [← hs7] at hk
  have HS7' := Lib.hid hs7
  have HK8 := Lib.hid hk
  clear hk hs7 c0 c1 c2 c3 c4 c5 c6 c7 c8 c9 c10 c11 c12 c13 HK7
  obtain ⟨c0, c1, c2, c3, c4, c5, c6, c7, c8, c9, c10, c11, c12, c13⟩ := HCE.out w10 HK8.out.1
  go_wp2_with fail
  refine (HC8.out w10).mono ?_
  rintro r w' ⟨rfl, rfl⟩
  go_wp2_with fail
  refine (keep_any [82, 101, 97, 100, 121] r8 w0.heap.size (w0.heap.size + 1) s7 w0 w' HK8.out).mono ?_
  rintro r w11 ⟨rfl, hk⟩
  obtain ⟨s8, hs8⟩ : ∃ s, s = kp s7 [82, 101, 97, 100, 121] r8 := ⟨_, rfl⟩
  rw [← hs8] at hk
  have HS8' := Lib.hid hs8
  have HK9 := Lib.hid hk
  clear hk hs8 c0 c1 c2 c3 c4 c5 c6 c7 c8 c9 c10 c11 c12 c13 HK8
  obtain ⟨c0, c1, c2, c3, c4, c5, c6, c7, c8, c9, c10, c11, c12, c13⟩ := HCE.out w11 HK9.out.1
  go_wp2_with fail
  refine (HC9.out w11).mono ?_
  rintro r w' ⟨rfl, rfl⟩
  go_wp2_with fail
  refine (keep_any [71, 114, 97, 99, 101] r9 w0.heap.size (w0.heap.size + 1) s8 w0 w' HK9.out).mono ?_
  rintro r w12 ⟨rfl, hk⟩
  obtain ⟨s9, hs9⟩ : ∃ s, s = kp s8 [71, 114, 97, 99, 101] r9 := ⟨_, rfl⟩
  rw [← hs9] at hk
  have HS9' := Lib.hid hs9
  have HK10 := Lib.hid hk
  clear hk hs9 c0 c1 c2 c3 c4 c5 c6 c7 c8 c9 c10 c11 c12 c13 HK9
  obtain ⟨c0, c1, c2, c3, c4, c5, c6, c7, c8, c9, c10, c11, c12, c13⟩ := HCE.out w12 HK10.out.1
  go_wp2_with fail
  refine (HC10.out w12).mono ?_
  rintro r w' ⟨rfl, rfl⟩
  go_wp2_with fail
  refine (keep_any [66, 101, 97, 116] r10 w0.heap.size (w0.heap.size + 1) s9 w0 w' HK10.out).mono ?_
  rintro r w13 ⟨rfl, hk⟩
  obtain ⟨s10, hs10⟩ : ∃ s, s = kp s9 [66, 101, 97, 116] r10 := ⟨_, rfl⟩
  rw [← hs10] at hk
  have HS10' := Lib.hid hs10
  have HK11 := Lib.hid hk
  clear hk hs10 c0 c1 c2 c3 c4 c5 c6 c7 c8 c9 c10 c11 c12 c13 HK10
  obtain ⟨c0, c1, c2, c3, c4, c5, c6, c7, c8, c9, c10, c11, c12, c13⟩ := HCE.out w13 HK11.out.1
  go_wp2_with fail
  refine (HC11.out w13).mono ?_
  rintro r w' ⟨rfl, rfl⟩
  go_wp2_with fail
  refine (keep_any [82, 97, 116, 101] r11 w0.heap.size (w0.heap.size + 1) s10 w0 w' HK11.out).mono ?_
  rintro r w14 ⟨rfl, hk⟩
  obtain ⟨s11, hs11⟩ : ∃ s, s = kp s10 [82, 97, 116, 101] r11 := ⟨_, rfl⟩
  rw [← hs11] at hk
  have HS11' := Lib.hid hs11
  have HK12 := Lib.hid hk
  clear hk hs11 c0 c1 c2 c3 c4 c5 c6 c7 c8 c9 c10 c11 c12 c13 HK11
  obtain ⟨c0, c1, c2, c3, c4, c5, c6, c7, c8, c9, c10, c11, c12, c13⟩ := HCE.out w14 HK12.out.1
  go_wp2_with fail
  refine (HC12.out w14).mono ?_
  rintro r w' ⟨rfl, rfl⟩
  go_wp2_with fail
  refine (keep_any [79, 117, 116] r12 w0.heap.size (w0.heap.size + 1) s11 w0 w' HK12.out).mono ?_
  rintro r w15 ⟨rfl, hk⟩
  obtain ⟨s12, hs12⟩ : ∃ s, s = kp s11 [79, 117, 116] r12 := ⟨_, rfl⟩
  rw [← hs12] at hk
  have HS12' := Lib.hid hs12
  have HK13 := Lib.hid hk
  clear hk hs12 c0 c1 c2 c3 c4 c5 c6 c7 c8 c9 c10 c11 c12 c13 HK12
  obtain ⟨c0, c1, c2, c3, c4, c5, c6, c7, c8, c9, c10, c11, c12, c13⟩ := HCE.out w15 HK13.out.1
  go_wp2_with fail
  refine (HC13.out w15).mono ?_
  rintro r w' ⟨rfl, rfl⟩
  go_wp2_with fail
  refine (keep_any [77, 111, 100, 101, 115] r13 w0.heap.size (w0.heap.size + 1) s12 w0 w' HK13.out).mono ?_
  rintro r w16 ⟨rfl, hk⟩
  obtain ⟨s13, hs13⟩ : ∃ s, s = kp s12 [77, 111, 100, 101, 115] r13 := ⟨_, rfl⟩
  rw [← hs13] at hk
  have HS13' := Lib.hid hs13
  have HK14 := Lib.hid hk
  clear hk hs13 c0 c1 c2 c3 c4 c5 c6 c7 c8 c9 c10 c11 c12 c13 HK13
  obtain ⟨c0, c1, c2, c3, c4, c5, c6, c7, c8, c9, c10, c11, c12, c13⟩ := HCE.out w16 HK14.out.1
  have hs : keeps [] (looks ⟨key, n1, n2, n3, n4, t1, t2, t3, t4, t5, t6, rate, out⟩ l.length) = s13 := by
    rw [HLK.out, HS13'.out, HS12'.out, HS11'.out, HS10'.out, HS9'.out, HS8'.out, HS7'.out, HS6'.out, HS5'.out, HS4'.out, HS3'.out, HS2'.out, HS1'.out, HS0'.out]
    rfl
  have HSK := Lib.hid hs
  clear hs
  clear HS0' HC0 HS1' HC1 HS2' HC2 HS3' HC3 HS4' HC4 HS5' HC5 HS6' HC6 HS7' HC7 HS8' HC8 HS9' HC9 HS10' HC10 HS11' HC11 HS12' HC12 HS13' HC13 HLK
  obtain ⟨B, hB⟩ : ∃ B, B = w0.heap.size := ⟨_, rfl⟩
  rw [← hB] at HK14 ⊢
  have HB := Lib.hid hB
  clear hB
  go_wp2_with fail
  go_loopw [90] (fun i wr => ∃ (k : Nat) (s : List UInt8), k ≤ n ∧ i = .int .i64 (k : Int) ∧ Hid (s = keeps s13 ((l.take k).map fun m => (m.wrong, m.wrong.isEmpty))) ∧ Hid (Kps B (B + 1) s w0 wr)) (fun i _ => n - (intOf i).toNat)
  case atStart => exact ⟨0, s13, by omega, rfl, by simp [Hid, keeps], HK14.out⟩
  case round =>
    obtain ⟨k, s, hk, rfl, HS, HKk⟩ := hrel
    have h1 := (HKk.out.1)
    rw [HB.out] at h1
    obtain ⟨c0, c1, c2, c3, c4, c5, c6, c7, c8, c9, c10, c11, c12, c13⟩ := HCE.out wr h1
    clear h1
    by_cases hlt : k < n
    · obtain ⟨⟨mk, mb, ms, mq, me⟩, hm⟩ : ∃ m, l[k]? = some m := ⟨l[k]'(by rw [← HN.out]; exact hlt), List.getElem?_eq_getElem _⟩
      obtain ⟨b1, o1, rfl, hb1, hat⟩ := HM.out (by have := HN.out; omega)
      obtain ⟨d0, d1, d2, d3, d4⟩ := (hat k _ hm).below (HKk.out.1.mono (by have := HB.out; have := HB0.out.size; omega)) hb1
      obtain ⟨mw, hmw⟩ : ∃ mw, mw = wrongM mk mb ms mq me := ⟨_, rfl⟩
      have HW : Hid (∀ W, Calls Try.prog 16 #[mV mk mb ms mq me] W fun r w' => r = .returned (sV mw) ∧ Below W.heap.size W w') := fun W => by rw [hmw]; exact wrongM_any mk mb ms mq me W
      have hnext : (l.take (k + 1)).map (fun m => (m.wrong, m.wrong.isEmpty)) = (l.take k).map (fun m => (m.wrong, m.wrong.isEmpty)) ++ [(mw, mw.isEmpty)] := by
        rw [List.take_add_one, hm, hmw]
        simp [Md.wrong]
      have HNX := Lib.hid hnext
      clear hm hat hnext hmw hb1
      obtain ⟨w17, hw17⟩ : ∃ w17, w17 = wr.alloc (.cells (mCells mk mb ms mq me) 35) := ⟨_, rfl⟩
      have HKa : Hid (Kps B (B + 1) s w0 w17) := HKk.out.upto (by rw [hw17]; exact (Below.refl _ _).alloc (Nat.le_refl _) _)
      have hq : w17.heap[wr.heap.size]? = some (.cells (mCells mk mb ms mq me) 35 (0, 0)) := by rw [hw17]; exact heap_alloc_new wr _
      have q0 := cell_of_row w17 wr.heap.size 0 _ _ _ hq
      have q1 := cell_of_row w17 wr.heap.size 1 _ _ _ hq
      have q2 := cell_of_row w17 wr.heap.size 2 _ _ _ hq
      have q3 := cell_of_row w17 wr.heap.size 3 _ _ _ hq
      have q4 := cell_of_row w17 wr.heap.size 4 _ _ _ hq
      simp at q0 q1 q2 q3 q4
      have H17 := Lib.hid hw17
      clear hw17 hq
      go_upto_region 20 with (fail)
      rw [← H17.out]
      clear c0 c1 c2 c3 c4 c5 c6 c7 c8 c9 c10 c11 c12 c13 d0 d1 d2 d3 d4
      go_wp2_with fail
      refine (HW.out w17).mono ?_
      rintro r w18 ⟨rfl, hb18⟩
      have HKb := Lib.hid (HKa.out.upto hb18)
      clear hb18 q0 q1 q2 q3 q4
      go_wp2_with fail
      refine (keep_any mw mw.isEmpty B (B + 1) s w0 w18 HKb.out).mono ?_
      rintro r w19 ⟨rfl, hk19⟩
      have HKc := Lib.hid hk19
      clear hk19
      go_wp2
      go_roundw
      case rel => exact ⟨k + 1, _, by omega, by simp, by rw [Hid, HNX.out, keeps_snoc, ← HS.out], HKc.out⟩
      case measure => simp [intOf]; omega
    · have hkn : k = n := by omega
      subst hkn
      have d := cell_of_one HKk.out.2.1
      go_wp2
      go_ret
      refine ⟨?_, HB0.out.trans (HKk.out.1.mono (by have := HB.out; have := HB0.out.size; omega))⟩
      rw [wrongC, HSK.out, HS.out, HN.out, List.take_length]
      rfl
end Go.Proofs.Ytpomddmeachbbaa
