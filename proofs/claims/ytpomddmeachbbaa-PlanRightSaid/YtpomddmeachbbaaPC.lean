/- Plan: the document's Wrong of a config. -/
import Derived.Test.YtpomddmeachbbaaP7
import Derived.Test.YtpomddmeachbbaaPB
namespace Go.Proofs.Ytpomddmeachbbaa
open Go.RowKit
set_option maxRecDepth 20000

theorem keeps_keep {s : List UInt8} (h : s ≠ []) : ∀ l, keeps s l = s
  | [] => rfl
  | p :: l => by
    have : kp s p.1 p.2 = s := by simp [kp, h]
    have ih := keeps_keep h l
    unfold keeps at ih ⊢
    rw [List.foldl_cons, this, ih]
theorem keeps_first : ∀ (l : List (List UInt8 × Bool)) (k : Nat) (p : List UInt8 × Bool), l[k]? = some p → p.2 = false → p.1 ≠ [] → (∀ j q, j < k → l[j]? = some q → q.2 = true) → keeps [] l = p.1
  | [], k, p, h, _, _, _ => by simp at h
  | x :: l, 0, p, h, h2, h3, _ => by
    simp at h
    subst h
    have e : keeps [] (x :: l) = keeps x.1 l := by
      unfold keeps
      rw [List.foldl_cons]
      simp [kp, h2]
    rw [e, keeps_keep h3]
  | x :: l, k + 1, p, h, h2, h3, h4 => by
    have hx : x.2 = true := h4 0 x (by omega) rfl
    have e : keeps [] (x :: l) = keeps [] l := by
      unfold keeps
      rw [List.foldl_cons]
      simp [kp, hx]
    rw [e]
    exact keeps_first l k p (by simpa using h) h2 h3 (fun j q hj hq => h4 (j + 1) q (by omega) (by simpa using hq))
theorem keeps_all : ∀ (l : List (List UInt8 × Bool)), (∀ (j : Nat) q, l[j]? = some q → q.2 = true) → keeps [] l = []
  | [], _ => rfl
  | x :: l, h => by
    have hx : x.2 = true := h 0 x rfl
    have e : keeps [] (x :: l) = keeps [] l := by
      unfold keeps
      rw [List.foldl_cons]
      simp [kp, hx]
    rw [e]
    exact keeps_all l (fun j q hq => h (j + 1) q (by simpa using hq))
set_option maxHeartbeats 1000000 in
theorem in_any (n a b : Int) (w : World) : Calls Try.prog 45 #[.int .i64 n, .int .i64 a, .int .i64 b] w fun r w' => r = .returned (.bool (inB a n b)) ∧ w' = w := by
  by_cases h1 : a ≤ n <;> by_cases h2 : n ≤ b <;>
  (go_enter Try.func45, Try.ntmps45
   go_wp2
   go_ret
   simp [inB, h1, h2])
abbrev namesL : List (List UInt8) := [[75, 101, 121], [67, 111, 110, 110, 115], [80, 108, 97, 121, 101, 114, 115], [80, 97, 114, 116, 105, 101, 115], [73, 110, 115, 116, 97, 110, 99, 101, 115], [73, 100, 108, 101], [84, 105, 99, 107, 101, 116, 76, 105, 102, 101], [84, 111, 107, 101, 110, 76, 105, 102, 101], [82, 101, 97, 100, 121], [71, 114, 97, 99, 101], [66, 101, 97, 116], [82, 97, 116, 101], [79, 117, 116], [77, 111, 100, 101, 115]]
abbrev numsL (C : Cfg) (n : Nat) : List Int := [((C.key.length : Nat) : Int), C.n1, C.n2, C.n3, C.n4, C.t1, C.t2, C.t3, C.t4, C.t5, C.t6, C.rate, C.out, ((n : Nat) : Int)]
abbrev lowsL : List Int := [1, 1, 1, 1, 0, 1, 1, 1, 1, 1, 1, 1, 1026, 1]
abbrev highsL : List Int := [255, 64, 64, 32, 16, 1099511627776, 1099511627776, 1099511627776, 1099511627776, 1099511627776, 1099511627776, 65536, 65536, 4]
theorem looks_get (C : Cfg) (n k : Nat) (hk : k < 14) : ∃ nm xn xl xh, namesL[k]? = some nm ∧ (numsL C n)[k]? = some xn ∧ lowsL[k]? = some xl ∧ highsL[k]? = some xh ∧ nm ≠ [] ∧ (looks C n)[k]? = some (nm, inB xl xn xh) := by
  match k, hk with
  | 0, _ => exact ⟨_, _, _, _, rfl, rfl, rfl, rfl, by decide, rfl⟩
  | 1, _ => exact ⟨_, _, _, _, rfl, rfl, rfl, rfl, by decide, rfl⟩
  | 2, _ => exact ⟨_, _, _, _, rfl, rfl, rfl, rfl, by decide, rfl⟩
  | 3, _ => exact ⟨_, _, _, _, rfl, rfl, rfl, rfl, by decide, rfl⟩
  | 4, _ => exact ⟨_, _, _, _, rfl, rfl, rfl, rfl, by decide, rfl⟩
  | 5, _ => exact ⟨_, _, _, _, rfl, rfl, rfl, rfl, by decide, rfl⟩
  | 6, _ => exact ⟨_, _, _, _, rfl, rfl, rfl, rfl, by decide, rfl⟩
  | 7, _ => exact ⟨_, _, _, _, rfl, rfl, rfl, rfl, by decide, rfl⟩
  | 8, _ => exact ⟨_, _, _, _, rfl, rfl, rfl, rfl, by decide, rfl⟩
  | 9, _ => exact ⟨_, _, _, _, rfl, rfl, rfl, rfl, by decide, rfl⟩
  | 10, _ => exact ⟨_, _, _, _, rfl, rfl, rfl, rfl, by decide, rfl⟩
  | 11, _ => exact ⟨_, _, _, _, rfl, rfl, rfl, rfl, by decide, rfl⟩
  | 12, _ => exact ⟨_, _, _, _, rfl, rfl, rfl, rfl, by decide, rfl⟩
  | 13, _ => exact ⟨_, _, _, _, rfl, rfl, rfl, rfl, by decide, rfl⟩
theorem row_get {w : World} {G k : Nat} {xs : List Int} {x : Int} (h : w.heap[G]? = some (.cells (xs.map (Value.int .i64)).toArray 2 (0, 0))) (hx : xs[k]? = some x) : w.cell? ⟨G, k, none⟩ = some (.int .i64 x) := by
  rw [cell_of_row w G k _ _ _ h]
  simp [hx]
theorem rows_get {w : World} {G k : Nat} {xs : List (List UInt8)} {x : List UInt8} (h : w.heap[G]? = some (.cells (xs.map sV).toArray 9 (0, 0))) (hx : xs[k]? = some x) : w.cell? ⟨G, k, none⟩ = some (sV x) := by
  rw [cell_of_row w G k _ _ _ h]
  simp [hx]

set_option linter.unusedSimpArgs false in
set_option maxHeartbeats 20000000 in
theorem rcwrong_any (C : Cfg) (A : Option Addr) (n c : Nat) (l : List Md) (w : World) (hn : n = l.length) (hM : Ms w w.heap.size A l) (hl : n ≤ 1000) :
    Calls Try.prog 14 #[.agg (C.cells (.slice A n c))] w fun r w' => r = .returned (sV (wrongC C l)) ∧ Below w.heap.size w w' := by
  obtain ⟨w0, hw0⟩ : ∃ w0, w0 = w.alloc (.cells (C.cells (.slice A n c)) 24) := ⟨_, rfl⟩
  have hb0 : Below w.heap.size w w0 := by rw [hw0]; exact (Below.refl _ _).alloc (Nat.le_refl _) _
  have hp0 : w0.heap[w.heap.size]? = some (.cells (C.cells (.slice A n c)) 24 (0, 0)) := by rw [hw0]; exact heap_alloc_new w _
  obtain ⟨w1, hw1⟩ : ∃ w1, w1 = w0.alloc (.cells #[sV [75, 101, 121], sV [67, 111, 110, 110, 115], sV [80, 108, 97, 121, 101, 114, 115], sV [80, 97, 114, 116, 105, 101, 115], sV [73, 110, 115, 116, 97, 110, 99, 101, 115], sV [73, 100, 108, 101], sV [84, 105, 99, 107, 101, 116, 76, 105, 102, 101], sV [84, 111, 107, 101, 110, 76, 105, 102, 101], sV [82, 101, 97, 100, 121], sV [71, 114, 97, 99, 101], sV [66, 101, 97, 116], sV [82, 97, 116, 101], sV [79, 117, 116], sV [77, 111, 100, 101, 115]] 9) := ⟨_, rfl⟩
  obtain ⟨w2, hw2⟩ : ∃ w2, w2 = w1.alloc (.cells #[.int .i64 ((C.key.length : Nat) : Int), .int .i64 C.n1, .int .i64 C.n2, .int .i64 C.n3, .int .i64 C.n4, .int .i64 C.t1, .int .i64 C.t2, .int .i64 C.t3, .int .i64 C.t4, .int .i64 C.t5, .int .i64 C.t6, .int .i64 C.rate, .int .i64 C.out, .int .i64 ((n : Nat) : Int)] 2) := ⟨_, rfl⟩
  obtain ⟨w3, hw3⟩ : ∃ w3, w3 = w2.alloc (.cells #[.int .i64 1, .int .i64 1, .int .i64 1, .int .i64 1, .int .i64 0, .int .i64 1, .int .i64 1, .int .i64 1, .int .i64 1, .int .i64 1, .int .i64 1, .int .i64 1, .int .i64 1026, .int .i64 1] 2) := ⟨_, rfl⟩
  obtain ⟨w4, hw4⟩ : ∃ w4, w4 = w3.alloc (.cells #[.int .i64 255, .int .i64 64, .int .i64 64, .int .i64 32, .int .i64 16, .int .i64 1099511627776, .int .i64 1099511627776, .int .i64 1099511627776, .int .i64 1099511627776, .int .i64 1099511627776, .int .i64 1099511627776, .int .i64 65536, .int .i64 65536, .int .i64 4] 2) := ⟨_, rfl⟩
  have hb1 : Below w0.heap.size w0 w1 := by rw [hw1]; exact (Below.refl _ _).alloc (Nat.le_refl _) _
  have hb2 : Below w1.heap.size w1 w2 := by rw [hw2]; exact (Below.refl _ _).alloc (Nat.le_refl _) _
  have hb3 : Below w2.heap.size w2 w3 := by rw [hw3]; exact (Below.refl _ _).alloc (Nat.le_refl _) _
  have hb4 : Below w3.heap.size w3 w4 := by rw [hw4]; exact (Below.refl _ _).alloc (Nat.le_refl _) _
  have hg1 : w1.heap[w0.heap.size]? = some (.cells (namesL.map sV).toArray 9 (0, 0)) := by rw [hw1]; exact heap_alloc_new w0 _
  have hg2 : w2.heap[w1.heap.size]? = some (.cells ((numsL C n).map (Value.int .i64)).toArray 2 (0, 0)) := by rw [hw2]; exact heap_alloc_new w1 _
  have hg3 : w3.heap[w2.heap.size]? = some (.cells (lowsL.map (Value.int .i64)).toArray 2 (0, 0)) := by rw [hw3]; exact heap_alloc_new w2 _
  have hg4 : w4.heap[w3.heap.size]? = some (.cells (highsL.map (Value.int .i64)).toArray 2 (0, 0)) := by rw [hw4]; exact heap_alloc_new w3 _
  have hb13 : Below w1.heap.size w1 w4 := hb2.trans ((hb3.trans (hb4.mono hb3.size)).mono hb2.size)
  have hg1' := (hb13.block _ (lt_of_block hg1)).trans hg1
  have hg2' := ((hb3.trans (hb4.mono hb3.size)).block _ (lt_of_block hg2)).trans hg2
  have hg3' := (hb4.block _ (lt_of_block hg3)).trans hg3
  have hb04 : Below w0.heap.size w0 w4 := hb1.trans (hb13.mono hb1.size)
  have hp4 := (hb04.block _ (lt_of_block hp0)).trans hp0
  obtain ⟨G1, hG1⟩ : ∃ G, G = w0.heap.size := ⟨_, rfl⟩
  obtain ⟨G2, hG2⟩ : ∃ G, G = w1.heap.size := ⟨_, rfl⟩
  obtain ⟨G3, hG3⟩ : ∃ G, G = w2.heap.size := ⟨_, rfl⟩
  obtain ⟨G4, hG4⟩ : ∃ G, G = w3.heap.size := ⟨_, rfl⟩
  rw [← hG1] at hg1'
  rw [← hG2] at hg2'
  rw [← hG3] at hg3'
  rw [← hG4] at hg4
  have HCk : Hid (∀ k nm xn xl xh, namesL[k]? = some nm → (numsL C n)[k]? = some xn → lowsL[k]? = some xl → highsL[k]? = some xh → ∀ W, Below w4.heap.size w4 W → W.cell? ⟨G1, k, none⟩ = some (sV nm) ∧ W.cell? ⟨G2, k, none⟩ = some (.int .i64 xn) ∧ W.cell? ⟨G3, k, none⟩ = some (.int .i64 xl) ∧ W.cell? ⟨G4, k, none⟩ = some (.int .i64 xh)) := fun k nm xn xl xh e1 e2 e3 e4 W hW =>
    ⟨rows_get ((hW.block _ (lt_of_block hg1')).trans hg1') e1, row_get ((hW.block _ (lt_of_block hg2')).trans hg2') e2, row_get ((hW.block _ (lt_of_block hg3')).trans hg3') e3, row_get ((hW.block _ (lt_of_block hg4)).trans hg4) e4⟩
  have HCE0 : Hid (∀ W, Below w0.heap.size w0 W → W.cell? ⟨w.heap.size, 0, none⟩ = some (sV C.key) ∧ W.cell? ⟨w.heap.size, 1, none⟩ = some (.int .i64 C.n1) ∧ W.cell? ⟨w.heap.size, 2, none⟩ = some (.int .i64 C.n2) ∧ W.cell? ⟨w.heap.size, 3, none⟩ = some (.int .i64 C.n3) ∧ W.cell? ⟨w.heap.size, 4, none⟩ = some (.int .i64 C.n4) ∧ W.cell? ⟨w.heap.size, 5, none⟩ = some (.int .i64 C.t1) ∧ W.cell? ⟨w.heap.size, 6, none⟩ = some (.int .i64 C.t2) ∧ W.cell? ⟨w.heap.size, 7, none⟩ = some (.int .i64 C.t3) ∧ W.cell? ⟨w.heap.size, 8, none⟩ = some (.int .i64 C.t4) ∧ W.cell? ⟨w.heap.size, 9, none⟩ = some (.int .i64 C.t5) ∧ W.cell? ⟨w.heap.size, 10, none⟩ = some (.int .i64 C.t6) ∧ W.cell? ⟨w.heap.size, 11, none⟩ = some (.int .i64 C.rate) ∧ W.cell? ⟨w.heap.size, 12, none⟩ = some (.int .i64 C.out) ∧ W.cell? ⟨w.heap.size, 13, none⟩ = some (.slice A n c)) := fun W hW => by
    have e2 := (hW.block _ (lt_of_block hp0)).trans hp0
    exact ⟨cell_of_row W _ 0 _ _ _ e2, cell_of_row W _ 1 _ _ _ e2, cell_of_row W _ 2 _ _ _ e2, cell_of_row W _ 3 _ _ _ e2, cell_of_row W _ 4 _ _ _ e2, cell_of_row W _ 5 _ _ _ e2, cell_of_row W _ 6 _ _ _ e2, cell_of_row W _ 7 _ _ _ e2, cell_of_row W _ 8 _ _ _ e2, cell_of_row W _ 9 _ _ _ e2, cell_of_row W _ 10 _ _ _ e2, cell_of_row W _ 11 _ _ _ e2, cell_of_row W _ 12 _ _ _ e2, cell_of_row W _ 13 _ _ _ e2⟩
  have HM : Hid (Ms w4 w4.heap.size A l) := (((hM.below hb0).mono hb0.size).below hb04).mono hb04.size
  have HB04 := Lib.hid hb04
  have HB01 := Lib.hid hb1
  have HB0 := Lib.hid hb0
  have H0 := Lib.hid hw0
  have H1 := Lib.hid hw1
  have H2 := Lib.hid hw2
  have H3 := Lib.hid hw3
  have H4 := Lib.hid hw4
  have E1 := Lib.hid hG1
  have E2 := Lib.hid hG2
  have E3 := Lib.hid hG3
  have E4 := Lib.hid hG4
  have HN := Lib.hid hn
  have HLG : Hid (∀ k, k < 14 → ∃ nm xn xl xh, namesL[k]? = some nm ∧ (numsL C n)[k]? = some xn ∧ lowsL[k]? = some xl ∧ highsL[k]? = some xh ∧ nm ≠ [] ∧ (looks C n)[k]? = some (nm, inB xl xn xh)) := fun k hk => looks_get C n k hk
  have HLL : Hid ((looks C n).length = 14) := rfl
  have hW : wrongC C l = keeps (keeps [] (looks C n)) (l.map fun m => (m.wrong, m.wrong.isEmpty)) := by rw [hn]; rfl
  obtain ⟨LK, hLK⟩ : ∃ LK, LK = looks C n := ⟨_, rfl⟩
  rw [← hLK] at HLG HLL hW
  obtain ⟨rs, hrs⟩ : ∃ rs, rs = wrongC C l := ⟨_, rfl⟩
  rw [← hrs] at hW ⊢
  have HW := Lib.hid hW
  clear hLK hrs hW hw0 hw1 hw2 hw3 hw4 hb0 hb1 hb2 hb3 hb4 hb13 hb04 hg1 hg2 hg3 hg4 hg1' hg2' hg3' hp0 hp4 hG1 hG2 hG3 hG4 hM hn
  go_enter Try.func14, Try.ntmps14
  go_upto_region 1 with (fail)
  rw [← H0.out]
  generalize Value.agg (Cfg.cells C (Value.slice A n c)) = cv
  go_upto_region 2 with (fail)
  rw [← H1.out, ← E1.out]
  obtain ⟨c0, c1, c2, c3, c4, c5, c6, c7, c8, c9, c10, c11, c12, c13⟩ := HCE0.out w1 HB01.out
  go_upto_region 3 with (fail)
  rw [← H2.out, ← E2.out]
  clear c0 c1 c2 c3 c4 c5 c6 c7 c8 c9 c10 c11 c12 c13
  go_upto_region 4 with (fail)
  rw [← H3.out, ← E3.out]
  go_upto_region 6 with (fail)
  rw [← H4.out, ← E4.out]
  have HCE : Hid (∀ W, Below w4.heap.size w4 W → W.cell? ⟨w.heap.size, 13, none⟩ = some (.slice A n c)) := fun W hW => (HCE0.out W (HB04.out.trans (hW.mono HB04.out.size))).2.2.2.2.2.2.2.2.2.2.2.2.2
  have HBr : Hid (Below w4.heap.size w4 w4) := Below.refl _ _
  have HBF : Hid (Below w.heap.size w w4) := HB0.out.trans (HB04.out.mono HB0.out.size)
  clear HB04 HB01 HB0 H0 H1 H2 H3 H4 E1 E2 E3 E4 HCE0
  go_wp2_with fail
  go_loopw [8] (fun v wr => ∃ k : Nat, k ≤ 14 ∧ v = .int .i64 (k : Int) ∧ Hid (∀ j q, j < k → LK[j]? = some q → q.2 = true) ∧ Hid (Below w4.heap.size w4 wr)) (fun v _ => 14 - (intOf v).toNat)
  case atStart => exact ⟨0, by omega, rfl, fun j q hj => absurd hj (Nat.not_lt_zero j), HBr.out⟩
  case round =>
    obtain ⟨k, hk, rfl, HP, HV⟩ := hrel
    by_cases hlt : k < 14
    · obtain ⟨nm, xn, xl, xh, e1, e2, e3, e4, hne, hlk⟩ := HLG.out k hlt
      have HCA := Lib.hid (HCk.out k nm xn xl xh e1 e2 e3 e4)
      have HCk : Hid (∀ W, Below w4.heap.size w4 W → W.cell? ⟨G2, k, none⟩ = some (.int .i64 xn) ∧ W.cell? ⟨G3, k, none⟩ = some (.int .i64 xl) ∧ W.cell? ⟨G4, k, none⟩ = some (.int .i64 xh)) := fun W hW => (HCA.out W hW).2
      obtain ⟨b, hbd⟩ : ∃ b, b = inB xl xn xh := ⟨_, rfl⟩
      have HCin : Hid (∀ W, Calls Try.prog 45 #[.int .i64 xn, .int .i64 xl, .int .i64 xh] W fun r w' => r = .returned (.bool b) ∧ w' = W) := fun W => by rw [hbd]; exact in_any xn xl xh W
      rw [← hbd] at hlk
      have HLk := Lib.hid hlk
      have HNE := Lib.hid hne
      clear e1 e2 e3 e4 hlk hbd hne
      go_upto_region 9 with (fail)
      have HD : Hid (Below w4.heap.size w4 wr.drew) := HV.out.drew
      refine wp_region_held_drew (S := fun W : World => W.cell? ⟨G2, k, none⟩ = some (.int .i64 xn) ∧ W.cell? ⟨G3, k, none⟩ = some (.int .i64 xl) ∧ W.cell? ⟨G4, k, none⟩ = some (.int .i64 xh)) (by kernel_rfl) (HCk.out _ (HD.out)) (fun hHeld => ?_)
      obtain ⟨W0, hW0⟩ : ∃ W0, W0 = wr.drew := ⟨_, rfl⟩
      rw [← hW0] at hHeld HD ⊢
      clear hW0
      refine wpAnyH_take (i := 0) (oi := ?oi0) (v := ?v0) ?hi0 ?hs0 ?hf0 ?hr0 ?hQ0 ?hy0 ?hS0 ?h0
      case hi0 => exact (by simp only [List.getElem?_toArray, List.getElem?_cons_zero]; rfl)
      case hs0 => kernel_rfl
      case hf0 => kernel_rfl
      case hr0 => kernel_rfl
      case hQ0 => exact fun _ _ _ h => h
      case hy0 =>
        refine Or.inl ⟨rfl, ?_⟩
        intro W hSw
        obtain ⟨y0, y1, y2⟩ := hSw
        go_simp
        try with_reducible rfl
      case hS0 => assumption
      try simp only [Act.put, List.setIfInBounds_toArray, List.set_cons_zero, List.set_cons_succ]
      refine wpAnyH_take (i := 1) (oi := ?oi1) (v := ?v1) ?hi1 ?hs1 ?hf1 ?hr1 ?hQ1 ?hy1 ?hS1 ?h1
      case hi1 => exact (by simp only [List.getElem?_toArray, List.getElem?_cons_succ, List.getElem?_cons_zero]; rfl)
      case hs1 => kernel_rfl
      case hf1 => kernel_rfl
      case hr1 => kernel_rfl
      case hQ1 => exact fun _ _ _ h => h
      case hy1 =>
        refine Or.inl ⟨rfl, ?_⟩
        intro W hSw
        obtain ⟨y0, y1, y2⟩ := hSw
        go_simp
        try with_reducible rfl
      case hS1 => assumption
      try simp only [Act.put, List.setIfInBounds_toArray, List.set_cons_zero, List.set_cons_succ]
      refine wpAnyH_take (i := 2) (oi := ?oi2) (v := ?v2) ?hi2 ?hs2 ?hf2 ?hr2 ?hQ2 ?hy2 ?hS2 ?h2
      case hi2 => exact (by simp only [List.getElem?_toArray, List.getElem?_cons_succ, List.getElem?_cons_zero]; rfl)
      case hs2 => kernel_rfl
      case hf2 => kernel_rfl
      case hr2 => kernel_rfl
      case hQ2 => exact fun _ _ _ h => h
      case hy2 =>
        refine Or.inl ⟨rfl, ?_⟩
        intro W hSw
        obtain ⟨y0, y1, y2⟩ := hSw
        go_simp
        try with_reducible rfl
      case hS2 => assumption
      try simp only [Act.put, List.setIfInBounds_toArray, List.set_cons_zero, List.set_cons_succ]
      refine wpAnyH_take (i := 3) (oi := ?oi3) (v := ?v3) ?hi3 ?hs3 ?hf3 ?hr3 ?hQ3 ?hy3 ?hS3 ?h3
      case hi3 => exact (by simp only [List.getElem?_toArray, List.getElem?_cons_succ, List.getElem?_cons_zero]; rfl)
      case hs3 => kernel_rfl
      case hf3 => kernel_rfl
      case hr3 => kernel_rfl
      case hQ3 => exact fun _ _ _ h => h
      case hy3 =>
        refine Or.inl ⟨rfl, ?_⟩
        intro W hSw
        obtain ⟨y0, y1, y2⟩ := hSw
        go_simp
        try with_reducible rfl
      case hS3 => assumption
      try simp only [Act.put, List.setIfInBounds_toArray, List.set_cons_zero, List.set_cons_succ]
      refine wpAnyH_take (i := 4) (oi := ?oi4) (v := ?v4) ?hi4 ?hs4 ?hf4 ?hr4 ?hQ4 ?hy4 ?hS4 ?h4
      case hi4 => exact (by simp only [List.getElem?_toArray, List.getElem?_cons_succ, List.getElem?_cons_zero]; rfl)
      case hs4 => kernel_rfl
      case hf4 => kernel_rfl
      case hr4 => kernel_rfl
      case hQ4 => exact fun _ _ _ h => h
      case hy4 =>
        refine Or.inl ⟨rfl, ?_⟩
        intro W hSw
        obtain ⟨y0, y1, y2⟩ := hSw
        go_simp
        try with_reducible rfl
      case hS4 => assumption
      try simp only [Act.put, List.setIfInBounds_toArray, List.set_cons_zero, List.set_cons_succ]
      refine wpAnyH_take (i := 5) (oi := ?oi5) (v := ?v5) ?hi5 ?hs5 ?hf5 ?hr5 ?hQ5 ?hy5 ?hS5 ?h5
      case hi5 => exact (by simp only [List.getElem?_toArray, List.getElem?_cons_succ, List.getElem?_cons_zero]; rfl)
      case hs5 => kernel_rfl
      case hf5 => kernel_rfl
      case hr5 => kernel_rfl
      case hQ5 => exact fun _ _ _ h => h
      case hy5 =>
        refine Or.inl ⟨rfl, ?_⟩
        intro W hSw
        obtain ⟨y0, y1, y2⟩ := hSw
        go_simp
        try with_reducible rfl
      case hS5 => assumption
      try simp only [Act.put, List.setIfInBounds_toArray, List.set_cons_zero, List.set_cons_succ]
      refine wpAnyH_take (i := 6) (oi := ?oi6) (v := ?v6) ?hi6 ?hs6 ?hf6 ?hr6 ?hQ6 ?hy6 ?hS6 ?h6
      case hi6 => exact (by simp only [List.getElem?_toArray, List.getElem?_cons_succ, List.getElem?_cons_zero]; rfl)
      case hs6 => kernel_rfl
      case hf6 => kernel_rfl
      case hr6 => kernel_rfl
      case hQ6 => exact fun _ _ _ h => h
      case hy6 =>
        refine Or.inl ⟨rfl, ?_⟩
        intro W hSw
        obtain ⟨y0, y1, y2⟩ := hSw
        go_simp
        try with_reducible rfl
      case hS6 => assumption
      try simp only [Act.put, List.setIfInBounds_toArray, List.set_cons_zero, List.set_cons_succ]
      refine wpAnyH_take (i := 7) (oi := ?oi7) (v := ?v7) ?hi7 ?hs7 ?hf7 ?hr7 ?hQ7 ?hy7 ?hS7 ?h7
      case hi7 => exact (by simp only [List.getElem?_toArray, List.getElem?_cons_succ, List.getElem?_cons_zero]; rfl)
      case hs7 => kernel_rfl
      case hf7 => kernel_rfl
      case hr7 => kernel_rfl
      case hQ7 => exact fun _ _ _ h => h
      case hy7 =>
        refine Or.inl ⟨rfl, ?_⟩
        intro W hSw
        obtain ⟨y0, y1, y2⟩ := hSw
        go_simp
        try with_reducible rfl
      case hS7 => assumption
      try simp only [Act.put, List.setIfInBounds_toArray, List.set_cons_zero, List.set_cons_succ]
      refine wpAnyH_take (i := 8) (oi := ?oi8) (v := ?v8) ?hi8 ?hs8 ?hf8 ?hr8 ?hQ8 ?hy8 ?hS8 ?h8
      case hi8 => exact (by simp only [List.getElem?_toArray, List.getElem?_cons_succ, List.getElem?_cons_zero]; rfl)
      case hs8 => kernel_rfl
      case hf8 => kernel_rfl
      case hr8 => kernel_rfl
      case hQ8 => exact fun _ _ _ h => h
      case hy8 =>
        refine Or.inl ⟨rfl, ?_⟩
        intro W hSw
        obtain ⟨y0, y1, y2⟩ := hSw
        go_simp
        try with_reducible rfl
      case hS8 => assumption
      try simp only [Act.put, List.setIfInBounds_toArray, List.set_cons_zero, List.set_cons_succ]
      refine wpAnyH_take (i := 9) (oi := ?oi9) (v := ?v9) ?hi9 ?hs9 ?hf9 ?hr9 ?hQ9 ?hy9 ?hS9 ?h9
      case hi9 => exact (by simp only [List.getElem?_toArray, List.getElem?_cons_succ, List.getElem?_cons_zero]; rfl)
      case hs9 => kernel_rfl
      case hf9 => kernel_rfl
      case hr9 => kernel_rfl
      case hQ9 => exact fun _ _ _ h => h
      case hy9 =>
        refine Or.inl ⟨rfl, ?_⟩
        intro W hSw
        obtain ⟨y0, y1, y2⟩ := hSw
        go_simp
        try with_reducible rfl
      case hS9 => assumption
      try simp only [Act.put, List.setIfInBounds_toArray, List.set_cons_zero, List.set_cons_succ]
      refine wpAnyH_take (i := 10) (oi := ?oi10) (v := ?v10) ?hi10 ?hs10 ?hf10 ?hr10 ?hQ10 ?hy10 ?hS10 ?h10
      case hi10 => exact (by simp only [List.getElem?_toArray, List.getElem?_cons_succ, List.getElem?_cons_zero]; rfl)
      case hs10 => kernel_rfl
      case hf10 => kernel_rfl
      case hr10 => kernel_rfl
      case hQ10 => exact fun _ _ _ h => h
      case hy10 =>
        refine Or.inl ⟨rfl, ?_⟩
        intro W hSw
        obtain ⟨y0, y1, y2⟩ := hSw
        go_simp
        try with_reducible rfl
      case hS10 => assumption
      try simp only [Act.put, List.setIfInBounds_toArray, List.set_cons_zero, List.set_cons_succ]
      refine wpAnyH_take (i := 11) (oi := ?oi11) (v := ?v11) ?hi11 ?hs11 ?hf11 ?hr11 ?hQ11 ?hy11 ?hS11 ?h11
      case hi11 => exact (by simp only [List.getElem?_toArray, List.getElem?_cons_succ, List.getElem?_cons_zero]; rfl)
      case hs11 => kernel_rfl
      case hf11 => kernel_rfl
      case hr11 => kernel_rfl
      case hQ11 => exact fun _ _ _ h => h
      case hy11 =>
        refine Or.inl ⟨rfl, ?_⟩
        intro W hSw
        obtain ⟨y0, y1, y2⟩ := hSw
        go_simp
        try with_reducible rfl
      case hS11 => assumption
      try simp only [Act.put, List.setIfInBounds_toArray, List.set_cons_zero, List.set_cons_succ]
      refine wpAnyH_ready (rs := [12]) (by kernel_rfl) (by simp) ?_
      refine AllReadyH.cons (o := _) rfl (fun K hK => ?_) AllReadyH.nil
      go_simp
      refine (HCin.out W0).mono ?_
      rintro r W1 ⟨rfl, hw1⟩
      have HB1 : Hid (Below w4.heap.size w4 W1) := by rw [hw1]; exact HD.out
      clear hw1
      refine hK.out _ _ (HCk.out _ (HB1.out)) (fun hHeld => ?_)
      clear hK K
      try simp only [Act.put, List.setIfInBounds_toArray, List.set_cons_zero, List.set_cons_succ]
      refine wpAnyH_take (i := 13) (oi := ?oi13) (v := ?v13) ?hi13 ?hs13 ?hf13 ?hr13 ?hQ13 ?hy13 ?hS13 ?h13
      case hi13 => exact (by simp only [List.getElem?_toArray, List.getElem?_cons_succ, List.getElem?_cons_zero]; rfl)
      case hs13 => kernel_rfl
      case hf13 => kernel_rfl
      case hr13 => kernel_rfl
      case hQ13 => exact fun _ _ _ h => h
      case hy13 =>
        refine Or.inl ⟨rfl, ?_⟩
        intro W hSw
        obtain ⟨y0, y1, y2⟩ := hSw
        go_simp
        try with_reducible rfl
      case hS13 => assumption
      try simp only [Act.put, List.setIfInBounds_toArray, List.set_cons_zero, List.set_cons_succ]
      refine wpAnyH_done (by kernel_rfl) ?_ _
      have hc := (HCA.out _ HB1.out).1
      cases b
      · go_wp2
        go_ret
        refine ⟨?_, HBF.out.trans (HB1.out.mono HBF.out.size)⟩
        rw [HW.out, keeps_first LK k _ HLk.out rfl HNE.out HP.out, keeps_keep HNE.out]
        rfl
      · go_wp2
        go_roundw
        case rel =>
          refine ⟨k + 1, by omega, by go_num, fun j q hj hq => ?_, HB1.out⟩
          by_cases hjk : j = k
          · subst hjk
            rw [HLk.out] at hq
            injection hq with hq
            rw [← hq]
          · exact HP.out j q (by omega) hq
        case measure => simp [intOf] <;> omega
    · have hk14 : k = 14 := by omega
      subst hk14
      have hall : keeps [] LK = [] := keeps_all LK (fun j q hq => HP.out j q (by have := (List.getElem?_eq_some_iff.1 hq).1; rw [HLL.out] at this; exact this) hq)
      have HR : Hid (rs = keeps [] (l.map fun m => (m.wrong, m.wrong.isEmpty))) := by rw [HW.out, hall]; exact rfl
      clear hall
      have c13 := HCE.out wr HV.out
      go_wp2_with fail
      go_loopw [9] (fun v wq => ∃ k : Nat, k ≤ n ∧ v = .int .i64 (k : Int) ∧ Hid (∀ j q, j < k → l[j]? = some q → q.wrong.isEmpty = true) ∧ Hid (Below w4.heap.size w4 wq)) (fun v _ => n - (intOf v).toNat)
      case atStart => exact ⟨0, by omega, rfl, fun j q hj => absurd hj (Nat.not_lt_zero j), HV.out⟩
      case round =>
        clear c13
        obtain ⟨k, hk, rfl, HP2, HV2⟩ := hrel
        have c13 := HCE.out wr HV2.out
        by_cases hlt : k < n
        · obtain ⟨⟨mk, mb, ms, mq, me⟩, hm⟩ : ∃ m, l[k]? = some m := ⟨l[k]'(by rw [← HN.out]; exact hlt), List.getElem?_eq_getElem _⟩
          obtain ⟨b1, o1, rfl, hb1, hat⟩ := HM.out (by have := HN.out; omega)
          obtain ⟨d0, d1, d2, d3, d4⟩ := (hat k _ hm).below HV2.out hb1
          obtain ⟨mw, hmw⟩ : ∃ mw, mw = wrongM mk mb ms mq me := ⟨_, rfl⟩
          have HWm : Hid (∀ W, Calls Try.prog 17 #[mV mk mb ms mq me] W fun r w' => r = .returned (sV mw) ∧ Below W.heap.size W w') := fun W => by rw [hmw]; exact rwrongM_any mk mb ms mq me W
          have HMk := Lib.hid hm
          have HMw := Lib.hid hmw
          clear hm hat hmw hb1
          go_wp2_with fail
          refine (HWm.out wr).mono ?_
          rintro r w5 ⟨rfl, hb5⟩
          have HV5 := Lib.hid (HV2.out.trans (hb5.mono HV2.out.size))
          clear hb5 c13 d0 d1 d2 d3 d4
          by_cases he : mw.isEmpty = true
          · go_wp2
            go_roundw
            case rel =>
              have hnx : ∀ j q, j < k + 1 → l[j]? = some q → q.wrong.isEmpty = true := fun j q hj hq => by
               by_cases hjk : j = k
               · subst hjk
                 rw [HMk.out] at hq
                 injection hq with hq
                 rw [← hq]
                 show (wrongM mk mb ms mq me).isEmpty = true
                 rw [← HMw.out]
                 exact he
               · exact HP2.out j q (by omega) hq
              exact ⟨_, _, _, _, _, _, _, _, _, _, _, _, _, _, _, _, _, _, _, ⟨k + 1, by omega, by go_num, hnx, HV5.out⟩, rfl⟩
            case measure => simp [intOf] <;> omega
          · have hef : mw.isEmpty = false := by simpa using he
            go_wp2
            go_ret
            refine ⟨?_, HBF.out.trans (HV5.out.mono HBF.out.size)⟩
            have hkk : (l.map fun m => (m.wrong, m.wrong.isEmpty))[k]? = some (mw, false) := by
              rw [List.getElem?_map, HMk.out]
              show some (wrongM mk mb ms mq me, (wrongM mk mb ms mq me).isEmpty) = _
              rw [← HMw.out, hef]
            rw [HR.out, keeps_first _ k _ hkk rfl (fun h => by simp only at h; rw [h] at hef; cases hef) (fun j q hj hq => by
              rw [List.getElem?_map] at hq
              obtain ⟨m, hm, rfl⟩ := Option.map_eq_some_iff.1 hq
              exact HP2.out j m hj hm)]
            rfl
        · go_wp2
          go_ret
          refine ⟨?_, HBF.out.trans (HV2.out.mono HBF.out.size)⟩
          rw [HR.out, keeps_all _ (fun j q hq => by
            rw [List.getElem?_map] at hq
            obtain ⟨m, hm, rfl⟩ := Option.map_eq_some_iff.1 hq
            exact HP2.out j m (by have := (List.getElem?_eq_some_iff.1 hm).1; have := HN.out; omega) hm)]
          rfl
end Go.Proofs.Ytpomddmeachbbaa
