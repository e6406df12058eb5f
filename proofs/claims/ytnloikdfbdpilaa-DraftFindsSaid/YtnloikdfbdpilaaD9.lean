/- Draft: parted. -/
import Derived.Test.YtnloikdfbdpilaaD8
namespace Go.Proofs.Ytnloikdfbdpilaa
open Go.RowKit
set_option maxRecDepth 20000

/-- How far apart the teams of a way are. -/
def apart (l : List En) (way : Nat) : Int := dist (sumW (sA way l.length l)) (sumW (sB way l.length l))
/-- Are both teams of a way full? -/
def goodW (k : Int) (l : List En) (way : Nat) : Bool := fullP k (sA way l.length l) && fullP k (sB way l.length l)
/-- One more way is looked at. -/
def bstep (k : Int) (l : List En) (s : Nat × Int × Bool) (way : Nat) : Nat × Int × Bool :=
  if goodW k l way = true ∧ (s.2.2 = false ∨ apart l way < s.2.1) then (way, apart l way, true) else s
def bests (k : Int) (l : List En) (j : Nat) : Nat × Int × Bool := (List.range j).foldl (bstep k l) (0, 0, false)
theorem bests_succ (k : Int) (l : List En) (j : Nat) : bests k l (j + 1) = bstep k l (bests k l j) j := by
  unfold bests
  rw [List.range_succ, List.foldl_append]
  rfl
/-- How many ways there are. -/
def ways (n : Nat) : Nat := 2 ^ n / 2
/-- The teams as places. -/
def partP (k : Int) (l : List En) : Option (List Int × List Int) :=
  if (bests k l (ways l.length)).2.2 then some ((sA (bests k l (ways l.length)).1 l.length l).map (·.p), (sB (bests k l (ways l.length)).1 l.length l).map (·.p)) else none
theorem sA_mem {way n : Nat} {l : List En} {e : En} (h : e ∈ sA way n l) : e ∈ l := by
  obtain ⟨⟨a, i⟩, hx, rfl⟩ := List.mem_map.1 h
  have := (List.mem_filter.1 hx).1
  exact (List.mem_zipIdx this).2.2 ▸ List.getElem_mem _
theorem sB_mem {way n : Nat} {l : List En} {e : En} (h : e ∈ sB way n l) : e ∈ l := by
  obtain ⟨⟨a, i⟩, hx, rfl⟩ := List.mem_map.1 h
  have := (List.mem_filter.1 hx).1
  exact (List.mem_zipIdx this).2.2 ▸ List.getElem_mem _
/-- A split that is told, as two rows of places, or none. -/
def Spl (w : World) (lo : Nat) (r : Value) (o : Option (List Int × List Int)) : Prop :=
  ∃ A1 c1 A2 c2, r = .tuple #[.agg #[.slice A1 (o.getD ([], [])).1.length c1, .slice A2 (o.getD ([], [])).2.length c2], .bool o.isSome] ∧ Zs w w.heap.size A1 (o.getD ([], [])).1 ∧ Zs w w.heap.size A2 (o.getD ([], [])).2 ∧ (∀ a, A1 = some a → lo ≤ a.block) ∧ ∀ a, A2 = some a → lo ≤ a.block

theorem ways_spell (n : Nat) (h : n ≤ 8) : wrap64 ((wrap64 (2 ^ n)).tdiv 2) = (ways n : Int) := by
  obtain rfl | rfl | rfl | rfl | rfl | rfl | rfl | rfl | rfl : n = 0 ∨ n = 1 ∨ n = 2 ∨ n = 3 ∨ n = 4 ∨ n = 5 ∨ n = 6 ∨ n = 7 ∨ n = 8 := by omega
  all_goals decide +kernel
theorem ways_bd (n : Nat) (h : n ≤ 8) : ways n ≤ 128 := by
  obtain rfl | rfl | rfl | rfl | rfl | rfl | rfl | rfl | rfl : n = 0 ∨ n = 1 ∨ n = 2 ∨ n = 3 ∨ n = 4 ∨ n = 5 ∨ n = 6 ∨ n = 7 ∨ n = 8 := by omega
  all_goals decide +kernel
theorem spl_none (w : World) (lo : Nat) : Spl w lo (.tuple #[.agg #[.slice none 0 0, .slice none 0 0], .bool false]) none := ⟨none, 0, none, 0, rfl, Zs.nil, Zs.nil, fun a h => (by cases h), fun a h => (by cases h)⟩

set_option maxHeartbeats 8000000 in
theorem parted_any (k : Int) (A : Option Addr) (n c : Nat) (l : List En) (w : World) (hn : n = l.length) (hE : Es w w.heap.size A l) (hO : ∀ e ∈ l, Ok e) (hl : n ≤ 8) :
    Calls Try.prog 32 #[.int .i64 k, .slice A n c] w fun r w' => (∃ v, r = .returned v ∧ Spl w' w.heap.size v (partP k l)) ∧ Below w.heap.size w w' := by
  obtain ⟨w0, hw0⟩ : ∃ w0, w0 = w.alloc (.cells #[.slice none 0 0, .slice none 0 0] 40) := ⟨_, rfl⟩
  have hb0 : Below w.heap.size w w0 := by rw [hw0]; exact (Below.refl _ _).alloc (Nat.le_refl _) _
  have hq0 : w0.heap[w.heap.size]? = some (.cells #[.slice none 0 0, .slice none 0 0] 40 (0, 0)) := by rw [hw0]; exact heap_alloc_new w _
  have H0 := Lib.hid hw0
  have HB0 := Lib.hid hb0
  have HQ0 := Lib.hid hq0
  have HSP := Lib.hid (ways_spell n hl)
  have hN := ways_bd n hl
  obtain ⟨N, hNe⟩ : ∃ N, N = ways n := ⟨_, rfl⟩
  rw [← hNe] at HSP hN
  have HNW := Lib.hid hNe
  have HSD : Hid (∀ (j : Nat) W, j < N → Below w.heap.size w W → Calls Try.prog 41 #[.int .i64 (j : Int), .slice A n c] W fun r w' => (∃ A1 c1 A2 c2, r = .returned (.tuple #[.slice A1 (sA j n l).length c1, .slice A2 (sB j n l).length c2]) ∧ Es w' w'.heap.size A1 (sA j n l) ∧ Es w' w'.heap.size A2 (sB j n l)) ∧ Below W.heap.size W w') := fun j W hj hW =>
    sides_any j A n c l W hn (hE.later hW (Nat.le_refl _)) (by omega) (by omega)
  have HTG : Hid (∀ W (A' : Option Addr) (c' : Nat) (l' : List En), l'.length ≤ n → (∀ e ∈ l', e ∈ l) → Es W W.heap.size A' l' → Calls Try.prog 42 #[.slice A' l'.length c'] W fun r w' => r = .returned (tV (sumN l') (sumW l')) ∧ Below W.heap.size W w') := fun W A' c' l' h1 h2 h3 =>
    together_any A' _ c' l' W rfl h3 (fun e he => hO e (h2 e he)) (by omega)
  have HFU : Hid (∀ W (A' : Option Addr) (c' : Nat) (l' : List En), l'.length ≤ n → (∀ e ∈ l', e ∈ l) → Es W W.heap.size A' l' → Calls Try.prog 43 #[.int .i64 k, .slice A' l'.length c'] W fun r w' => r = .returned (.bool (fullP k l')) ∧ Below W.heap.size W w') := fun W A' c' l' h1 h2 h3 =>
    full_any k A' _ c' l' W rfl h3 (fun e he => hO e (h2 e he)) (by omega)
  have HSW : Hid (∀ l' : List En, l'.length ≤ n → (∀ e ∈ l', e ∈ l) → 0 ≤ sumW l' ∧ sumW l' ≤ 800000) := fun l' h1 h2 => by
    have := (sum_bd l' fun e he => hO e (h2 e he)).2
    omega
  have HLN : Hid (∀ j, (sA j n l).length ≤ n ∧ (sB j n l).length ≤ n) := fun j => ⟨hn ▸ sA_len j n l, hn ▸ sB_len j n l⟩
  have HPL : Hid (∀ W (A' : Option Addr) (c' : Nat) (l' : List En), l'.length ≤ n → Es W W.heap.size A' l' → Calls Try.prog 44 #[.slice A' l'.length c'] W fun r w' => (∃ A1 c1, r = .returned (.slice A1 l'.length c1) ∧ A1 = some ⟨W.heap.size, 0, none⟩ ∧ Zs w' w'.heap.size A1 (l'.map (·.p))) ∧ Below W.heap.size W w') := fun W A' c' l' h1 h3 =>
    places_any A' _ c' l' W rfl h3 (by omega)
  have HBS : Hid (∀ j, bests k l (j + 1) = if (fullP k (sA j n l) && fullP k (sB j n l)) = true ∧ ((bests k l j).2.2 = false ∨ dist (sumW (sA j n l)) (sumW (sB j n l)) < (bests k l j).2.1) then (j, dist (sumW (sA j n l)) (sumW (sB j n l)), true) else bests k l j) := fun j => by rw [bests_succ, hn]; rfl
  have HPP : Hid (partP k l = if (bests k l N).2.2 then some ((sA (bests k l N).1 n l).map (·.p), (sB (bests k l N).1 n l).map (·.p)) else none) := by simp only [Hid]; rw [hNe, hn]; rfl
  have HBL : Hid (∀ j, (bests k l j).2.2 = true → (bests k l j).1 < j) := fun j => by
    induction j with
    | zero => intro h; simp [bests] at h
    | succ j ih =>
      rw [bests_succ]
      unfold bstep
      split
      · intro _; exact Nat.lt_succ_self j
      · intro h; exact Nat.lt_succ_of_lt (ih h)
  have HEE := Lib.hid hE
  clear hw0 hb0 hq0 hn hE hO hNe
  obtain ⟨res, hres⟩ : ∃ res, res = partP k l := ⟨_, rfl⟩
  rw [← hres] at HPP ⊢
  clear hres
  go_enter Try.func32, Try.ntmps32
  go_upto_region 1 with (fail)
  rw [← H0.out]
  go_upto_region 3 with (fail)
  rw [HSP.out]
  go_loopw [6, 7, 8, 19] (fun ub um uf u wr => ∃ (j b : Nat) (m : Int) (f : Bool), j ≤ N ∧ u = .int .i64 (j : Int) ∧ ub = .int .i64 (b : Int) ∧ um = .int .i64 m ∧ uf = .bool f ∧ Hid (bests k l j = (b, m, f) ∧ Below w.heap.size w wr ∧ wr.heap[w.heap.size]? = some (.cells #[.slice none 0 0, .slice none 0 0] 40 (0, 0)))) (fun _ _ _ u _ => N - (intOf u).toNat)
  case atStart => exact ⟨0, 0, 0, false, by omega, rfl, rfl, rfl, rfl, rfl, HB0.out, HQ0.out⟩
  case round =>
    obtain ⟨j, b, m, f, hj, rfl, rfl, rfl, rfl, HV⟩ := hrel
    by_cases hlt : j < N
    · have HL1 := Lib.hid (HLN.out j).1
      have HL2 := Lib.hid (HLN.out j).2
      have HM1 : Hid (∀ e ∈ sA j n l, e ∈ l) := fun e he => sA_mem he
      have HM2 : Hid (∀ e ∈ sB j n l, e ∈ l) := fun e he => sB_mem he
      have HST := Lib.hid (HBS.out j)
      rw [HV.out.1] at HST
      have HSC := Lib.hid (HSD.out j wr hlt HV.out.2.1)
      obtain ⟨la, hla⟩ : ∃ la, la = sA j n l := ⟨_, rfl⟩
      obtain ⟨lb, hlb⟩ : ∃ lb, lb = sB j n l := ⟨_, rfl⟩
      rw [← hla] at HL1 HM1 HST HSC
      rw [← hlb] at HL2 HM2 HST HSC
      have hX := HSW.out la HL1.out HM1.out
      have hY := HSW.out lb HL2.out HM2.out
      clear hla hlb
      obtain ⟨X, hXe⟩ : ∃ X, X = sumW la := ⟨_, rfl⟩
      obtain ⟨Y, hYe⟩ : ∃ Y, Y = sumW lb := ⟨_, rfl⟩
      rw [← hXe] at hX HST
      rw [← hYe] at hY HST
      have hd : 0 ≤ dist X Y ∧ dist X Y ≤ 800000 := by unfold dist; omega
      have HD : Hid (∀ W, Calls Try.prog 40 #[.int .i64 X, .int .i64 Y] W fun r w' => r = .returned (.int .i64 (dist X Y)) ∧ w' = W) := fun W => dist_any X Y W (by omega) (by omega)
      obtain ⟨d, hde⟩ : ∃ d, d = dist X Y := ⟨_, rfl⟩
      rw [← hde] at hd HST HD
      have HT1 : Hid (∀ W (A' : Option Addr) (c' : Nat), Es W W.heap.size A' la → Calls Try.prog 42 #[.slice A' la.length c'] W fun r w' => r = .returned (tV (sumN la) X) ∧ Below W.heap.size W w') := fun W A' c' h => by rw [hXe]; exact HTG.out W A' c' la HL1.out HM1.out h
      have HT2 : Hid (∀ W (A' : Option Addr) (c' : Nat), Es W W.heap.size A' lb → Calls Try.prog 42 #[.slice A' lb.length c'] W fun r w' => r = .returned (tV (sumN lb) Y) ∧ Below W.heap.size W w') := fun W A' c' h => by rw [hYe]; exact HTG.out W A' c' lb HL2.out HM2.out h
      obtain ⟨g1, hg1⟩ : ∃ g, g = fullP k la := ⟨_, rfl⟩
      obtain ⟨g2, hg2⟩ : ∃ g, g = fullP k lb := ⟨_, rfl⟩
      have HF1 : Hid (∀ W (A' : Option Addr) (c' : Nat), Es W W.heap.size A' la → Calls Try.prog 43 #[.int .i64 k, .slice A' la.length c'] W fun r w' => r = .returned (.bool g1) ∧ Below W.heap.size W w') := fun W A' c' h => by rw [hg1]; exact HFU.out W A' c' la HL1.out HM1.out h
      have HF2 : Hid (∀ W (A' : Option Addr) (c' : Nat), Es W W.heap.size A' lb → Calls Try.prog 43 #[.int .i64 k, .slice A' lb.length c'] W fun r w' => r = .returned (.bool g2) ∧ Below W.heap.size W w') := fun W A' c' h => by rw [hg2]; exact HFU.out W A' c' lb HL2.out HM2.out h
      rw [← hg1, ← hg2] at HST
      have hFX := field_w (sumN la) X
      have hFY := field_w (sumN lb) Y
      have HHQ := Lib.hid HV.out.2.2
      clear hXe hYe hde hg1 hg2
      go_wp2_with fail
      refine HSC.out.mono ?_
      rintro r w1 ⟨⟨A1, c1, A2, c2, rfl, he1, he2⟩, hb⟩
      have HB1 := Lib.hid (HV.out.2.1.trans (hb.mono HV.out.2.1.size))
      have HQ1 : Hid (w1.heap[w.heap.size]? = some (.cells #[.slice none 0 0, .slice none 0 0] 40 (0, 0))) := (hb.block _ (lt_of_block HHQ.out)).trans HHQ.out
      have HE1 := Lib.hid he1
      have HE2 := Lib.hid he2
      clear hb he1 he2
      go_wp2_with fail
      refine (HT1.out w1 A1 c1 HE1.out).mono ?_
      rintro r w2 ⟨rfl, hb⟩
      have HB2 := Lib.hid hb
      clear hb
      go_wp2_with fail
      refine (HT2.out w2 A2 c2 (HE2.out.later HB2.out (Nat.le_refl _))).mono ?_
      rintro r w3 ⟨rfl, hb⟩
      have HB3 := Lib.hid (HB2.out.trans (hb.mono HB2.out.size))
      clear hb
      go_wp2_with fail
      refine (HD.out w3).mono ?_
      rintro r w' ⟨rfl, rfl⟩
      go_wp2_with fail
      refine (HF1.out w' A1 c1 (HE1.out.later HB3.out (Nat.le_refl _))).mono ?_
      rintro r w4 ⟨rfl, hb⟩
      have HB4 := Lib.hid (HB3.out.trans (hb.mono HB3.out.size))
      clear hb
      have HR4 : Hid (Below w.heap.size w w4 ∧ w4.heap[w.heap.size]? = some (.cells #[.slice none 0 0, .slice none 0 0] 40 (0, 0))) := ⟨HB1.out.trans (HB4.out.mono HB1.out.size), (HB4.out.block _ (lt_of_block HQ1.out)).trans HQ1.out⟩
      cases g1
      · have HS : Hid (bests k l (j + 1) = (b, m, f)) := by simp only [Hid]; rw [HST.out]; simp
        go_wp2
        go_roundw
        case rel => exact ⟨j + 1, b, m, f, by omega, by go_num, rfl, rfl, rfl, HS.out, HR4.out⟩
        case measure => simp [intOf] <;> omega
      · go_wp2_with fail
        refine (HF2.out w4 A2 c2 (HE2.out.later HB4.out (Nat.le_refl _))).mono ?_
        rintro r w5 ⟨rfl, hb⟩
        have HR5 : Hid (Below w.heap.size w w5 ∧ w5.heap[w.heap.size]? = some (.cells #[.slice none 0 0, .slice none 0 0] 40 (0, 0))) := ⟨HR4.out.1.trans (hb.mono HR4.out.1.size), (hb.block _ (lt_of_block HR4.out.2)).trans HR4.out.2⟩
        clear hb
        cases g2
        · have HS : Hid (bests k l (j + 1) = (b, m, f)) := by simp only [Hid]; rw [HST.out]; simp
          cases f
          all_goals
            go_wp2
            all_goals
              go_roundw
              case rel => exact ⟨j + 1, b, m, _, by omega, by go_num, rfl, rfl, rfl, HS.out, HR5.out⟩
              case measure => simp [intOf] <;> omega
        · cases f
          · have HS : Hid (bests k l (j + 1) = (j, d, true)) := by simp only [Hid]; rw [HST.out]; simp
            go_wp2
            go_roundw
            case rel => exact ⟨j + 1, j, d, true, by omega, by go_num, rfl, rfl, rfl, HS.out, HR5.out⟩
            case measure => simp [intOf] <;> omega
          · by_cases hdm : d < m
            · have HS : Hid (bests k l (j + 1) = (j, d, true)) := by simp only [Hid]; rw [HST.out]; simp [hdm]
              go_wp2
              go_roundw
              case rel => exact ⟨j + 1, j, d, true, by omega, by go_num, rfl, rfl, rfl, HS.out, HR5.out⟩
              case measure => simp [intOf] <;> omega
            · have HS : Hid (bests k l (j + 1) = (b, m, true)) := by simp only [Hid]; rw [HST.out]; simp [hdm]
              go_wp2
              go_roundw
              case rel => exact ⟨j + 1, b, m, true, by omega, by go_num, rfl, rfl, rfl, HS.out, HR5.out⟩
              case measure => simp [intOf] <;> omega
    · have hjN : j = N := by omega
      subst hjN
      rw [HV.out.1] at HPP
      have zf : ∀ i, wr.frozen? ⟨w.heap.size, i, none⟩ = false := fun i => frozen_of_row wr _ i _ _ HV.out.2.2
      have z0 := cell_of_row wr w.heap.size 0 _ _ _ HV.out.2.2
      have z1 := cell_of_row wr w.heap.size 1 _ _ _ HV.out.2.2
      simp at z0 z1
      cases f
      · have HRR : Hid (res = none) := by simp only [Hid]; rw [HPP.out]; rfl
        have hT := two (.slice none 0 0) (.slice none 0 0) HV.out.2.2
        have HBB := Lib.hid ((HV.out.2.1.setCell (p := ⟨w.heap.size, 0, none⟩) (Nat.le_refl _) (.slice none 0 0)).setCell (p := ⟨w.heap.size, 1, none⟩) (Nat.le_refl _) (.slice none 0 0))
        have e0 := cell_of_row _ w.heap.size 0 _ _ _ hT
        have e1 := cell_of_row _ w.heap.size 1 _ _ _ hT
        simp at e0 e1
        have HZ := Lib.hid (And.intro e0 e1)
        clear hT e0 e1
        go_wp2
        obtain ⟨e0, e1⟩ := HZ.out
        exact bodyPost_ret (v := .tuple #[.agg #[.slice none 0 0, .slice none 0 0], .bool false]) (by simp [results, Try.results32, go_sem, e0, e1]) rfl ⟨⟨_, rfl, by rw [HRR.out]; exact spl_none _ _⟩, HBB.out⟩
      · have hbj : b < j := by
          have := HBL.out j
          rw [HV.out.1] at this
          exact this rfl
        have HRR : Hid (res = some ((sA b n l).map (·.p), (sB b n l).map (·.p))) := by simp only [Hid]; rw [HPP.out]; rfl
        have HL1 := Lib.hid (HLN.out b).1
        have HL2 := Lib.hid (HLN.out b).2
        have HSC := Lib.hid (HSD.out b wr hbj HV.out.2.1)
        obtain ⟨la, hla⟩ : ∃ la, la = sA b n l := ⟨_, rfl⟩
        obtain ⟨lb, hlb⟩ : ∃ lb, lb = sB b n l := ⟨_, rfl⟩
        rw [← hla] at HL1 HSC HRR
        rw [← hlb] at HL2 HSC HRR
        have HHQ := Lib.hid HV.out.2.2
        clear hla hlb z0 z1 zf
        go_wp2_with fail
        refine HSC.out.mono ?_
        rintro r w1 ⟨⟨A1, c1, A2, c2, rfl, he1, he2⟩, hb⟩
        have HB1 := Lib.hid (HV.out.2.1.trans (hb.mono HV.out.2.1.size))
        have HQ1 : Hid (w1.heap[w.heap.size]? = some (.cells #[.slice none 0 0, .slice none 0 0] 40 (0, 0))) := (hb.block _ (lt_of_block HHQ.out)).trans HHQ.out
        have HE1 := Lib.hid he1
        have HE2 := Lib.hid he2
        clear hb he1 he2
        go_wp2_with fail
        refine (HPL.out w1 A1 c1 la HL1.out HE1.out).mono ?_
        rintro r w2 ⟨⟨B1, d1, rfl, rfl, hz1⟩, hb⟩
        have HB2 := Lib.hid hb
        have HZ1 := Lib.hid hz1
        clear hb hz1
        go_wp2_with fail
        refine (HPL.out w2 A2 c2 lb HL2.out (HE2.out.later HB2.out (Nat.le_refl _))).mono ?_
        rintro r w3 ⟨⟨B2, d2, rfl, rfl, hz2⟩, hb⟩
        have HZ2 := Lib.hid hz2
        have HZ13 := Lib.hid (HZ1.out.later hb (Nat.le_refl _))
        have HB3 := Lib.hid (HB2.out.trans (hb.mono HB2.out.size))
        have HQ3 : Hid (w3.heap[w.heap.size]? = some (.cells #[.slice none 0 0, .slice none 0 0] 40 (0, 0))) := (HB3.out.block _ (lt_of_block HQ1.out)).trans HQ1.out
        have HR3 : Hid (Below w.heap.size w w3) := HB1.out.trans (HB3.out.mono HB1.out.size)
        clear hb hz2
        have zf : ∀ i, w3.frozen? ⟨w.heap.size, i, none⟩ = false := fun i => frozen_of_row w3 _ i _ _ HQ3.out
        have z0 := cell_of_row w3 w.heap.size 0 _ _ _ HQ3.out
        have z1 := cell_of_row w3 w.heap.size 1 _ _ _ HQ3.out
        simp at z0 z1
        have hT := two (.slice (some ⟨w1.heap.size, 0, none⟩) la.length d1) (.slice (some ⟨w2.heap.size, 0, none⟩) lb.length d2) HQ3.out
        have HBB := Lib.hid ((HR3.out.setCell (p := ⟨w.heap.size, 0, none⟩) (Nat.le_refl _) (.slice (some ⟨w1.heap.size, 0, none⟩) la.length d1)).setCell (p := ⟨w.heap.size, 1, none⟩) (Nat.le_refl _) (.slice (some ⟨w2.heap.size, 0, none⟩) lb.length d2))
        have HZZ : Hid (Zs ((w3.setCell ⟨w.heap.size, 0, none⟩ (.slice (some ⟨w1.heap.size, 0, none⟩) la.length d1)).setCell ⟨w.heap.size, 1, none⟩ (.slice (some ⟨w2.heap.size, 0, none⟩) lb.length d2)) w3.heap.size (some ⟨w1.heap.size, 0, none⟩) (la.map (·.p)) ∧ Zs ((w3.setCell ⟨w.heap.size, 0, none⟩ (.slice (some ⟨w1.heap.size, 0, none⟩) la.length d1)).setCell ⟨w.heap.size, 1, none⟩ (.slice (some ⟨w2.heap.size, 0, none⟩) lb.length d2)) w3.heap.size (some ⟨w2.heap.size, 0, none⟩) (lb.map (·.p))) := by
          have h1 := lt_of_block HQ1.out
          have h2 := HB2.out.size
          exact ⟨(HZ13.out.set (by omega)).set (by omega), (HZ2.out.set (by omega)).set (by omega)⟩
        have e0 := cell_of_row _ w.heap.size 0 _ _ _ hT
        have e1 := cell_of_row _ w.heap.size 1 _ _ _ hT
        simp at e0 e1
        have HZ := Lib.hid (And.intro e0 e1)
        clear hT e0 e1
        go_wp2
        obtain ⟨e0, e1⟩ := HZ.out
        exact bodyPost_ret (v := .tuple #[.agg #[.slice (some ⟨w1.heap.size, 0, none⟩) la.length d1, .slice (some ⟨w2.heap.size, 0, none⟩) lb.length d2], .bool true]) (by simp [results, Try.results32, go_sem, e0, e1]) rfl ⟨⟨_, rfl, by
          rw [HRR.out]
          exact ⟨some ⟨w1.heap.size, 0, none⟩, d1, some ⟨w2.heap.size, 0, none⟩, d2, by simp, by simpa using HZZ.out.1, by simpa using HZZ.out.2, fun a h => (by injection h with h; rw [← h]; exact HB1.out.size), fun a h => (by injection h with h; rw [← h]; exact Nat.le_trans HB1.out.size HB2.out.size)⟩⟩, HBB.out⟩
end Go.Proofs.Ytnloikdfbdpilaa
