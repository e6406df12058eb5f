/- Frames: however bytes are cut into pieces: the walk of FrameCut. -/
import Derived.Test.YtggoclmboemmlaaFH
namespace Go.Proofs.Ytggoclmboemmlaa
open Go.RowKit

set_option maxHeartbeats 4000000 in
set_option maxRecDepth 4000 in
theorem fcut_walk (v : Value) (n m : Nat) (b : List UInt8) (w : World) (hp : Pb w v b) (hpl : b.length ≤ 9223372036854775807) (hn : n < 256) (hm : m < 256) :
    Calls Try.prog 5 #[v, .int .u8 (n : Int), .int .u8 (m : Int)] w fun e w' => e = .returned (.bool true) ∧ Below w.heap.size w w' := by
  obtain ⟨A, c, rfl, hlc, _⟩ := id hp
  obtain ⟨l, hll⟩ : ∃ l, l = b.length := ⟨_, rfl⟩
  rw [← hll] at hp hpl hlc ⊢
  have HP := Lib.hid hp
  have HL := Lib.hid hll
  have HA := Lib.hid (fun (W : World) => awake_any W)
  clear hp hll
  go_enter Try.func5, Try.ntmps5
  by_cases hbig : 3000 < l
  · have t : decide ((l : Int) > 3000) = true := by rw [decide_eq_true_iff]; omega
    go_wp2_with fail
    go_ret
    exact ⟨rfl, Below.refl _ _⟩
  have t : decide ((l : Int) > 3000) = false := by rw [decide_eq_false_iff_not]; omega
  obtain ⟨n1, hn1⟩ : ∃ n1, n1 = 1 + n := ⟨_, rfl⟩
  obtain ⟨m8, hm8⟩ : ∃ m8, m8 = m % 8 := ⟨_, rfl⟩
  obtain ⟨m1, hm1⟩ : ∃ m1, m1 = 1 + m8 := ⟨_, rfl⟩
  have en : (1 + (n : Int)) = (n1 : Int) := by omega
  have em8 : ((m : Int) % 8) = (m8 : Int) := by omega
  have em : (1 + (m8 : Int)) = (m1 : Int) := by omega
  have HB3 := Lib.hid (show b.length ≤ 3000 by rw [← HL.out]; omega)
  have hm8b : m8 < 8 := by omega
  have hcn := fun (W : World) (hb : Below w.heap.size w W) => cut_any _ b n1 W (HP.out.below hb) (by omega) (by omega) HB3.out
  have hcm := fun (W : World) (hb : Below w.heap.size w W) => cut_any _ b m1 W (HP.out.below hb) (by omega) (by omega) HB3.out
  have hfd := feeds_any _ [b] _ (pbs_one HP.out) (by simp; have := HB3.out; omega) (by simp)
  rw [show [b].flatten = b by simp] at hfd
  have hpf := parse_few b
  obtain ⟨q, hq⟩ : ∃ q, q = parse b := ⟨_, rfl⟩
  rw [← hq] at hpf
  obtain ⟨fs, r, d⟩ := q
  obtain ⟨rl, hrl⟩ : ∃ rl, rl = r.length := ⟨_, rfl⟩
  have hpost : ∀ (W : World) (e : Ending) (W' : World), FdPost W b e W' → ∃ A n c vs, e = .returned (.tuple #[.slice A n c, .int .i64 (rl : Int), .bool d]) ∧ Frs W' W.heap.size (.slice A n c) fs vs ∧ Below W.heap.size W W' := by
    rintro W e W' ⟨A, n, c, vs, h1, h2, h3⟩
    rw [← hq] at h1 h2
    exact ⟨A, n, c, vs, by rw [hrl]; exact h1, h2, h3⟩
  have HPO := Lib.hid hpost
  have HFL := Lib.hid (show fs.length ≤ 3000 by have := HB3.out; simp at hpf; omega)
  have HCN := Lib.hid hcn
  have HCM := Lib.hid hcm
  have HFD := Lib.hid hfd
  have HBA := Lib.hid (show Below w.heap.size w (w.alloc (.cells #[.slice A l c] 24)) from (Below.refl _ _).alloc (Nat.le_refl _) _)
  clear hcn hcm hfd hq hrl hpf hpost hbig hn1 hm1 hm8
  go_wp2_with fail
  refine HFD.out.mono ?_
  intro e w1 hx
  obtain ⟨A1, k1, c1, vs1, rfl, hf1, hb1⟩ := HPO.out _ _ _ hx
  have HB1 := Lib.hid (HBA.out.trans (hb1.mono HBA.out.size))
  have HF1 := Lib.hid hf1
  clear hx hf1 hb1 HFD HBA
  go_wp2_with fail
  refine (HCN.out w1 HB1.out).mono ?_
  rintro e w2 ⟨A2, k2, c2, ps2, rfl, hps2, hfl2, hpl2, hb2⟩
  have hfd := feeds_any _ ps2 w2 hps2 (by rw [hfl2]; have := HB3.out; omega) (by omega)
  rw [hfl2] at hfd
  have HFD := Lib.hid hfd
  have HB2 := Lib.hid (HB1.out.trans (hb2.mono HB1.out.size))
  have HF2 := Lib.hid (HF1.out.below_frs (Nat.le_refl _) (Kp.of_below _ hb2))
  clear hfd hps2 hfl2 hpl2 hb2 HB1 HF1 HCN
  go_wp2_with fail
  refine HFD.out.mono ?_
  intro e w3 hx
  obtain ⟨A3, k3, c3, vs3, rfl, hf3, hb3⟩ := HPO.out _ _ _ hx
  have HB3' := Lib.hid (HB2.out.trans (hb3.mono HB2.out.size))
  have HF3 := Lib.hid (HF2.out.below_frs (Nat.le_refl _) (Kp.of_below _ hb3))
  have HG3 := Lib.hid hf3
  clear hx hf3 hb3 HFD HB2 HF2
  go_wp2_with fail
  refine (HCM.out w3 HB3'.out).mono ?_
  rintro e w4 ⟨A4, k4, c4, ps4, rfl, hps4, hfl4, hpl4, hb4⟩
  have hfd := feeds_any _ ps4 w4 hps4 (by rw [hfl4]; have := HB3.out; omega) (by omega)
  rw [hfl4] at hfd
  have HFD := Lib.hid hfd
  have HB4 := Lib.hid (HB3'.out.trans (hb4.mono HB3'.out.size))
  have HF4 := Lib.hid (HF3.out.below_frs (Nat.le_refl _) (Kp.of_below _ hb4))
  have HG4 := Lib.hid (HG3.out.below_frs (Nat.le_refl _) (Kp.of_below _ hb4))
  clear hfd hps4 hfl4 hpl4 hb4 HB3' HF3 HG3 HCM
  go_wp2_with fail
  refine HFD.out.mono ?_
  intro e w5 hx
  obtain ⟨A5, k5, c5, vs5, rfl, hf5, hb5⟩ := HPO.out _ _ _ hx
  have HB5 := Lib.hid (HB4.out.trans (hb5.mono HB4.out.size))
  have hF5 := HF4.out.below_frs (Nat.le_refl _) (Kp.of_below _ hb5)
  have hG5 := HG4.out.below_frs (Nat.le_refl _) (Kp.of_below _ hb5)
  have hs1 := same_any _ _ fs fs w5 hF5.pbs hG5.pbs (by have := HFL.out; omega) (by have := HFL.out; omega)
  have hs2 := fun (W : World) (hb : Below w5.heap.size w5 W) => same_any _ _ fs fs W (hF5.below_frs (Nat.le_refl _) (Kp.of_below _ hb)).pbs (hf5.below_frs (Nat.le_refl _) (Kp.of_below _ hb)).pbs (by have := HFL.out; omega) (by have := HFL.out; omega)
  rw [decide_eq_true rfl] at hs1 hs2
  have HS1 := Lib.hid hs1
  have HS2 := Lib.hid hs2
  clear hs1 hs2 hF5 hG5 hf5 hb5 hx HFD HB4 HF4 HG4 HPO
  go_wp2_with fail
  refine HS1.out.mono ?_
  rintro e w6 ⟨rfl, hb6⟩
  have HS6 := Lib.hid (HS2.out w6 hb6)
  have HB6 := Lib.hid (HB5.out.trans (hb6.mono HB5.out.size))
  clear hb6 HS1 HS2 HB5
  go_wp2_with fail
  refine HS6.out.mono ?_
  rintro e w7 ⟨rfl, hb7⟩
  have HB7 := Lib.hid (HB6.out.trans (hb7.mono HB6.out.size))
  clear hb7 HS6 HB6
  go_wp2_with fail
  refine (HA.out w7).mono ?_
  rintro e w8 ⟨rfl, hb8⟩
  have HB8 := Lib.hid (HB7.out.trans (hb8.mono HB7.out.size))
  clear hb8
  go_wp2_with fail
  go_ret
  exact ⟨rfl, HB8.out⟩
end Go.Proofs.Ytggoclmboemmlaa
