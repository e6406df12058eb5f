/- Sort at uint32: choosePivot. -/
import Derived.Test.YtemjmnpclknfaaaGreatZ7
namespace Go.Proofs.YtemjmnpclknfaaaGreat.Z
open Go.RowKit
set_option maxRecDepth 20000
set_option linter.unusedVariables false

/-- What choosePivot leaves. -/
def CpPost (w0 : World) (g : Nat) (pre post : List Value) (d : Array Nat) (lo hi : Nat) (r : Ending) (w' : World) : Prop :=
  ∃ (x : Nat) (z : Int), r = .returned (.tuple #[.int .i64 (x : Int), .int .i64 z]) ∧ lo ≤ x ∧ x < hi ∧ Sr w0 g pre post d w'

set_option maxHeartbeats 8000000 in
theorem cp_any (a b g o n cap : Nat) (pre post : List Value) (d : Array Nat) (w0 w : World) (h : Sr w0 g pre post d w) (ho : o = pre.length) (hn : n = d.size) (hab : a + 8 ≤ b) (hb : b ≤ n) (hsz : n < 1000000000) :
    Calls Tryz.prog 102 #[.slice (some ⟨g, o, none⟩) n cap, .int .i64 (a : Int), .int .i64 (b : Int)] w (CpPost w0 g pre post d a b) := by
  have HN := Lib.hid h
  have HO := Lib.hid ho
  have HD := Lib.hid hn
  obtain ⟨l, hl⟩ : ∃ l, l = b - a := ⟨_, rfl⟩
  obtain ⟨q, hq⟩ : ∃ q, q = l / 4 := ⟨_, rfl⟩
  obtain ⟨m2, hm2⟩ : ∃ x, x = q * 2 := ⟨_, rfl⟩
  obtain ⟨m3, hm3⟩ : ∃ x, x = q * 3 := ⟨_, rfl⟩
  obtain ⟨qi, hqi⟩ : ∃ x, x = a + q := ⟨_, rfl⟩
  obtain ⟨qj, hqj⟩ : ∃ x, x = a + m2 := ⟨_, rfl⟩
  obtain ⟨qk, hqk⟩ : ∃ x, x = a + m3 := ⟨_, rfl⟩
  have e1 : (b : Int) - (a : Int) = (l : Int) := by omega
  have e2 : (l : Int).tdiv 4 = (q : Int) := by rw [hq]; exact (Int.natCast_ediv l 4).symm ▸ Int.tdiv_eq_ediv_of_nonneg (by omega)
  have e3 : (q : Int) * 2 = (m2 : Int) := by omega
  have e4 : (q : Int) * 3 = (m3 : Int) := by omega
  have e5 : (a : Int) + (q : Int) = (qi : Int) := by omega
  have e6 : (a : Int) + (m2 : Int) = (qj : Int) := by omega
  have e7 : (a : Int) + (m3 : Int) = (qk : Int) := by omega
  have hl8 : 8 ≤ l := by omega
  have hln : l ≤ n := by omega
  have hqn : q ≤ n := by omega
  have hm2n : m2 ≤ n := by omega
  have hm3n : m3 ≤ n := by omega
  have bi1 : a ≤ qi := by omega
  have bi2 : qi < b := by omega
  have bj1 : a ≤ qj := by omega
  have bj2 : qj < b := by omega
  have bk1 : a ≤ qk := by omega
  have bk2 : qk < b := by omega
  have HB : Hid (50 ≤ l → (a + 1 ≤ qi ∧ qi + 1 < b) ∧ (a + 1 ≤ qj ∧ qj + 1 < b) ∧ (a + 1 ≤ qk ∧ qk + 1 < b)) := fun h50 => by omega
  clear h ho hn hl hq hm2 hm3 hqi hqj hqk
  obtain ⟨wz, hwz⟩ : ∃ wz, wz = w.alloc (.cells #[.int .i64 0] 3) := ⟨_, rfl⟩
  obtain ⟨G, hG⟩ : ∃ G, G = w.heap.size := ⟨_, rfl⟩
  have HH0 : Hid (Pv w0 g pre post d G 0 wz) := by
    have hgG : g < w.heap.size := lt_of_block HN.out.2
    rw [hwz, hG]
    refine ⟨⟨HN.out.1.alloc (by omega) _, ?_⟩, hgG, 0, Nat.le_refl _, heap_alloc_new w _⟩
    exact (((Below.refl w.heap.size w).alloc (Nat.le_refl _) _).block g hgG).trans HN.out.2
  go_enter Tryz.func102, Tryz.ntmps102
  by_cases h50 : 50 ≤ l
  · obtain ⟨⟨c1, c2⟩, ⟨c3, c4⟩, c5, c6⟩ := HB.out h50
    go_upto_region 8 with fail
    rw [← hG, ← hwz]
    clear hwz hG
    go_upto_region 9 with (go_at_call 111; have c1 := ma_any qi a b g G 0 o n cap pre post d w0 _ HH0.out HO.out HD.out c1 c2 hb (by omega) hsz; refine c1.mono ?_; clear c1; rintro e w1 ⟨x1, rfl, hx1, hx1b, h1⟩; have HH1 := Lib.hid h1; clear h1)
    go_upto_region 10 with (go_at_call 111; have c2 := ma_any qj a b g G (0 + 3) o n cap pre post d w0 _ HH1.out HO.out HD.out c3 c4 hb (by omega) hsz; refine c2.mono ?_; clear c2; rintro e w2 ⟨x2, rfl, hx2, hx2b, h2⟩; have HH2 := Lib.hid h2; clear h2)
    go_upto_region 11 with (go_at_call 111; have c3 := ma_any qk a b g G (0 + 3 + 3) o n cap pre post d w0 _ HH2.out HO.out HD.out c5 c6 hb (by omega) hsz; refine c3.mono ?_; clear c3; rintro e w3 ⟨x3, rfl, hx3, hx3b, h3⟩; have HH3 := Lib.hid h3; clear h3)
    go_upto_region 12 with (go_at_call 112; have c4 := me_any x1 x2 x3 a b g G (0 + 3 + 3 + 3) o n cap pre post d w0 _ HH3.out HO.out HD.out hx1 hx1b hx2 hx2b hx3 hx3b hb (by omega) hsz; refine c4.mono ?_; clear c4; rintro e w4 ⟨x4, rfl, hx4, hx4b, h4⟩; have HH4 := Lib.hid h4; clear h4)
    obtain ⟨hSr, hgG, s, hs, hSw⟩ := HH4.out
    have hcs := hSw.read
    have HSr := Lib.hid hSr
    clear hSr hSw
    go_wp2_with fail
    all_goals go_ret2
    all_goals exact ⟨x4, _, rfl, hx4, hx4b, HSr.out⟩
  · go_upto_region 11 with fail
    rw [← hG, ← hwz]
    clear hwz hG
    go_upto_region 12 with (go_at_call 112; have c4 := me_any qi qj qk a b g G 0 o n cap pre post d w0 _ HH0.out HO.out HD.out bi1 bi2 bj1 bj2 bk1 bk2 hb (by omega) hsz; refine c4.mono ?_; clear c4; rintro e w4 ⟨x4, rfl, hx4, hx4b, h4⟩; have HH4 := Lib.hid h4; clear h4)
    obtain ⟨hSr, hgG, s, hs, hSw⟩ := HH4.out
    have hcs := hSw.read
    have HSr := Lib.hid hSr
    clear hSr hSw
    go_wp2_with fail
    all_goals go_ret2
    all_goals exact ⟨x4, _, rfl, hx4, hx4b, HSr.out⟩
end Go.Proofs.YtemjmnpclknfaaaGreat.Z
