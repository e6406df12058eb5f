/- SHA-256: a contract for close. -/
import Derived.Test.YtaefgieodehceaaDoorS5
import Derived.Deep.LoopGhost
namespace Go.Proofs.YtaefgieodehceaaDoor.Sha
set_option maxRecDepth 4000
open Go.RowKit

theorem Kt.grown {w w' : World} {H : Nat} (h : Kt w) (hg : w.grownBy w' (some H)) (hH : 1 < H) : Kt w' := fun k hk => by
  have h1 := h k hk
  have hlt := World.block_lt_of_cell? w _ h1
  have h2 := hg.block 1 hlt (fun e => by injection e with e; omega)
  unfold World.cell? at h1 ⊢
  rw [h2]
  exact h1
theorem IsHM.row {w : World} {H M : Nat} {l : List UInt8} (h : IsHM w H l M) : ∃ ws bl, ws.length = 8 ∧ bl.length = 64 ∧ w.heap[H]? = some (.cells (hcells ws bl (l.length % 64) M).toArray 96 (0, 0)) := by
  obtain ⟨bl, hb, _, hr⟩ := h
  exact ⟨_, bl, chain_length _ _, hb, hr⟩
theorem IsHM.kept {w w' : World} {H M : Nat} {l : List UInt8} (h : IsHM w H l M) (he : w'.heap[H]? = w.heap[H]?) : IsHM w' H l M := by
  obtain ⟨bl, hb, h2, hr⟩ := h
  exact ⟨bl, hb, h2, he.trans hr⟩
theorem IsHM.held {w : World} {H M : Nat} {l : List UInt8} (h : IsHM w H l M) : w.cell? ⟨H, 72, none⟩ = some (.int .i64 ((l.length % 64 : Nat) : Int)) := by
  obtain ⟨ws, bl, h1, h2, hr⟩ := h.row
  rw [cell_of_row w H 72 _ _ _ hr, List.getElem?_toArray]
  exact hcells_get72 _ _ _ _ h1 h2
theorem IsHM.many {w : World} {H M : Nat} {l : List UInt8} (h : IsHM w H l M) : w.cell? ⟨H, 73, none⟩ = some (.int .u64 (M : Int)) := by
  obtain ⟨ws, bl, h1, h2, hr⟩ := h.row
  rw [cell_of_row w H 73 _ _ _ hr]
  simpa using hcells_get73 _ _ _ _ h1 h2
theorem IsHM.lt {w : World} {H M : Nat} {l : List UInt8} (h : IsHM w H l M) : H < w.heap.size := by
  obtain ⟨bl, hb, h2, hr⟩ := h
  exact lt_of_block' hr

theorem grownBy_alloc' (w : World) (o : Obj) (H : Nat) : w.grownBy (w.alloc o) (some H) :=
  ⟨rfl, rfl, rfl, by simp, fun k hk _ => Below.heap_alloc w o k hk⟩
/-- A byte in a new block is handed to take. -/
theorem px_one {w : World} {H : Nat} {c : UInt8} {v : Value} (hv : v = .int .u8 (c.toNat : Int)) (hH : H < w.heap.size) : Px (w.alloc (.cells #[v] 5)) H (.slice (some ⟨w.heap.size, 0, none⟩) 1 1) [c] :=
  ⟨_, 1, rfl, by simp, fun _ => ⟨w.heap.size, 0, rfl, by omega, by simp, fun j u hu => by
    rw [cell_of_row _ _ _ _ _ _ (heap_alloc_new w _), hv]
    rcases j with _ | j
    · simpa [bv] using hu
    · simp [bv] at hu⟩⟩
theorem take_one (H : Nat) (l : List UInt8) (c : UInt8) (v : Value) (w : World) (hv : v = .int .u8 (c.toNat : Int)) (hh : IsH w H l) (hk : Kt w) (hH : 1 < H) (hlen : l.length + 1 ≤ 1000000) :
    Calls Tryd.prog 42 #[.pointer (some ⟨H, 0, none⟩), .slice (some ⟨w.heap.size, 0, none⟩) 1 1] (w.alloc (.cells #[v] 5)) fun e w' => e = .returned (.tuple #[]) ∧ IsH w' H (l ++ [c]) ∧ w.grownBy w' (some H) := by
  refine (take_any H l [c] _ _ (hh.kept (Below.heap_alloc w _ H hh.lt)) (px_one hv hh.lt) (hk.grown (grownBy_alloc' w _ H) hH) hH (by simpa using hlen)).mono ?_
  rintro e w' ⟨h1, h2, h3⟩
  exact ⟨h1, h2, grownBy_trans (grownBy_alloc' w _ H) h3⟩

theorem be8_length (n : Nat) : (be8 n).length = 8 := by simp [be8]
theorem be8_get (n i : Nat) (h : i < 8) : (be8 n).take (i + 1) = (be8 n).take i ++ [UInt8.ofNat (n / 2 ^ (56 - 8 * i))] := by
  rw [List.take_succ_eq_append_getElem (by simpa [be8] using h)]
  simp [be8]

set_option maxHeartbeats 1000000 in
set_option maxRecDepth 4000 in
theorem close_any (H : Nat) (l : List UInt8) (w : World) (hh : IsH w H l) (hk : Kt w) (hH : 1 < H) (hlen : l.length ≤ 900000) :
    Calls Tryd.prog 43 #[.pointer (some ⟨H, 0, none⟩)] w fun e w' => e = .returned (.tuple #[]) ∧ IsH w' H (padP l) ∧ w.grownBy w' (some H) := by
  have c73 := hh.many
  have HH := Lib.hid hh
  have HK := Lib.hid hk
  have h1 := take_one H l 128 (.int .u8 128) w rfl hh hk hH (by omega)
  have H1 := Lib.hid h1
  clear hh hk h1
  go_enter Tryd.func43, Tryd.ntmps43
  go_wp2_with fail
  refine H1.out.mono ?_
  rintro e w1 ⟨rfl, hi1, hg1⟩
  have HI1 := Lib.hid hi1
  clear hi1 c73
  go_wp2_with fail
  go_loopg [] (fillN l.length) (fun g wr => ∃ k : Nat, k + g = fillN l.length ∧ Hid (IsH wr H (l ++ [128] ++ List.replicate k 0)) ∧ w.grownBy wr (some H))
  case atStart => exact ⟨0, by omega, by simpa using HI1, hg1⟩
  case round =>
    clear HI1 hg1
    obtain ⟨k, hkg, hi, hg⟩ := hrel
    obtain ⟨q, hq⟩ : ∃ q, q = (l ++ [128] ++ List.replicate k 0).length % 64 := ⟨_, rfl⟩
    have hh := hi.out.held
    rw [← hq] at hh
    have hql : q = (l.length + 1 + k) % 64 := by
      rw [hq]
      simp
      omega
    have hfl : fillN l.length = (119 - l.length % 64) % 64 := rfl
    by_cases hg0 : gk = 0
    · have hq56 : q = 56 := by omega
      have t : ((q : Int) != 56) = false := by rw [bne_eq_false_iff_eq]; omega
      have hkf : k = fillN l.length := by omega
      rw [hkf] at hi
      clear hq hql hfl hkg hg0 hkf hq56
      obtain ⟨L, hL⟩ : ∃ L, L = l ++ [128] ++ List.replicate (fillN l.length) 0 := ⟨_, rfl⟩
      rw [← hL] at hi
      have hLl : L.length ≤ 950000 := by
        rw [hL]
        simp [fillN]
        omega
      have HL := Lib.hid hL
      clear hL
      have hi0 : Hid (IsH wr H (L ++ (be8 (8 * l.length)).take 0)) := by simpa using hi
      go_wp2_with fail
      go_loopw [20] (fun v wr => ∃ k : Nat, k ≤ 8 ∧ v = .int .i64 k ∧ Hid (IsH wr H (L ++ (be8 (8 * l.length)).take k)) ∧ w.grownBy wr (some H)) (fun v _ => 8 - (intOf v).toNat)
      case atStart => exact ⟨0, by omega, rfl, hi0, hg⟩
      case round =>
        clear hi hi0 hg
        obtain ⟨k, hk, rfl, hi, hg⟩ := hrel
        by_cases hlt : k < 8
        · have hsh : (0 : Int) ≤ 56 - 8 * (k : Int) := by omega
          have hv : Value.int .u8 (8 * (l.length : Int) / 2 ^ (56 - 8 * k) % 256) = .int .u8 ((UInt8.ofNat (8 * l.length / 2 ^ (56 - 8 * k))).toNat : Int) := by
            congr 1
          have h2 := take_one H (L ++ (be8 (8 * l.length)).take k) _ _ wr hv hi.out (HK.out.grown hg hH) hH (by
            rw [List.length_append, List.length_take]
            omega)
          rw [List.append_assoc, ← be8_get _ _ hlt] at h2
          have H2 := Lib.hid h2
          clear h2 hv hi
          go_wp2_with fail
          refine H2.out.mono ?_
          rintro e w2 ⟨rfl, hi2, hg2⟩
          have HI2 := Lib.hid hi2
          clear hi2
          go_wp2_with fail
          go_roundw
          case rel => exact ⟨k + 1, by omega, by go_num, HI2, grownBy_trans hg hg2⟩
          case measure => simp [intOf] <;> omega
        · have hk8 : k = 8 := by omega
          have hi2 := hi.out
          rw [hk8, List.take_of_length_le (by rw [be8_length]; omega), HL.out] at hi2
          have HI2 := Lib.hid hi2
          clear hi hi2
          go_wp2_with fail
          go_end0
          exact ⟨rfl, HI2.out, hg⟩
    · have t : ((q : Int) != 56) = true := by rw [bne_iff_ne]; omega
      have hkl : k < 64 := by omega
      have h2 := take_one H (l ++ [128] ++ List.replicate k 0) 0 (.int .u8 0) wr rfl hi.out (HK.out.grown hg hH) hH (by simp; omega)
      have H2 := Lib.hid h2
      have HKG := Lib.hid hkg
      clear hq hql hfl h2 hkg hi
      go_wp2_with fail
      refine H2.out.mono ?_
      rintro e w2 ⟨rfl, hi2, hg2⟩
      rw [List.append_assoc, ← List.replicate_succ'] at hi2
      have HI2 := Lib.hid hi2
      clear hi2
      go_wp2_with fail
      go_roundg (gk - 1)
      case measure => omega
      case rel => exact ⟨k + 1, by have := HKG.out; omega, HI2, grownBy_trans hg hg2⟩
end Go.Proofs.YtaefgieodehceaaDoor.Sha
