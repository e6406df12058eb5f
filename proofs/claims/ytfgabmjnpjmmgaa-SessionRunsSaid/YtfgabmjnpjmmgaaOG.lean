/- session: Close of a connection that is there. -/
import Derived.Test.YtfgabmjnpjmmgaaOF
namespace Go.Proofs.Ytfgabmjnpjmmgaa
open Go.RowKit
set_option maxRecDepth 20000
set_option linter.unusedVariables false

set_option maxHeartbeats 4000000 in
theorem close_there (B T : Nat) (idle most : Int) (ids : List Nat) (ths : List Mk) (x : Nat) (w : World) (h : Tb w B T idle most ids ths) (hl : ids.length ≤ 1000) (k : Nat) (y1 y2 : Int) (hx : ids[k]? = some x) (hy : ths[k]? = some (y1, y2)) (hB : B ≤ w.heap.size) :
    Calls Try.prog 14 #[.pointer (some ⟨T, 0, none⟩), .int .u32 (x : Int)] w fun r w' => r = .returned (.tuple #[.int .u32 y2, .int .i64 0]) ∧ Tb w' B T idle most (ids.take k ++ ids.drop (k + 1)) (ths.take k ++ ths.drop (k + 1)) ∧ Bt B w w' := by
  have hxm := List.mem_of_getElem? hx
  obtain ⟨hlen, hup, hok⟩ := h.facts
  have HUP := Lib.hid hup
  have HX := Lib.hid hx
  have HA : Hid (Calls Try.prog 29 #[.pointer (some ⟨T, 0, none⟩), .int .u32 (x : Int)] w fun r w' => r = .returned (.tuple #[mV y1 y2, .bool true]) ∧ Below w.heap.size w w') :=
    (at_there B T idle most ids ths x w h hl hxm).mono fun r w' ⟨⟨p, z1, z2, hp1, hp2, e⟩, hb⟩ => by
      obtain rfl := up_same hup hp1 hx
      rw [hy] at hp2
      injection hp2 with hp2
      injection hp2 with e1 e2
      subst e1 e2
      exact ⟨e, hb⟩
  have HT := Lib.hid h
  have HL := Lib.hid hl
  have HB := Lib.hid hB
  have HXM := Lib.hid hxm
  clear h hl hx hy hB hlen hup hok hxm
  go_enter Try.func14, Try.ntmps14
  go_wp2_with fail
  refine HA.out.mono ?_
  rintro r w1 ⟨rfl, hb1⟩
  obtain ⟨Z, hZ⟩ : ∃ Z, Z = w1.heap.size := ⟨_, rfl⟩
  obtain ⟨w2, hw2⟩ : ∃ w2, w2 = w1.alloc (.cells (mC y1 y2) 55) := ⟨_, rfl⟩
  have hb2 : Below w1.heap.size w1 w2 := by rw [hw2]; exact (Below.refl _ _).alloc (Nat.le_refl _) _
  have hq2 : w2.heap[Z]? = some (.cells (mC y1 y2) 55 (0, 0)) := by rw [hw2, hZ]; exact heap_alloc_new w1 _
  have HB2 : Hid (Below w.heap.size w w2) := hb1.trans (hb2.mono hb1.size)
  obtain ⟨hbt, R, vi, vt, hbr, hT1, hI1⟩ := HT.out.after hb1
  have HOV : Hid (∀ g, vt.ownBlock = some g → g < Z) := fun g hg => by rw [hZ]; exact (ownlt hI1.rto g hg).2
  have HT2 : Hid (w2.heap[T]? = some (.cells #[.pointer (some ⟨R, 0, none⟩), .int .i64 idle] 57 (0, 0))) := (hb2.block T (lt_of_block hT1)).trans hT1
  have c0 := cell_of_row w2 T 0 _ _ _ HT2.out
  simp at c0
  have HZ2 : Hid (w2.heap[Z]? = some (.cells (mC y1 y2) 55 (0, 0))) := hq2
  have HI2 := Lib.hid (hI1.after hb2)
  have HBT := Lib.hid (And.intro hbt hbr)
  have HD := Lib.hid (drop_there R most vi vt ids ths x w2 HI2.out HL.out HXM.out)
  have H2 := Lib.hid hw2
  have HZZ := Lib.hid hZ
  clear hb1 hb2 hq2 hw2 hZ hT1 hI1 hbt hbr
  go_upto_region 4 with (fail)
  rw [← H2.out, ← HZZ.out]
  clear H2 HZZ
  go_upto_region 5 with (go_at_call 31; refine HD.out.mono ?_; rintro r w5 ⟨p, z1, z2, hp1, hp2, rfl, hC5, vi', vt', ho1, ho2, hI5⟩; have HC5 := Lib.hid hC5; have HI5 := Lib.hid hI5; have HP1 := Lib.hid hp1; clear hC5 hI5 hp1 hp2 ho1 ho2 c0)
  have hpk := up_same HUP.out HP1.out HX.out
  have hT5 := tb_turned HT2.out HI2.out HC5.out
  have hZ5 : w5.heap[Z]? = some (.cells (mC y1 y2) 55 (0, 0)) := by
    refine (HC5.out.2.2 Z (lt_of_block HZ2.out) (fun e => ?_) (fun e => ?_) (fun e => ?_)).trans HZ2.out
    · have := HI2.out.row
      rw [← e, HZ2.out] at this
      injection this with this
      injection this with _ this _
      exact absurd this (by decide)
    · obtain ⟨c, hcc⟩ := own_type HI2.out.rio e.symm
      rw [HZ2.out] at hcc
      injection hcc with hcc
      injection hcc with _ hcc _
      exact absurd hcc (by decide)
    · exact absurd (HOV.out Z e.symm) (Nat.lt_irrefl _)
  have HF : Hid (Tb w5 B T idle most (ids.take k ++ ids.drop (k + 1)) (ths.take k ++ ths.drop (k + 1)) ∧ Bt B w w5) := by
    rw [← hpk]
    exact ⟨⟨HBT.out.1, R, vi', vt', HBT.out.2, hT5, HI5.out⟩, (Bt.of_below HB2.out HB.out).trans (chr_bt HI2.out HC5.out HBT.out.2)⟩
  have c1 := cell_of_row w5 Z 1 _ _ _ hZ5
  simp at c1
  clear hT5 hZ5 hpk
  go_wp2
  go_ret2
  exact ⟨rfl, HF.out.1, HF.out.2⟩
end Go.Proofs.Ytfgabmjnpjmmgaa
