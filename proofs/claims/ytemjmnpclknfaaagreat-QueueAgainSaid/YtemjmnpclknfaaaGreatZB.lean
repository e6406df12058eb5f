/- Sort at uint32: slices.Sort, whole. -/
import Derived.Test.YtemjmnpclknfaaaGreatZA
namespace Go.Proofs.YtemjmnpclknfaaaGreat.Z
open Go.RowKit
set_option maxRecDepth 20000
set_option linter.unusedVariables false

/-- The numbers in rising order. -/
def sortedN (l : List Nat) : List Nat := l.mergeSort (fun x y => !ltN y x)
/-- What Sort leaves. -/
def SoPost (w0 : World) (g : Nat) (pre post : List Value) (l : List Nat) (r : Ending) (w' : World) : Prop := r = .returned (.tuple #[]) ∧ Sr w0 g pre post (sortedN l).toArray w'
set_option maxHeartbeats 1000000 in
theorem so_any (g o n cap : Nat) (pre post : List Value) (l : List Nat) (w0 w : World) (h : Sr w0 g pre post l.toArray w) (ho : o = pre.length) (hn : n = l.length) (hsz : n < 1000000000) :
    Calls Tryz.prog 70 #[.slice (some ⟨g, o, none⟩) n cap] w (SoPost w0 g pre post l) := by
  have hb : Lib.bitLen n ≤ 64 := Lib.bitLen_le n 64 (by omega) (by omega)
  obtain ⟨B, hB⟩ : ∃ B, B = Lib.bitLen n := ⟨_, rfl⟩
  rw [← hB] at hb
  have C1 := Lib.hid (bits_Len (n : Int) w (by omega) (by omega))
  have C2 := Lib.hid (pd_any g o n cap pre post w0 ho hsz n 0 n B l.toArray w (by omega) h (by simp [hn]) (by omega) (Nat.le_refl _) (by omega) (Or.inl rfl))
  have HL := Lib.hid hn
  have HB := Lib.hid hB
  clear hn hB h ho
  go_enter Tryz.func70, Tryz.ntmps70
  go_wp2_with (first
    | (go_at_call 66; refine C1.out.mono ?_; rintro e w' ⟨rfl, rfl⟩; rw [show ((n : Int)).toNat = n from rfl, ← HB.out])
    | (go_at_call 89; refine C2.out.mono ?_; rintro e w1 ⟨rfl, d', hp, hs, hS⟩; have HP := Lib.hid hp; have HS := Lib.hid hs; have HW := Lib.hid hS; clear hp hs hS))
  have hu := Sort.sorted_unique_holds swo_ltN (fun x y h1 h2 => by simp [ltN] at h1 h2; omega) l.toArray d' (by have := HP.out; rw [HL.out] at this; simpa using this) (by have := HS.out; rw [HL.out, ← (show l.toArray.size = l.length by simp)] at this; rw [← HP.out.1] at this ⊢; simpa using this)
  have hd : d' = (sortedN l).toArray := by
    apply Array.toList_inj.1
    rw [hu]
    rfl
  go_end0
  exact ⟨rfl, by rw [← hd]; exact HW.out⟩
end Go.Proofs.YtemjmnpclknfaaaGreat.Z
