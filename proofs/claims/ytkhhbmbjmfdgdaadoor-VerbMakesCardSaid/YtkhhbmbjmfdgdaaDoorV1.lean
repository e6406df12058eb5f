/- Verb: the kinds' entries, as the program's tables hold them; look. -/
import Derived.Test.YtkhhbmbjmfdgdaaDoorB12
namespace Go.Proofs.YtkhhbmbjmfdgdaaDoor
open Go.RowKit

def tab0 : List (ByteArray × ByteArray) := [(⟨#[108, 111, 103, 105, 110]⟩, ⟨#[115]⟩), (⟨#[112, 105, 110, 103]⟩, ⟨#[100]⟩), (⟨#[102, 114, 105, 101, 110, 100, 45, 97, 115, 107]⟩, ⟨#[100]⟩), (⟨#[102, 114, 105, 101, 110, 100, 45, 97, 99, 99, 101, 112, 116]⟩, ⟨#[100]⟩), (⟨#[102, 114, 105, 101, 110, 100, 45, 114, 101, 102, 117, 115, 101]⟩, ⟨#[100]⟩), (⟨#[102, 114, 105, 101, 110, 100, 45, 114, 101, 109, 111, 118, 101]⟩, ⟨#[100]⟩), (⟨#[98, 108, 111, 99, 107]⟩, ⟨#[100]⟩), (⟨#[117, 110, 98, 108, 111, 99, 107]⟩, ⟨#[100]⟩), (⟨#[102, 114, 105, 101, 110, 100, 115]⟩, ⟨#[]⟩), (⟨#[105, 110, 118, 105, 116, 101]⟩, ⟨#[100]⟩), (⟨#[106, 111, 105, 110]⟩, ⟨#[100]⟩), (⟨#[114, 101, 102, 117, 115, 101]⟩, ⟨#[100]⟩), (⟨#[108, 101, 97, 118, 101]⟩, ⟨#[]⟩), (⟨#[107, 105, 99, 107]⟩, ⟨#[100]⟩), (⟨#[108, 101, 97, 100]⟩, ⟨#[100]⟩), (⟨#[112, 97, 114, 116, 121]⟩, ⟨#[]⟩), (⟨#[113, 117, 101, 117, 101]⟩, ⟨#[98]⟩), (⟨#[99, 97, 110, 99, 101, 108]⟩, ⟨#[]⟩), (⟨#[97, 99, 99, 101, 112, 116]⟩, ⟨#[]⟩), (⟨#[100, 101, 99, 108, 105, 110, 101]⟩, ⟨#[]⟩), (⟨#[116, 111, 107, 101, 110]⟩, ⟨#[]⟩), (⟨#[114, 97, 116, 105, 110, 103]⟩, ⟨#[100]⟩), (⟨#[112, 101, 110, 97, 108, 116, 121]⟩, ⟨#[]⟩), (⟨#[115, 116, 97, 116, 117, 115]⟩, ⟨#[100]⟩), (⟨#[108, 111, 103, 111, 117, 116]⟩, ⟨#[]⟩), (⟨#[116, 105, 109, 101]⟩, ⟨#[]⟩), (⟨#[109, 97, 116, 99, 104]⟩, ⟨#[]⟩)]
def tab1 : List (ByteArray × ByteArray) := [(⟨#[111, 107]⟩, ⟨#[98]⟩), (⟨#[101, 114, 114, 111, 114]⟩, ⟨#[98, 98]⟩), (⟨#[119, 101, 108, 99, 111, 109, 101]⟩, ⟨#[100, 100, 98]⟩), (⟨#[112, 111, 110, 103]⟩, ⟨#[100]⟩), (⟨#[102, 114, 105, 101, 110, 100, 45, 108, 105, 115, 116]⟩, ⟨#[108, 108, 108]⟩), (⟨#[112, 97, 114, 116, 121, 45, 105, 115]⟩, ⟨#[100, 100, 108]⟩), (⟨#[114, 97, 116, 105, 110, 103, 45, 105, 115]⟩, ⟨#[100, 100]⟩), (⟨#[112, 101, 110, 97, 108, 116, 121, 45, 105, 115]⟩, ⟨#[98, 113]⟩), (⟨#[115, 116, 97, 116, 117, 115, 45, 105, 115]⟩, ⟨#[100, 98]⟩), (⟨#[116, 105, 109, 101, 45, 105, 115]⟩, ⟨#[113]⟩), (⟨#[109, 97, 116, 99, 104, 45, 105, 115]⟩, ⟨#[100, 119, 98, 98]⟩)]
def tab2 : List (ByteArray × ByteArray) := [(⟨#[102, 114, 105, 101, 110, 100, 45, 97, 115, 107, 101, 100]⟩, ⟨#[100]⟩), (⟨#[102, 114, 105, 101, 110, 100, 45, 110, 111, 119]⟩, ⟨#[100, 98]⟩), (⟨#[102, 114, 105, 101, 110, 100, 45, 103, 111, 110, 101]⟩, ⟨#[100]⟩), (⟨#[112, 114, 101, 115, 101, 110, 99, 101]⟩, ⟨#[100, 98]⟩), (⟨#[105, 110, 118, 105, 116, 101, 100]⟩, ⟨#[100, 100]⟩), (⟨#[112, 97, 114, 116, 121, 45, 110, 111, 119]⟩, ⟨#[100, 100, 108]⟩), (⟨#[112, 97, 114, 116, 121, 45, 111, 118, 101, 114]⟩, ⟨#[100]⟩), (⟨#[113, 117, 101, 117, 101, 100]⟩, ⟨#[98]⟩), (⟨#[117, 110, 113, 117, 101, 117, 101, 100]⟩, ⟨#[98]⟩), (⟨#[99, 104, 101, 99, 107]⟩, ⟨#[100, 113]⟩), (⟨#[99, 104, 101, 99, 107, 45, 111, 118, 101, 114]⟩, ⟨#[100, 98]⟩), (⟨#[115, 101, 97, 116]⟩, ⟨#[100, 119, 98, 98, 113, 115]⟩), (⟨#[108, 105, 118, 101]⟩, ⟨#[100]⟩), (⟨#[111, 118, 101, 114]⟩, ⟨#[100, 98, 100]⟩), (⟨#[112, 101, 110, 97, 108, 105, 115, 101, 100]⟩, ⟨#[98, 98, 113]⟩), (⟨#[98, 121, 101]⟩, ⟨#[98]⟩)]
def tab3 : List (ByteArray × ByteArray) := [(⟨#[115, 116, 97, 114, 116]⟩, ⟨#[100, 98, 108, 108]⟩), (⟨#[102, 105, 108, 108, 101, 100]⟩, ⟨#[100, 98, 108]⟩), (⟨#[108, 111, 115, 116]⟩, ⟨#[100, 100]⟩), (⟨#[100, 114, 97, 105, 110]⟩, ⟨#[100]⟩), (⟨#[106, 111, 105, 110, 101, 100]⟩, ⟨#[100, 100]⟩), (⟨#[114, 101, 102, 117, 115, 101, 100]⟩, ⟨#[98, 98]⟩)]
def tab4 : List (ByteArray × ByteArray) := [(⟨#[104, 101, 108, 108, 111]⟩, ⟨#[]⟩), (⟨#[98, 101, 97, 116]⟩, ⟨#[]⟩), (⟨#[117, 112]⟩, ⟨#[]⟩), (⟨#[99, 111, 109, 101]⟩, ⟨#[115]⟩), (⟨#[108, 101, 102, 116]⟩, ⟨#[100]⟩), (⟨#[114, 101, 115, 117, 108, 116]⟩, ⟨#[100, 98]⟩), (⟨#[102, 114, 101, 101, 100]⟩, ⟨#[]⟩)]
/-- What a kind's entry is, and whose it is. -/
def entP (k : Int) : ByteArray × ByteArray :=
  if 1 ≤ k ∧ k ≤ 27 then tab0.getD (k - 1).toNat (⟨#[]⟩, ⟨#[]⟩) else if 64 ≤ k ∧ k ≤ 74 then tab1.getD (k - 64).toNat (⟨#[]⟩, ⟨#[]⟩)
  else if 96 ≤ k ∧ k ≤ 111 then tab2.getD (k - 96).toNat (⟨#[]⟩, ⟨#[]⟩) else if 160 ≤ k ∧ k ≤ 165 then tab3.getD (k - 160).toNat (⟨#[]⟩, ⟨#[]⟩)
  else if 192 ≤ k ∧ k ≤ 198 then tab4.getD (k - 192).toNat (⟨#[]⟩, ⟨#[]⟩) else (⟨#[]⟩, ⟨#[]⟩)
def sideP (k : Int) : Int :=
  if 1 ≤ k ∧ k ≤ 27 then 1 else if 64 ≤ k ∧ k ≤ 74 then 2 else if 96 ≤ k ∧ k ≤ 111 then 2 else if 160 ≤ k ∧ k ≤ 165 then 3 else if 192 ≤ k ∧ k ≤ 198 then 4 else 0
/-- A table of entries in block g. -/
def TabAt (w : World) (g : Nat) (t : List (ByteArray × ByteArray)) : Prop :=
  ∀ i, i < t.length → w.cell? ⟨g, i * 2, none⟩ = some (.string (t.getD i (⟨#[]⟩, ⟨#[]⟩)).1) ∧ w.cell? ⟨g, i * 2 + 1, none⟩ = some (.string (t.getD i (⟨#[]⟩, ⟨#[]⟩)).2)
def Ents (w : World) : Prop := 4 < w.heap.size ∧ TabAt w 0 tab0 ∧ TabAt w 1 tab1 ∧ TabAt w 2 tab2 ∧ TabAt w 3 tab3 ∧ TabAt w 4 tab4
theorem Ents.below {w w' : World} (h : Ents w) {B : Nat} (hb : Below B w w') (hB : 4 < B) : Ents w' := by
  have ht : ∀ g t, g ≤ 4 → TabAt w g t → TabAt w' g t := fun g t hg h i hi => ⟨(hb.cell (p := ⟨g, i * 2, none⟩) (Nat.lt_of_le_of_lt hg hB)).trans (h i hi).1, (hb.cell (p := ⟨g, i * 2 + 1, none⟩) (Nat.lt_of_le_of_lt hg hB)).trans (h i hi).2⟩
  exact ⟨Nat.lt_of_lt_of_le h.1 hb.size, ht _ _ (by omega) h.2.1, ht _ _ (by omega) h.2.2.1, ht _ _ (by omega) h.2.2.2.1, ht _ _ (by omega) h.2.2.2.2.1, ht _ _ (by omega) h.2.2.2.2.2⟩
theorem Ents.keep {w w' : World} (h : Ents w) (hb : Below w.heap.size w w') : Ents w' := h.below hb h.1
set_option maxRecDepth 20000

/-- What look hands back. -/
def LookPost (w : World) (nm sh : ByteArray) (sd : Int) (e : Ending) (w' : World) : Prop := e = .returned (.tuple #[.agg #[.string nm, .string sh], .int .i64 sd]) ∧ Below w.heap.size w w'

set_option maxHeartbeats 1000000 in
theorem look_0 (k : Int) (w : World) (nm sh : ByteArray) (h0 : 1 ≤ k) (h1 : k ≤ 27) (hz : 4 < w.heap.size) (c0 : w.cell? ⟨0, (k - 1).toNat * 2, none⟩ = some (.string nm)) (c1 : w.cell? ⟨0, (k - 1).toNat * 2 + 1, none⟩ = some (.string sh)) :
    Calls Tryd.prog 31 #[.int .i64 k] w (LookPost w nm sh 1) := by
  have hba := (Below.refl w.heap.size w).alloc (Nat.le_refl _) (.cells #[.string ⟨#[]⟩, .string ⟨#[]⟩] 72)
  have d0 := (hba.cell (p := ⟨0, (k - 1).toNat * 2, none⟩) (by show 0 < w.heap.size; omega)).trans c0
  have d1 := (hba.cell (p := ⟨0, (k - 1).toNat * 2 + 1, none⟩) (by show 0 < w.heap.size; omega)).trans c1
  clear hba c0 c1
  have e0 : (k - 1).toNat = k.toNat - 1 := by omega
  rw [e0] at d0 d1
  clear e0
  go_enter Tryd.func31, Tryd.ntmps31
  go_wp2_with fail
  have hbf : Below w.heap.size w (w.alloc (.cells #[.string nm, .string sh] 72)) := (Below.refl _ _).alloc (Nat.le_refl _) _
  have f0 : (w.alloc (.cells #[.string nm, .string sh] 72)).cell? ⟨w.heap.size, 0, none⟩ = some (.string nm) := by rw [cell_of_row _ _ _ _ _ _ (heap_alloc_new w _)]; rfl
  have f1 : (w.alloc (.cells #[.string nm, .string sh] 72)).cell? ⟨w.heap.size, 1, none⟩ = some (.string sh) := by rw [cell_of_row _ _ _ _ _ _ (heap_alloc_new w _)]; rfl
  exact bodyPost_ret (v := .tuple #[.agg #[.string nm, .string sh], .int .i64 1]) (by simp [results, Tryd.results31, go_sem, f0, f1]) rfl ⟨rfl, hbf⟩

set_option maxHeartbeats 1000000 in
theorem look_1 (k : Int) (w : World) (nm sh : ByteArray) (h0 : 64 ≤ k) (h1 : k ≤ 74) (hz : 4 < w.heap.size) (c0 : w.cell? ⟨1, (k - 64).toNat * 2, none⟩ = some (.string nm)) (c1 : w.cell? ⟨1, (k - 64).toNat * 2 + 1, none⟩ = some (.string sh)) :
    Calls Tryd.prog 31 #[.int .i64 k] w (LookPost w nm sh 2) := by
  have hba := (Below.refl w.heap.size w).alloc (Nat.le_refl _) (.cells #[.string ⟨#[]⟩, .string ⟨#[]⟩] 72)
  have d0 := (hba.cell (p := ⟨1, (k - 64).toNat * 2, none⟩) (by show 1 < w.heap.size; omega)).trans c0
  have d1 := (hba.cell (p := ⟨1, (k - 64).toNat * 2 + 1, none⟩) (by show 1 < w.heap.size; omega)).trans c1
  clear hba c0 c1
  go_enter Tryd.func31, Tryd.ntmps31
  go_wp2_with fail
  have hbf : Below w.heap.size w (w.alloc (.cells #[.string nm, .string sh] 72)) := (Below.refl _ _).alloc (Nat.le_refl _) _
  have f0 : (w.alloc (.cells #[.string nm, .string sh] 72)).cell? ⟨w.heap.size, 0, none⟩ = some (.string nm) := by rw [cell_of_row _ _ _ _ _ _ (heap_alloc_new w _)]; rfl
  have f1 : (w.alloc (.cells #[.string nm, .string sh] 72)).cell? ⟨w.heap.size, 1, none⟩ = some (.string sh) := by rw [cell_of_row _ _ _ _ _ _ (heap_alloc_new w _)]; rfl
  exact bodyPost_ret (v := .tuple #[.agg #[.string nm, .string sh], .int .i64 2]) (by simp [results, Tryd.results31, go_sem, f0, f1]) rfl ⟨rfl, hbf⟩

set_option maxHeartbeats 1000000 in
theorem look_2 (k : Int) (w : World) (nm sh : ByteArray) (h0 : 96 ≤ k) (h1 : k ≤ 111) (hz : 4 < w.heap.size) (c0 : w.cell? ⟨2, (k - 96).toNat * 2, none⟩ = some (.string nm)) (c1 : w.cell? ⟨2, (k - 96).toNat * 2 + 1, none⟩ = some (.string sh)) :
    Calls Tryd.prog 31 #[.int .i64 k] w (LookPost w nm sh 2) := by
  have hba := (Below.refl w.heap.size w).alloc (Nat.le_refl _) (.cells #[.string ⟨#[]⟩, .string ⟨#[]⟩] 72)
  have d0 := (hba.cell (p := ⟨2, (k - 96).toNat * 2, none⟩) (by show 2 < w.heap.size; omega)).trans c0
  have d1 := (hba.cell (p := ⟨2, (k - 96).toNat * 2 + 1, none⟩) (by show 2 < w.heap.size; omega)).trans c1
  clear hba c0 c1
  go_enter Tryd.func31, Tryd.ntmps31
  go_wp2_with fail
  have hbf : Below w.heap.size w (w.alloc (.cells #[.string nm, .string sh] 72)) := (Below.refl _ _).alloc (Nat.le_refl _) _
  have f0 : (w.alloc (.cells #[.string nm, .string sh] 72)).cell? ⟨w.heap.size, 0, none⟩ = some (.string nm) := by rw [cell_of_row _ _ _ _ _ _ (heap_alloc_new w _)]; rfl
  have f1 : (w.alloc (.cells #[.string nm, .string sh] 72)).cell? ⟨w.heap.size, 1, none⟩ = some (.string sh) := by rw [cell_of_row _ _ _ _ _ _ (heap_alloc_new w _)]; rfl
  exact bodyPost_ret (v := .tuple #[.agg #[.string nm, .string sh], .int .i64 2]) (by simp [results, Tryd.results31, go_sem, f0, f1]) rfl ⟨rfl, hbf⟩

set_option maxHeartbeats 1000000 in
theorem look_3 (k : Int) (w : World) (nm sh : ByteArray) (h0 : 160 ≤ k) (h1 : k ≤ 165) (hz : 4 < w.heap.size) (c0 : w.cell? ⟨3, (k - 160).toNat * 2, none⟩ = some (.string nm)) (c1 : w.cell? ⟨3, (k - 160).toNat * 2 + 1, none⟩ = some (.string sh)) :
    Calls Tryd.prog 31 #[.int .i64 k] w (LookPost w nm sh 3) := by
  have hba := (Below.refl w.heap.size w).alloc (Nat.le_refl _) (.cells #[.string ⟨#[]⟩, .string ⟨#[]⟩] 72)
  have d0 := (hba.cell (p := ⟨3, (k - 160).toNat * 2, none⟩) (by show 3 < w.heap.size; omega)).trans c0
  have d1 := (hba.cell (p := ⟨3, (k - 160).toNat * 2 + 1, none⟩) (by show 3 < w.heap.size; omega)).trans c1
  clear hba c0 c1
  go_enter Tryd.func31, Tryd.ntmps31
  go_wp2_with fail
  have hbf : Below w.heap.size w (w.alloc (.cells #[.string nm, .string sh] 72)) := (Below.refl _ _).alloc (Nat.le_refl _) _
  have f0 : (w.alloc (.cells #[.string nm, .string sh] 72)).cell? ⟨w.heap.size, 0, none⟩ = some (.string nm) := by rw [cell_of_row _ _ _ _ _ _ (heap_alloc_new w _)]; rfl
  have f1 : (w.alloc (.cells #[.string nm, .string sh] 72)).cell? ⟨w.heap.size, 1, none⟩ = some (.string sh) := by rw [cell_of_row _ _ _ _ _ _ (heap_alloc_new w _)]; rfl
  exact bodyPost_ret (v := .tuple #[.agg #[.string nm, .string sh], .int .i64 3]) (by simp [results, Tryd.results31, go_sem, f0, f1]) rfl ⟨rfl, hbf⟩

set_option maxHeartbeats 1000000 in
theorem look_4 (k : Int) (w : World) (nm sh : ByteArray) (h0 : 192 ≤ k) (h1 : k ≤ 198) (hz : 4 < w.heap.size) (c0 : w.cell? ⟨4, (k - 192).toNat * 2, none⟩ = some (.string nm)) (c1 : w.cell? ⟨4, (k - 192).toNat * 2 + 1, none⟩ = some (.string sh)) :
    Calls Tryd.prog 31 #[.int .i64 k] w (LookPost w nm sh 4) := by
  have hba := (Below.refl w.heap.size w).alloc (Nat.le_refl _) (.cells #[.string ⟨#[]⟩, .string ⟨#[]⟩] 72)
  have d0 := (hba.cell (p := ⟨4, (k - 192).toNat * 2, none⟩) (by show 4 < w.heap.size; omega)).trans c0
  have d1 := (hba.cell (p := ⟨4, (k - 192).toNat * 2 + 1, none⟩) (by show 4 < w.heap.size; omega)).trans c1
  clear hba c0 c1
  go_enter Tryd.func31, Tryd.ntmps31
  go_wp2_with fail
  have hbf : Below w.heap.size w (w.alloc (.cells #[.string nm, .string sh] 72)) := (Below.refl _ _).alloc (Nat.le_refl _) _
  have f0 : (w.alloc (.cells #[.string nm, .string sh] 72)).cell? ⟨w.heap.size, 0, none⟩ = some (.string nm) := by rw [cell_of_row _ _ _ _ _ _ (heap_alloc_new w _)]; rfl
  have f1 : (w.alloc (.cells #[.string nm, .string sh] 72)).cell? ⟨w.heap.size, 1, none⟩ = some (.string sh) := by rw [cell_of_row _ _ _ _ _ _ (heap_alloc_new w _)]; rfl
  exact bodyPost_ret (v := .tuple #[.agg #[.string nm, .string sh], .int .i64 4]) (by simp [results, Tryd.results31, go_sem, f0, f1]) rfl ⟨rfl, hbf⟩

set_option maxHeartbeats 1000000 in
theorem look_n0 (k : Int) (w : World) (hm : -9223372036854775808 ≤ k) (h0 : k < 1) :
    Calls Tryd.prog 31 #[.int .i64 k] w (LookPost w ⟨#[]⟩ ⟨#[]⟩ 0) := by
  go_enter Tryd.func31, Tryd.ntmps31
  go_wp2_with fail
  have hbf : Below w.heap.size w (w.alloc (.cells #[.string ⟨#[]⟩, .string ⟨#[]⟩] 72)) := (Below.refl _ _).alloc (Nat.le_refl _) _
  have f0 : (w.alloc (.cells #[.string ⟨#[]⟩, .string ⟨#[]⟩] 72)).cell? ⟨w.heap.size, 0, none⟩ = some (.string ⟨#[]⟩) := by rw [cell_of_row _ _ _ _ _ _ (heap_alloc_new w _)]; rfl
  have f1 : (w.alloc (.cells #[.string ⟨#[]⟩, .string ⟨#[]⟩] 72)).cell? ⟨w.heap.size, 1, none⟩ = some (.string ⟨#[]⟩) := by rw [cell_of_row _ _ _ _ _ _ (heap_alloc_new w _)]; rfl
  exact bodyPost_ret (v := .tuple #[.agg #[.string ⟨#[]⟩, .string ⟨#[]⟩], .int .i64 0]) (by simp [results, Tryd.results31, go_sem, f0, f1]) rfl ⟨rfl, hbf⟩

set_option maxHeartbeats 1000000 in
theorem look_n1 (k : Int) (w : World) (h0 : 27 < k) (h1 : k < 64) :
    Calls Tryd.prog 31 #[.int .i64 k] w (LookPost w ⟨#[]⟩ ⟨#[]⟩ 0) := by
  go_enter Tryd.func31, Tryd.ntmps31
  go_wp2_with fail
  have hbf : Below w.heap.size w (w.alloc (.cells #[.string ⟨#[]⟩, .string ⟨#[]⟩] 72)) := (Below.refl _ _).alloc (Nat.le_refl _) _
  have f0 : (w.alloc (.cells #[.string ⟨#[]⟩, .string ⟨#[]⟩] 72)).cell? ⟨w.heap.size, 0, none⟩ = some (.string ⟨#[]⟩) := by rw [cell_of_row _ _ _ _ _ _ (heap_alloc_new w _)]; rfl
  have f1 : (w.alloc (.cells #[.string ⟨#[]⟩, .string ⟨#[]⟩] 72)).cell? ⟨w.heap.size, 1, none⟩ = some (.string ⟨#[]⟩) := by rw [cell_of_row _ _ _ _ _ _ (heap_alloc_new w _)]; rfl
  exact bodyPost_ret (v := .tuple #[.agg #[.string ⟨#[]⟩, .string ⟨#[]⟩], .int .i64 0]) (by simp [results, Tryd.results31, go_sem, f0, f1]) rfl ⟨rfl, hbf⟩

set_option maxHeartbeats 1000000 in
theorem look_n2 (k : Int) (w : World) (h0 : 74 < k) (h1 : k < 96) :
    Calls Tryd.prog 31 #[.int .i64 k] w (LookPost w ⟨#[]⟩ ⟨#[]⟩ 0) := by
  go_enter Tryd.func31, Tryd.ntmps31
  go_wp2_with fail
  have hbf : Below w.heap.size w (w.alloc (.cells #[.string ⟨#[]⟩, .string ⟨#[]⟩] 72)) := (Below.refl _ _).alloc (Nat.le_refl _) _
  have f0 : (w.alloc (.cells #[.string ⟨#[]⟩, .string ⟨#[]⟩] 72)).cell? ⟨w.heap.size, 0, none⟩ = some (.string ⟨#[]⟩) := by rw [cell_of_row _ _ _ _ _ _ (heap_alloc_new w _)]; rfl
  have f1 : (w.alloc (.cells #[.string ⟨#[]⟩, .string ⟨#[]⟩] 72)).cell? ⟨w.heap.size, 1, none⟩ = some (.string ⟨#[]⟩) := by rw [cell_of_row _ _ _ _ _ _ (heap_alloc_new w _)]; rfl
  exact bodyPost_ret (v := .tuple #[.agg #[.string ⟨#[]⟩, .string ⟨#[]⟩], .int .i64 0]) (by simp [results, Tryd.results31, go_sem, f0, f1]) rfl ⟨rfl, hbf⟩

set_option maxHeartbeats 1000000 in
theorem look_n3 (k : Int) (w : World) (h0 : 111 < k) (h1 : k < 160) :
    Calls Tryd.prog 31 #[.int .i64 k] w (LookPost w ⟨#[]⟩ ⟨#[]⟩ 0) := by
  go_enter Tryd.func31, Tryd.ntmps31
  go_wp2_with fail
  have hbf : Below w.heap.size w (w.alloc (.cells #[.string ⟨#[]⟩, .string ⟨#[]⟩] 72)) := (Below.refl _ _).alloc (Nat.le_refl _) _
  have f0 : (w.alloc (.cells #[.string ⟨#[]⟩, .string ⟨#[]⟩] 72)).cell? ⟨w.heap.size, 0, none⟩ = some (.string ⟨#[]⟩) := by rw [cell_of_row _ _ _ _ _ _ (heap_alloc_new w _)]; rfl
  have f1 : (w.alloc (.cells #[.string ⟨#[]⟩, .string ⟨#[]⟩] 72)).cell? ⟨w.heap.size, 1, none⟩ = some (.string ⟨#[]⟩) := by rw [cell_of_row _ _ _ _ _ _ (heap_alloc_new w _)]; rfl
  exact bodyPost_ret (v := .tuple #[.agg #[.string ⟨#[]⟩, .string ⟨#[]⟩], .int .i64 0]) (by simp [results, Tryd.results31, go_sem, f0, f1]) rfl ⟨rfl, hbf⟩

set_option maxHeartbeats 1000000 in
theorem look_n4 (k : Int) (w : World) (h0 : 165 < k) (h1 : k < 192) :
    Calls Tryd.prog 31 #[.int .i64 k] w (LookPost w ⟨#[]⟩ ⟨#[]⟩ 0) := by
  go_enter Tryd.func31, Tryd.ntmps31
  go_wp2_with fail
  have hbf : Below w.heap.size w (w.alloc (.cells #[.string ⟨#[]⟩, .string ⟨#[]⟩] 72)) := (Below.refl _ _).alloc (Nat.le_refl _) _
  have f0 : (w.alloc (.cells #[.string ⟨#[]⟩, .string ⟨#[]⟩] 72)).cell? ⟨w.heap.size, 0, none⟩ = some (.string ⟨#[]⟩) := by rw [cell_of_row _ _ _ _ _ _ (heap_alloc_new w _)]; rfl
  have f1 : (w.alloc (.cells #[.string ⟨#[]⟩, .string ⟨#[]⟩] 72)).cell? ⟨w.heap.size, 1, none⟩ = some (.string ⟨#[]⟩) := by rw [cell_of_row _ _ _ _ _ _ (heap_alloc_new w _)]; rfl
  exact bodyPost_ret (v := .tuple #[.agg #[.string ⟨#[]⟩, .string ⟨#[]⟩], .int .i64 0]) (by simp [results, Tryd.results31, go_sem, f0, f1]) rfl ⟨rfl, hbf⟩

set_option maxHeartbeats 1000000 in
theorem look_n5 (k : Int) (w : World) (h0 : 198 < k) (h1 : k ≤ 9223372036854775807) :
    Calls Tryd.prog 31 #[.int .i64 k] w (LookPost w ⟨#[]⟩ ⟨#[]⟩ 0) := by
  go_enter Tryd.func31, Tryd.ntmps31
  go_wp2_with fail
  have hbf : Below w.heap.size w (w.alloc (.cells #[.string ⟨#[]⟩, .string ⟨#[]⟩] 72)) := (Below.refl _ _).alloc (Nat.le_refl _) _
  have f0 : (w.alloc (.cells #[.string ⟨#[]⟩, .string ⟨#[]⟩] 72)).cell? ⟨w.heap.size, 0, none⟩ = some (.string ⟨#[]⟩) := by rw [cell_of_row _ _ _ _ _ _ (heap_alloc_new w _)]; rfl
  have f1 : (w.alloc (.cells #[.string ⟨#[]⟩, .string ⟨#[]⟩] 72)).cell? ⟨w.heap.size, 1, none⟩ = some (.string ⟨#[]⟩) := by rw [cell_of_row _ _ _ _ _ _ (heap_alloc_new w _)]; rfl
  exact bodyPost_ret (v := .tuple #[.agg #[.string ⟨#[]⟩, .string ⟨#[]⟩], .int .i64 0]) (by simp [results, Tryd.results31, go_sem, f0, f1]) rfl ⟨rfl, hbf⟩

theorem look_any (k : Int) (w : World) (he : Ents w) (hk1 : -9223372036854775808 ≤ k) (hk2 : k ≤ 9223372036854775807) :
    Calls Tryd.prog 31 #[.int .i64 k] w (LookPost w (entP k).1 (entP k).2 (sideP k)) := by
  by_cases h0 : 1 ≤ k ∧ k ≤ 27
  · have e1 : entP k = tab0.getD (k - 1).toNat (⟨#[]⟩, ⟨#[]⟩) := by unfold entP; rw [if_pos h0]
    have e2 : sideP k = 1 := by unfold sideP; rw [if_pos h0]
    rw [e1, e2]
    have ht := he.2.1 (k - 1).toNat (by show (k - 1).toNat < 27; omega)
    exact look_0 k w _ _ (by omega) (by omega) he.1 ht.1 ht.2
  by_cases h1 : 64 ≤ k ∧ k ≤ 74
  · have e1 : entP k = tab1.getD (k - 64).toNat (⟨#[]⟩, ⟨#[]⟩) := by unfold entP; rw [if_neg h0, if_pos h1]
    have e2 : sideP k = 2 := by unfold sideP; rw [if_neg h0, if_pos h1]
    rw [e1, e2]
    have ht := he.2.2.1 (k - 64).toNat (by show (k - 64).toNat < 11; omega)
    exact look_1 k w _ _ (by omega) (by omega) he.1 ht.1 ht.2
  by_cases h2 : 96 ≤ k ∧ k ≤ 111
  · have e1 : entP k = tab2.getD (k - 96).toNat (⟨#[]⟩, ⟨#[]⟩) := by unfold entP; rw [if_neg h0, if_neg h1, if_pos h2]
    have e2 : sideP k = 2 := by unfold sideP; rw [if_neg h0, if_neg h1, if_pos h2]
    rw [e1, e2]
    have ht := he.2.2.2.1 (k - 96).toNat (by show (k - 96).toNat < 16; omega)
    exact look_2 k w _ _ (by omega) (by omega) he.1 ht.1 ht.2
  by_cases h3 : 160 ≤ k ∧ k ≤ 165
  · have e1 : entP k = tab3.getD (k - 160).toNat (⟨#[]⟩, ⟨#[]⟩) := by unfold entP; rw [if_neg h0, if_neg h1, if_neg h2, if_pos h3]
    have e2 : sideP k = 3 := by unfold sideP; rw [if_neg h0, if_neg h1, if_neg h2, if_pos h3]
    rw [e1, e2]
    have ht := he.2.2.2.2.1 (k - 160).toNat (by show (k - 160).toNat < 6; omega)
    exact look_3 k w _ _ (by omega) (by omega) he.1 ht.1 ht.2
  by_cases h4 : 192 ≤ k ∧ k ≤ 198
  · have e1 : entP k = tab4.getD (k - 192).toNat (⟨#[]⟩, ⟨#[]⟩) := by unfold entP; rw [if_neg h0, if_neg h1, if_neg h2, if_neg h3, if_pos h4]
    have e2 : sideP k = 4 := by unfold sideP; rw [if_neg h0, if_neg h1, if_neg h2, if_neg h3, if_pos h4]
    rw [e1, e2]
    have ht := he.2.2.2.2.2 (k - 192).toNat (by show (k - 192).toNat < 7; omega)
    exact look_4 k w _ _ (by omega) (by omega) he.1 ht.1 ht.2
  have e1 : entP k = (⟨#[]⟩, ⟨#[]⟩) := by unfold entP; rw [if_neg h0, if_neg h1, if_neg h2, if_neg h3, if_neg h4]
  have e2 : sideP k = 0 := by unfold sideP; rw [if_neg h0, if_neg h1, if_neg h2, if_neg h3, if_neg h4]
  rw [e1, e2]
  by_cases g0 : k < 1
  · exact look_n0 k w hk1 g0
  by_cases g1 : k < 64
  · exact look_n1 k w (by omega) g1
  by_cases g2 : k < 96
  · exact look_n2 k w (by omega) g2
  by_cases g3 : k < 160
  · exact look_n3 k w (by omega) g3
  by_cases g4 : k < 192
  · exact look_n4 k w (by omega) g4
  exact look_n5 k w (by omega) hk2
end Go.Proofs.YtkhhbmbjmfdgdaaDoor
