/- Verb: the reference's table of kinds, a kind's row in it, the kind of a name, a kind's side. -/
import Derived.Test.YtkhhbmbjmfdgdaaDoorV2
import Derived.Great.Walk
import Derived.Great.BuildSlice
import Derived.Deep.Cut
namespace Go.Proofs.YtkhhbmbjmfdgdaaDoor
open Go.RowKit
set_option maxRecDepth 20000

def rowsR : List (Nat × ByteArray × ByteArray) := [(1, ⟨#[108, 111, 103, 105, 110]⟩, ⟨#[115]⟩), (2, ⟨#[112, 105, 110, 103]⟩, ⟨#[100]⟩), (3, ⟨#[102, 114, 105, 101, 110, 100, 45, 97, 115, 107]⟩, ⟨#[100]⟩), (4, ⟨#[102, 114, 105, 101, 110, 100, 45, 97, 99, 99, 101, 112, 116]⟩, ⟨#[100]⟩), (5, ⟨#[102, 114, 105, 101, 110, 100, 45, 114, 101, 102, 117, 115, 101]⟩, ⟨#[100]⟩), (6, ⟨#[102, 114, 105, 101, 110, 100, 45, 114, 101, 109, 111, 118, 101]⟩, ⟨#[100]⟩), (7, ⟨#[98, 108, 111, 99, 107]⟩, ⟨#[100]⟩), (8, ⟨#[117, 110, 98, 108, 111, 99, 107]⟩, ⟨#[100]⟩), (9, ⟨#[102, 114, 105, 101, 110, 100, 115]⟩, ⟨#[]⟩), (10, ⟨#[105, 110, 118, 105, 116, 101]⟩, ⟨#[100]⟩), (11, ⟨#[106, 111, 105, 110]⟩, ⟨#[100]⟩), (12, ⟨#[114, 101, 102, 117, 115, 101]⟩, ⟨#[100]⟩), (13, ⟨#[108, 101, 97, 118, 101]⟩, ⟨#[]⟩), (14, ⟨#[107, 105, 99, 107]⟩, ⟨#[100]⟩), (15, ⟨#[108, 101, 97, 100]⟩, ⟨#[100]⟩), (16, ⟨#[112, 97, 114, 116, 121]⟩, ⟨#[]⟩), (17, ⟨#[113, 117, 101, 117, 101]⟩, ⟨#[98]⟩), (18, ⟨#[99, 97, 110, 99, 101, 108]⟩, ⟨#[]⟩), (19, ⟨#[97, 99, 99, 101, 112, 116]⟩, ⟨#[]⟩), (20, ⟨#[100, 101, 99, 108, 105, 110, 101]⟩, ⟨#[]⟩), (21, ⟨#[116, 111, 107, 101, 110]⟩, ⟨#[]⟩), (22, ⟨#[114, 97, 116, 105, 110, 103]⟩, ⟨#[100]⟩), (23, ⟨#[112, 101, 110, 97, 108, 116, 121]⟩, ⟨#[]⟩), (24, ⟨#[115, 116, 97, 116, 117, 115]⟩, ⟨#[100]⟩), (25, ⟨#[108, 111, 103, 111, 117, 116]⟩, ⟨#[]⟩), (26, ⟨#[116, 105, 109, 101]⟩, ⟨#[]⟩), (27, ⟨#[109, 97, 116, 99, 104]⟩, ⟨#[]⟩), (64, ⟨#[111, 107]⟩, ⟨#[98]⟩), (65, ⟨#[101, 114, 114, 111, 114]⟩, ⟨#[98, 98]⟩), (66, ⟨#[119, 101, 108, 99, 111, 109, 101]⟩, ⟨#[100, 100, 98]⟩), (67, ⟨#[112, 111, 110, 103]⟩, ⟨#[100]⟩), (68, ⟨#[102, 114, 105, 101, 110, 100, 45, 108, 105, 115, 116]⟩, ⟨#[108, 108, 108]⟩), (69, ⟨#[112, 97, 114, 116, 121, 45, 105, 115]⟩, ⟨#[100, 100, 108]⟩), (70, ⟨#[114, 97, 116, 105, 110, 103, 45, 105, 115]⟩, ⟨#[100, 100]⟩), (71, ⟨#[112, 101, 110, 97, 108, 116, 121, 45, 105, 115]⟩, ⟨#[98, 113]⟩), (72, ⟨#[115, 116, 97, 116, 117, 115, 45, 105, 115]⟩, ⟨#[100, 98]⟩), (73, ⟨#[116, 105, 109, 101, 45, 105, 115]⟩, ⟨#[113]⟩), (74, ⟨#[109, 97, 116, 99, 104, 45, 105, 115]⟩, ⟨#[100, 119, 98, 98]⟩), (96, ⟨#[102, 114, 105, 101, 110, 100, 45, 97, 115, 107, 101, 100]⟩, ⟨#[100]⟩), (97, ⟨#[102, 114, 105, 101, 110, 100, 45, 110, 111, 119]⟩, ⟨#[100, 98]⟩), (98, ⟨#[102, 114, 105, 101, 110, 100, 45, 103, 111, 110, 101]⟩, ⟨#[100]⟩), (99, ⟨#[112, 114, 101, 115, 101, 110, 99, 101]⟩, ⟨#[100, 98]⟩), (100, ⟨#[105, 110, 118, 105, 116, 101, 100]⟩, ⟨#[100, 100]⟩), (101, ⟨#[112, 97, 114, 116, 121, 45, 110, 111, 119]⟩, ⟨#[100, 100, 108]⟩), (102, ⟨#[112, 97, 114, 116, 121, 45, 111, 118, 101, 114]⟩, ⟨#[100]⟩), (103, ⟨#[113, 117, 101, 117, 101, 100]⟩, ⟨#[98]⟩), (104, ⟨#[117, 110, 113, 117, 101, 117, 101, 100]⟩, ⟨#[98]⟩), (105, ⟨#[99, 104, 101, 99, 107]⟩, ⟨#[100, 113]⟩), (106, ⟨#[99, 104, 101, 99, 107, 45, 111, 118, 101, 114]⟩, ⟨#[100, 98]⟩), (107, ⟨#[115, 101, 97, 116]⟩, ⟨#[100, 119, 98, 98, 113, 115]⟩), (108, ⟨#[108, 105, 118, 101]⟩, ⟨#[100]⟩), (109, ⟨#[111, 118, 101, 114]⟩, ⟨#[100, 98, 100]⟩), (110, ⟨#[112, 101, 110, 97, 108, 105, 115, 101, 100]⟩, ⟨#[98, 98, 113]⟩), (111, ⟨#[98, 121, 101]⟩, ⟨#[98]⟩), (160, ⟨#[115, 116, 97, 114, 116]⟩, ⟨#[100, 98, 108, 108]⟩), (161, ⟨#[102, 105, 108, 108, 101, 100]⟩, ⟨#[100, 98, 108]⟩), (162, ⟨#[108, 111, 115, 116]⟩, ⟨#[100, 100]⟩), (163, ⟨#[100, 114, 97, 105, 110]⟩, ⟨#[100]⟩), (164, ⟨#[106, 111, 105, 110, 101, 100]⟩, ⟨#[100, 100]⟩), (165, ⟨#[114, 101, 102, 117, 115, 101, 100]⟩, ⟨#[98, 98]⟩), (192, ⟨#[104, 101, 108, 108, 111]⟩, ⟨#[]⟩), (193, ⟨#[98, 101, 97, 116]⟩, ⟨#[]⟩), (194, ⟨#[117, 112]⟩, ⟨#[]⟩), (195, ⟨#[99, 111, 109, 101]⟩, ⟨#[115]⟩), (196, ⟨#[108, 101, 102, 116]⟩, ⟨#[100]⟩), (197, ⟨#[114, 101, 115, 117, 108, 116]⟩, ⟨#[100, 98]⟩), (198, ⟨#[102, 114, 101, 101, 100]⟩, ⟨#[]⟩)]
def rowV (r : Nat × ByteArray × ByteArray) : List Value := [.int .i64 (r.1 : Int), .string r.2.1, .string r.2.2]
def tblL : List Value := rowsR.flatMap rowV

theorem flat3 (l : List (Nat × ByteArray × ByteArray)) (i : Nat) (hi : i < l.length) :
    (l.flatMap rowV)[i * 3]? = some (.int .i64 (l[i].1 : Int)) ∧ (l.flatMap rowV)[i * 3 + 1]? = some (.string l[i].2.1) ∧ (l.flatMap rowV)[i * 3 + 2]? = some (.string l[i].2.2) := by
  induction l generalizing i with
  | nil => simp at hi
  | cons r l ih =>
    rcases i with _ | i
    · simp [rowV]
    · have h := ih i (by simpa using hi)
      have e : (i + 1) * 3 = i * 3 + 3 := by omega
      rw [e]
      simpa [rowV] using h

theorem rows_len : rowsR.length = 67 := rfl

/-- The table lies in block T. -/
def TblAt (w : World) (T : Nat) : Prop := w.heap[T]? = some (.cells tblL.toArray 23 (0, 0))
theorem TblAt.get {w : World} {T : Nat} (h : TblAt w T) (i : Nat) (hi : i < rowsR.length) :
    w.cell? ⟨T, i * 3, none⟩ = some (.int .i64 (rowsR[i].1 : Int)) ∧ w.cell? ⟨T, i * 3 + 1, none⟩ = some (.string rowsR[i].2.1) ∧ w.cell? ⟨T, i * 3 + 2, none⟩ = some (.string rowsR[i].2.2) := by
  obtain ⟨h0, h1, h2⟩ := flat3 rowsR i hi
  refine ⟨(cell_of_row w T _ _ _ _ h).trans ?_, (cell_of_row w T _ _ _ _ h).trans ?_, (cell_of_row w T _ _ _ _ h).trans ?_⟩
  · rw [List.getElem?_toArray]; exact h0
  · rw [List.getElem?_toArray]; exact h1
  · rw [List.getElem?_toArray]; exact h2

/-- A row of operations run one behind the other: the frame and the world behind it. -/
def runOps (P : Program) : List Oper → Act → World → Option (Act × World)
  | [], a, w => some (a, w)
  | o :: r, a, w =>
    match o.guard with
    | some _ => none
    | none =>
      match (execOp a.eval o).run P w with
      | .ok (.value v) w' => runOps P r (a.put o.dst v) w'
      | _ => none

theorem wpList_runOps {P : Program} {ops : Array Oper} {Q : Exit → Act → World → Prop} {a' : Act} {w' : World} :
    ∀ (l : List Oper) (a : Act) (w : World), runOps P l a w = some (a', w') → Q .normal a' w' → wpList P ops Q l a w
  | [], a, w, h, hq => by
    simp only [runOps, Option.some.injEq, Prod.mk.injEq] at h
    obtain ⟨rfl, rfl⟩ := h
    exact hq
  | o :: r, a, w, h, hq => by
    unfold runOps at h
    split at h
    · cases h
    · rename_i hg
      split at h
      · rename_i v w2 hrun
        refine wpList_plain hg fun K hK => ?_
        unfold Oper.wp
        rw [hrun, Oper.upon_value]
        exact hK _ _ (wpList_runOps r _ _ h hq)
      · cases h

theorem wpList_runTo0 {P : Program} {ops : Array Oper} {Q : Exit → Act → World → Prop} {l : List Oper} {a : Act} {w w' : World} {v : Value}
    (h : (runOps P l a w).map (fun x => (x.1.tmps[0]?, x.1.defers.isEmpty, x.2)) = some (some v, true, w'))
    (hq : ∀ a', a'.tmps[0]? = some v → a'.defers = [] → Q .normal a' w') : wpList P ops Q l a w := by
  rcases hr : runOps P l a w with _ | ⟨a', w2⟩
  · rw [hr] at h
    cases h
  · rw [hr] at h
    simp only [Option.map_some, Option.some.injEq, Prod.mk.injEq] at h
    obtain ⟨h1, h2, h3⟩ := h
    rw [h3] at hr
    exact wpList_runOps l a w hr (hq a' h1 (List.isEmpty_iff.1 h2))

set_option maxHeartbeats 400000 in
theorem table_any (w : World) : Calls Tryd.prog 30 #[] w fun e w' => e = .returned (.slice (some ⟨w.heap.size, 0, none⟩) 67 67) ∧ w' = w.alloc (.cells tblL.toArray 23) := by
  go_enter Tryd.func30, Tryd.ntmps30
  go_upto_region 1 with (fail)
  refine wp_region_lit ?_
  refine wpList_runTo0 (v := .slice (some ⟨w.heap.size, 0, none⟩) 67 67) (w' := w.alloc (.cells tblL.toArray 23)) (by kernel_rfl) ?_
  intro a' h0 hd
  rename_i Q K hK
  refine hK _ _ (wp_ret ?_)
  exact bodyPost_ret (v := .slice (some ⟨w.heap.size, 0, none⟩) 67 67) (by simp [results, Tryd.results30, h0]) hd ⟨rfl, rfl⟩

/-- A kind's row. -/
def findR (k : Int) : Option (Nat × ByteArray × ByteArray) := rowsR.find? fun r => (r.1 : Int) == k
def rowD (r : Option (Nat × ByteArray × ByteArray)) : Nat × ByteArray × ByteArray := r.getD (0, ⟨#[]⟩, ⟨#[]⟩)

def FindPost (w : World) (r : Option (Nat × ByteArray × ByteArray)) (e : Ending) (w' : World) : Prop :=
  e = .returned (.tuple #[.agg #[.int .i64 ((rowD r).1 : Int), .string (rowD r).2.1, .string (rowD r).2.2], .bool r.isSome]) ∧ Below w.heap.size w w'

theorem find_at {p : Nat × ByteArray × ByteArray → Bool} (l : List (Nat × ByteArray × ByteArray)) (i : Nat) (hi : i < l.length) (hno : ∀ j (hj : j < l.length), j < i → p l[j] = false) (hp : p l[i] = true) : l.find? p = some l[i] := by
  rw [List.find?_eq_some_iff_getElem]
  exact ⟨hp, i, hi, rfl, fun j hj => by rw [hno j (by omega) hj]; rfl⟩
theorem find_no {p : Nat × ByteArray × ByteArray → Bool} (l : List (Nat × ByteArray × ByteArray)) (hno : ∀ j (hj : j < l.length), p l[j] = false) : l.find? p = none := by
  rw [List.find?_eq_none]
  intro x hx
  obtain ⟨j, hj, rfl⟩ := List.getElem_of_mem hx
  rw [hno j hj]
  simp

set_option maxHeartbeats 2000000 in
theorem find_any (k : Int) (w : World) : Calls Tryd.prog 10 #[.int .i64 k] w (FindPost w (findR k)) := by
  obtain ⟨res, hres⟩ : ∃ res, res = findR k := ⟨_, rfl⟩
  rw [← hres]
  have HRES := Lib.hid hres
  clear hres
  have hb0 := (Below.refl w.heap.size w).alloc (Nat.le_refl _) (.cells #[.int .i64 0, .string ⟨#[]⟩, .string ⟨#[]⟩] 23)
  obtain ⟨w1, hw1⟩ : ∃ w1, w1 = w.alloc (.cells #[.int .i64 0, .string ⟨#[]⟩, .string ⟨#[]⟩] 23) := ⟨_, rfl⟩
  have hsz : w1.heap.size = w.heap.size + 1 := by rw [hw1]; simp
  obtain ⟨T, hT⟩ : ∃ T, T = w1.heap.size := ⟨_, rfl⟩
  obtain ⟨w2, hw2⟩ : ∃ w2, w2 = w1.alloc (.cells tblL.toArray 23) := ⟨_, rfl⟩
  have hp1 := heap_alloc_new w (.cells #[.int .i64 0, .string ⟨#[]⟩, .string ⟨#[]⟩] 23)
  rw [← hw1] at hb0 hp1
  have hb2 : Below w.heap.size w w2 := by rw [hw2]; exact hb0.alloc hb0.size _
  have hp2 : w2.heap[w.heap.size]? = some (.cells #[.int .i64 0, .string ⟨#[]⟩, .string ⟨#[]⟩] 23 (0, 0)) := by rw [hw2]; exact (Below.heap_alloc _ _ _ (lt_of_block hp1)).trans hp1
  have ht2 : TblAt w2 T := by rw [hw2, hT]; exact heap_alloc_new w1 _
  have f0 : ∀ i, w2.frozen? ⟨w.heap.size, i, none⟩ = false := fun i => frozen_of_row w2 _ i _ _ hp2
  have g0 := cell_of_row w2 w.heap.size 0 _ _ _ hp2
  have g1 := cell_of_row w2 w.heap.size 1 _ _ _ hp2
  have g2 := cell_of_row w2 w.heap.size 2 _ _ _ hp2
  simp at g0 g1 g2
  have hTne : T ≠ w.heap.size := by omega
  have HT := Lib.hid ht2
  have HB := Lib.hid hb2
  have HTB := Lib.hid (table_any w1)
  have H1 := Lib.hid hw1
  have H2 := Lib.hid hw2
  have H3 := Lib.hid hT
  clear hb0 hw1 hsz hT hw2 hp1 hb2 hp2 ht2
  go_enter Tryd.func10, Tryd.ntmps10
  go_wp2_with fail
  rw [← H1.out]
  refine HTB.out.mono ?_
  rintro e w' ⟨rfl, rfl⟩
  rw [← H2.out, ← H3.out]
  go_wp2_with fail
  go_loop [5] (fun i => ∃ j : Nat, j ≤ 67 ∧ i = .int .i64 j ∧ Hid (∀ m (hm : m < rowsR.length), m < j → ((rowsR[m].1 : Int) == k) = false)) (fun i => 67 - (intOf i).toNat)
  case atStart => exact ⟨0, by omega, rfl, fun m hm h => by omega⟩
  case round =>
    obtain ⟨j, hj, rfl, hno⟩ := hrel
    by_cases hlt : j < 67
    · obtain ⟨c0, c1, c2⟩ := HT.out.get j hlt
      obtain ⟨r, hr⟩ : ∃ r, r = rowsR[j]'(by exact hlt) := ⟨_, rfl⟩
      rw [← hr] at c0 c1 c2
      have HR := Lib.hid hr
      clear hr
      rcases hq : ((r.1 : Int) == k) with _ | _
      · have HN : Hid (∀ m (hm : m < rowsR.length), m < j + 1 → ((rowsR[m].1 : Int) == k) = false) := fun m hm h3 => by
          rcases Nat.lt_or_ge m j with h4 | h4
          · exact hno.out m hm h4
          · obtain rfl : m = j := by omega
            rw [show rowsR[m]'hm = r from HR.out.symm]
            exact hq
        clear hno
        go_wp2
        go_round
        case rel => exact ⟨j + 1, by omega, by go_num, HN⟩
        case measure => simp [intOf] <;> omega
      · have hf : res = some r := by
          rw [HRES.out, HR.out]
          exact find_at rowsR j hlt (fun m hm h => hno.out m hm h) (by rw [← HR.out]; exact hq)
        have HF := Lib.hid hf
        clear hf hno
        go_wp2
        exact bodyPost_ret (v := .tuple #[.agg #[.int .i64 (r.1 : Int), .string r.2.1, .string r.2.2], .bool true]) (by simp [results, Tryd.results10, go_sem, g0, g1, g2]) rfl ⟨by rw [HF.out]; rfl, ((HB.out.setCell (by simp) _).setCell (by simp) _).setCell (by simp) _⟩
    · have hf : res = none := by
        rw [HRES.out]
        exact find_no rowsR (fun m hm => hno.out m hm (by have : m < 67 := hm; omega))
      have HF := Lib.hid hf
      clear hf hno
      go_wp2
      exact bodyPost_ret (v := .tuple #[.agg #[.int .i64 0, .string ⟨#[]⟩, .string ⟨#[]⟩], .bool false]) (by simp [results, Tryd.results10, go_sem, g0, g1, g2]) rfl ⟨by rw [HF.out]; rfl, ((HB.out.setCell (by simp) _).setCell (by simp) _).setCell (by simp) _⟩

/-- The kind of a name. -/
def namedR (s : ByteArray) : Option (Nat × ByteArray × ByteArray) := rowsR.find? fun r => r.2.1.toList == s.toList
def NamedPost (w : World) (r : Option (Nat × ByteArray × ByteArray)) (e : Ending) (w' : World) : Prop :=
  e = .returned (.tuple #[.int .i64 ((rowD r).1 : Int), .bool r.isSome]) ∧ Below w.heap.size w w'

set_option maxHeartbeats 2000000 in
theorem named_any (s : ByteArray) (w : World) : Calls Tryd.prog 13 #[.string s] w (NamedPost w (namedR s)) := by
  obtain ⟨res, hres⟩ : ∃ res, res = namedR s := ⟨_, rfl⟩
  rw [← hres]
  have HRES := Lib.hid hres
  clear hres
  obtain ⟨T, hT⟩ : ∃ T, T = w.heap.size := ⟨_, rfl⟩
  obtain ⟨w2, hw2⟩ : ∃ w2, w2 = w.alloc (.cells tblL.toArray 23) := ⟨_, rfl⟩
  have hb2 : Below w.heap.size w w2 := by rw [hw2]; exact (Below.refl _ _).alloc (Nat.le_refl _) _
  have ht2 : TblAt w2 T := by rw [hw2, hT]; exact heap_alloc_new w _
  have HT := Lib.hid ht2
  have HB := Lib.hid hb2
  have HTB := Lib.hid (table_any w)
  have H2 := Lib.hid hw2
  have H3 := Lib.hid hT
  clear hT hw2 hb2 ht2
  go_enter Tryd.func13, Tryd.ntmps13
  go_wp2_with fail
  refine HTB.out.mono ?_
  rintro e w' ⟨rfl, rfl⟩
  rw [← H2.out, ← H3.out]
  go_wp2_with fail
  go_loop [5] (fun i => ∃ j : Nat, j ≤ 67 ∧ i = .int .i64 j ∧ Hid (∀ m (hm : m < rowsR.length), m < j → (rowsR[m].2.1.toList == s.toList) = false)) (fun i => 67 - (intOf i).toNat)
  case atStart => exact ⟨0, by omega, rfl, fun m hm h => by omega⟩
  case round =>
    obtain ⟨j, hj, rfl, hno⟩ := hrel
    by_cases hlt : j < 67
    · obtain ⟨c0, c1, c2⟩ := HT.out.get j hlt
      obtain ⟨r, hr⟩ : ∃ r, r = rowsR[j]'(by exact hlt) := ⟨_, rfl⟩
      rw [← hr] at c0 c1 c2
      have HR := Lib.hid hr
      clear hr
      rcases hq : (r.2.1.toList == s.toList) with _ | _
      · have HN : Hid (∀ m (hm : m < rowsR.length), m < j + 1 → (rowsR[m].2.1.toList == s.toList) = false) := fun m hm h3 => by
          rcases Nat.lt_or_ge m j with h4 | h4
          · exact hno.out m hm h4
          · obtain rfl : m = j := by omega
            rw [show rowsR[m]'hm = r from HR.out.symm]
            exact hq
        clear hno
        go_wp2
        go_round
        case rel => exact ⟨j + 1, by omega, by go_num, HN⟩
        case measure => simp [intOf] <;> omega
      · have hf : res = some r := by
          rw [HRES.out, HR.out]
          exact find_at rowsR j hlt (fun m hm h => hno.out m hm h) (by rw [← HR.out]; exact hq)
        have HF := Lib.hid hf
        clear hf hno
        go_wp2
        go_ret2
        exact ⟨by rw [HF.out]; rfl, HB.out⟩
    · have hf : res = none := by
        rw [HRES.out]
        exact find_no rowsR (fun m hm => hno.out m hm (by have : m < 67 := hm; omega))
      have HF := Lib.hid hf
      clear hf hno
      go_wp2
      go_ret2
      exact ⟨by rw [HF.out]; rfl, HB.out⟩

/-- What the document's table and the program's own say is one. -/
theorem tables_one : ∀ k : Fin 199, (findR (k.1 : Int)).isSome = (sideP (k.1 : Int) != 0) ∧ (rowD (findR (k.1 : Int))).2 = entP (k.1 : Int) ∧
    (rowD (findR (k.1 : Int))).1 = (if sideP (k.1 : Int) != 0 then k.1 else 0) := by decide +kernel
end Go.Proofs.YtkhhbmbjmfdgdaaDoor
