/- The fields of any bytes by any shape: a contract for field.Read. -/
import Derived.Test.YtaefgieodehceaaDoorB4
namespace Go.Proofs.YtaefgieodehceaaDoor
set_option maxRecDepth 4000
open Go.RowKit

theorem gath_any (B B1 G : Nat) (cs : Array Value) (vN vS vL : Value) (vs : List Value) (s : Gs) (c : UInt8) (w : World) (h : IsG w B B1 G cs vN vS vL vs s)
    (hmax : s.r.1.length ≤ 1099511627776) (hN : s.N.length ≤ 1000) (hS : s.S.length ≤ 1000) (hL : s.L.length ≤ 1000) :
    Calls Tryd.prog 51 #[.pointer (some ⟨G, 0, none⟩), .int .u8 (c.toNat : Int)] w (GathPost w B B1 G (gath s c)) := by
  by_cases h1 : c.toNat = 115
  · exact gath_text B B1 G cs vN vS vL vs s c w h hmax hS h1
  · by_cases h2 : c.toNat = 108
    · exact gath_list B B1 G cs vN vS vL vs s c w h hmax hL h2
    · exact gath_number B B1 G cs vN vS vL vs s c w h hmax hN h1 h2

def gst (l b : List UInt8) : Gs := l.foldl gath ⟨(b, false), [], [], []⟩

theorem gst_snoc (l b : List UInt8) (c : UInt8) : gst (l ++ [c]) b = gath (gst l b) c := by simp [gst]

theorem gath_bounds (s : Gs) (c : UInt8) : (gath s c).r.1.length ≤ s.r.1.length ∧ (gath s c).N.length ≤ s.N.length + 1 ∧ (gath s c).S.length ≤ s.S.length + 1 ∧ (gath s c).L.length ≤ s.L.length + 1 := by
  unfold gath
  split
  · exact ⟨Nat.le_trans (cutP_rest _ _) (cutP_rest _ _), by simp, by simp, by simp⟩
  · split
    · exact ⟨Nat.le_trans (nums_rest _ _) (cutP_rest _ _), by simp, by simp, by simp⟩
    · exact ⟨cutP_rest _ _, by simp, by simp, by simp⟩

theorem gst_bounds (l b : List UInt8) : (gst l b).r.1.length ≤ b.length ∧ (gst l b).N.length ≤ l.length ∧ (gst l b).S.length ≤ l.length ∧ (gst l b).L.length ≤ l.length := by
  rw [← List.reverse_reverse l]
  induction l.reverse with
  | nil => simp [gst]
  | cons c l ih =>
    rw [List.reverse_cons, gst_snoc]
    have h := gath_bounds (gst l.reverse b) c
    simp only [List.length_append, List.length_singleton]
    omega

/-- What Read hands back: an error's number, and the fields. -/
def readR (l b : List UInt8) : Nat × List Nat × List ByteArray × List (List Nat) :=
  if least l < 0 then (1, [], [], [])
  else if (gst l b).r.2 = true then (3, [], [], [])
  else if (gst l b).r.1.length ≠ 0 then (4, [], [], [])
  else (0, (gst l b).N, (gst l b).S, (gst l b).L)

def ReadPost (w : World) (r : Nat × List Nat × List ByteArray × List (List Nat)) (e : Ending) (w' : World) : Prop :=
  ∃ vN vS vL vs, e = .returned (.tuple #[.agg #[vN, vS, vL], .int .i64 (r.1 : Int)]) ∧ Below w.heap.size w w' ∧
    w'.ownsRow w.heap.size 24 1 vN r.2.1.length (uv .u64 r.2.1) ∧ w'.ownsRow w.heap.size 9 1 vS r.2.2.1.length (sv r.2.2.1) ∧ w'.ownsRow w.heap.size 103 1 vL r.2.2.2.length vs ∧
    Lown w' w.heap.size vs r.2.2.2 ∧ (∀ n ∈ r.2.1, n < 18446744073709551616)

theorem Lown.mono {w : World} {B B' : Nat} (hB : B' ≤ B) : ∀ {vs : List Value} {us : List (List Nat)}, Lown w B vs us → Lown w B' vs us
  | [], [], _ => trivial
  | _ :: _, _ :: _, ⟨⟨g, hv, hb, r⟩, h⟩ => ⟨⟨g, hv, by omega, r⟩, Lown.mono hB h⟩

theorem ReadPost.err {w w' : World} {k : Nat} (hb : Below w.heap.size w w') : ReadPost w (k, [], [], []) (.returned (.tuple #[.agg #[.slice none 0 0, .slice none 0 0, .slice none 0 0], .int .i64 (k : Int)])) w' :=
  ⟨_, _, _, [], rfl, hb, World.ownsRow_nil _ _ _ _, World.ownsRow_nil _ _ _ _, World.ownsRow_nil _ _ _ _, trivial, fun n hn => by cases hn⟩

set_option maxHeartbeats 4000000 in
theorem read_shape (s : ByteArray) (v : Value) (w : World) (h : least s.data.toList < 0) :
    Calls Tryd.prog 39 #[.string s, v] w (ReadPost w (1, [], [], [])) := by
  have hr := fun W => right_any s W
  rw [decide_eq_false (by omega)] at hr
  have HR := Lib.hid hr
  clear hr
  have hb := ((Below.refl w.heap.size w).alloc (Nat.le_refl _) (.cells #[.slice none 0 0, .slice none 0 0, .slice none 0 0] 86))
  go_enter Tryd.func39, Tryd.ntmps39
  go_wp2_with fail
  refine (HR.out _).mono ?_
  rintro e w' ⟨rfl, rfl⟩
  go_wp2
  exact bodyPost_ret (v := .tuple #[.agg #[.slice none 0 0, .slice none 0 0, .slice none 0 0], .int .i64 1]) (by simp [results, Tryd.results39, go_sem]) rfl (ReadPost.err hb)

/-- What is so behind the loop of Read. -/
theorem IsG.keep {w w' : World} {B B1 G : Nat} {cs : Array Value} {vN vS vL : Value} {vs : List Value} {s : Gs} (h : IsG w B B1 G cs vN vS vL vs s) (k : Kp [86] w w') (hb : Below B w w') : IsG w' B B1 G cs vN vS vL vs s :=
  ⟨h.rd.keep ((k _ _ _ _ h.rd.hp (by decide)).trans h.rd.hp.symm) hb, h.sz, h.c2, h.c3, h.c4, k.own h.oN (by decide), k.own h.oS (by decide), k.own h.oL (by decide), k.lown (by decide) h.ls, h.bN, h.hB, h.hG⟩

set_option maxHeartbeats 4000000 in
theorem read_walk (s : ByteArray) (v : Value) (b : List UInt8) (w : World) (h0 : 0 ≤ least s.data.toList) (hv : Bs w w.heap.size v b) (hbl : b.length ≤ 1000000) :
    Calls Tryd.prog 39 #[.string s, v] w (ReadPost w (if (gst s.data.toList b).r.2 = true then (3, [], [], [])
      else if (gst s.data.toList b).r.1.length ≠ 0 then (4, [], [], []) else (0, (gst s.data.toList b).N, (gst s.data.toList b).S, (gst s.data.toList b).L))) := by
  have h8 : s.size ≤ 8 := by
    unfold least at h0
    split at h0
    · omega
    · simp at *; omega
  have hz : s.data.toList.length = s.size := by simp
  have hr := fun W => right_any s W
  rw [decide_eq_true h0] at hr
  have HR := Lib.hid hr
  have HZ := Lib.hid hz
  have HV := Lib.hid hv
  obtain ⟨res, hres⟩ : ∃ res, res = (if (gst s.data.toList b).r.2 = true then ((3, [], [], []) : Nat × List Nat × List ByteArray × List (List Nat))
      else if (gst s.data.toList b).r.1.length ≠ 0 then (4, [], [], []) else (0, (gst s.data.toList b).N, (gst s.data.toList b).S, (gst s.data.toList b).L)) := ⟨_, rfl⟩
  rw [← hres]
  have HRES := Lib.hid hres
  obtain ⟨A, c, rfl, hlc, hrd⟩ := hv
  clear hr h0 hz hres hrd
  have hb0 := ((Below.refl w.heap.size w).alloc (Nat.le_refl _) (.cells #[.slice none 0 0, .slice none 0 0, .slice none 0 0] 86))
  have hb1 := hb0.alloc (by simp) (.cells #[.slice A b.length c, .bool false, .slice none 0 0, .slice none 0 0, .slice none 0 0] 110)
  have hg0 : IsG ((w.alloc (.cells #[.slice none 0 0, .slice none 0 0, .slice none 0 0] 86)).alloc (.cells #[.slice A b.length c, .bool false, .slice none 0 0, .slice none 0 0, .slice none 0 0] 110)) w.heap.size (w.heap.size + 1) (w.heap.size + 1)
      #[.slice A b.length c, .bool false, .slice none 0 0, .slice none 0 0, .slice none 0 0] (.slice none 0 0) (.slice none 0 0) (.slice none 0 0) [] (gst [] b) := by
    have hp := heap_alloc_new (w.alloc (.cells #[.slice none 0 0, .slice none 0 0, .slice none 0 0] 86)) (.cells #[.slice A b.length c, .bool false, .slice none 0 0, .slice none 0 0, .slice none 0 0] 110)
    rw [World.size_alloc] at hp
    exact ⟨⟨hp, ⟨_, rfl, HV.out.below hb1 (Nat.le_refl _)⟩, rfl, by omega⟩, rfl, rfl, rfl, rfl, World.ownsRow_nil _ _ _ _, World.ownsRow_nil _ _ _ _, World.ownsRow_nil _ _ _ _, trivial, (fun n hn => by cases hn), by omega, by omega⟩
  have hR0 : ((w.alloc (.cells #[.slice none 0 0, .slice none 0 0, .slice none 0 0] 86)).alloc (.cells #[.slice A b.length c, .bool false, .slice none 0 0, .slice none 0 0, .slice none 0 0] 110)).heap[w.heap.size]? = some (.cells #[.slice none 0 0, .slice none 0 0, .slice none 0 0] 86 (0, 0)) :=
    (Below.heap_alloc _ _ _ (by simp)).trans (heap_alloc_new w _)
  have HG0 := Lib.hid hg0
  have HR0 := Lib.hid hR0
  clear hg0 hR0
  go_enter Tryd.func39, Tryd.ntmps39
  go_wp2_with fail
  refine (HR.out _).mono ?_
  rintro e w' ⟨rfl, rfl⟩
  go_wp2_with fail
  go_loopw [17] (fun i wr => ∃ (k : Nat) (cs : Array Value) (vN vS vL : Value) (vs : List Value), k ≤ s.size ∧ i = .int .i64 k ∧ Hid (IsG wr w.heap.size (w.heap.size + 1) (w.heap.size + 1) cs vN vS vL vs (gst (s.data.toList.take k) b)) ∧
      Hid (wr.heap[w.heap.size]? = some (.cells #[.slice none 0 0, .slice none 0 0, .slice none 0 0] 86 (0, 0))) ∧ Below w.heap.size w wr) (fun i _ => s.size - (intOf i).toNat)
  case atStart => exact ⟨0, _, _, _, _, _, by omega, rfl, by simpa using HG0, HR0, hb1⟩
  case round =>
    clear hb0 hb1
    obtain ⟨k, cs, vN, vS, vL, vs, hk, rfl, hg, hR, hb⟩ := hrel
    by_cases hlt : k < s.size
    · have hgb := gst_bounds (s.data.toList.take k) b
      have hkl : (s.data.toList.take k).length ≤ 8 := by rw [List.length_take, HZ.out]; omega
      have hc := gath_any w.heap.size (w.heap.size + 1) (w.heap.size + 1) cs vN vS vL vs (gst (s.data.toList.take k) b) s[k] wr hg.out (by omega) (by omega) (by omega) (by omega)
      have hsn : gath (gst (s.data.toList.take k) b) s[k] = gst (s.data.toList.take (k + 1)) b := by
        rw [List.take_succ_eq_append_getElem (by rw [HZ.out]; exact hlt), gst_snoc]
        rfl
      rw [hsn] at hc
      have HC := Lib.hid hc
      clear hc hsn hgb hkl
      go_wp2_with fail
      refine HC.out.mono ?_
      rintro e w2 ⟨rfl, hb2, cs', vN', vS', vL', vs', hg2⟩
      have HG2 := Lib.hid hg2
      have hR2 := (hb2.block w.heap.size (by omega)).trans hR.out
      have HR2 := Lib.hid hR2
      clear hg2 hR2
      go_wp2
      go_roundw
      case rel => exact ⟨k + 1, _, _, _, _, _, by omega, by go_num, HG2, HR2, hb.trans (hb2.mono (by omega))⟩
      case measure => simp [intOf] <;> omega
    · have hta : s.data.toList.take k = s.data.toList := List.take_of_length_le (by rw [HZ.out]; omega)
      have hgo := hg.out
      rw [hta] at hgo
      obtain ⟨g, hgg⟩ : ∃ g, g = gst s.data.toList b := ⟨_, rfl⟩
      have hre := HRES.out
      rw [← hgg] at hgo hre
      clear hta HRES hgg hg HG0 HR0
      have p0 := hgo.rd.hp
      obtain ⟨v0, hv0, A0, c0, rfl, hl0, _⟩ := hgo.rd.bs
      have c0 := (cell_of_row wr (w.heap.size + 1) 0 cs 110 (0, 0) p0).trans hv0
      have c1 := (cell_of_row wr (w.heap.size + 1) 1 cs 110 (0, 0) p0).trans hgo.rd.sh
      have c2 := (cell_of_row wr (w.heap.size + 1) 2 cs 110 (0, 0) p0).trans hgo.c2
      have c3 := (cell_of_row wr (w.heap.size + 1) 3 cs 110 (0, 0) p0).trans hgo.c3
      have c4 := (cell_of_row wr (w.heap.size + 1) 4 cs 110 (0, 0) p0).trans hgo.c4
      have d0 := cell_of_row wr w.heap.size 0 _ _ _ hR.out
      have d1 := cell_of_row wr w.heap.size 1 _ _ _ hR.out
      have d2 := cell_of_row wr w.heap.size 2 _ _ _ hR.out
      simp at d0 d1 d2
      have df : ∀ i, wr.frozen? ⟨w.heap.size, i, none⟩ = false := fun i => frozen_of_row wr _ i _ _ hR.out
      have HGO := Lib.hid hgo
      clear hgo p0 hv0
      by_cases hsh : g.r.2 = true
      · rw [hsh] at c1
        rw [if_pos hsh] at hre
        have HRE := Lib.hid hre
        clear hre hsh c0 c2 c3 c4
        go_wp2
        exact bodyPost_ret (v := .tuple #[.agg #[.slice none 0 0, .slice none 0 0, .slice none 0 0], .int .i64 3]) (by simp [results, Tryd.results39, go_sem, d0, d1, d2]) rfl (by rw [HRE.out]; exact ReadPost.err (((hb.setCell (by simp) _).setCell (by simp) _).setCell (by simp) _))
      · have hsf : g.r.2 = false := by simpa using hsh
        rw [hsf] at c1
        rw [if_neg hsh] at hre
        by_cases hrl : g.r.1.length = 0
        · rw [if_neg (by simpa using hrl)] at hre
          have HRE := Lib.hid hre
          clear hre hsh hsf
          rw [hrl] at c0
          clear hrl
          obtain ⟨aN, kN, rfl, _⟩ := own_rd HGO.out.oN
          obtain ⟨aS, kS, rfl, _⟩ := own_rd HGO.out.oS
          obtain ⟨aL, kL, rfl, _⟩ := own_rd HGO.out.oL
          go_wp2
          have r1 := heap_setCell_same wr w.heap.size 0 _ 86 (.slice aN g.N.length kN) hR.out
          have r2 := heap_setCell_same _ w.heap.size 1 _ 86 (.slice aS g.S.length kS) r1
          have kk := ((Kp.set hR.out 0 (.slice aN g.N.length kN)).trans (Kp.set r1 1 (.slice aS g.S.length kS))).trans (Kp.set r2 2 (.slice aL g.L.length kL))
          exact bodyPost_ret (v := .tuple #[.agg #[.slice aN g.N.length kN, .slice aS g.S.length kS, .slice aL g.L.length kL], .int .i64 0]) (by simp [results, Tryd.results39, go_sem, d0, d1, d2]) rfl (by
            rw [HRE.out]
            exact ⟨_, _, _, vs, rfl, (((hb.setCell (by simp) _).setCell (by simp) _).setCell (by simp) _), own_mono (kk.own HGO.out.oN (by decide)) (by omega), own_mono (kk.own HGO.out.oS (by decide)) (by omega), own_mono (kk.own HGO.out.oL (by decide)) (by omega), Lown.mono (by omega) (kk.lown (by decide) HGO.out.ls), HGO.out.bN⟩)
        · rw [if_pos hrl] at hre
          have HRE := Lib.hid hre
          have hpos : (0 : Int) < (g.r.1.length : Int) := by omega
          clear hre hsh hsf c2 c3 c4 hrl
          go_wp2
          exact bodyPost_ret (v := .tuple #[.agg #[.slice none 0 0, .slice none 0 0, .slice none 0 0], .int .i64 4]) (by simp [results, Tryd.results39, go_sem, d0, d1, d2]) rfl (by rw [HRE.out]; exact ReadPost.err (((hb.setCell (by simp) _).setCell (by simp) _).setCell (by simp) _))

theorem read_any (s : ByteArray) (v : Value) (b : List UInt8) (w : World) (hv : Bs w w.heap.size v b) (hbl : b.length ≤ 1000000) :
    Calls Tryd.prog 39 #[.string s, v] w (ReadPost w (readR s.data.toList b)) := by
  unfold readR
  by_cases h : least s.data.toList < 0
  · rw [if_pos h]
    exact read_shape s v w h
  · rw [if_neg h]
    exact read_walk s v b w (by omega) hv hbl
end Go.Proofs.YtaefgieodehceaaDoor
