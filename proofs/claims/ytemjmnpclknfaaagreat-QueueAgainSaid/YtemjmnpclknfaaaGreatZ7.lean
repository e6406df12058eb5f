/- Sort at uint32: order2, median, medianAdjacent, choosePivot. -/
import Derived.Test.YtemjmnpclknfaaaGreatZ6
namespace Go.Proofs.YtemjmnpclknfaaaGreat.Z
open Go.RowKit
set_option maxRecDepth 20000
set_option linter.unusedVariables false

/-- A number z alone in block G. -/
def Sw (w : World) (G : Nat) (z : Int) : Prop := w.heap[G]? = some (.cells #[.int .i64 z] 3 (0, 0))
theorem Sw.read {w : World} {G : Nat} {z : Int} (h : Sw w G z) : w.cell? ⟨G, 0, none⟩ = some (.int .i64 z) := by
  rw [cell_of_row w G _ _ _ _ h]; rfl
theorem Sw.free {w : World} {G : Nat} {z : Int} (h : Sw w G z) (i : Nat) : w.frozen? ⟨G, i, none⟩ = false := frozen_of_row w G i _ _ h
theorem Sw.drewN {w : World} {G : Nat} {z : Int} (h : Sw w G z) (q : Nat) : Sw (w.drewN q) G z := h
theorem Sw.drew {w : World} {G : Nat} {z : Int} (h : Sw w G z) : Sw w.drew G z := h
theorem Sw.set {w : World} {G : Nat} {z : Int} (h : Sw w G z) (y : Int) : Sw (w.setCell ⟨G, 0, none⟩ (.int .i64 y)) G y := by
  have := heap_setCell_same w G 0 _ 3 (.int .i64 y) h
  exact this
theorem Sr.aside {w0 w : World} {g G : Nat} {pre post : List Value} {d : Array Nat} (h : Sr w0 g pre post d w) (hg : g < G) (i : Nat) (v : Value) : Sr w0 g pre post d (w.setCell ⟨G, i, none⟩ v) :=
  ⟨h.1.setCell (Nat.le_of_lt hg) _, by rw [Below.heap_setCell _ _ _ _ (by show g ≠ G; omega)]; exact h.2⟩
/-- The row, and a count of at most k in block G. -/
def Pv (w0 : World) (g : Nat) (pre post : List Value) (d : Array Nat) (G k : Nat) (w : World) : Prop := Sr w0 g pre post d w ∧ g < G ∧ ∃ s : Nat, s ≤ k ∧ Sw w G s
/-- What order2 leaves. -/
def O2Post (w0 : World) (g : Nat) (pre post : List Value) (d : Array Nat) (G k lo hi : Nat) (r : Ending) (w' : World) : Prop :=
  ∃ x y : Nat, r = .returned (.tuple #[.int .i64 (x : Int), .int .i64 (y : Int)]) ∧ lo ≤ x ∧ x < hi ∧ lo ≤ y ∧ y < hi ∧ Pv w0 g pre post d G (k + 1) w'
/-- What median leaves. -/
def MePost (w0 : World) (g : Nat) (pre post : List Value) (d : Array Nat) (G k lo hi : Nat) (r : Ending) (w' : World) : Prop :=
  ∃ x : Nat, r = .returned (.int .i64 (x : Int)) ∧ lo ≤ x ∧ x < hi ∧ Pv w0 g pre post d G k w'

set_option maxHeartbeats 4000000 in
theorem o2_any (a b lo hi g G k o n cap : Nat) (pre post : List Value) (d : Array Nat) (w0 w : World) (h : Pv w0 g pre post d G k w) (ho : o = pre.length) (hn : n = d.size) (ha : lo ≤ a) (ha2 : a < hi) (hb : lo ≤ b) (hb2 : b < hi) (hh : hi ≤ n) (hk : k < 1000) (hsz : n < 1000000000) :
    Calls Tryz.prog 115 #[.slice (some ⟨g, o, none⟩) n cap, .int .i64 (a : Int), .int .i64 (b : Int), .pointer (some ⟨G, 0, none⟩)] w (O2Post w0 g pre post d G k lo hi) := by
  obtain ⟨hS, hgG, s, hs, hw⟩ := h
  obtain ⟨F, hF⟩ : ∃ G : Nat → Int, G = fun t => ((d[t]! : Nat) : Int) := ⟨_, rfl⟩
  have hcw : ∀ t, t < n → w.cell? ⟨g, o + t, none⟩ = some (.int .u32 (F t)) := fun t ht => by rw [hF]; exact hS.read ho t (by rw [← hn]; exact ht)
  have hfw : ∀ t, t < n → w.frozen? ⟨g, o + t, none⟩ = false := fun t _ => hS.free _
  have hcs := hw.read
  have hfs := hw.free 0
  have HS := Lib.hid hS
  have HW := Lib.hid hw
  clear hS hw hF ho hn
  have han : a < n := by omega
  have hbn : b < n := by omega
  go_enter Tryz.func115, Tryz.ntmps115
  go_wp2
  go_quiet (first | (go_at_call 72; refine Calls.quiet_of_same (lessI _ _ _)))
  go_wp2
  · have HA : Hid (Pv w0 g pre post d G (k + 1) ((w.drewN nq).setCell ⟨G, 0, none⟩ (.int .i64 ((s : Int) + 1)))) := ⟨(HS.out.drewN nq).aside hgG 0 _, hgG, s + 1, by omega, by rw [Int.natCast_add]; exact (HW.out.drewN nq).set ((s : Int) + 1)⟩
    generalize (w.drewN nq).setCell ⟨G, 0, none⟩ (.int .i64 ((s : Int) + 1)) = wz at HA ⊢
    go_ret2
    exact ⟨b, a, rfl, hb, hb2, ha, ha2, HA.out⟩
  · have HA : Hid (Pv w0 g pre post d G (k + 1) (w.drewN nq)) := ⟨HS.out.drewN _, hgG, s, by omega, HW.out.drewN _⟩
    generalize w.drewN nq = wz at HA ⊢
    go_ret2
    exact ⟨a, b, rfl, ha, ha2, hb, hb2, HA.out⟩

set_option maxHeartbeats 4000000 in
theorem me_any (a b c lo hi g G k o n cap : Nat) (pre post : List Value) (d : Array Nat) (w0 w : World) (h : Pv w0 g pre post d G k w) (ho : o = pre.length) (hn : n = d.size) (ha : lo ≤ a) (ha2 : a < hi) (hb : lo ≤ b) (hb2 : b < hi) (hc : lo ≤ c) (hc2 : c < hi) (hh : hi ≤ n) (hk : k < 900) (hsz : n < 1000000000) :
    Calls Tryz.prog 112 #[.slice (some ⟨g, o, none⟩) n cap, .int .i64 (a : Int), .int .i64 (b : Int), .int .i64 (c : Int), .pointer (some ⟨G, 0, none⟩)] w (MePost w0 g pre post d G (k + 3) lo hi) := by
  have HO := Lib.hid ho
  have HD := Lib.hid hn
  have HH0 := Lib.hid h
  clear h ho hn
  go_enter Tryz.func112, Tryz.ntmps112
  have hk1 : k < 1000 := by omega
  have hk2 : k + 1 < 1000 := by omega
  have hk3 : k + 1 + 1 < 1000 := by omega
  go_upto_region 2 with (go_at_call 115; have c1 := o2_any a b lo hi g G k o n cap pre post d w0 _ HH0.out HO.out HD.out ha ha2 hb hb2 hh hk1 hsz; refine c1.mono ?_; clear c1; rintro e w1 ⟨x1, y1, rfl, hx1, hx1b, hy1, hy1b, h1⟩; have HH1 := Lib.hid h1; clear h1)
  go_upto_region 3 with (go_at_call 115; have c2 := o2_any y1 c lo hi g G (k + 1) o n cap pre post d w0 _ HH1.out HO.out HD.out hy1 hy1b hc hc2 hh hk2 hsz; refine c2.mono ?_; clear c2; rintro e w2 ⟨x2, y2, rfl, hx2, hx2b, hy2, hy2b, h2⟩; have HH2 := Lib.hid h2; clear h2)
  go_wp2_with (go_at_call 115; have c3 := o2_any x1 x2 lo hi g G (k + 1 + 1) o n cap pre post d w0 _ HH2.out HO.out HD.out hx1 hx1b hx2 hx2b hh hk3 hsz; refine c3.mono ?_; clear c3; rintro e w3 ⟨x3, y3, rfl, hx3, hx3b, hy3, hy3b, h3⟩; have HH3 := Lib.hid h3; clear h3)
  go_ret
  exact ⟨y3, rfl, hy3, hy3b, HH3.out⟩

set_option maxHeartbeats 4000000 in
theorem ma_any (a lo hi g G k o n cap : Nat) (pre post : List Value) (d : Array Nat) (w0 w : World) (h : Pv w0 g pre post d G k w) (ho : o = pre.length) (hn : n = d.size) (ha : lo + 1 ≤ a) (ha2 : a + 1 < hi) (hh : hi ≤ n) (hk : k < 900) (hsz : n < 1000000000) :
    Calls Tryz.prog 111 #[.slice (some ⟨g, o, none⟩) n cap, .int .i64 (a : Int), .pointer (some ⟨G, 0, none⟩)] w (MePost w0 g pre post d G (k + 3) lo hi) := by
  have HO := Lib.hid ho
  have HD := Lib.hid hn
  have HH0 := Lib.hid h
  clear h ho hn
  obtain ⟨a0, h0⟩ : ∃ x, x = a - 1 := ⟨_, rfl⟩
  obtain ⟨a2, h2⟩ : ∃ x, x = a + 1 := ⟨_, rfl⟩
  have e0 : (a : Int) - 1 = (a0 : Int) := by omega
  have e2 : (a : Int) + 1 = (a2 : Int) := by omega
  have b0 : lo ≤ a0 := by omega
  have b1 : a0 < hi := by omega
  have b2 : lo ≤ a2 := by omega
  have b3 : a2 < hi := by omega
  have b4 : lo ≤ a := by omega
  have b5 : a < hi := by omega
  clear h0 h2
  go_enter Tryz.func111, Tryz.ntmps111
  go_wp2_with (go_at_call 112; have c1 := me_any a0 a a2 lo hi g G k o n cap pre post d w0 _ HH0.out HO.out HD.out b0 b1 b4 b5 b2 b3 hh hk hsz; refine c1.mono ?_; clear c1; rintro e w1 ⟨x1, rfl, hx1, hx1b, h1⟩; have HH1 := Lib.hid h1; clear h1)
  go_ret
  exact ⟨x1, rfl, hx1, hx1b, HH1.out⟩
end Go.Proofs.YtemjmnpclknfaaaGreat.Z
