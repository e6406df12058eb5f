/- Frames: however bytes are cut into pieces, the frames are the same: FrameCut returns true for every input. -/
import Derived.Test.YtggoclmboemmlaaFD
namespace Go.Proofs.Ytggoclmboemmlaa
open Go.RowKit

theorem take_more (b : List UInt8) (p m e : Nat) (he : e = min (p + m) b.length) : b.take (p + m) = b.take p ++ (b.drop p).take (e - p) := by
  rw [List.take_add]
  congr 1
  by_cases h : p + m ≤ b.length
  · rw [he, Nat.min_eq_left h, Nat.add_sub_cancel_left]
  · rw [he, Nat.min_eq_right (by omega), List.take_of_length_le (by rw [List.length_drop]; omega), List.take_of_length_le (by rw [List.length_drop]; omega)]

/-- A row of pieces of bytes that were there at w. -/
def Cs (w wr : World) (fv : Value) (ps : List (List UInt8)) (vs : List Value) : Prop :=
  wr.ownsRow w.heap.size 24 1 fv ps.length vs ∧ ∀ j (hj : j < ps.length), ∃ u, vs[j]? = some u ∧ Pb w u ps[j]
theorem Cs.pbs {w wr : World} {fv : Value} {ps : List (List UInt8)} {vs : List Value} (h : Cs w wr fv ps vs) (hb : Below w.heap.size w wr) : Pbs wr fv ps := by
  have hcs := fun g => h.1.cells (g := g)
  rcases h.1.2 with ⟨rfl, h0⟩ | ⟨g, cap, cur, rfl, _, hg, hc, _⟩
  · exact ⟨none, 0, by rw [h0], by omega, fun hx => absurd hx (by omega)⟩
  · refine ⟨_, cap, rfl, hc, fun hx => ⟨g, 0, rfl, lt_of_block' hg, fun j hj => ?_⟩⟩
    obtain ⟨u, h1, h2⟩ := h.2 j hj
    have h3 := hcs g rfl j _ h1
    rw [Addr.add_mid] at h3
    exact ⟨_, h3, h2.below hb⟩
theorem Cs.form {w wr : World} {fv : Value} {ps : List (List UInt8)} {vs : List Value} (h : Cs w wr fv ps vs) : ∃ A n c, fv = .slice A n c := by
  rcases h.1.2 with ⟨rfl, _⟩ | ⟨g, cap, cur, rfl, _⟩
  · exact ⟨none, 0, 0, rfl⟩
  · exact ⟨_, _, cap, rfl⟩

set_option maxHeartbeats 4000000 in
set_option maxRecDepth 4000 in
theorem cut_any (v : Value) (b : List UInt8) (m : Nat) (w : World) (hp : Pb w v b) (hm1 : 1 ≤ m) (hm : m ≤ 256) (hl : b.length ≤ 3000) :
    Calls Try.prog 21 #[v, .int .i64 (m : Int)] w fun e w' => ∃ A n c ps, e = .returned (.slice A n c) ∧ Pbs w' (.slice A n c) ps ∧ ps.flatten = b ∧ ps.length ≤ 3000 ∧ Below w.heap.size w w' := by
  obtain ⟨A, c, rfl, hlc, _⟩ := id hp
  obtain ⟨l, hll⟩ : ∃ l, l = b.length := ⟨_, rfl⟩
  rw [← hll] at hp hl hlc ⊢
  have HP := Lib.hid hp
  have HL := Lib.hid hll
  have HB0 : Hid (Below w.heap.size w w) := Lib.hid (Below.refl _ _)
  clear hp hll
  go_enter Try.func21, Try.ntmps21
  go_wp2_with fail
  go_loopw [5, 6] (fun fv i wr => ∃ (p : Nat) (ps : List (List UInt8)) (vs : List Value) (A5 : Option Addr) (n5 c5 : Nat), p ≤ l + 256 ∧ i = .int .i64 (p : Int) ∧ fv = .slice A5 n5 c5 ∧ Hid (Cs w wr (.slice A5 n5 c5) ps vs) ∧ Hid (ps.flatten = b.take p) ∧ Hid (ps.length ≤ p ∧ (p < l ∨ ps.length ≤ l)) ∧ Hid (Below w.heap.size w wr)) (fun _ i _ => l - (intOf i).toNat)
  case atStart => exact ⟨0, [], [], none, 0, 0, by omega, rfl, rfl, Lib.hid ⟨World.ownsRow_nil w w.heap.size 24 1, fun j hj => by simp at hj⟩, Lib.hid (by simp), Lib.hid (by simp), HB0⟩
  case round =>
    clear HB0
    obtain ⟨p, ps, vs, A5, n5, c5, hpl, rfl, rfl, ho, hfl, hle, hb⟩ := hrel
    by_cases hlt : p < l
    · obtain ⟨g, o, rfl⟩ : ∃ g o, A = some ⟨g, o, none⟩ := by
        obtain ⟨A', c', e, _, hr⟩ := HP.out
        injection e with e1 _ _
        subst e1
        obtain ⟨g, o, e3, _⟩ := hr (by rw [← HL.out]; omega)
        exact ⟨g, o, e3⟩
      go_upto_if 21 with fail
      go_cut [7] (fun x wx => ∃ e : Nat, x = .int .i64 (e : Int) ∧ Hid (e = min (p + m) b.length) ∧ p < e ∧ e ≤ l ∧ wr = wx)
      case first =>
        by_cases hpm : p + m > l
        · go_wp2_with fail
          go_meet
          exact ⟨l, rfl, Lib.hid (by rw [← HL.out]; omega), hlt, Nat.le_refl _, rfl⟩
        · go_wp2_with fail
          go_meet
          exact ⟨p + m, by simp, Lib.hid (by rw [← HL.out]; omega), by omega, by omega, rfl⟩
      case rest =>
        obtain ⟨e, rfl, he, hpe, hel, rfl⟩ := hcut
        have hpb := pb_mid HP.out (m := p) (n := e - p) (by rw [← HL.out]; omega) (c - p) (by omega)
        have HPB := Lib.hid hpb
        have hcp : ¬ c = p := by omega
        have hsz : w.heap.size ≤ wr.heap.size := hb.out.size
        have HPL := Lib.hid (show ps.length ≤ 1000000 by have := hle.out.1; omega)
        clear hpb
        go_wp2_with (at_builtin; refine wpList_append_frame rfl (.tmp 24) (.tmp 29) rfl w.heap.size ps.length (.slice A5 n5 c5) (.slice (some ⟨g, o + p, none⟩) (e - p) (c - p)) vs rfl rfl rfl ho.out.1 HPL.out hsz ?_; intro v3 w3 hown3 hg3 hat3)
        have hvl : vs.length = ps.length := by simpa using ho.out.1.1
        have hcs3 : Cs w w3 v3 (ps ++ [(b.drop p).take (e - p)]) (vs ++ [.slice (some ⟨g, o + p, none⟩) (e - p) (c - p)]) := by
          refine ⟨by rw [List.length_append]; exact hown3, fun j hj => ?_⟩
          rw [List.length_append] at hj
          simp at hj
          by_cases hjf : j < ps.length
          · obtain ⟨u, h1, h2⟩ := ho.out.2 j hjf
            exact ⟨u, by rw [List.getElem?_append_left (by omega)]; exact h1, by rw [List.getElem_append_left hjf]; exact h2⟩
          · have hje : j = ps.length := by omega
            subst hje
            exact ⟨_, by rw [List.getElem?_append_right (by omega), hvl, Nat.sub_self]; rfl, by rw [List.getElem_append_right (by omega)]; simpa using HPB.out⟩
        have hb3 : Below w.heap.size w w3 := hb.out.trans (((Kp.alloc _ wr _).trans (Kp.of_grown hg3) (fun i _ e => e)).below hb.out.size (fun k e => (ho.out.1.lt k e).1))
        obtain ⟨A6, n6, c6, rfl⟩ := hcs3.form
        go_roundw
        case rel =>
          refine ⟨p + m, ps ++ [(b.drop p).take (e - p)], _, A6, n6, c6, by omega, by simp, rfl, Lib.hid hcs3, Lib.hid ?_, Lib.hid ?_, Lib.hid hb3⟩
          · rw [List.flatten_append, hfl.out, take_more b p m e he.out]
            simp
          · have := hle.out.1
            simp
            omega
        case measure => simp [intOf] <;> omega
    · have hfb : ps.flatten = b := by rw [hfl.out, List.take_of_length_le (by rw [← HL.out]; omega)]
      have hpn : ps.length ≤ 3000 := by have := hle.out; omega
      go_wp2_with fail
      go_ret
      exact ⟨A5, n5, c5, ps, rfl, ho.out.pbs hb.out, hfb, hpn, hb.out⟩
end Go.Proofs.Ytggoclmboemmlaa
