/- Frames: the reference's frames. -/
import Derived.Test.YtggoclmboemmlaaF8
namespace Go.Proofs.Ytggoclmboemmlaa
open Go.RowKit

theorem hd2_drop {b : List UInt8} {p : Nat} (h : ¬ (b.drop p).length < 2) : ∃ x y : UInt8, (bv b)[p]? = some (.int .u8 (x.toNat : Int)) ∧ (bv b)[p + 1]? = some (.int .u8 (y.toNat : Int)) ∧ hd2 (b.drop p) = 256 * x.toNat + y.toNat := by
  simp at h
  refine ⟨b[p]'(by omega), b[p + 1]'(by omega), by simp [bv, show p < b.length by omega], by simp [bv, show p + 1 < b.length by omega], ?_⟩
  unfold hd2
  simp [List.getD, List.getElem?_drop, show p < b.length by omega, show p + 1 < b.length by omega]

/-- What the reference's frames answer. -/
def RfPost (w : World) (b : List UInt8) (rl : Nat) (rw' : Bool) (e : Ending) (w' : World) : Prop :=
  ∃ A n c vs, e = .returned (.tuple #[.slice A n c, .int .i64 (rl : Int), .bool rw']) ∧ Frs w' w.heap.size (.slice A n c) (parse b).1 vs ∧ Below w.heap.size w w'

set_option maxHeartbeats 4000000 in
set_option maxRecDepth 4000 in
theorem rframes_any (v : Value) (b : List UInt8) (w : World) (hp : Pb w v b) (hl : b.length ≤ 900000) :
    Calls Try.prog 18 #[v] w (RfPost w b (parse b).2.1.length (parse b).2.2) := by
  obtain ⟨A, c, rfl, hlc, _⟩ := id hp
  obtain ⟨l, hll⟩ : ∃ l, l = b.length := ⟨_, rfl⟩
  rw [← hll] at hp hl hlc ⊢
  have HP := Lib.hid hp
  have HL := Lib.hid hll
  have HB0 : Hid (Below w.heap.size w w) := Lib.hid (Below.refl _ _)
  obtain ⟨rl, hrl⟩ : ∃ rl, rl = (parse b).2.1.length := ⟨_, rfl⟩
  obtain ⟨rw', hrw⟩ : ∃ rw', rw' = (parse b).2.2 := ⟨_, rfl⟩
  rw [← hrl, ← hrw]
  have HRL := Lib.hid hrl
  have HRW := Lib.hid hrw
  clear hp hll hrl hrw
  go_enter Try.func18, Try.ntmps18
  go_wp2_with fail
  go_loopw [5, 6] (fun fv i wr => ∃ (p : Nat) (fs : List (List UInt8)) (vs : List Value) (A5 : Option Addr) (n5 c5 : Nat), p ≤ l ∧ i = .int .i64 p ∧ fv = .slice A5 n5 c5 ∧ Hid (Frs wr w.heap.size (.slice A5 n5 c5) fs vs) ∧ Hid (fs ++ (parse (b.drop p)).1 = (parse b).1 ∧ (parse (b.drop p)).2 = (parse b).2) ∧ Hid (fs.length ≤ p) ∧ Hid (Below w.heap.size w wr)) (fun _ i _ => l - (intOf i).toNat)
  case atStart => exact ⟨0, [], [], none, 0, 0, by omega, rfl, rfl, Lib.hid (Frs.nil _ _), Lib.hid ⟨rfl, rfl⟩, Lib.hid (by simp), HB0⟩
  case round =>
    clear HB0
    obtain ⟨p, fs, vs, A5, n5, c5, hpl, rfl, rfl, ho, he, hfl, hb⟩ := hrel
    have hdl : (b.drop p).length = l - p := by rw [List.length_drop, HL.out]
    have HDL := Lib.hid hdl
    clear hdl
    by_cases h2 : l - p < 2
    · have hpr := parse_short (b := b.drop p) (by rw [HDL.out]; exact h2)
      have HPL1 := Lib.hid (show (parse b).1 = fs by rw [← he.out.1, hpr, List.append_nil])
      have HPL2 := Lib.hid (show rl = l - p ∧ rw' = false by
        have := he.out.2
        rw [hpr] at this
        rw [HRL.out, HRW.out, ← this]
        exact ⟨HDL.out, rfl⟩)
      have e1 : ((l : Int) - (p : Int)) = (rl : Int) := by have := HPL2.out.1; omega
      have hr2 : rl < 2 := by have := HPL2.out.1; omega
      clear hpr h2
      go_wp2_with fail
      refine bodyPost_ret (v := .tuple #[.slice A5 n5 c5, .int .i64 (rl : Int), .bool false]) (by simp [results, Try.results18, go_sem]) rfl ⟨A5, n5, c5, vs, by rw [HPL2.out.2], ?_, hb.out⟩
      rw [HPL1.out]
      exact ho.out
    · obtain ⟨x, y, hx, hy, hxy⟩ := hd2_drop (b := b) (p := p) (by rw [HDL.out]; exact h2)
      obtain ⟨g, o, rfl, hgl, hcl⟩ : ∃ g o, A = some ⟨g, o, none⟩ ∧ g < w.heap.size ∧ ∀ j u, (bv b)[j]? = some u → w.cell? ⟨g, o + j, none⟩ = some u := by
        obtain ⟨A', c', e, _, hr⟩ := HP.out
        injection e with e1 _ _
        subst e1
        obtain ⟨g, o, e3, e4, e5⟩ := hr (by rw [← HL.out]; omega)
        exact ⟨g, o, e3, e4, e5⟩
      have c0 := (hb.out.cell (p := ⟨g, o + p, none⟩) hgl).trans (hcl p _ hx)
      have c1 := (hb.out.cell (p := ⟨g, o + (p + 1), none⟩) hgl).trans (hcl (p + 1) _ hy)
      have hxl := x.toNat_lt
      have hyl := y.toNat_lt
      obtain ⟨q, hq⟩ : ∃ q, q = hd2 (b.drop p) := ⟨_, rfl⟩
      have hq2 : (256 * (x.toNat : Int) + (y.toNat : Int)) = (q : Int) := by rw [hq, hxy]; omega
      have hq70 : q ≤ 70000 := by rw [hq, hxy]; omega
      have HQ := Lib.hid hq
      clear hx hy hxy hcl hq
      go_upto_region 4 with fail
      go_quiet (fail)
      obtain ⟨w2, hw2⟩ : ∃ w2, w2 = wr.drewN nq := ⟨_, rfl⟩
      rw [← hw2]
      have HB2 := Lib.hid (show Below w.heap.size w w2 by rw [hw2]; exact below_drewN hb.out _)
      have HO2 := Lib.hid (show Frs w2 w.heap.size (.slice A5 n5 c5) fs vs by rw [hw2]; exact ho.out.below_frs (Nat.le_refl _) (Kp.of_below _ (below_drewN (Below.refl _ _) _)))
      clear hw2 c0 c1 hq2 hxl hyl
      by_cases hw : q < 1 ∨ 1024 < q
      · have hpr := parse_wrong (b := b.drop p) (by rw [HDL.out]; exact h2) (by rw [← HQ.out]; exact hw)
        have HPL1 := Lib.hid (show (parse b).1 = fs by rw [← he.out.1, hpr, List.append_nil])
        have HPL2 := Lib.hid (show rl = 0 ∧ rw' = true by
          have := he.out.2
          rw [hpr] at this
          rw [HRL.out, HRW.out, ← this]
          exact ⟨rfl, rfl⟩)
        have fin : Frs w2 w.heap.size (.slice A5 n5 c5) (parse b).1 vs := by rw [HPL1.out]; exact HO2.out
        have FIN := Lib.hid fin
        clear hpr fin
        rcases hw with hw | hw
        · go_wp2_with fail
          exact bodyPost_ret (v := .tuple #[.slice A5 n5 c5, .int .i64 0, .bool true]) (by simp [results, Try.results18, go_sem]) rfl ⟨A5, n5, c5, vs, by rw [HPL2.out.1, HPL2.out.2]; rfl, FIN.out, HB2.out⟩
        · go_wp2_with fail
          exact bodyPost_ret (v := .tuple #[.slice A5 n5 c5, .int .i64 0, .bool true]) (by simp [results, Try.results18, go_sem]) rfl ⟨A5, n5, c5, vs, by rw [HPL2.out.1, HPL2.out.2]; rfl, FIN.out, HB2.out⟩
      · have hq1 : ¬ q < 1 := fun h => hw (.inl h)
        have hq2 : ¬ 1024 < q := fun h => hw (.inr h)
        by_cases hsh : l - p < 2 + q
        · have hpr := parse_wait (b := b.drop p) (by rw [HDL.out]; exact h2) (by rw [← HQ.out]; exact hw) (by rw [← HQ.out, HDL.out]; exact hsh)
          have HPL1 := Lib.hid (show (parse b).1 = fs by rw [← he.out.1, hpr, List.append_nil])
          have HPL2 := Lib.hid (show rl = l - p ∧ rw' = false by
            have := he.out.2
            rw [hpr] at this
            rw [HRL.out, HRW.out, ← this]
            exact ⟨HDL.out, rfl⟩)
          have e1 : ((l : Int) - (p : Int)) = (rl : Int) := by rw [HPL2.out.1]; exact (Int.ofNat_sub hpl).symm
          have hr2 : rl < 2 + q := by rw [HPL2.out.1]; exact hsh
          have hr3 : 2 ≤ rl := by rw [HPL2.out.1]; exact Nat.le_of_not_lt h2
          clear hpr h2 hw hsh
          go_wp2_with fail
          refine bodyPost_ret (v := .tuple #[.slice A5 n5 c5, .int .i64 (rl : Int), .bool false]) (by simp [results, Try.results18, go_sem]) rfl ⟨A5, n5, c5, vs, by rw [HPL2.out.2], ?_, HB2.out⟩
          rw [HPL1.out]
          exact HO2.out
        · have hpt := parse_take (b := b.drop p) (by rw [HDL.out]; exact h2) (by rw [← HQ.out]; exact hw) (by rw [← HQ.out, HDL.out]; exact hsh)
          rw [← HQ.out, List.drop_drop, List.drop_drop] at hpt
          have hcut : ((b.drop (p + 2)).take q).length = q := by rw [List.length_take, List.length_drop, ← HL.out]; omega
          have hpm := fun (W : World) (h : Below w.heap.size w W) => pb_mid (HP.out.below h) (m := p + 2) (n := q) (by rw [← HL.out]; omega) (c - (p + 2)) (by omega)
          obtain ⟨F, hF⟩ : ∃ F, F = (b.drop (p + 2)).take q := ⟨_, rfl⟩
          rw [← hF] at hpt hcut hpm
          clear hF
          have ho0 : (w2.alloc (.cells #[] 5)).ownsRow w2.heap.size 5 1 (.slice (some ⟨w2.heap.size, 0, none⟩) 0 0) ([] : List UInt8).length (bv []) := World.ownsRow_lit w2 #[] 0 (Nat.le_refl _) (by unfold maxLen; omega) rfl
          obtain ⟨k2, hk2⟩ : ∃ k2, k2 = p + 2 := ⟨_, rfl⟩
          obtain ⟨m, hm⟩ : ∃ m, m = p + 2 + q := ⟨_, rfl⟩
          have hs0 : (p : Int) + 2 = (k2 : Int) := by omega
          have hs1 : (k2 : Int) + (q : Int) = (m : Int) := by omega
          have hs5 : m - k2 = q := by omega
          have h6 : m ≤ l := by omega
          have h7 : k2 ≤ m := by omega
          rw [← hk2] at hpm
          have HK2 := Lib.hid hk2
          have HMM := Lib.hid hm
          clear hk2 hm
          have HPT := Lib.hid hpt
          have HCUT := Lib.hid hcut
          have HPM := Lib.hid (hpm _ (HB2.out.alloc HB2.out.size (.cells #[] 5)))
          have HO0 := Lib.hid ho0
          have HFL := Lib.hid (show fs.length ≤ 1000000 by have := hfl.out; omega)
          clear hpt hcut hpm ho0 hw
          go_wp2_with (first
            | (at_builtin; refine wpList_append_bytes rfl (.tmp 41) (.tmp 49) rfl w2.heap.size (.slice (some ⟨w2.heap.size, 0, none⟩) 0 0) (.slice (some ⟨g, o + k2, none⟩) q (c - k2)) [] F rfl rfl HO0.out HPM.out (by rw [HCUT.out]; simp; omega) (by simp) ?_; intro v7 w7 hown7 hg7 hat7; have HW7 : Hid (w7.ownsRow w2.heap.size 5 1 v7 q (bv F) ∧ Kp (fun _ => False) w2 w7) := ⟨by have h := hown7; rw [List.nil_append, HCUT.out] at h; exact h, (Kp.alloc _ w2 _).trans (Kp.of_grown hg7) (fun i hi e => by have e2 : some w2.heap.size = some i := e; injection e2 with e2; omega)⟩; clear hown7 hg7 hat7; obtain ⟨A7, n7, c7, rfl⟩ : ∃ A n c, v7 = .slice A n c := by obtain ⟨A, c, e, _⟩ := own_pb (show w7.ownsRow w2.heap.size 5 1 v7 F.length (bv F) by rw [HCUT.out]; exact HW7.out.1); exact ⟨A, _, c, e⟩)
            | (at_builtin; refine wpList_append_frame rfl (.tmp 40) (.tmp 51) rfl w.heap.size fs.length (.slice A5 n5 c5) (.slice A7 n7 c7) vs rfl rfl rfl (HO2.out.below_frs (Nat.le_refl _) HW7.out.2).1 (by have := HFL.out; omega) (Nat.le_trans HB2.out.size HW7.out.2.size) ?_; intro v8 w8 hown8 hg8 hat8))
          have ho7 : Frs w7 w.heap.size (.slice A5 n5 c5) fs vs := HO2.out.below_frs (Nat.le_refl _) HW7.out.2
          have hk78 : Kp (fun k => (Value.slice A5 n5 c5).ownBlock = some k) w7 w8 := (Kp.alloc _ w7 _).trans (Kp.of_grown hg8) (fun i _ e => e)
          have hne5 : ∀ {B : Nat} {u : Value} {n : Nat} {xs : List Value} k, w7.ownsRow B 5 1 u n xs → u.ownBlock = some k → (Value.slice A5 n5 c5).ownBlock ≠ some k := by
            intro B u n xs k hu hk e
            obtain ⟨_, hu2⟩ := hu
            rcases hu2 with ⟨rfl, _⟩ | ⟨g', cap, cur, rfl, _, hg', _⟩
            · cases hk
            · injection hk with hk
              subst hk
              exact own_type ho7.1 hg' (by decide) e
          have HFR8 : Hid (Frs w8 w.heap.size v8 (fs ++ [F]) (vs ++ [.slice A7 n7 c7])) := Lib.hid ⟨by rw [List.length_append]; exact hown8, fun j hj => by
            rw [List.length_append] at hj
            simp at hj
            have hvl : vs.length = fs.length := by simpa using ho7.1.1
            by_cases hjf : j < fs.length
            · obtain ⟨A8, n8, c8, h1, h2⟩ := ho7.2 j hjf
              refine ⟨A8, n8, c8, by rw [List.getElem?_append_left (by omega)]; exact h1, ?_⟩
              rw [List.getElem_append_left hjf]
              exact hk78.own h2 (fun k hk => hne5 k h2 hk)
            · have hje : j = fs.length := by omega
              subst hje
              refine ⟨A7, n7, c7, by rw [List.getElem?_append_right (by omega), hvl, Nat.sub_self]; rfl, ?_⟩
              rw [List.getElem_append_right (by omega)]
              simp only [Nat.sub_self, List.getElem_cons_zero]
              rw [HCUT.out]
              exact own_base (hk78.own HW7.out.1 (fun k hk => hne5 k HW7.out.1 hk)) HB2.out.size⟩
          obtain ⟨A9, c9, rfl⟩ := HFR8.out.form
          have hk28 : Kp (fun k => (Value.slice A5 n5 c5).ownBlock = some k) w2 w8 := (HW7.out.2.weaken (fun _ _ e => e.elim)).trans hk78 (fun i _ e => e)
          have hb8 : Below w.heap.size w w8 := HB2.out.trans (hk28.below HB2.out.size (fun k e => (HO2.out.1.lt k e).1))
          have HB8 := Lib.hid hb8
          clear hk28 hk78 hne5 hown8 hg8 hat8 ho7 hb8
          go_roundw
          case rel =>
            refine ⟨p + 2 + q, fs ++ [F], vs ++ [.slice A7 n7 c7], A9, _, c9, by have := HMM.out; omega, ?_, rfl, HFR8, Lib.hid ⟨?_, ?_⟩, Lib.hid ?_, HB8⟩
            · rw [← HMM.out]
            · have h := he.out.1
              rw [HPT.out] at h
              rw [List.append_assoc, Nat.add_assoc]
              exact h
            · have h := he.out.2
              rw [HPT.out] at h
              rw [Nat.add_assoc]
              exact h
            · have := hfl.out
              simp
              omega
          case measure =>
            simp only [intOf]
            have := HMM.out
            omega
end Go.Proofs.Ytggoclmboemmlaa
