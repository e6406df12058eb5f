/- Friend: FriendBoth's walk. -/
import Derived.Test.YtohcibmlkngaeaaE7
namespace Go.Proofs.Ytohcibmlkngaeaa
open Go.RowKit Go.Maps
set_option maxRecDepth 20000
set_option linter.unusedVariables false
set_option linter.unusedSimpArgs false

theorem fr_sym {l : List Rw} {a f : Nat} (h : f ∈ fr l a) : a ∈ fr l f := by
  rw [mem_fr] at h ⊢
  exact h.symm
theorem fr_not1 {l : List Rw} (hI : Inv l) {a f : Nat} (h : f ∈ fr l a) : f ∉ whom l 1 a := fun h2 => by
  rw [mem_whom] at h2
  rcases mem_fr.1 h with h | h
  · have := hI.ex _ h (by simp) _ h2 (.inl ⟨rfl, rfl⟩); simp at this
  · have := hI.ex _ h (by simp) _ h2 (.inr ⟨rfl, rfl⟩); simp at this
theorem fr_not2 {l : List Rw} (hI : Inv l) {a f : Nat} (h : f ∈ fr l a) : f ∉ askd l a := fun h2 => by
  rw [mem_askd] at h2
  rcases mem_fr.1 h with h | h
  · have := hI.ex _ h (by simp) _ h2 (.inr ⟨rfl, rfl⟩); simp at this
  · have := hI.ex _ h (by simp) _ h2 (.inl ⟨rfl, rfl⟩); simp at this
theorem fr_not3 {l : List Rw} (hI : Inv l) {a f : Nat} (h : f ∈ fr l a) : f ∉ whom l 3 a := fun h2 => by
  rw [mem_whom] at h2
  rcases mem_fr.1 h with h | h
  · have := hI.ex _ h (by simp) _ h2 (.inl ⟨rfl, rfl⟩); simp at this
  · have := hI.ex _ h (by simp) _ h2 (.inr ⟨rfl, rfl⟩); simp at this
theorem fr_are {l : List Rw} {a f : Nat} (h : f ∈ fr l a) : areB l f a = true := by
  rw [mem_fr] at h
  unfold areB
  rw [decide_eq_true_iff]
  exact h.symm
theorem to_ask {l : List Rw} {a g : Nat} (h : g ∈ whom l 1 a) : a ∈ askd l g := by
  rw [mem_whom] at h
  rw [mem_askd]
  exact h
theorem to_not1 {l : List Rw} (hI : Inv l) {a g : Nat} (h : g ∈ whom l 1 a) : g ∉ askd l a := fun h2 => by
  rw [mem_whom] at h
  rw [mem_askd] at h2
  have := hI.ex _ h (by simp) _ h2 (.inr ⟨rfl, rfl⟩)
  simp at this
  exact (hI.ok _ h).2.2.2 this.2
theorem to_not2 {l : List Rw} (hI : Inv l) {a g : Nat} (h : g ∈ whom l 1 a) : g ∉ whom l 3 a := fun h2 => by
  rw [mem_whom] at h h2
  have := hI.ex _ h (by simp) _ h2 (.inl ⟨rfl, rfl⟩)
  simp at this
theorem to_not3 {l : List Rw} (hI : Inv l) {a g : Nat} (h : g ∈ whom l 1 a) : a ∉ whom l 3 g := fun h2 => by
  rw [mem_whom] at h h2
  have := hI.ex _ h (by simp) _ h2 (.inr ⟨rfl, rfl⟩)
  simp at this
theorem self_not1 {l : List Rw} (hI : Inv l) (a : Nat) : a ∉ fr l a := fun h => by
  rcases mem_fr.1 h with h | h <;> exact (hI.ok _ h).2.2.2 rfl
theorem self_not2 {l : List Rw} (hI : Inv l) (a : Nat) : a ∉ whom l 3 a := fun h => (hI.ok _ (mem_whom.1 h)).2.2.2 rfl
/-- The graph behind some acts. -/
def FB (w : World) (L M N : Nat) (l : List Rw) (wr : World) : Prop := Gr wr L M N l ∧ Inv l ∧ Below w.heap.size w wr
theorem FB.below {w W W' : World} {L M N : Nat} {l : List Rw} (h : FB w L M N l W) (hb : Below W.heap.size W W') : FB w L M N l W' := ⟨h.1.below hb, h.2.1, h.2.2.trans (hb.mono h.2.2.size)⟩
theorem FB.act {w W : World} {L N : Nat} {l : List Rw} (h : FB w L w.heap.size N l W) (hN : N ≤ 190) {d : Int} {a b : Nat} (hd : 0 ≤ d) (ha : u32ok a) (hb : u32ok b) :
    Calls Try.prog 8 #[gp L, .slice none 0 0, .agg #[.int .u8 d, u a, u b]] W fun r w' => (∃ v bo, r = .returned (.tuple #[v, .bool bo])) ∧ FB w L w.heap.size (N + 1) (actP d l a b) w' := by
  obtain ⟨h1, h2, h6⟩ := h
  refine (do_any L w.heap.size N 0 0 a b none l [] W h1 h2 Inv.nil (by omega) ha hb rfl (Rr.nil _) (by omega) d hd).mono ?_
  rintro r w' ⟨B, m, c', bo, rfl, hbo, hm, hR, hG, hK⟩
  exact ⟨⟨_, _, rfl⟩, hG, h2.act d a b, h6.trans (hK.1 _ (Nat.le_refl _) h6.size)⟩
theorem lhas_yes {v : Value} {l : List Nat} {x : Nat} {W : World} (h : S32 W v l) (hl : l.length ≤ 1000) (hx : x ∈ l) : Calls Try.prog 14 #[v, u x] W fun r w' => r = .returned (.bool true) ∧ Below W.heap.size W w' :=
  (lhas_any v l x W h hl).mono fun r w' h => ⟨by rw [h.1]; simp [hx], by rw [h.2]; exact Below.refl _ _⟩
theorem lhas_no {v : Value} {l : List Nat} {x : Nat} {W : World} (h : S32 W v l) (hl : l.length ≤ 1000) (hx : x ∉ l) : Calls Try.prog 14 #[v, u x] W fun r w' => r = .returned (.bool false) ∧ Below W.heap.size W w' :=
  (lhas_any v l x W h hl).mono fun r w' h => ⟨by rw [h.1]; simp [hx], by rw [h.2]; exact Below.refl _ _⟩
/-- What Links tells, as it is in whatever later world. -/
structure Lk (l : List Rw) (a : Nat) (v1 v2 v3 v4 : Value) (y1 y2 y3 y4 : List Nat) (w : World) : Prop where
  s1 : S32 w v1 y1
  s2 : S32 w v2 y2
  s3 : S32 w v3 y3
  s4 : S32 w v4 y4
  m1 : ∀ x, x ∈ y1 ↔ x ∈ fr l a
  m2 : ∀ x, x ∈ y2 ↔ x ∈ whom l 1 a
  m3 : ∀ x, x ∈ y3 ↔ x ∈ askd l a
  m4 : ∀ x, x ∈ y4 ↔ x ∈ whom l 3 a
  n1 : y1.length = (fr l a).length
  n2 : y2.length = (whom l 1 a).length
  n3 : y3.length = (askd l a).length
  n4 : y4.length = (whom l 3 a).length
  len : y1.length ≤ 16 ∧ y2.length ≤ 16 ∧ y3.length ≤ 16 ∧ y4.length ≤ 16 ∧ y1.length + y2.length + y3.length ≤ 16
theorem Lk.below {l : List Rw} {a : Nat} {v1 v2 v3 v4 : Value} {y1 y2 y3 y4 : List Nat} {w W : World} (h : Lk l a v1 v2 v3 v4 y1 y2 y3 y4 w) (hb : Below w.heap.size w W) : Lk l a v1 v2 v3 v4 y1 y2 y3 y4 W :=
  ⟨h.s1.after hb, h.s2.after hb, h.s3.after hb, h.s4.after hb, h.m1, h.m2, h.m3, h.m4, h.n1, h.n2, h.n3, h.n4, h.len⟩
theorem links_lk (L M n a : Nat) (l : List Rw) (w : World) (h : Gr w L M n l) (hI : Inv l) (hn : n ≤ 1000) (ha : u32ok a) :
    Calls Try.prog 13 #[gp L, u a] w fun r w' => ∃ A1 A2 A3 A4 k1 k2 k3 k4 y1 y2 y3 y4, r = .returned (lkV (.slice A1 (List.length y1) k1) (.slice A2 (List.length y2) k2) (.slice A3 (List.length y3) k3) (.slice A4 (List.length y4) k4)) ∧ Lk l a (.slice A1 y1.length k1) (.slice A2 y2.length k2) (.slice A3 y3.length k3) (.slice A4 y4.length k4) y1 y2 y3 y4 w' ∧ Below w.heap.size w w' := by
  refine (links_any L M n a l w h hI hn ha).mono ?_
  rintro r w' ⟨v1, v2, v3, v4, y1, y2, y3, y4, rfl, o1, o2, o3, o4, s1, s2, s3, s4, hb⟩
  obtain ⟨A1, k1, rfl⟩ := (S32.of_own s1).form
  obtain ⟨A2, k2, rfl⟩ := (S32.of_own s2).form
  obtain ⟨A3, k3, rfl⟩ := (S32.of_own s3).form
  obtain ⟨A4, k4, rfl⟩ := (S32.of_own s4).form
  have n1 := len_of (nd_of_lt o1.1) (hI.nd_fr a) (oth_fr hI o1)
  have n2 := len_of (nd_of_lt o2.1) (hI.nd_whom 1 a) (oth_to1 hI o2)
  have n3 := len_of (nd_of_lt o3.1) (hI.nd_askd a) (oth_askd hI o3)
  have n4 := len_of (nd_of_lt o4.1) (hI.nd_whom 3 a) (oth_to3 hI o4)
  have h1 := hI.links a
  rw [cw_eq] at h1
  have h2 := hI.blocks a
  exact ⟨A1, A2, A3, A4, k1, k2, k3, k4, y1, y2, y3, y4, rfl, ⟨S32.of_own s1, S32.of_own s2, S32.of_own s3, S32.of_own s4, oth_fr hI o1, oth_to1 hI o2, oth_askd hI o3, oth_to3 hI o4, n1, n2, n3, n4, by omega, by omega, by omega, by omega, by omega⟩, hb⟩
set_option maxHeartbeats 16000000 in
theorem both_walk (p : Option Addr × Nat) (acts : List Ac) (a : Nat) (w : World) (hA : As w w.heap.size p.1 acts) (hl : acts.length ≤ 9223372036854775807) (hR : ∀ e ∈ acts, Ra e) (ha : u32ok a) :
    Calls Try.prog 4 #[.slice p.1 acts.length p.2, u a] w fun r w' => r = .returned (.bool true) ∧ Below w.heap.size w w' := by
  obtain ⟨P, cp⟩ := p
  simp only at hA ⊢
  obtain ⟨n0, hn⟩ : ∃ n, n = acts.length := ⟨_, rfl⟩
  rw [← hn] at hl ⊢
  have HA := Lib.hid hA
  have HR := Lib.hid hR
  have HN := Lib.hid hn
  have HAU := Lib.hid ha
  have HAW : Hid (∀ W, Calls Try.prog 12 #[] W fun r w' => r = .returned (.bool true) ∧ Below W.heap.size W w') := fun W => awake_any W
  have HNW := Lib.hid (new_any w)
  clear hA hR hn ha
  by_cases h120 : 120 < n0
  · go_enter Try.func4, Try.ntmps4
    go_wp2
    go_ret
    exact ⟨rfl, Below.refl _ _⟩
  go_enter Try.func4, Try.ntmps4
  go_wp2_with fail
  refine HNW.out.mono ?_
  rintro r w1 ⟨rfl, g1, b1⟩
  obtain ⟨L, hL⟩ : ∃ L, L = w.heap.size + 1 := ⟨_, rfl⟩
  rw [← hL] at g1 ⊢
  have HS : Hid (FB w L w.heap.size 0 [] w1) := ⟨g1, Inv.nil, b1⟩
  clear g1 b1 hL
  go_wp2_with fail
  go_loopw [7] (fun i wr => ∃ (k : Nat) (l : List Rw), k ≤ n0 ∧ i = .int .i64 (k : Int) ∧ Hid (FB w L w.heap.size k l wr)) (fun i _ => n0 - (intOf i).toNat)
  case atStart => exact ⟨0, [], Nat.zero_le _, rfl, HS.out⟩
  case round =>
   obtain ⟨N, l, hk, rfl, HM⟩ := hrel
   by_cases hlt : N < n0
   · obtain ⟨⟨d, x, y⟩, hy⟩ : ∃ e, acts[N]? = some e := ⟨acts[N]'(by rw [← HN.out]; exact hlt), List.getElem?_eq_getElem _⟩
     obtain ⟨hd, hx, hy2⟩ := HR.out _ (List.mem_of_getElem? hy)
     simp only at hd hx hy2
     obtain ⟨b1, o1, rfl, hb1, ha1⟩ := HA.out (by have := HN.out; omega)
     obtain ⟨e0, e1, e2⟩ := ha1 N _ hy
     have d0 := (HM.out.2.2.cell (p := ⟨b1, _, none⟩) hb1).trans e0
     have d1 := (HM.out.2.2.cell (p := ⟨b1, _, none⟩) hb1).trans e1
     have d2 := (HM.out.2.2.cell (p := ⟨b1, _, none⟩) hb1).trans e2
     simp only at d0 d1 d2
     have HACT := Lib.hid (HM.out.act (by omega) hd hx hy2)
     clear hy ha1 hb1 e0 e1 e2 hd hx hy2
     go_wp2_with fail
     refine HACT.out.mono ?_
     rintro r w2 ⟨⟨v, bo, rfl⟩, hfs⟩
     have HF2 := Lib.hid hfs
     clear hfs d0 d1 d2
     go_wp2_with fail
     go_roundw
     case rel => exact ⟨N + 1, _, by omega, by go_num, HF2.out⟩
     case measure => simp [intOf] <;> omega
   · have HNN : Hid (N ≤ 1000) := by simp only [Hid]; omega
     have HIN := Lib.hid HM.out.2.1
     have HLK0 := Lib.hid (links_lk L w.heap.size N a l wr HM.out.1 HIN.out HNN.out HAU.out)
     go_wp2_with fail
     refine HLK0.out.mono ?_
     rintro r w1x ⟨A1, A2, A3, A4, k1, k2, k3, k4, y1, y2, y3, y4, rfl, lk1, hb1⟩
     obtain ⟨X, hX⟩ : ∃ X, X = w1x.heap.size := ⟨_, rfl⟩
     obtain ⟨w2, hw2⟩ : ∃ w2, w2 = w1x.alloc (.cells #[.slice A1 y1.length k1, .slice A2 y2.length k2, .slice A3 y3.length k3, .slice A4 y4.length k4] 38) := ⟨_, rfl⟩
     have hb2 : Below w1x.heap.size w1x w2 := by rw [hw2]; exact (Below.refl _ _).alloc (Nat.le_refl _) _
     have hq2 : w2.heap[X]? = some (.cells #[.slice A1 y1.length k1, .slice A2 y2.length k2, .slice A3 y3.length k3, .slice A4 y4.length k4] 38 (0, 0)) := by rw [hw2, hX]; exact heap_alloc_new w1x _
     have HBR2 : Hid (Below wr.heap.size wr w2) := hb1.trans (hb2.mono hb1.size)
     have HBW : Hid (Below w.heap.size w w2) := HM.out.2.2.trans (HBR2.out.mono HM.out.2.2.size)
     have HGR : Hid (∀ W, Below w2.heap.size w2 W → Gr W L w.heap.size N l) := fun W hW => (HM.out.1.below HBR2.out).below hW
     have HLX := Lib.hid (lk1.below hb2)
     have HCE : Hid (∀ W, Below w2.heap.size w2 W → (W.cell? ⟨X, 0, none⟩ = some (.slice A1 y1.length k1) ∧ W.cell? ⟨X, 1, none⟩ = some (.slice A2 y2.length k2) ∧ W.cell? ⟨X, 2, none⟩ = some (.slice A3 y3.length k3) ∧ W.cell? ⟨X, 3, none⟩ = some (.slice A4 y4.length k4))) := fun W hW => by
       have e := (hW.block _ (lt_of_block hq2)).trans hq2
       exact ⟨cell_of_row W _ 0 _ _ _ e, cell_of_row W _ 1 _ _ _ e, cell_of_row W _ 2 _ _ _ e, cell_of_row W _ 3 _ _ _ e⟩
     have hy1 : y1.length ≤ 16 := HLX.out.len.1
     have hy2 : y2.length ≤ 16 := HLX.out.len.2.1
     have HB22 : Hid (Below w2.heap.size w2 w2) := Below.refl _ _
     have H2 := Lib.hid hw2
     have HXX := Lib.hid hX
     obtain ⟨x0, x1, x2, x3⟩ := HCE.out w2 HB22.out
     clear lk1 hb1 hb2 hq2 hw2 hX
     go_upto_region 10 with (fail)
     rw [← H2.out, ← HXX.out]
     go_wp2_with fail
     go_loopw [9] (fun x wr => ∃ i : Nat, i ≤ y1.length ∧ x = .int .i64 (i : Int) ∧ Hid (Below w2.heap.size w2 wr)) (fun x _ => y1.length - (intOf x).toNat)
     case atStart => exact ⟨0, Nat.zero_le _, rfl, HB22.out⟩
     case round =>
       obtain ⟨i, hi, rfl, HV⟩ := hrel
       obtain ⟨x0, x1, x2, x3⟩ := HCE.out wr HV.out
       by_cases hlt : i < y1.length
       · obtain ⟨f, hf⟩ : ∃ f, y1[i]? = some f := ⟨y1[i]'hlt, List.getElem?_eq_getElem _⟩
         have hfm : f ∈ fr l a := (HLX.out.m1 f).1 (List.mem_of_getElem? hf)
         have hfu : u32ok f := u32_of_ok (okfr HIN.out _ hfm)
         have HAT : Hid (∃ b1 o1, A1 = some ⟨b1, o1, none⟩ ∧ ∀ W, Below w2.heap.size w2 W → W.cell? ⟨b1, o1 + i, none⟩ = some (u f)) := by
           obtain ⟨B0, c0, e, h⟩ := HLX.out.s1
           injection e with e _ _
           obtain ⟨b1, o1, e2, h1, h2⟩ := h (by omega)
           exact ⟨b1, o1, e.trans e2, fun W hW => (hW.cell (p := ⟨b1, _, none⟩) h1).trans (h2 i f hf)⟩
         obtain ⟨b1, o1, rfl, hat⟩ := HAT.out
         have HAC := Lib.hid hat
         have d0 := hat wr HV.out
         have HLK := Lib.hid (links_lk L w.heap.size N f l wr (HGR.out wr HV.out) HIN.out HNN.out hfu)
         have HFM := Lib.hid hfm
         have HFU := Lib.hid hfu
         clear hf hfm hfu hat HAT
         go_wp2_with fail
         refine HLK.out.mono ?_
         rintro r w3 ⟨D1, D2, D3, D4, j1, j2, j3, j4, z1, z2, z3, z4, rfl, lk3, hb3⟩
         obtain ⟨Y, hY⟩ : ∃ Y, Y = w3.heap.size := ⟨_, rfl⟩
         obtain ⟨w4, hw4⟩ : ∃ w4, w4 = w3.alloc (.cells #[.slice D1 z1.length j1, .slice D2 z2.length j2, .slice D3 z3.length j3, .slice D4 z4.length j4] 38) := ⟨_, rfl⟩
         have hb4 : Below w3.heap.size w3 w4 := by rw [hw4]; exact (Below.refl _ _).alloc (Nat.le_refl _) _
         have hq4 : w4.heap[Y]? = some (.cells #[.slice D1 z1.length j1, .slice D2 z2.length j2, .slice D3 z3.length j3, .slice D4 z4.length j4] 38 (0, 0)) := by rw [hw4, hY]; exact heap_alloc_new w3 _
         have HB24 : Hid (Below w2.heap.size w2 w4) := (HV.out.trans (hb3.mono HV.out.size)).trans (hb4.mono (Nat.le_trans HV.out.size hb3.size))
         have HLK4 := Lib.hid (lk3.below hb4)
         have HUP : Hid (∀ W, Below w4.heap.size w4 W → Below w2.heap.size w2 W) := fun W hW => HB24.out.trans (hW.mono HB24.out.size)
         have HS14 : Hid (∀ W, Below w4.heap.size w4 W → (fun W : World => (W.cell? ⟨X, 0, none⟩ = some (.slice (some ⟨b1, o1, none⟩) y1.length k1) ∧ W.cell? ⟨X, 1, none⟩ = some (.slice A2 y2.length k2) ∧ W.cell? ⟨X, 2, none⟩ = some (.slice A3 y3.length k3) ∧ W.cell? ⟨X, 3, none⟩ = some (.slice A4 y4.length k4)) ∧ W.cell? ⟨Y, 0, none⟩ = some (.slice D1 z1.length j1) ∧ W.cell? ⟨b1, o1 + i, none⟩ = some (u f)) W) := fun W hW => by
           have e := (hW.block _ (lt_of_block hq4)).trans hq4
           exact ⟨HCE.out W (HUP.out W hW), cell_of_row W _ 0 _ _ _ e, HAC.out W (HUP.out W hW)⟩
         have HC1 : Hid (∀ W, Below w4.heap.size w4 W → Calls Try.prog 14 #[.slice D1 z1.length j1, u a] W fun r w' => r = .returned (.bool true) ∧ Below W.heap.size W w') := fun W hW => by
           have lk := HLK4.out.below hW
           exact lhas_yes lk.s1 (by have := lk.len.1; omega) ((lk.m1 a).2 (fr_sym HFM.out))
         have HC2 : Hid (∀ W, Below w4.heap.size w4 W → Calls Try.prog 14 #[.slice A2 y2.length k2, u f] W fun r w' => r = .returned (.bool false) ∧ Below W.heap.size W w') := fun W hW => by
           have lk := HLX.out.below (HUP.out W hW)
           exact lhas_no lk.s2 (by have := lk.len.2.1; omega) (fun h => fr_not1 HIN.out HFM.out ((lk.m2 f).1 h))
         have HC3 : Hid (∀ W, Below w4.heap.size w4 W → Calls Try.prog 14 #[.slice A3 y3.length k3, u f] W fun r w' => r = .returned (.bool false) ∧ Below W.heap.size W w') := fun W hW => by
           have lk := HLX.out.below (HUP.out W hW)
           exact lhas_no lk.s3 (by have := lk.len.2.2.1; omega) (fun h => fr_not2 HIN.out HFM.out ((lk.m3 f).1 h))
         have HC4 : Hid (∀ W, Below w4.heap.size w4 W → Calls Try.prog 14 #[.slice A4 y4.length k4, u f] W fun r w' => r = .returned (.bool false) ∧ Below W.heap.size W w') := fun W hW => by
           have lk := HLX.out.below (HUP.out W hW)
           exact lhas_no lk.s4 (by have := lk.len.2.2.2.1; omega) (fun h => fr_not3 HIN.out HFM.out ((lk.m4 f).1 h))
         have HC5 : Hid (∀ W, Below w4.heap.size w4 W → Calls Try.prog 10 #[gp L, u f, u a] W fun r w' => r = .returned (.bool true) ∧ Below W.heap.size W w') := fun W hW => by
           obtain ⟨D, q1, q2, _⟩ := HGR.out W (HUP.out W hW)
           exact (are_any L w.heap.size _ f a D _ W q1 q2 HFU.out HAU.out).mono fun r w' h => ⟨by rw [h.1, are_dec HIN.out, fr_are HFM.out], by rw [h.2]; exact Below.refl _ _⟩
         have HB44 : Hid (Below w4.heap.size w4 w4) := Below.refl _ _
         have H4 := Lib.hid hw4
         have HYY := Lib.hid hY
         clear lk3 hb3 hb4 hq4 hw4 hY x0 x1 x2 x3 d0
         go_upto_region 14 with (fail)
         rw [← H4.out, ← HYY.out]
         have HDp : Hid (Below w4.heap.size w4 w4.drew) := HB44.out.drew
         refine wp_region_held_drew (S := fun W : World => (W.cell? ⟨X, 0, none⟩ = some (.slice (some ⟨b1, o1, none⟩) y1.length k1) ∧ W.cell? ⟨X, 1, none⟩ = some (.slice A2 y2.length k2) ∧ W.cell? ⟨X, 2, none⟩ = some (.slice A3 y3.length k3) ∧ W.cell? ⟨X, 3, none⟩ = some (.slice A4 y4.length k4)) ∧ W.cell? ⟨Y, 0, none⟩ = some (.slice D1 z1.length j1) ∧ W.cell? ⟨b1, o1 + i, none⟩ = some (u f)) (by kernel_rfl) (HS14.out _ (HDp.out)) (fun hHeld => ?_)
         obtain ⟨Wp0, hW0⟩ : ∃ W0, W0 = w4.drew := ⟨_, rfl⟩
         rw [← hW0] at hHeld HDp ⊢
         clear hW0
         refine wpAnyH_take (i := 0) (oi := ?oi0p) (v := ?v0p) ?hi0p ?hs0p ?hf0p ?hr0p ?hQ0p ?hy0p ?hS0p ?h0p
         case hi0p => exact (by simp only [List.getElem?_toArray, List.getElem?_cons_zero]; rfl)
         case hs0p => kernel_rfl
         case hf0p => kernel_rfl
         case hr0p => kernel_rfl
         case hQ0p => exact fun _ _ _ h => h
         case hy0p =>
           refine Or.inl ⟨rfl, ?_⟩
           intro W hSw
           obtain ⟨⟨x0, x1, x2, x3⟩, y0, z0⟩ := hSw
           go_simp
           try with_reducible rfl
         case hS0p => assumption
         try simp only [Act.put, List.setIfInBounds_toArray, List.set_cons_zero, List.set_cons_succ]
         refine wpAnyH_take (i := 1) (oi := ?oi1p) (v := ?v1p) ?hi1p ?hs1p ?hf1p ?hr1p ?hQ1p ?hy1p ?hS1p ?h1p
         case hi1p => exact (by simp only [List.getElem?_toArray, List.getElem?_cons_succ, List.getElem?_cons_zero]; rfl)
         case hs1p => kernel_rfl
         case hf1p => kernel_rfl
         case hr1p => kernel_rfl
         case hQ1p => exact fun _ _ _ h => h
         case hy1p =>
           refine Or.inl ⟨rfl, ?_⟩
           intro W hSw
           obtain ⟨⟨x0, x1, x2, x3⟩, y0, z0⟩ := hSw
           go_simp
           try with_reducible rfl
         case hS1p => assumption
         try simp only [Act.put, List.setIfInBounds_toArray, List.set_cons_zero, List.set_cons_succ]
         refine wpAnyH_take (i := 2) (oi := ?oi2p) (v := ?v2p) ?hi2p ?hs2p ?hf2p ?hr2p ?hQ2p ?hy2p ?hS2p ?h2p
         case hi2p => exact (by simp only [List.getElem?_toArray, List.getElem?_cons_succ, List.getElem?_cons_zero]; rfl)
         case hs2p => kernel_rfl
         case hf2p => kernel_rfl
         case hr2p => kernel_rfl
         case hQ2p => exact fun _ _ _ h => h
         case hy2p =>
           refine Or.inl ⟨rfl, ?_⟩
           intro W hSw
           obtain ⟨⟨x0, x1, x2, x3⟩, y0, z0⟩ := hSw
           go_simp
           try with_reducible rfl
         case hS2p => assumption
         try simp only [Act.put, List.setIfInBounds_toArray, List.set_cons_zero, List.set_cons_succ]
         refine wpAnyH_ready (rs := [3]) (by kernel_rfl) (by simp) ?_
         refine AllReadyH.cons (o := _) rfl (fun K hK => ?_) AllReadyH.nil
         go_simp
         refine ((HC1.out Wp0 HDp.out)).mono ?_
         rintro r Wp1 ⟨rfl, hbq⟩
         have HBp1 := Lib.hid (HDp.out.trans (hbq.mono HDp.out.size))
         clear hbq
         refine hK.out _ _ (HS14.out _ (HBp1.out)) (fun hHeld => ?_)
         clear hK K
         try simp only [Act.put, List.setIfInBounds_toArray, List.set_cons_zero, List.set_cons_succ]
         refine wpAnyH_take (i := 4) (oi := ?oi4p) (v := (.bool false)) ?hi4p ?hs4p ?hf4p ?hr4p ?hQ4p ?hy4p ?hS4p ?h4p
         case hi4p => exact (by simp only [List.getElem?_toArray, List.getElem?_cons_succ, List.getElem?_cons_zero]; rfl)
         case hs4p => kernel_rfl
         case hf4p => kernel_rfl
         case hr4p => kernel_rfl
         case hQ4p => exact fun _ _ _ h => h
         case hy4p =>
           refine Or.inl ⟨rfl, ?_⟩
           intro W hSw
           obtain ⟨⟨x0, x1, x2, x3⟩, y0, z0⟩ := hSw
           go_simp
           try simp
         case hS4p => assumption
         try simp only [Act.put, List.setIfInBounds_toArray, List.set_cons_zero, List.set_cons_succ]
         refine wpAnyH_take (i := 5) (oi := ?oi5p) (v := ?v5p) ?hi5p ?hs5p ?hf5p ?hr5p ?hQ5p ?hy5p ?hS5p ?h5p
         case hi5p => exact (by simp only [List.getElem?_toArray, List.getElem?_cons_succ, List.getElem?_cons_zero]; rfl)
         case hs5p => kernel_rfl
         case hf5p => kernel_rfl
         case hr5p => kernel_rfl
         case hQ5p => exact fun _ _ _ h => h
         case hy5p =>
           refine Or.inl ⟨rfl, ?_⟩
           intro W hSw
           obtain ⟨⟨x0, x1, x2, x3⟩, y0, z0⟩ := hSw
           go_simp
           try with_reducible rfl
         case hS5p => assumption
         try simp only [Act.put, List.setIfInBounds_toArray, List.set_cons_zero, List.set_cons_succ]
         refine wpAnyH_take (i := 6) (oi := ?oi6p) (v := ?v6p) ?hi6p ?hs6p ?hf6p ?hr6p ?hQ6p ?hy6p ?hS6p ?h6p
         case hi6p => exact (by simp only [List.getElem?_toArray, List.getElem?_cons_succ, List.getElem?_cons_zero]; rfl)
         case hs6p => kernel_rfl
         case hf6p => kernel_rfl
         case hr6p => kernel_rfl
         case hQ6p => exact fun _ _ _ h => h
         case hy6p =>
           refine Or.inl ⟨rfl, ?_⟩
           intro W hSw
           obtain ⟨⟨x0, x1, x2, x3⟩, y0, z0⟩ := hSw
           go_simp
           try with_reducible rfl
         case hS6p => assumption
         try simp only [Act.put, List.setIfInBounds_toArray, List.set_cons_zero, List.set_cons_succ]
         refine wpAnyH_take (i := 7) (oi := ?oi7p) (v := ?v7p) ?hi7p ?hs7p ?hf7p ?hr7p ?hQ7p ?hy7p ?hS7p ?h7p
         case hi7p => exact (by simp only [List.getElem?_toArray, List.getElem?_cons_succ, List.getElem?_cons_zero]; rfl)
         case hs7p => kernel_rfl
         case hf7p => kernel_rfl
         case hr7p => kernel_rfl
         case hQ7p => exact fun _ _ _ h => h
         case hy7p =>
           refine Or.inl ⟨rfl, ?_⟩
           intro W hSw
           obtain ⟨⟨x0, x1, x2, x3⟩, y0, z0⟩ := hSw
           go_simp
           try with_reducible rfl
         case hS7p => assumption
         try simp only [Act.put, List.setIfInBounds_toArray, List.set_cons_zero, List.set_cons_succ]
         refine wpAnyH_take (i := 8) (oi := ?oi8p) (v := ?v8p) ?hi8p ?hs8p ?hf8p ?hr8p ?hQ8p ?hy8p ?hS8p ?h8p
         case hi8p => exact (by simp only [List.getElem?_toArray, List.getElem?_cons_succ, List.getElem?_cons_zero]; rfl)
         case hs8p => kernel_rfl
         case hf8p => kernel_rfl
         case hr8p => kernel_rfl
         case hQ8p => exact fun _ _ _ h => h
         case hy8p =>
           refine Or.inl ⟨rfl, ?_⟩
           intro W hSw
           obtain ⟨⟨x0, x1, x2, x3⟩, y0, z0⟩ := hSw
           go_simp
           try with_reducible rfl
         case hS8p => assumption
         try simp only [Act.put, List.setIfInBounds_toArray, List.set_cons_zero, List.set_cons_succ]
         refine wpAnyH_take (i := 9) (oi := ?oi9p) (v := ?v9p) ?hi9p ?hs9p ?hf9p ?hr9p ?hQ9p ?hy9p ?hS9p ?h9p
         case hi9p => exact (by simp only [List.getElem?_toArray, List.getElem?_cons_succ, List.getElem?_cons_zero]; rfl)
         case hs9p => kernel_rfl
         case hf9p => kernel_rfl
         case hr9p => kernel_rfl
         case hQ9p => exact fun _ _ _ h => h
         case hy9p =>
           refine Or.inl ⟨rfl, ?_⟩
           intro W hSw
           obtain ⟨⟨x0, x1, x2, x3⟩, y0, z0⟩ := hSw
           go_simp
           try with_reducible rfl
         case hS9p => assumption
         try simp only [Act.put, List.setIfInBounds_toArray, List.set_cons_zero, List.set_cons_succ]
         refine wpAnyH_take (i := 10) (oi := ?oi10p) (v := ?v10p) ?hi10p ?hs10p ?hf10p ?hr10p ?hQ10p ?hy10p ?hS10p ?h10p
         case hi10p => exact (by simp only [List.getElem?_toArray, List.getElem?_cons_succ, List.getElem?_cons_zero]; rfl)
         case hs10p => kernel_rfl
         case hf10p => kernel_rfl
         case hr10p => kernel_rfl
         case hQ10p => exact fun _ _ _ h => h
         case hy10p =>
           refine Or.inl ⟨rfl, ?_⟩
           intro W hSw
           obtain ⟨⟨x0, x1, x2, x3⟩, y0, z0⟩ := hSw
           go_simp
           try with_reducible rfl
         case hS10p => assumption
         try simp only [Act.put, List.setIfInBounds_toArray, List.set_cons_zero, List.set_cons_succ]
         refine wpAnyH_take (i := 11) (oi := ?oi11p) (v := ?v11p) ?hi11p ?hs11p ?hf11p ?hr11p ?hQ11p ?hy11p ?hS11p ?h11p
         case hi11p => exact (by simp only [List.getElem?_toArray, List.getElem?_cons_succ, List.getElem?_cons_zero]; rfl)
         case hs11p => kernel_rfl
         case hf11p => kernel_rfl
         case hr11p => kernel_rfl
         case hQ11p => exact fun _ _ _ h => h
         case hy11p =>
           refine Or.inl ⟨rfl, ?_⟩
           intro W hSw
           obtain ⟨⟨x0, x1, x2, x3⟩, y0, z0⟩ := hSw
           go_simp
           try with_reducible rfl
         case hS11p => assumption
         try simp only [Act.put, List.setIfInBounds_toArray, List.set_cons_zero, List.set_cons_succ]
         refine wpAnyH_take (i := 12) (oi := ?oi12p) (v := ?v12p) ?hi12p ?hs12p ?hf12p ?hr12p ?hQ12p ?hy12p ?hS12p ?h12p
         case hi12p => exact (by simp only [List.getElem?_toArray, List.getElem?_cons_succ, List.getElem?_cons_zero]; rfl)
         case hs12p => kernel_rfl
         case hf12p => kernel_rfl
         case hr12p => kernel_rfl
         case hQ12p => exact fun _ _ _ h => h
         case hy12p =>
           refine Or.inl ⟨rfl, ?_⟩
           intro W hSw
           obtain ⟨⟨x0, x1, x2, x3⟩, y0, z0⟩ := hSw
           go_simp
           try with_reducible rfl
         case hS12p => assumption
         try simp only [Act.put, List.setIfInBounds_toArray, List.set_cons_zero, List.set_cons_succ]
         refine wpAnyH_ready (rs := [13]) (by kernel_rfl) (by simp) ?_
         refine AllReadyH.cons (o := _) rfl (fun K hK => ?_) AllReadyH.nil
         go_simp
         refine ((HC2.out Wp1 HBp1.out)).mono ?_
         rintro r Wp2 ⟨rfl, hbq⟩
         have HBp2 := Lib.hid (HBp1.out.trans (hbq.mono HBp1.out.size))
         clear hbq
         refine hK.out _ _ (HS14.out _ (HBp2.out)) (fun hHeld => ?_)
         clear hK K
         try simp only [Act.put, List.setIfInBounds_toArray, List.set_cons_zero, List.set_cons_succ]
         refine wpAnyH_take (i := 14) (oi := ?oi14p) (v := ?v14p) ?hi14p ?hs14p ?hf14p ?hr14p ?hQ14p ?hy14p ?hS14p ?h14p
         case hi14p => exact (by simp only [List.getElem?_toArray, List.getElem?_cons_succ, List.getElem?_cons_zero]; rfl)
         case hs14p => kernel_rfl
         case hf14p => kernel_rfl
         case hr14p => kernel_rfl
         case hQ14p => exact fun _ _ _ h => h
         case hy14p =>
           refine Or.inl ⟨rfl, ?_⟩
           intro W hSw
           obtain ⟨⟨x0, x1, x2, x3⟩, y0, z0⟩ := hSw
           go_simp
           try with_reducible rfl
         case hS14p => assumption
         try simp only [Act.put, List.setIfInBounds_toArray, List.set_cons_zero, List.set_cons_succ]
         refine wpAnyH_take (i := 15) (oi := ?oi15p) (v := ?v15p) ?hi15p ?hs15p ?hf15p ?hr15p ?hQ15p ?hy15p ?hS15p ?h15p
         case hi15p => exact (by simp only [List.getElem?_toArray, List.getElem?_cons_succ, List.getElem?_cons_zero]; rfl)
         case hs15p => kernel_rfl
         case hf15p => kernel_rfl
         case hr15p => kernel_rfl
         case hQ15p => exact fun _ _ _ h => h
         case hy15p =>
           refine Or.inl ⟨rfl, ?_⟩
           intro W hSw
           obtain ⟨⟨x0, x1, x2, x3⟩, y0, z0⟩ := hSw
           go_simp
           try with_reducible rfl
         case hS15p => assumption
         try simp only [Act.put, List.setIfInBounds_toArray, List.set_cons_zero, List.set_cons_succ]
         refine wpAnyH_take (i := 16) (oi := ?oi16p) (v := ?v16p) ?hi16p ?hs16p ?hf16p ?hr16p ?hQ16p ?hy16p ?hS16p ?h16p
         case hi16p => exact (by simp only [List.getElem?_toArray, List.getElem?_cons_succ, List.getElem?_cons_zero]; rfl)
         case hs16p => kernel_rfl
         case hf16p => kernel_rfl
         case hr16p => kernel_rfl
         case hQ16p => exact fun _ _ _ h => h
         case hy16p =>
           refine Or.inl ⟨rfl, ?_⟩
           intro W hSw
           obtain ⟨⟨x0, x1, x2, x3⟩, y0, z0⟩ := hSw
           go_simp
           try with_reducible rfl
         case hS16p => assumption
         try simp only [Act.put, List.setIfInBounds_toArray, List.set_cons_zero, List.set_cons_succ]
         refine wpAnyH_take (i := 17) (oi := ?oi17p) (v := ?v17p) ?hi17p ?hs17p ?hf17p ?hr17p ?hQ17p ?hy17p ?hS17p ?h17p
         case hi17p => exact (by simp only [List.getElem?_toArray, List.getElem?_cons_succ, List.getElem?_cons_zero]; rfl)
         case hs17p => kernel_rfl
         case hf17p => kernel_rfl
         case hr17p => kernel_rfl
         case hQ17p => exact fun _ _ _ h => h
         case hy17p =>
           refine Or.inl ⟨rfl, ?_⟩
           intro W hSw
           obtain ⟨⟨x0, x1, x2, x3⟩, y0, z0⟩ := hSw
           go_simp
           try with_reducible rfl
         case hS17p => assumption
         try simp only [Act.put, List.setIfInBounds_toArray, List.set_cons_zero, List.set_cons_succ]
         refine wpAnyH_take (i := 18) (oi := ?oi18p) (v := ?v18p) ?hi18p ?hs18p ?hf18p ?hr18p ?hQ18p ?hy18p ?hS18p ?h18p
         case hi18p => exact (by simp only [List.getElem?_toArray, List.getElem?_cons_succ, List.getElem?_cons_zero]; rfl)
         case hs18p => kernel_rfl
         case hf18p => kernel_rfl
         case hr18p => kernel_rfl
         case hQ18p => exact fun _ _ _ h => h
         case hy18p =>
           refine Or.inl ⟨rfl, ?_⟩
           intro W hSw
           obtain ⟨⟨x0, x1, x2, x3⟩, y0, z0⟩ := hSw
           go_simp
           try with_reducible rfl
         case hS18p => assumption
         try simp only [Act.put, List.setIfInBounds_toArray, List.set_cons_zero, List.set_cons_succ]
         refine wpAnyH_take (i := 19) (oi := ?oi19p) (v := ?v19p) ?hi19p ?hs19p ?hf19p ?hr19p ?hQ19p ?hy19p ?hS19p ?h19p
         case hi19p => exact (by simp only [List.getElem?_toArray, List.getElem?_cons_succ, List.getElem?_cons_zero]; rfl)
         case hs19p => kernel_rfl
         case hf19p => kernel_rfl
         case hr19p => kernel_rfl
         case hQ19p => exact fun _ _ _ h => h
         case hy19p =>
           refine Or.inl ⟨rfl, ?_⟩
           intro W hSw
           obtain ⟨⟨x0, x1, x2, x3⟩, y0, z0⟩ := hSw
           go_simp
           try with_reducible rfl
         case hS19p => assumption
         try simp only [Act.put, List.setIfInBounds_toArray, List.set_cons_zero, List.set_cons_succ]
         refine wpAnyH_take (i := 20) (oi := ?oi20p) (v := ?v20p) ?hi20p ?hs20p ?hf20p ?hr20p ?hQ20p ?hy20p ?hS20p ?h20p
         case hi20p => exact (by simp only [List.getElem?_toArray, List.getElem?_cons_succ, List.getElem?_cons_zero]; rfl)
         case hs20p => kernel_rfl
         case hf20p => kernel_rfl
         case hr20p => kernel_rfl
         case hQ20p => exact fun _ _ _ h => h
         case hy20p =>
           refine Or.inl ⟨rfl, ?_⟩
           intro W hSw
           obtain ⟨⟨x0, x1, x2, x3⟩, y0, z0⟩ := hSw
           go_simp
           try with_reducible rfl
         case hS20p => assumption
         try simp only [Act.put, List.setIfInBounds_toArray, List.set_cons_zero, List.set_cons_succ]
         refine wpAnyH_take (i := 21) (oi := ?oi21p) (v := ?v21p) ?hi21p ?hs21p ?hf21p ?hr21p ?hQ21p ?hy21p ?hS21p ?h21p
         case hi21p => exact (by simp only [List.getElem?_toArray, List.getElem?_cons_succ, List.getElem?_cons_zero]; rfl)
         case hs21p => kernel_rfl
         case hf21p => kernel_rfl
         case hr21p => kernel_rfl
         case hQ21p => exact fun _ _ _ h => h
         case hy21p =>
           refine Or.inl ⟨rfl, ?_⟩
           intro W hSw
           obtain ⟨⟨x0, x1, x2, x3⟩, y0, z0⟩ := hSw
           go_simp
           try with_reducible rfl
         case hS21p => assumption
         try simp only [Act.put, List.setIfInBounds_toArray, List.set_cons_zero, List.set_cons_succ]
         refine wpAnyH_take (i := 22) (oi := ?oi22p) (v := ?v22p) ?hi22p ?hs22p ?hf22p ?hr22p ?hQ22p ?hy22p ?hS22p ?h22p
         case hi22p => exact (by simp only [List.getElem?_toArray, List.getElem?_cons_succ, List.getElem?_cons_zero]; rfl)
         case hs22p => kernel_rfl
         case hf22p => kernel_rfl
         case hr22p => kernel_rfl
         case hQ22p => exact fun _ _ _ h => h
         case hy22p =>
           refine Or.inl ⟨rfl, ?_⟩
           intro W hSw
           obtain ⟨⟨x0, x1, x2, x3⟩, y0, z0⟩ := hSw
           go_simp
           try with_reducible rfl
         case hS22p => assumption
         try simp only [Act.put, List.setIfInBounds_toArray, List.set_cons_zero, List.set_cons_succ]
         refine wpAnyH_ready (rs := [23]) (by kernel_rfl) (by simp) ?_
         refine AllReadyH.cons (o := _) rfl (fun K hK => ?_) AllReadyH.nil
         go_simp
         refine ((HC3.out Wp2 HBp2.out)).mono ?_
         rintro r Wp3 ⟨rfl, hbq⟩
         have HBp3 := Lib.hid (HBp2.out.trans (hbq.mono HBp2.out.size))
         clear hbq
         refine hK.out _ _ (HS14.out _ (HBp3.out)) (fun hHeld => ?_)
         clear hK K
         try simp only [Act.put, List.setIfInBounds_toArray, List.set_cons_zero, List.set_cons_succ]
         refine wpAnyH_take (i := 24) (oi := ?oi24p) (v := ?v24p) ?hi24p ?hs24p ?hf24p ?hr24p ?hQ24p ?hy24p ?hS24p ?h24p
         case hi24p => exact (by simp only [List.getElem?_toArray, List.getElem?_cons_succ, List.getElem?_cons_zero]; rfl)
         case hs24p => kernel_rfl
         case hf24p => kernel_rfl
         case hr24p => kernel_rfl
         case hQ24p => exact fun _ _ _ h => h
         case hy24p =>
           refine Or.inl ⟨rfl, ?_⟩
           intro W hSw
           obtain ⟨⟨x0, x1, x2, x3⟩, y0, z0⟩ := hSw
           go_simp
           try with_reducible rfl
         case hS24p => assumption
         try simp only [Act.put, List.setIfInBounds_toArray, List.set_cons_zero, List.set_cons_succ]
         refine wpAnyH_take (i := 25) (oi := ?oi25p) (v := ?v25p) ?hi25p ?hs25p ?hf25p ?hr25p ?hQ25p ?hy25p ?hS25p ?h25p
         case hi25p => exact (by simp only [List.getElem?_toArray, List.getElem?_cons_succ, List.getElem?_cons_zero]; rfl)
         case hs25p => kernel_rfl
         case hf25p => kernel_rfl
         case hr25p => kernel_rfl
         case hQ25p => exact fun _ _ _ h => h
         case hy25p =>
           refine Or.inl ⟨rfl, ?_⟩
           intro W hSw
           obtain ⟨⟨x0, x1, x2, x3⟩, y0, z0⟩ := hSw
           go_simp
           try with_reducible rfl
         case hS25p => assumption
         try simp only [Act.put, List.setIfInBounds_toArray, List.set_cons_zero, List.set_cons_succ]
         refine wpAnyH_take (i := 26) (oi := ?oi26p) (v := ?v26p) ?hi26p ?hs26p ?hf26p ?hr26p ?hQ26p ?hy26p ?hS26p ?h26p
         case hi26p => exact (by simp only [List.getElem?_toArray, List.getElem?_cons_succ, List.getElem?_cons_zero]; rfl)
         case hs26p => kernel_rfl
         case hf26p => kernel_rfl
         case hr26p => kernel_rfl
         case hQ26p => exact fun _ _ _ h => h
         case hy26p =>
           refine Or.inl ⟨rfl, ?_⟩
           intro W hSw
           obtain ⟨⟨x0, x1, x2, x3⟩, y0, z0⟩ := hSw
           go_simp
           try with_reducible rfl
         case hS26p => assumption
         try simp only [Act.put, List.setIfInBounds_toArray, List.set_cons_zero, List.set_cons_succ]
         refine wpAnyH_take (i := 27) (oi := ?oi27p) (v := ?v27p) ?hi27p ?hs27p ?hf27p ?hr27p ?hQ27p ?hy27p ?hS27p ?h27p
         case hi27p => exact (by simp only [List.getElem?_toArray, List.getElem?_cons_succ, List.getElem?_cons_zero]; rfl)
         case hs27p => kernel_rfl
         case hf27p => kernel_rfl
         case hr27p => kernel_rfl
         case hQ27p => exact fun _ _ _ h => h
         case hy27p =>
           refine Or.inl ⟨rfl, ?_⟩
           intro W hSw
           obtain ⟨⟨x0, x1, x2, x3⟩, y0, z0⟩ := hSw
           go_simp
           try with_reducible rfl
         case hS27p => assumption
         try simp only [Act.put, List.setIfInBounds_toArray, List.set_cons_zero, List.set_cons_succ]
         refine wpAnyH_take (i := 28) (oi := ?oi28p) (v := ?v28p) ?hi28p ?hs28p ?hf28p ?hr28p ?hQ28p ?hy28p ?hS28p ?h28p
         case hi28p => exact (by simp only [List.getElem?_toArray, List.getElem?_cons_succ, List.getElem?_cons_zero]; rfl)
         case hs28p => kernel_rfl
         case hf28p => kernel_rfl
         case hr28p => kernel_rfl
         case hQ28p => exact fun _ _ _ h => h
         case hy28p =>
           refine Or.inl ⟨rfl, ?_⟩
           intro W hSw
           obtain ⟨⟨x0, x1, x2, x3⟩, y0, z0⟩ := hSw
           go_simp
           try with_reducible rfl
         case hS28p => assumption
         try simp only [Act.put, List.setIfInBounds_toArray, List.set_cons_zero, List.set_cons_succ]
         refine wpAnyH_take (i := 29) (oi := ?oi29p) (v := ?v29p) ?hi29p ?hs29p ?hf29p ?hr29p ?hQ29p ?hy29p ?hS29p ?h29p
         case hi29p => exact (by simp only [List.getElem?_toArray, List.getElem?_cons_succ, List.getElem?_cons_zero]; rfl)
         case hs29p => kernel_rfl
         case hf29p => kernel_rfl
         case hr29p => kernel_rfl
         case hQ29p => exact fun _ _ _ h => h
         case hy29p =>
           refine Or.inl ⟨rfl, ?_⟩
           intro W hSw
           obtain ⟨⟨x0, x1, x2, x3⟩, y0, z0⟩ := hSw
           go_simp
           try with_reducible rfl
         case hS29p => assumption
         try simp only [Act.put, List.setIfInBounds_toArray, List.set_cons_zero, List.set_cons_succ]
         refine wpAnyH_take (i := 30) (oi := ?oi30p) (v := ?v30p) ?hi30p ?hs30p ?hf30p ?hr30p ?hQ30p ?hy30p ?hS30p ?h30p
         case hi30p => exact (by simp only [List.getElem?_toArray, List.getElem?_cons_succ, List.getElem?_cons_zero]; rfl)
         case hs30p => kernel_rfl
         case hf30p => kernel_rfl
         case hr30p => kernel_rfl
         case hQ30p => exact fun _ _ _ h => h
         case hy30p =>
           refine Or.inl ⟨rfl, ?_⟩
           intro W hSw
           obtain ⟨⟨x0, x1, x2, x3⟩, y0, z0⟩ := hSw
           go_simp
           try with_reducible rfl
         case hS30p => assumption
         try simp only [Act.put, List.setIfInBounds_toArray, List.set_cons_zero, List.set_cons_succ]
         refine wpAnyH_take (i := 31) (oi := ?oi31p) (v := ?v31p) ?hi31p ?hs31p ?hf31p ?hr31p ?hQ31p ?hy31p ?hS31p ?h31p
         case hi31p => exact (by simp only [List.getElem?_toArray, List.getElem?_cons_succ, List.getElem?_cons_zero]; rfl)
         case hs31p => kernel_rfl
         case hf31p => kernel_rfl
         case hr31p => kernel_rfl
         case hQ31p => exact fun _ _ _ h => h
         case hy31p =>
           refine Or.inl ⟨rfl, ?_⟩
           intro W hSw
           obtain ⟨⟨x0, x1, x2, x3⟩, y0, z0⟩ := hSw
           go_simp
           try with_reducible rfl
         case hS31p => assumption
         try simp only [Act.put, List.setIfInBounds_toArray, List.set_cons_zero, List.set_cons_succ]
         refine wpAnyH_take (i := 32) (oi := ?oi32p) (v := ?v32p) ?hi32p ?hs32p ?hf32p ?hr32p ?hQ32p ?hy32p ?hS32p ?h32p
         case hi32p => exact (by simp only [List.getElem?_toArray, List.getElem?_cons_succ, List.getElem?_cons_zero]; rfl)
         case hs32p => kernel_rfl
         case hf32p => kernel_rfl
         case hr32p => kernel_rfl
         case hQ32p => exact fun _ _ _ h => h
         case hy32p =>
           refine Or.inl ⟨rfl, ?_⟩
           intro W hSw
           obtain ⟨⟨x0, x1, x2, x3⟩, y0, z0⟩ := hSw
           go_simp
           try with_reducible rfl
         case hS32p => assumption
         try simp only [Act.put, List.setIfInBounds_toArray, List.set_cons_zero, List.set_cons_succ]
         refine wpAnyH_ready (rs := [33]) (by kernel_rfl) (by simp) ?_
         refine AllReadyH.cons (o := _) rfl (fun K hK => ?_) AllReadyH.nil
         go_simp
         refine ((HC4.out Wp3 HBp3.out)).mono ?_
         rintro r Wp4 ⟨rfl, hbq⟩
         have HBp4 := Lib.hid (HBp3.out.trans (hbq.mono HBp3.out.size))
         clear hbq
         refine hK.out _ _ (HS14.out _ (HBp4.out)) (fun hHeld => ?_)
         clear hK K
         try simp only [Act.put, List.setIfInBounds_toArray, List.set_cons_zero, List.set_cons_succ]
         refine wpAnyH_take (i := 34) (oi := ?oi34p) (v := ?v34p) ?hi34p ?hs34p ?hf34p ?hr34p ?hQ34p ?hy34p ?hS34p ?h34p
         case hi34p => exact (by simp only [List.getElem?_toArray, List.getElem?_cons_succ, List.getElem?_cons_zero]; rfl)
         case hs34p => kernel_rfl
         case hf34p => kernel_rfl
         case hr34p => kernel_rfl
         case hQ34p => exact fun _ _ _ h => h
         case hy34p =>
           refine Or.inl ⟨rfl, ?_⟩
           intro W hSw
           obtain ⟨⟨x0, x1, x2, x3⟩, y0, z0⟩ := hSw
           go_simp
           try with_reducible rfl
         case hS34p => assumption
         try simp only [Act.put, List.setIfInBounds_toArray, List.set_cons_zero, List.set_cons_succ]
         refine wpAnyH_take (i := 35) (oi := ?oi35p) (v := ?v35p) ?hi35p ?hs35p ?hf35p ?hr35p ?hQ35p ?hy35p ?hS35p ?h35p
         case hi35p => exact (by simp only [List.getElem?_toArray, List.getElem?_cons_succ, List.getElem?_cons_zero]; rfl)
         case hs35p => kernel_rfl
         case hf35p => kernel_rfl
         case hr35p => kernel_rfl
         case hQ35p => exact fun _ _ _ h => h
         case hy35p =>
           refine Or.inl ⟨rfl, ?_⟩
           intro W hSw
           obtain ⟨⟨x0, x1, x2, x3⟩, y0, z0⟩ := hSw
           go_simp
           try with_reducible rfl
         case hS35p => assumption
         try simp only [Act.put, List.setIfInBounds_toArray, List.set_cons_zero, List.set_cons_succ]
         refine wpAnyH_take (i := 36) (oi := ?oi36p) (v := ?v36p) ?hi36p ?hs36p ?hf36p ?hr36p ?hQ36p ?hy36p ?hS36p ?h36p
         case hi36p => exact (by simp only [List.getElem?_toArray, List.getElem?_cons_succ, List.getElem?_cons_zero]; rfl)
         case hs36p => kernel_rfl
         case hf36p => kernel_rfl
         case hr36p => kernel_rfl
         case hQ36p => exact fun _ _ _ h => h
         case hy36p =>
           refine Or.inl ⟨rfl, ?_⟩
           intro W hSw
           obtain ⟨⟨x0, x1, x2, x3⟩, y0, z0⟩ := hSw
           go_simp
           try with_reducible rfl
         case hS36p => assumption
         try simp only [Act.put, List.setIfInBounds_toArray, List.set_cons_zero, List.set_cons_succ]
         refine wpAnyH_take (i := 37) (oi := ?oi37p) (v := ?v37p) ?hi37p ?hs37p ?hf37p ?hr37p ?hQ37p ?hy37p ?hS37p ?h37p
         case hi37p => exact (by simp only [List.getElem?_toArray, List.getElem?_cons_succ, List.getElem?_cons_zero]; rfl)
         case hs37p => kernel_rfl
         case hf37p => kernel_rfl
         case hr37p => kernel_rfl
         case hQ37p => exact fun _ _ _ h => h
         case hy37p =>
           refine Or.inl ⟨rfl, ?_⟩
           intro W hSw
           obtain ⟨⟨x0, x1, x2, x3⟩, y0, z0⟩ := hSw
           go_simp
           try with_reducible rfl
         case hS37p => assumption
         try simp only [Act.put, List.setIfInBounds_toArray, List.set_cons_zero, List.set_cons_succ]
         refine wpAnyH_take (i := 38) (oi := ?oi38p) (v := ?v38p) ?hi38p ?hs38p ?hf38p ?hr38p ?hQ38p ?hy38p ?hS38p ?h38p
         case hi38p => exact (by simp only [List.getElem?_toArray, List.getElem?_cons_succ, List.getElem?_cons_zero]; rfl)
         case hs38p => kernel_rfl
         case hf38p => kernel_rfl
         case hr38p => kernel_rfl
         case hQ38p => exact fun _ _ _ h => h
         case hy38p =>
           refine Or.inl ⟨rfl, ?_⟩
           intro W hSw
           obtain ⟨⟨x0, x1, x2, x3⟩, y0, z0⟩ := hSw
           go_simp
           try with_reducible rfl
         case hS38p => assumption
         try simp only [Act.put, List.setIfInBounds_toArray, List.set_cons_zero, List.set_cons_succ]
         refine wpAnyH_take (i := 39) (oi := ?oi39p) (v := ?v39p) ?hi39p ?hs39p ?hf39p ?hr39p ?hQ39p ?hy39p ?hS39p ?h39p
         case hi39p => exact (by simp only [List.getElem?_toArray, List.getElem?_cons_succ, List.getElem?_cons_zero]; rfl)
         case hs39p => kernel_rfl
         case hf39p => kernel_rfl
         case hr39p => kernel_rfl
         case hQ39p => exact fun _ _ _ h => h
         case hy39p =>
           refine Or.inl ⟨rfl, ?_⟩
           intro W hSw
           obtain ⟨⟨x0, x1, x2, x3⟩, y0, z0⟩ := hSw
           go_simp
           try with_reducible rfl
         case hS39p => assumption
         try simp only [Act.put, List.setIfInBounds_toArray, List.set_cons_zero, List.set_cons_succ]
         refine wpAnyH_take (i := 40) (oi := ?oi40p) (v := ?v40p) ?hi40p ?hs40p ?hf40p ?hr40p ?hQ40p ?hy40p ?hS40p ?h40p
         case hi40p => exact (by simp only [List.getElem?_toArray, List.getElem?_cons_succ, List.getElem?_cons_zero]; rfl)
         case hs40p => kernel_rfl
         case hf40p => kernel_rfl
         case hr40p => kernel_rfl
         case hQ40p => exact fun _ _ _ h => h
         case hy40p =>
           refine Or.inl ⟨rfl, ?_⟩
           intro W hSw
           obtain ⟨⟨x0, x1, x2, x3⟩, y0, z0⟩ := hSw
           go_simp
           try with_reducible rfl
         case hS40p => assumption
         try simp only [Act.put, List.setIfInBounds_toArray, List.set_cons_zero, List.set_cons_succ]
         refine wpAnyH_take (i := 41) (oi := ?oi41p) (v := ?v41p) ?hi41p ?hs41p ?hf41p ?hr41p ?hQ41p ?hy41p ?hS41p ?h41p
         case hi41p => exact (by simp only [List.getElem?_toArray, List.getElem?_cons_succ, List.getElem?_cons_zero]; rfl)
         case hs41p => kernel_rfl
         case hf41p => kernel_rfl
         case hr41p => kernel_rfl
         case hQ41p => exact fun _ _ _ h => h
         case hy41p =>
           refine Or.inl ⟨rfl, ?_⟩
           intro W hSw
           obtain ⟨⟨x0, x1, x2, x3⟩, y0, z0⟩ := hSw
           go_simp
           try with_reducible rfl
         case hS41p => assumption
         try simp only [Act.put, List.setIfInBounds_toArray, List.set_cons_zero, List.set_cons_succ]
         refine wpAnyH_take (i := 42) (oi := ?oi42p) (v := ?v42p) ?hi42p ?hs42p ?hf42p ?hr42p ?hQ42p ?hy42p ?hS42p ?h42p
         case hi42p => exact (by simp only [List.getElem?_toArray, List.getElem?_cons_succ, List.getElem?_cons_zero]; rfl)
         case hs42p => kernel_rfl
         case hf42p => kernel_rfl
         case hr42p => kernel_rfl
         case hQ42p => exact fun _ _ _ h => h
         case hy42p =>
           refine Or.inl ⟨rfl, ?_⟩
           intro W hSw
           obtain ⟨⟨x0, x1, x2, x3⟩, y0, z0⟩ := hSw
           go_simp
           try with_reducible rfl
         case hS42p => assumption
         try simp only [Act.put, List.setIfInBounds_toArray, List.set_cons_zero, List.set_cons_succ]
         refine wpAnyH_ready (rs := [43]) (by kernel_rfl) (by simp) ?_
         refine AllReadyH.cons (o := _) rfl (fun K hK => ?_) AllReadyH.nil
         go_simp
         refine ((HC5.out Wp4 HBp4.out)).mono ?_
         rintro r Wp5 ⟨rfl, hbq⟩
         have HBp5 := Lib.hid (HBp4.out.trans (hbq.mono HBp4.out.size))
         clear hbq
         refine hK.out _ _ (HS14.out _ (HBp5.out)) (fun hHeld => ?_)
         clear hK K
         try simp only [Act.put, List.setIfInBounds_toArray, List.set_cons_zero, List.set_cons_succ]
         refine wpAnyH_take (i := 44) (oi := ?oi44p) (v := (.bool false)) ?hi44p ?hs44p ?hf44p ?hr44p ?hQ44p ?hy44p ?hS44p ?h44p
         case hi44p => exact (by simp only [List.getElem?_toArray, List.getElem?_cons_succ, List.getElem?_cons_zero]; rfl)
         case hs44p => kernel_rfl
         case hf44p => kernel_rfl
         case hr44p => kernel_rfl
         case hQ44p => exact fun _ _ _ h => h
         case hy44p =>
           refine Or.inl ⟨rfl, ?_⟩
           intro W hSw
           obtain ⟨⟨x0, x1, x2, x3⟩, y0, z0⟩ := hSw
           go_simp
           try simp
         case hS44p => assumption
         try simp only [Act.put, List.setIfInBounds_toArray, List.set_cons_zero, List.set_cons_succ]
         refine wpAnyH_take (i := 45) (oi := ?oi45p) (v := ?v45p) ?hi45p ?hs45p ?hf45p ?hr45p ?hQ45p ?hy45p ?hS45p ?h45p
         case hi45p => exact (by simp only [List.getElem?_toArray, List.getElem?_cons_succ, List.getElem?_cons_zero]; rfl)
         case hs45p => kernel_rfl
         case hf45p => kernel_rfl
         case hr45p => kernel_rfl
         case hQ45p => exact fun _ _ _ h => h
         case hy45p =>
           refine Or.inl ⟨rfl, ?_⟩
           intro W hSw
           obtain ⟨⟨x0, x1, x2, x3⟩, y0, z0⟩ := hSw
           go_simp
           try with_reducible rfl
         case hS45p => assumption
         try simp only [Act.put, List.setIfInBounds_toArray, List.set_cons_zero, List.set_cons_succ]
         refine wpAnyH_done (by kernel_rfl) ?_ _
         have HBN := Lib.hid (HUP.out _ HBp5.out)
         go_wp2_with fail
         go_roundw
         case rel => exact ⟨i + 1, by omega, by go_num, HBN.out⟩
         case measure => simp [intOf] <;> omega
       · have hin : i = y1.length := by omega
         subst hin
         go_wp2_with fail
         clear x0 x1 x2 x3
         go_loopw [11] (fun x wr => ∃ i : Nat, i ≤ y2.length ∧ x = .int .i64 (i : Int) ∧ Hid (Below w2.heap.size w2 wr)) (fun x _ => y2.length - (intOf x).toNat)
         case atStart => exact ⟨0, Nat.zero_le _, rfl, HV.out⟩
         case round =>
           obtain ⟨i, hi, rfl, HV⟩ := hrel
           obtain ⟨x0, x1, x2, x3⟩ := HCE.out wr HV.out
           by_cases hlt : i < y2.length
           · obtain ⟨f, hf⟩ : ∃ f, y2[i]? = some f := ⟨y2[i]'hlt, List.getElem?_eq_getElem _⟩
             have hfm : f ∈ whom l 1 a := (HLX.out.m2 f).1 (List.mem_of_getElem? hf)
             have hfu : u32ok f := u32_of_ok (okwh HIN.out _ hfm)
             have HAT : Hid (∃ b1 o1, A2 = some ⟨b1, o1, none⟩ ∧ ∀ W, Below w2.heap.size w2 W → W.cell? ⟨b1, o1 + i, none⟩ = some (u f)) := by
               obtain ⟨B0, c0, e, h⟩ := HLX.out.s2
               injection e with e _ _
               obtain ⟨b1, o1, e2, h1, h2⟩ := h (by omega)
               exact ⟨b1, o1, e.trans e2, fun W hW => (hW.cell (p := ⟨b1, _, none⟩) h1).trans (h2 i f hf)⟩
             obtain ⟨b1, o1, rfl, hat⟩ := HAT.out
             have HAC := Lib.hid hat
             have d0 := hat wr HV.out
             have HLK := Lib.hid (links_lk L w.heap.size N f l wr (HGR.out wr HV.out) HIN.out HNN.out hfu)
             have HFM := Lib.hid hfm
             have HFU := Lib.hid hfu
             clear hf hfm hfu hat HAT
             go_wp2_with fail
             refine HLK.out.mono ?_
             rintro r w3 ⟨D1, D2, D3, D4, j1, j2, j3, j4, z1, z2, z3, z4, rfl, lk3, hb3⟩
             obtain ⟨Y, hY⟩ : ∃ Y, Y = w3.heap.size := ⟨_, rfl⟩
             obtain ⟨w4, hw4⟩ : ∃ w4, w4 = w3.alloc (.cells #[.slice D1 z1.length j1, .slice D2 z2.length j2, .slice D3 z3.length j3, .slice D4 z4.length j4] 38) := ⟨_, rfl⟩
             have hb4 : Below w3.heap.size w3 w4 := by rw [hw4]; exact (Below.refl _ _).alloc (Nat.le_refl _) _
             have hq4 : w4.heap[Y]? = some (.cells #[.slice D1 z1.length j1, .slice D2 z2.length j2, .slice D3 z3.length j3, .slice D4 z4.length j4] 38 (0, 0)) := by rw [hw4, hY]; exact heap_alloc_new w3 _
             have HB24 : Hid (Below w2.heap.size w2 w4) := (HV.out.trans (hb3.mono HV.out.size)).trans (hb4.mono (Nat.le_trans HV.out.size hb3.size))
             have HLK4 := Lib.hid (lk3.below hb4)
             have HUP : Hid (∀ W, Below w4.heap.size w4 W → Below w2.heap.size w2 W) := fun W hW => HB24.out.trans (hW.mono HB24.out.size)
             have HS14 : Hid (∀ W, Below w4.heap.size w4 W → (fun W : World => (W.cell? ⟨X, 0, none⟩ = some (.slice A1 y1.length k1) ∧ W.cell? ⟨X, 1, none⟩ = some (.slice (some ⟨b1, o1, none⟩) y2.length k2) ∧ W.cell? ⟨X, 2, none⟩ = some (.slice A3 y3.length k3) ∧ W.cell? ⟨X, 3, none⟩ = some (.slice A4 y4.length k4)) ∧ (W.cell? ⟨Y, 2, none⟩ = some (.slice D3 z3.length j3) ∧ W.cell? ⟨Y, 3, none⟩ = some (.slice D4 z4.length j4)) ∧ W.cell? ⟨b1, o1 + i, none⟩ = some (u f)) W) := fun W hW => by
               have e := (hW.block _ (lt_of_block hq4)).trans hq4
               exact ⟨HCE.out W (HUP.out W hW), ⟨cell_of_row W _ 2 _ _ _ e, cell_of_row W _ 3 _ _ _ e⟩, HAC.out W (HUP.out W hW)⟩
             have HC1 : Hid (∀ W, Below w4.heap.size w4 W → Calls Try.prog 14 #[.slice D3 z3.length j3, u a] W fun r w' => r = .returned (.bool true) ∧ Below W.heap.size W w') := fun W hW => by
               have lk := HLK4.out.below hW
               exact lhas_yes lk.s3 (by have := lk.len.2.2.1; omega) ((lk.m3 a).2 (to_ask HFM.out))
             have HC2 : Hid (∀ W, Below w4.heap.size w4 W → Calls Try.prog 14 #[.slice A3 y3.length k3, u f] W fun r w' => r = .returned (.bool false) ∧ Below W.heap.size W w') := fun W hW => by
               have lk := HLX.out.below (HUP.out W hW)
               exact lhas_no lk.s3 (by have := lk.len.2.2.1; omega) (fun h => to_not1 HIN.out HFM.out ((lk.m3 f).1 h))
             have HC3 : Hid (∀ W, Below w4.heap.size w4 W → Calls Try.prog 14 #[.slice A4 y4.length k4, u f] W fun r w' => r = .returned (.bool false) ∧ Below W.heap.size W w') := fun W hW => by
               have lk := HLX.out.below (HUP.out W hW)
               exact lhas_no lk.s4 (by have := lk.len.2.2.2.1; omega) (fun h => to_not2 HIN.out HFM.out ((lk.m4 f).1 h))
             have HC4 : Hid (∀ W, Below w4.heap.size w4 W → Calls Try.prog 14 #[.slice D4 z4.length j4, u a] W fun r w' => r = .returned (.bool false) ∧ Below W.heap.size W w') := fun W hW => by
               have lk := HLK4.out.below hW
               exact lhas_no lk.s4 (by have := lk.len.2.2.2.1; omega) (fun h => to_not3 HIN.out HFM.out ((lk.m4 a).1 h))
             have HB44 : Hid (Below w4.heap.size w4 w4) := Below.refl _ _
             have H4 := Lib.hid hw4
             have HYY := Lib.hid hY
             clear lk3 hb3 hb4 hq4 hw4 hY x0 x1 x2 x3 d0
             go_upto_region 20 with (fail)
             rw [← H4.out, ← HYY.out]
             have HDq : Hid (Below w4.heap.size w4 w4.drew) := HB44.out.drew
             refine wp_region_held_drew (S := fun W : World => (W.cell? ⟨X, 0, none⟩ = some (.slice A1 y1.length k1) ∧ W.cell? ⟨X, 1, none⟩ = some (.slice (some ⟨b1, o1, none⟩) y2.length k2) ∧ W.cell? ⟨X, 2, none⟩ = some (.slice A3 y3.length k3) ∧ W.cell? ⟨X, 3, none⟩ = some (.slice A4 y4.length k4)) ∧ (W.cell? ⟨Y, 2, none⟩ = some (.slice D3 z3.length j3) ∧ W.cell? ⟨Y, 3, none⟩ = some (.slice D4 z4.length j4)) ∧ W.cell? ⟨b1, o1 + i, none⟩ = some (u f)) (by kernel_rfl) (HS14.out _ (HDq.out)) (fun hHeld => ?_)
             obtain ⟨Wq0, hW0⟩ : ∃ W0, W0 = w4.drew := ⟨_, rfl⟩
             rw [← hW0] at hHeld HDq ⊢
             clear hW0
             refine wpAnyH_take (i := 0) (oi := ?oi0q) (v := ?v0q) ?hi0q ?hs0q ?hf0q ?hr0q ?hQ0q ?hy0q ?hS0q ?h0q
             case hi0q => exact (by simp only [List.getElem?_toArray, List.getElem?_cons_zero]; rfl)
             case hs0q => kernel_rfl
             case hf0q => kernel_rfl
             case hr0q => kernel_rfl
             case hQ0q => exact fun _ _ _ h => h
             case hy0q =>
               refine Or.inl ⟨rfl, ?_⟩
               intro W hSw
               obtain ⟨⟨x0, x1, x2, x3⟩, ⟨y0, y0b⟩, z0⟩ := hSw
               go_simp
               try with_reducible rfl
             case hS0q => assumption
             try simp only [Act.put, List.setIfInBounds_toArray, List.set_cons_zero, List.set_cons_succ]
             refine wpAnyH_take (i := 1) (oi := ?oi1q) (v := ?v1q) ?hi1q ?hs1q ?hf1q ?hr1q ?hQ1q ?hy1q ?hS1q ?h1q
             case hi1q => exact (by simp only [List.getElem?_toArray, List.getElem?_cons_succ, List.getElem?_cons_zero]; rfl)
             case hs1q => kernel_rfl
             case hf1q => kernel_rfl
             case hr1q => kernel_rfl
             case hQ1q => exact fun _ _ _ h => h
             case hy1q =>
               refine Or.inl ⟨rfl, ?_⟩
               intro W hSw
               obtain ⟨⟨x0, x1, x2, x3⟩, ⟨y0, y0b⟩, z0⟩ := hSw
               go_simp
               try with_reducible rfl
             case hS1q => assumption
             try simp only [Act.put, List.setIfInBounds_toArray, List.set_cons_zero, List.set_cons_succ]
             refine wpAnyH_take (i := 2) (oi := ?oi2q) (v := ?v2q) ?hi2q ?hs2q ?hf2q ?hr2q ?hQ2q ?hy2q ?hS2q ?h2q
             case hi2q => exact (by simp only [List.getElem?_toArray, List.getElem?_cons_succ, List.getElem?_cons_zero]; rfl)
             case hs2q => kernel_rfl
             case hf2q => kernel_rfl
             case hr2q => kernel_rfl
             case hQ2q => exact fun _ _ _ h => h
             case hy2q =>
               refine Or.inl ⟨rfl, ?_⟩
               intro W hSw
               obtain ⟨⟨x0, x1, x2, x3⟩, ⟨y0, y0b⟩, z0⟩ := hSw
               go_simp
               try with_reducible rfl
             case hS2q => assumption
             try simp only [Act.put, List.setIfInBounds_toArray, List.set_cons_zero, List.set_cons_succ]
             refine wpAnyH_ready (rs := [3]) (by kernel_rfl) (by simp) ?_
             refine AllReadyH.cons (o := _) rfl (fun K hK => ?_) AllReadyH.nil
             go_simp
             refine ((HC1.out Wq0 HDq.out)).mono ?_
             rintro r Wq1 ⟨rfl, hbq⟩
             have HBq1 := Lib.hid (HDq.out.trans (hbq.mono HDq.out.size))
             clear hbq
             refine hK.out _ _ (HS14.out _ (HBq1.out)) (fun hHeld => ?_)
             clear hK K
             try simp only [Act.put, List.setIfInBounds_toArray, List.set_cons_zero, List.set_cons_succ]
             refine wpAnyH_take (i := 4) (oi := ?oi4q) (v := (.bool false)) ?hi4q ?hs4q ?hf4q ?hr4q ?hQ4q ?hy4q ?hS4q ?h4q
             case hi4q => exact (by simp only [List.getElem?_toArray, List.getElem?_cons_succ, List.getElem?_cons_zero]; rfl)
             case hs4q => kernel_rfl
             case hf4q => kernel_rfl
             case hr4q => kernel_rfl
             case hQ4q => exact fun _ _ _ h => h
             case hy4q =>
               refine Or.inl ⟨rfl, ?_⟩
               intro W hSw
               obtain ⟨⟨x0, x1, x2, x3⟩, ⟨y0, y0b⟩, z0⟩ := hSw
               go_simp
               try simp
             case hS4q => assumption
             try simp only [Act.put, List.setIfInBounds_toArray, List.set_cons_zero, List.set_cons_succ]
             refine wpAnyH_take (i := 5) (oi := ?oi5q) (v := ?v5q) ?hi5q ?hs5q ?hf5q ?hr5q ?hQ5q ?hy5q ?hS5q ?h5q
             case hi5q => exact (by simp only [List.getElem?_toArray, List.getElem?_cons_succ, List.getElem?_cons_zero]; rfl)
             case hs5q => kernel_rfl
             case hf5q => kernel_rfl
             case hr5q => kernel_rfl
             case hQ5q => exact fun _ _ _ h => h
             case hy5q =>
               refine Or.inl ⟨rfl, ?_⟩
               intro W hSw
               obtain ⟨⟨x0, x1, x2, x3⟩, ⟨y0, y0b⟩, z0⟩ := hSw
               go_simp
               try with_reducible rfl
             case hS5q => assumption
             try simp only [Act.put, List.setIfInBounds_toArray, List.set_cons_zero, List.set_cons_succ]
             refine wpAnyH_take (i := 6) (oi := ?oi6q) (v := ?v6q) ?hi6q ?hs6q ?hf6q ?hr6q ?hQ6q ?hy6q ?hS6q ?h6q
             case hi6q => exact (by simp only [List.getElem?_toArray, List.getElem?_cons_succ, List.getElem?_cons_zero]; rfl)
             case hs6q => kernel_rfl
             case hf6q => kernel_rfl
             case hr6q => kernel_rfl
             case hQ6q => exact fun _ _ _ h => h
             case hy6q =>
               refine Or.inl ⟨rfl, ?_⟩
               intro W hSw
               obtain ⟨⟨x0, x1, x2, x3⟩, ⟨y0, y0b⟩, z0⟩ := hSw
               go_simp
               try with_reducible rfl
             case hS6q => assumption
             try simp only [Act.put, List.setIfInBounds_toArray, List.set_cons_zero, List.set_cons_succ]
             refine wpAnyH_take (i := 7) (oi := ?oi7q) (v := ?v7q) ?hi7q ?hs7q ?hf7q ?hr7q ?hQ7q ?hy7q ?hS7q ?h7q
             case hi7q => exact (by simp only [List.getElem?_toArray, List.getElem?_cons_succ, List.getElem?_cons_zero]; rfl)
             case hs7q => kernel_rfl
             case hf7q => kernel_rfl
             case hr7q => kernel_rfl
             case hQ7q => exact fun _ _ _ h => h
             case hy7q =>
               refine Or.inl ⟨rfl, ?_⟩
               intro W hSw
               obtain ⟨⟨x0, x1, x2, x3⟩, ⟨y0, y0b⟩, z0⟩ := hSw
               go_simp
               try with_reducible rfl
             case hS7q => assumption
             try simp only [Act.put, List.setIfInBounds_toArray, List.set_cons_zero, List.set_cons_succ]
             refine wpAnyH_take (i := 8) (oi := ?oi8q) (v := ?v8q) ?hi8q ?hs8q ?hf8q ?hr8q ?hQ8q ?hy8q ?hS8q ?h8q
             case hi8q => exact (by simp only [List.getElem?_toArray, List.getElem?_cons_succ, List.getElem?_cons_zero]; rfl)
             case hs8q => kernel_rfl
             case hf8q => kernel_rfl
             case hr8q => kernel_rfl
             case hQ8q => exact fun _ _ _ h => h
             case hy8q =>
               refine Or.inl ⟨rfl, ?_⟩
               intro W hSw
               obtain ⟨⟨x0, x1, x2, x3⟩, ⟨y0, y0b⟩, z0⟩ := hSw
               go_simp
               try with_reducible rfl
             case hS8q => assumption
             try simp only [Act.put, List.setIfInBounds_toArray, List.set_cons_zero, List.set_cons_succ]
             refine wpAnyH_take (i := 9) (oi := ?oi9q) (v := ?v9q) ?hi9q ?hs9q ?hf9q ?hr9q ?hQ9q ?hy9q ?hS9q ?h9q
             case hi9q => exact (by simp only [List.getElem?_toArray, List.getElem?_cons_succ, List.getElem?_cons_zero]; rfl)
             case hs9q => kernel_rfl
             case hf9q => kernel_rfl
             case hr9q => kernel_rfl
             case hQ9q => exact fun _ _ _ h => h
             case hy9q =>
               refine Or.inl ⟨rfl, ?_⟩
               intro W hSw
               obtain ⟨⟨x0, x1, x2, x3⟩, ⟨y0, y0b⟩, z0⟩ := hSw
               go_simp
               try with_reducible rfl
             case hS9q => assumption
             try simp only [Act.put, List.setIfInBounds_toArray, List.set_cons_zero, List.set_cons_succ]
             refine wpAnyH_take (i := 10) (oi := ?oi10q) (v := ?v10q) ?hi10q ?hs10q ?hf10q ?hr10q ?hQ10q ?hy10q ?hS10q ?h10q
             case hi10q => exact (by simp only [List.getElem?_toArray, List.getElem?_cons_succ, List.getElem?_cons_zero]; rfl)
             case hs10q => kernel_rfl
             case hf10q => kernel_rfl
             case hr10q => kernel_rfl
             case hQ10q => exact fun _ _ _ h => h
             case hy10q =>
               refine Or.inl ⟨rfl, ?_⟩
               intro W hSw
               obtain ⟨⟨x0, x1, x2, x3⟩, ⟨y0, y0b⟩, z0⟩ := hSw
               go_simp
               try with_reducible rfl
             case hS10q => assumption
             try simp only [Act.put, List.setIfInBounds_toArray, List.set_cons_zero, List.set_cons_succ]
             refine wpAnyH_take (i := 11) (oi := ?oi11q) (v := ?v11q) ?hi11q ?hs11q ?hf11q ?hr11q ?hQ11q ?hy11q ?hS11q ?h11q
             case hi11q => exact (by simp only [List.getElem?_toArray, List.getElem?_cons_succ, List.getElem?_cons_zero]; rfl)
             case hs11q => kernel_rfl
             case hf11q => kernel_rfl
             case hr11q => kernel_rfl
             case hQ11q => exact fun _ _ _ h => h
             case hy11q =>
               refine Or.inl ⟨rfl, ?_⟩
               intro W hSw
               obtain ⟨⟨x0, x1, x2, x3⟩, ⟨y0, y0b⟩, z0⟩ := hSw
               go_simp
               try with_reducible rfl
             case hS11q => assumption
             try simp only [Act.put, List.setIfInBounds_toArray, List.set_cons_zero, List.set_cons_succ]
             refine wpAnyH_take (i := 12) (oi := ?oi12q) (v := ?v12q) ?hi12q ?hs12q ?hf12q ?hr12q ?hQ12q ?hy12q ?hS12q ?h12q
             case hi12q => exact (by simp only [List.getElem?_toArray, List.getElem?_cons_succ, List.getElem?_cons_zero]; rfl)
             case hs12q => kernel_rfl
             case hf12q => kernel_rfl
             case hr12q => kernel_rfl
             case hQ12q => exact fun _ _ _ h => h
             case hy12q =>
               refine Or.inl ⟨rfl, ?_⟩
               intro W hSw
               obtain ⟨⟨x0, x1, x2, x3⟩, ⟨y0, y0b⟩, z0⟩ := hSw
               go_simp
               try with_reducible rfl
             case hS12q => assumption
             try simp only [Act.put, List.setIfInBounds_toArray, List.set_cons_zero, List.set_cons_succ]
             refine wpAnyH_ready (rs := [13]) (by kernel_rfl) (by simp) ?_
             refine AllReadyH.cons (o := _) rfl (fun K hK => ?_) AllReadyH.nil
             go_simp
             refine ((HC2.out Wq1 HBq1.out)).mono ?_
             rintro r Wq2 ⟨rfl, hbq⟩
             have HBq2 := Lib.hid (HBq1.out.trans (hbq.mono HBq1.out.size))
             clear hbq
             refine hK.out _ _ (HS14.out _ (HBq2.out)) (fun hHeld => ?_)
             clear hK K
             try simp only [Act.put, List.setIfInBounds_toArray, List.set_cons_zero, List.set_cons_succ]
             refine wpAnyH_take (i := 14) (oi := ?oi14q) (v := ?v14q) ?hi14q ?hs14q ?hf14q ?hr14q ?hQ14q ?hy14q ?hS14q ?h14q
             case hi14q => exact (by simp only [List.getElem?_toArray, List.getElem?_cons_succ, List.getElem?_cons_zero]; rfl)
             case hs14q => kernel_rfl
             case hf14q => kernel_rfl
             case hr14q => kernel_rfl
             case hQ14q => exact fun _ _ _ h => h
             case hy14q =>
               refine Or.inl ⟨rfl, ?_⟩
               intro W hSw
               obtain ⟨⟨x0, x1, x2, x3⟩, ⟨y0, y0b⟩, z0⟩ := hSw
               go_simp
               try with_reducible rfl
             case hS14q => assumption
             try simp only [Act.put, List.setIfInBounds_toArray, List.set_cons_zero, List.set_cons_succ]
             refine wpAnyH_take (i := 15) (oi := ?oi15q) (v := ?v15q) ?hi15q ?hs15q ?hf15q ?hr15q ?hQ15q ?hy15q ?hS15q ?h15q
             case hi15q => exact (by simp only [List.getElem?_toArray, List.getElem?_cons_succ, List.getElem?_cons_zero]; rfl)
             case hs15q => kernel_rfl
             case hf15q => kernel_rfl
             case hr15q => kernel_rfl
             case hQ15q => exact fun _ _ _ h => h
             case hy15q =>
               refine Or.inl ⟨rfl, ?_⟩
               intro W hSw
               obtain ⟨⟨x0, x1, x2, x3⟩, ⟨y0, y0b⟩, z0⟩ := hSw
               go_simp
               try with_reducible rfl
             case hS15q => assumption
             try simp only [Act.put, List.setIfInBounds_toArray, List.set_cons_zero, List.set_cons_succ]
             refine wpAnyH_take (i := 16) (oi := ?oi16q) (v := ?v16q) ?hi16q ?hs16q ?hf16q ?hr16q ?hQ16q ?hy16q ?hS16q ?h16q
             case hi16q => exact (by simp only [List.getElem?_toArray, List.getElem?_cons_succ, List.getElem?_cons_zero]; rfl)
             case hs16q => kernel_rfl
             case hf16q => kernel_rfl
             case hr16q => kernel_rfl
             case hQ16q => exact fun _ _ _ h => h
             case hy16q =>
               refine Or.inl ⟨rfl, ?_⟩
               intro W hSw
               obtain ⟨⟨x0, x1, x2, x3⟩, ⟨y0, y0b⟩, z0⟩ := hSw
               go_simp
               try with_reducible rfl
             case hS16q => assumption
             try simp only [Act.put, List.setIfInBounds_toArray, List.set_cons_zero, List.set_cons_succ]
             refine wpAnyH_take (i := 17) (oi := ?oi17q) (v := ?v17q) ?hi17q ?hs17q ?hf17q ?hr17q ?hQ17q ?hy17q ?hS17q ?h17q
             case hi17q => exact (by simp only [List.getElem?_toArray, List.getElem?_cons_succ, List.getElem?_cons_zero]; rfl)
             case hs17q => kernel_rfl
             case hf17q => kernel_rfl
             case hr17q => kernel_rfl
             case hQ17q => exact fun _ _ _ h => h
             case hy17q =>
               refine Or.inl ⟨rfl, ?_⟩
               intro W hSw
               obtain ⟨⟨x0, x1, x2, x3⟩, ⟨y0, y0b⟩, z0⟩ := hSw
               go_simp
               try with_reducible rfl
             case hS17q => assumption
             try simp only [Act.put, List.setIfInBounds_toArray, List.set_cons_zero, List.set_cons_succ]
             refine wpAnyH_take (i := 18) (oi := ?oi18q) (v := ?v18q) ?hi18q ?hs18q ?hf18q ?hr18q ?hQ18q ?hy18q ?hS18q ?h18q
             case hi18q => exact (by simp only [List.getElem?_toArray, List.getElem?_cons_succ, List.getElem?_cons_zero]; rfl)
             case hs18q => kernel_rfl
             case hf18q => kernel_rfl
             case hr18q => kernel_rfl
             case hQ18q => exact fun _ _ _ h => h
             case hy18q =>
               refine Or.inl ⟨rfl, ?_⟩
               intro W hSw
               obtain ⟨⟨x0, x1, x2, x3⟩, ⟨y0, y0b⟩, z0⟩ := hSw
               go_simp
               try with_reducible rfl
             case hS18q => assumption
             try simp only [Act.put, List.setIfInBounds_toArray, List.set_cons_zero, List.set_cons_succ]
             refine wpAnyH_take (i := 19) (oi := ?oi19q) (v := ?v19q) ?hi19q ?hs19q ?hf19q ?hr19q ?hQ19q ?hy19q ?hS19q ?h19q
             case hi19q => exact (by simp only [List.getElem?_toArray, List.getElem?_cons_succ, List.getElem?_cons_zero]; rfl)
             case hs19q => kernel_rfl
             case hf19q => kernel_rfl
             case hr19q => kernel_rfl
             case hQ19q => exact fun _ _ _ h => h
             case hy19q =>
               refine Or.inl ⟨rfl, ?_⟩
               intro W hSw
               obtain ⟨⟨x0, x1, x2, x3⟩, ⟨y0, y0b⟩, z0⟩ := hSw
               go_simp
               try with_reducible rfl
             case hS19q => assumption
             try simp only [Act.put, List.setIfInBounds_toArray, List.set_cons_zero, List.set_cons_succ]
             refine wpAnyH_take (i := 20) (oi := ?oi20q) (v := ?v20q) ?hi20q ?hs20q ?hf20q ?hr20q ?hQ20q ?hy20q ?hS20q ?h20q
             case hi20q => exact (by simp only [List.getElem?_toArray, List.getElem?_cons_succ, List.getElem?_cons_zero]; rfl)
             case hs20q => kernel_rfl
             case hf20q => kernel_rfl
             case hr20q => kernel_rfl
             case hQ20q => exact fun _ _ _ h => h
             case hy20q =>
               refine Or.inl ⟨rfl, ?_⟩
               intro W hSw
               obtain ⟨⟨x0, x1, x2, x3⟩, ⟨y0, y0b⟩, z0⟩ := hSw
               go_simp
               try with_reducible rfl
             case hS20q => assumption
             try simp only [Act.put, List.setIfInBounds_toArray, List.set_cons_zero, List.set_cons_succ]
             refine wpAnyH_take (i := 21) (oi := ?oi21q) (v := ?v21q) ?hi21q ?hs21q ?hf21q ?hr21q ?hQ21q ?hy21q ?hS21q ?h21q
             case hi21q => exact (by simp only [List.getElem?_toArray, List.getElem?_cons_succ, List.getElem?_cons_zero]; rfl)
             case hs21q => kernel_rfl
             case hf21q => kernel_rfl
             case hr21q => kernel_rfl
             case hQ21q => exact fun _ _ _ h => h
             case hy21q =>
               refine Or.inl ⟨rfl, ?_⟩
               intro W hSw
               obtain ⟨⟨x0, x1, x2, x3⟩, ⟨y0, y0b⟩, z0⟩ := hSw
               go_simp
               try with_reducible rfl
             case hS21q => assumption
             try simp only [Act.put, List.setIfInBounds_toArray, List.set_cons_zero, List.set_cons_succ]
             refine wpAnyH_take (i := 22) (oi := ?oi22q) (v := ?v22q) ?hi22q ?hs22q ?hf22q ?hr22q ?hQ22q ?hy22q ?hS22q ?h22q
             case hi22q => exact (by simp only [List.getElem?_toArray, List.getElem?_cons_succ, List.getElem?_cons_zero]; rfl)
             case hs22q => kernel_rfl
             case hf22q => kernel_rfl
             case hr22q => kernel_rfl
             case hQ22q => exact fun _ _ _ h => h
             case hy22q =>
               refine Or.inl ⟨rfl, ?_⟩
               intro W hSw
               obtain ⟨⟨x0, x1, x2, x3⟩, ⟨y0, y0b⟩, z0⟩ := hSw
               go_simp
               try with_reducible rfl
             case hS22q => assumption
             try simp only [Act.put, List.setIfInBounds_toArray, List.set_cons_zero, List.set_cons_succ]
             refine wpAnyH_ready (rs := [23]) (by kernel_rfl) (by simp) ?_
             refine AllReadyH.cons (o := _) rfl (fun K hK => ?_) AllReadyH.nil
             go_simp
             refine ((HC3.out Wq2 HBq2.out)).mono ?_
             rintro r Wq3 ⟨rfl, hbq⟩
             have HBq3 := Lib.hid (HBq2.out.trans (hbq.mono HBq2.out.size))
             clear hbq
             refine hK.out _ _ (HS14.out _ (HBq3.out)) (fun hHeld => ?_)
             clear hK K
             try simp only [Act.put, List.setIfInBounds_toArray, List.set_cons_zero, List.set_cons_succ]
             refine wpAnyH_take (i := 24) (oi := ?oi24q) (v := ?v24q) ?hi24q ?hs24q ?hf24q ?hr24q ?hQ24q ?hy24q ?hS24q ?h24q
             case hi24q => exact (by simp only [List.getElem?_toArray, List.getElem?_cons_succ, List.getElem?_cons_zero]; rfl)
             case hs24q => kernel_rfl
             case hf24q => kernel_rfl
             case hr24q => kernel_rfl
             case hQ24q => exact fun _ _ _ h => h
             case hy24q =>
               refine Or.inl ⟨rfl, ?_⟩
               intro W hSw
               obtain ⟨⟨x0, x1, x2, x3⟩, ⟨y0, y0b⟩, z0⟩ := hSw
               go_simp
               try with_reducible rfl
             case hS24q => assumption
             try simp only [Act.put, List.setIfInBounds_toArray, List.set_cons_zero, List.set_cons_succ]
             refine wpAnyH_take (i := 25) (oi := ?oi25q) (v := ?v25q) ?hi25q ?hs25q ?hf25q ?hr25q ?hQ25q ?hy25q ?hS25q ?h25q
             case hi25q => exact (by simp only [List.getElem?_toArray, List.getElem?_cons_succ, List.getElem?_cons_zero]; rfl)
             case hs25q => kernel_rfl
             case hf25q => kernel_rfl
             case hr25q => kernel_rfl
             case hQ25q => exact fun _ _ _ h => h
             case hy25q =>
               refine Or.inl ⟨rfl, ?_⟩
               intro W hSw
               obtain ⟨⟨x0, x1, x2, x3⟩, ⟨y0, y0b⟩, z0⟩ := hSw
               go_simp
               try with_reducible rfl
             case hS25q => assumption
             try simp only [Act.put, List.setIfInBounds_toArray, List.set_cons_zero, List.set_cons_succ]
             refine wpAnyH_take (i := 26) (oi := ?oi26q) (v := ?v26q) ?hi26q ?hs26q ?hf26q ?hr26q ?hQ26q ?hy26q ?hS26q ?h26q
             case hi26q => exact (by simp only [List.getElem?_toArray, List.getElem?_cons_succ, List.getElem?_cons_zero]; rfl)
             case hs26q => kernel_rfl
             case hf26q => kernel_rfl
             case hr26q => kernel_rfl
             case hQ26q => exact fun _ _ _ h => h
             case hy26q =>
               refine Or.inl ⟨rfl, ?_⟩
               intro W hSw
               obtain ⟨⟨x0, x1, x2, x3⟩, ⟨y0, y0b⟩, z0⟩ := hSw
               go_simp
               try with_reducible rfl
             case hS26q => assumption
             try simp only [Act.put, List.setIfInBounds_toArray, List.set_cons_zero, List.set_cons_succ]
             refine wpAnyH_take (i := 27) (oi := ?oi27q) (v := ?v27q) ?hi27q ?hs27q ?hf27q ?hr27q ?hQ27q ?hy27q ?hS27q ?h27q
             case hi27q => exact (by simp only [List.getElem?_toArray, List.getElem?_cons_succ, List.getElem?_cons_zero]; rfl)
             case hs27q => kernel_rfl
             case hf27q => kernel_rfl
             case hr27q => kernel_rfl
             case hQ27q => exact fun _ _ _ h => h
             case hy27q =>
               refine Or.inl ⟨rfl, ?_⟩
               intro W hSw
               obtain ⟨⟨x0, x1, x2, x3⟩, ⟨y0, y0b⟩, z0⟩ := hSw
               go_simp
               try with_reducible rfl
             case hS27q => assumption
             try simp only [Act.put, List.setIfInBounds_toArray, List.set_cons_zero, List.set_cons_succ]
             refine wpAnyH_take (i := 28) (oi := ?oi28q) (v := ?v28q) ?hi28q ?hs28q ?hf28q ?hr28q ?hQ28q ?hy28q ?hS28q ?h28q
             case hi28q => exact (by simp only [List.getElem?_toArray, List.getElem?_cons_succ, List.getElem?_cons_zero]; rfl)
             case hs28q => kernel_rfl
             case hf28q => kernel_rfl
             case hr28q => kernel_rfl
             case hQ28q => exact fun _ _ _ h => h
             case hy28q =>
               refine Or.inl ⟨rfl, ?_⟩
               intro W hSw
               obtain ⟨⟨x0, x1, x2, x3⟩, ⟨y0, y0b⟩, z0⟩ := hSw
               go_simp
               try with_reducible rfl
             case hS28q => assumption
             try simp only [Act.put, List.setIfInBounds_toArray, List.set_cons_zero, List.set_cons_succ]
             refine wpAnyH_ready (rs := [29]) (by kernel_rfl) (by simp) ?_
             refine AllReadyH.cons (o := _) rfl (fun K hK => ?_) AllReadyH.nil
             go_simp
             refine ((HC4.out Wq3 HBq3.out)).mono ?_
             rintro r Wq4 ⟨rfl, hbq⟩
             have HBq4 := Lib.hid (HBq3.out.trans (hbq.mono HBq3.out.size))
             clear hbq
             refine hK.out _ _ (HS14.out _ (HBq4.out)) (fun hHeld => ?_)
             clear hK K
             try simp only [Act.put, List.setIfInBounds_toArray, List.set_cons_zero, List.set_cons_succ]
             refine wpAnyH_take (i := 30) (oi := ?oi30q) (v := ?v30q) ?hi30q ?hs30q ?hf30q ?hr30q ?hQ30q ?hy30q ?hS30q ?h30q
             case hi30q => exact (by simp only [List.getElem?_toArray, List.getElem?_cons_succ, List.getElem?_cons_zero]; rfl)
             case hs30q => kernel_rfl
             case hf30q => kernel_rfl
             case hr30q => kernel_rfl
             case hQ30q => exact fun _ _ _ h => h
             case hy30q =>
               refine Or.inl ⟨rfl, ?_⟩
               intro W hSw
               obtain ⟨⟨x0, x1, x2, x3⟩, ⟨y0, y0b⟩, z0⟩ := hSw
               go_simp
               try with_reducible rfl
             case hS30q => assumption
             try simp only [Act.put, List.setIfInBounds_toArray, List.set_cons_zero, List.set_cons_succ]
             refine wpAnyH_done (by kernel_rfl) ?_ _
             have HBN := Lib.hid (HUP.out _ HBq4.out)
             go_wp2_with fail
             go_roundw
             case rel => exact ⟨i + 1, by omega, by go_num, HBN.out⟩
             case measure => simp [intOf] <;> omega
           · have hin : i = y2.length := by omega
             subst hin
             have HF1 : Hid (∀ W, Below w2.heap.size w2 W → Calls Try.prog 14 #[.slice A1 y1.length k1, u a] W fun r w' => r = .returned (.bool false) ∧ Below W.heap.size W w') := fun W hW => by
               have lk := HLX.out.below hW
               exact lhas_no lk.s1 (by have := lk.len.1; omega) (fun h => self_not1 HIN.out a ((lk.m1 a).1 h))
             have HF2 : Hid (∀ W, Below w2.heap.size w2 W → Calls Try.prog 14 #[.slice A4 y4.length k4, u a] W fun r w' => r = .returned (.bool false) ∧ Below W.heap.size W w') := fun W hW => by
               have lk := HLX.out.below hW
               exact lhas_no lk.s4 (by have := lk.len.2.2.2.1; omega) (fun h => self_not2 HIN.out a ((lk.m4 a).1 h))
             obtain ⟨q1, q2, q3, q4, q5⟩ := HLX.out.len
             have n1 : wrap64 ((y1.length : Int) + (y2.length : Int)) = (y1.length : Int) + y2.length := IntWalk.wrap64_in _ (by omega)
             have n2 : wrap64 ((y1.length : Int) + y2.length + (y3.length : Int)) = (y1.length : Int) + y2.length + y3.length := IntWalk.wrap64_in _ (by omega)
             have s1 : (y1.length : Int) + y2.length + y3.length ≤ 16 := by omega
             have s2 : (y4.length : Int) ≤ 16 := by omega
             go_wp2_with fail
             refine (HF1.out wr HV.out).mono ?_
             rintro r w5 ⟨rfl, hb5⟩
             have HB5 : Hid (Below w2.heap.size w2 w5) := HV.out.trans (hb5.mono HV.out.size)
             clear hb5 x0 x1 x2 x3
             obtain ⟨x0, x1, x2, x3⟩ := HCE.out w5 HB5.out
             go_wp2_with fail
             refine (HF2.out w5 HB5.out).mono ?_
             rintro r w6 ⟨rfl, hb6⟩
             have HB6 : Hid (Below w2.heap.size w2 w6) := HB5.out.trans (hb6.mono HB5.out.size)
             clear hb6 x0 x1 x2 x3
             go_wp2_with fail
             refine (HAW.out w6).mono ?_
             rintro r w9 ⟨rfl, hb⟩
             have HB9 : Hid (Below w.heap.size w w9) := (HBW.out.trans (HB6.out.mono HBW.out.size)).trans (hb.mono (Nat.le_trans HBW.out.size HB6.out.size))
             clear hb
             go_wp2
             go_ret
             exact ⟨rfl, HB9.out⟩
theorem both_any (p : Option Addr × Nat) (acts : List Ac) (a : Int) (w : World) (hA : As w w.heap.size p.1 acts) (hl : acts.length ≤ 9223372036854775807) (hR : ∀ e ∈ acts, Ra e) (ha : 0 ≤ a ∧ a ≤ 4294967295) :
    Calls Try.prog 4 #[.slice p.1 acts.length p.2, .int .u32 a] w fun r w' => r = .returned (.bool true) ∧ Below w.heap.size w w' := by
  obtain ⟨n, rfl⟩ : ∃ n : Nat, a = (n : Int) := ⟨a.toNat, by omega⟩
  exact both_walk p acts n w hA hl hR (by unfold u32ok; omega)
end Go.Proofs.Ytohcibmlkngaeaa
