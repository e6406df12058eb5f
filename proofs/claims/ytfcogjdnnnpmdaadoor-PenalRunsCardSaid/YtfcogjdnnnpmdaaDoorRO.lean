/- Penal: a book's Sweep. -/
import Derived.Test.YtfcogjdnnnpmdaaDoorRN
import Derived.Test.YtfcogjdnnnpmdaaDoorRL
namespace Go.Proofs.YtfcogjdnnnpmdaaDoor
open Go.RowKit
set_option maxRecDepth 20000

theorem up_inj {l : List Nat} (h : Up l) {i j x : Nat} (hi : l[i]? = some x) (hj : l[j]? = some x) : i = j := by
  rcases Nat.lt_trichotomy i j with h1 | h1 | h1
  · exact absurd (h i j x x h1 hi hj) (Nat.lt_irrefl x)
  · exact h1
  · exact absurd (h j i x x h1 hj hi) (Nat.lt_irrefl x)
theorem gets_at {w : World} {R x q : Nat} {most a b d : Int} {vi vt : Value} {l : List D.Rw} (h : IsR w R most vi vt (l.map (·.1)) (l.map (·.2))) (hl : l.length ≤ 900) (hq : l[q]? = some (x, a, b, d)) : GetsM w R x a b d true := fun W hb => by
  have h1 : (l.map (·.1))[q]? = some x := by rw [List.getElem?_map, hq]; rfl
  have h2 : (l.map (·.2))[q]? = some (a, b, d) := by rw [List.getElem?_map, hq]; rfl
  refine (get_there R most vi vt _ _ x W (h.after hb) (by rw [List.length_map]; omega) (List.mem_of_getElem? h1)).mono ?_
  rintro r w' ⟨⟨p, y1, y2, y3, h3, h4, rfl⟩, hb'⟩
  have e := up_inj h.up h3 h1
  subst e
  rw [h2] at h4
  injection h4 with h4
  injection h4 with e1 h4
  injection h4 with e2 e3
  subst e1 e2 e3
  exact ⟨rfl, hb'⟩
theorem gets_none {w : World} {R x : Nat} {most : Int} {vi vt : Value} {l : List D.Rw} (h : IsR w R most vi vt (l.map (·.1)) (l.map (·.2))) (hl : l.length ≤ 900) (hq : ∀ e ∈ l, e.1 ≠ x) : GetsM w R x 0 0 0 false := fun W hb =>
  get_none R most vi vt _ _ x W (h.after hb) (by rw [List.length_map]; omega) (fun hm => by
    obtain ⟨e, he, hx⟩ := List.mem_map.1 hm
    exact hq e he hx)
/-- What is left of a book when k players were looked at. -/
def cur (now : Int) (l : List D.Rw) (k : Nat) : List D.Rw := (l.take k).filter (D.kp now) ++ l.drop k
theorem cur_zero (now : Int) (l : List D.Rw) : cur now l 0 = l := by simp [cur]
theorem cur_end {now : Int} {l : List D.Rw} {k : Nat} (h : l.length ≤ k) : cur now l k = l.filter (D.kp now) := by
  unfold cur
  rw [List.take_of_length_le h, List.drop_of_length_le h, List.append_nil]
theorem cur_at {now : Int} {l : List D.Rw} {k : Nat} {e : D.Rw} (he : l[k]? = some e) : cur now l k = (l.take k).filter (D.kp now) ++ e :: l.drop (k + 1) := by
  unfold cur
  obtain ⟨h1, h2⟩ := List.getElem?_eq_some_iff.1 he
  rw [← h2, ← List.drop_eq_getElem_cons h1]
theorem take_filter {now : Int} {l : List D.Rw} {k : Nat} {e : D.Rw} (he : l[k]? = some e) : (l.take (k + 1)).filter (D.kp now) = (l.take k).filter (D.kp now) ++ (if D.kp now e then [e] else []) := by
  rw [List.take_add_one, he, List.filter_append]
  simp [List.filter_cons]
theorem cur_keep {now : Int} {l : List D.Rw} {k : Nat} {e : D.Rw} (he : l[k]? = some e) (hk : D.kp now e = true) : cur now l (k + 1) = cur now l k := by
  rw [cur_at he]
  unfold cur
  rw [take_filter he, hk]
  simp
theorem cur_drop {now : Int} {l : List D.Rw} {k : Nat} {e : D.Rw} (he : l[k]? = some e) (hk : D.kp now e = false) : cur now l (k + 1) = (l.take k).filter (D.kp now) ++ l.drop (k + 1) := by
  unfold cur
  rw [take_filter he, hk]
  simp
theorem cut_map {α β : Type} (f : α → β) (F D : List α) (e : α) : ((F ++ e :: D).map f).take F.length ++ ((F ++ e :: D).map f).drop (F.length + 1) = (F ++ D).map f := by
  have h1 : (F ++ e :: D).map f = (F.map f ++ [f e]) ++ D.map f := by simp
  have h2 : ((F.map f ++ [f e]) ++ D.map f).drop (F.length + 1) = D.map f := List.drop_left' (by simp)
  have h3 : ((F.map f ++ [f e]) ++ D.map f).take F.length = F.map f := by
    rw [List.append_assoc]
    exact List.take_left' (by simp)
  rw [h1, h2, h3, List.map_append]
theorem cur_len (now : Int) (l : List D.Rw) (k : Nat) : (cur now l k).length ≤ l.length := by
  unfold cur
  have h1 := List.length_filter_le (D.kp now) (l.take k)
  rw [List.length_append, List.length_drop]
  rw [List.length_take] at h1
  omega
theorem ChR.trans {R : Nat} {vi vt vi' vt' : Value} {w W w' : World} (h : ChR R vi vt w W) (h1 : vi'.ownBlock = vi.ownBlock) (h2 : vt'.ownBlock = vt.ownBlock) (h' : ChR R vi' vt' W w') : ChR R vi vt w w' :=
  ⟨h.1.trans h'.1, Nat.le_trans h.2.1 h'.2.1, fun g a1 a2 a3 a4 => (h'.2.2 g (Nat.lt_of_lt_of_le a1 h.2.1) a2 (by rw [h1]; exact a3) (by rw [h2]; exact a4)).trans (h.2.2 g a1 a2 a3 a4)⟩
theorem ChR.then_below {R : Nat} {vi vt : Value} {w W w' : World} (h : ChR R vi vt w W) (hR : R ≤ W.heap.size) (h' : Below W.heap.size W w') : ChR R vi vt w w' := h.trans rfl rfl (ChR.of_below hR h')
/-- How things stand when Sweep has looked at k players. -/
structure Sw (w wr : World) (B R : Nat) (most now : Int) (vi vt : Value) (l : List D.Rw) (A : Option Addr) (n c k : Nat) : Prop where
  ir : ∃ vi' vt', vi'.ownBlock = vi.ownBlock ∧ vt'.ownBlock = vt.ownBlock ∧ IsR wr R most vi' vt' ((cur now l k).map (·.1)) ((cur now l k).map (·.2))
  bk : BkRow wr B R
  ch : ChR R vi vt w wr
  ow : wr.ownsRow w.heap.size 36 1 (.slice A n c) n (un (l.map (·.1)))
theorem Sw.after {w wr w' : World} {B R : Nat} {most now : Int} {vi vt : Value} {l : List D.Rw} {A : Option Addr} {n c k : Nat} (h : Sw w wr B R most now vi vt l A n c k) (hb : Below wr.heap.size wr w') : Sw w w' B R most now vi vt l A n c k := by
  obtain ⟨vi', vt', h1, h2, h3⟩ := h.ir
  exact ⟨⟨vi', vt', h1, h2, h3.after hb⟩, (hb.block B (lt_of_block h.bk)).trans h.bk, h.ch.then_below (Nat.le_of_lt (lt_of_block h3.row)) hb, own_after h.ow fun g hg => hb.block g (ownlt h.ow g hg).2⟩
theorem Sw.keep {w wr : World} {B R : Nat} {most now : Int} {vi vt : Value} {l : List D.Rw} {A : Option Addr} {n c k : Nat} {e : D.Rw} (h : Sw w wr B R most now vi vt l A n c k) (he : l[k]? = some e) (hk : D.kp now e = true) : Sw w wr B R most now vi vt l A n c (k + 1) := by
  refine ⟨?_, h.bk, h.ch, h.ow⟩
  rw [cur_keep he hk]
  exact h.ir
theorem sw_drop {w wr : World} {B R : Nat} {most now : Int} {vi vt : Value} {l : List D.Rw} {A : Option Addr} {n c k x : Nat} {m : Mk} (h : Sw w wr B R most now vi vt l A n c k) (hvi : ∀ g, vi.ownBlock = some g → g < w.heap.size) (hvt : ∀ g, vt.ownBlock = some g → g < w.heap.size) (hRw : R < w.heap.size) (hl : l.length ≤ 900) (he : l[k]? = some (x, m)) (hk : D.kp now (x, m) = false) :
    Calls Tryd.prog 36 #[.pointer (some ⟨R, 0, none⟩), .int .u32 (x : Int)] wr fun r w' => ∃ y1 y2 y3 : Int, r = .returned (.tuple #[mV y1 y2 y3, .bool true]) ∧ Sw w w' B R most now vi vt l A n c (k + 1) := by
  obtain ⟨vi', vt', h1, h2, h3⟩ := h.ir
  have hne := bk_ne h.bk h3
  have hlen := cur_len now l k
  have hx : ((cur now l k).map (·.1))[((l.take k).filter (D.kp now)).length]? = some x := by
    rw [cur_at he, List.getElem?_map, List.getElem?_append_right (Nat.le_refl _), Nat.sub_self]
    rfl
  refine (drop_there R most vi' vt' _ _ x wr h3 (by rw [List.length_map]; omega) (List.mem_of_getElem? hx)).mono ?_
  rintro r w' ⟨p, y1, y2, y3, g1, _, rfl, hc, vi2, vt2, e1, e2, hi⟩
  have hp := up_inj h3.up g1 hx
  subst hp
  rw [cur_at he, cut_map, cut_map, ← cur_drop he hk] at hi
  refine ⟨y1, y2, y3, rfl, ⟨vi2, vt2, e1.trans h1, e2.trans h2, hi⟩, (hc.2.2 B (lt_of_block h.bk) hne.1 (fun e => hne.2.1 e.symm) (fun e => hne.2.2 e.symm)).trans h.bk, h.ch.trans h1 h2 hc, own_after h.ow fun g hg => hc.2.2 g (ownlt h.ow g hg).2 ?_ ?_ ?_⟩
  · have := (ownlt h.ow g hg).1
    omega
  · intro e
    rw [h1] at e
    have a1 := hvi g e.symm
    have := (ownlt h.ow g hg).1
    omega
  · intro e
    rw [h2] at e
    have a1 := hvt g e.symm
    have := (ownlt h.ow g hg).1
    omega

set_option linter.unusedSimpArgs false in
set_option maxHeartbeats 4000000 in
theorem bsweep_any (B R : Nat) (now most : Int) (vi vt : Value) (l : List D.Rw) (w : World) (hB : BkRow w B R) (h : IsR w R most vi vt (l.map (·.1)) (l.map (·.2))) (hl : l.length ≤ 900) (hI : ∀ e ∈ l, inI e.2.1 ∧ inI e.2.2.1 ∧ inI e.2.2.2) (hnI : inI now) :
    Calls Tryd.prog 21 #[.pointer (some ⟨B, 0, none⟩), .int .i64 now] w fun r w' => r = .returned (.int .i64 ((l.length - (l.filter (D.kp now)).length : Nat) : Int)) ∧ ChR R vi vt w w' ∧ BkRow w' B R ∧ ∃ vi' vt', IsR w' R most vi' vt' ((l.filter (D.kp now)).map (·.1)) ((l.filter (D.kp now)).map (·.2)) := by
  obtain ⟨n, hn⟩ : ∃ n, n = l.length := ⟨_, rfl⟩
  have HP := Lib.hid (bplayers B R most vi vt _ _ w hB h (by rw [List.length_map]; omega))
  rw [List.length_map, ← hn] at HP
  have HVI : Hid (∀ g, vi.ownBlock = some g → g < w.heap.size) := fun g hg => (ownlt h.rio g hg).2
  have HVT : Hid (∀ g, vt.ownBlock = some g → g < w.heap.size) := fun g hg => (ownlt h.rto g hg).2
  have HRW : Hid (R < w.heap.size) := lt_of_block h.row
  have HH := Lib.hid h
  have HK := Lib.hid hB
  have HI := Lib.hid hI
  have HNI := Lib.hid hnI
  have HN := Lib.hid hn
  rw [← hn] at hl ⊢
  clear h hB hI hnI hn
  go_enter Tryd.func21, Tryd.ntmps21
  go_wp2_with fail
  refine HP.out.mono ?_
  rintro e w1 ⟨v', rfl, hv, hb⟩
  obtain ⟨A, c, rfl⟩ := own_form1 hv
  have HS1 : Hid (Sw w w1 B R most now vi vt l A n c 0) :=
    ⟨⟨vi, vt, rfl, rfl, by rw [cur_zero]; exact HH.out.after hb⟩, (hb.block B (lt_of_block HK.out)).trans HK.out, ChR.of_below (Nat.le_of_lt HRW.out) hb, hv⟩
  clear hv hb
  go_wp2_with fail
  go_loopw [5, 11] (fun a u wr => ∃ (k s : Nat), k ≤ n ∧ s + ((l.take k).filter (D.kp now)).length = k ∧ a = .int .i64 (s : Int) ∧ u = .int .i64 (k : Int) ∧ Hid (Sw w wr B R most now vi vt l A n c k)) (fun _ u _ => n - (intOf u).toNat)
  case atStart => exact ⟨0, 0, by omega, by simp, rfl, rfl, HS1⟩
  case round =>
    obtain ⟨k, s, hk, hs, rfl, rfl, HS⟩ := hrel
    have HSK := Lib.hid hs
    have hsk : s ≤ k := by omega
    clear hs
    by_cases hlt : k < n
    · obtain ⟨⟨x, a, b, d⟩, hy⟩ : ∃ e, l[k]? = some e := ⟨l[k]'(by rw [← HN.out]; exact hlt), List.getElem?_eq_getElem _⟩
      have hyi : (l.map (·.1))[k]? = some x := by rw [List.getElem?_map, hy]; rfl
      obtain ⟨A1, c1, eA, hA⟩ := S32.of_own (l := l.map (·.1)) (by rw [List.length_map, ← HN.out]; exact HS.out.ow)
      rw [List.length_map, ← HN.out] at eA hA
      injection eA with eA _ eC
      subst eA eC
      obtain ⟨b1, o1, rfl, hb1, hat⟩ := hA (by omega)
      have f0 := hat k x hyi
      have cb := cell_of_one HS.out.bk
      have hbd := HI.out _ (List.mem_of_getElem? hy)
      have HMK : Hid (Calls Tryd.prog 23 #[.pointer (some ⟨B, 0, none⟩), .int .u32 (x : Int), .int .i64 now] wr fun r w' => r = .returned (mV (atL a b now) (atS a b now) (atU a b d now)) ∧ Below wr.heap.size wr w') := by
        obtain ⟨vi', vt', _, _, h3⟩ := HS.out.ir
        exact bmark B R x a b d now true wr HS.out.bk (gets_at (q := ((l.take k).filter (D.kp now)).length) h3 (by have := cur_len now l k; have := HN.out; omega) (by rw [cur_at hy, List.getElem?_append_right (Nat.le_refl _), Nat.sub_self]; rfl)) hbd.1 hbd.2.1 hbd.2.2 HNI.out
      have HKP : Hid (D.kp now (x, a, b, d) = !(decide (atL a b now = 0) && decide (atS a b now = 0) && decide (atU a b d now = 0))) := rfl
      obtain ⟨L, hL⟩ : ∃ L, L = atL a b now := ⟨_, rfl⟩
      obtain ⟨S, hS⟩ : ∃ S, S = atS a b now := ⟨_, rfl⟩
      obtain ⟨U, hU⟩ : ∃ U, U = atU a b d now := ⟨_, rfl⟩
      rw [← hL, ← hS, ← hU] at HMK HKP
      have HY := Lib.hid hy
      clear hy hyi hA hb1 hat hbd hL hS hU
      go_wp2_with fail
      refine HMK.out.mono ?_
      rintro r w2 ⟨rfl, hb2⟩
      have HS2 := Lib.hid (HS.out.after hb2)
      clear hb2 f0 cb
      have cb := cell_of_one HS2.out.bk
      by_cases hz : L = 0 ∧ S = 0 ∧ U = 0
      · obtain ⟨rfl, rfl, rfl⟩ := hz
        have HK0 : Hid (D.kp now (x, a, b, d) = false) := by simp only [Hid]; rw [HKP.out]; rfl
        go_wp2_with fail
        refine (sw_drop HS2.out HVI.out HVT.out HRW.out (by have := HN.out; omega) HY.out HK0.out).mono ?_
        rintro r w3 ⟨y1, y2, y3, rfl, hs3⟩
        have HS3 := Lib.hid hs3
        clear hs3 cb
        go_wp2_with fail
        go_roundw
        case rel => exact ⟨k + 1, s + 1, by omega, by rw [take_filter HY.out, HK0.out]; have := HSK.out; simp only [Bool.false_eq_true, if_false, List.append_nil]; omega, by go_num, by go_num, HS3⟩
        case measure => simp [intOf] <;> omega
      · have HK1 : Hid (D.kp now (x, a, b, d) = true) := by
          simp only [Hid]
          rw [HKP.out]
          simp only [Bool.not_eq_true', Bool.and_eq_false_iff, decide_eq_false_iff_not]
          by_cases h1 : L = 0
          · by_cases h2 : S = 0
            · exact .inr fun h3 => hz ⟨h1, h2, h3⟩
            · exact .inl (.inr h2)
          · exact .inl (.inl h1)
        go_wp2_with fail
        all_goals first
          | exact absurd ⟨‹L = 0›, ‹S = 0›, ‹U = 0›⟩ hz
          | (go_roundw
             case rel => exact ⟨k + 1, s, by omega, by rw [take_filter HY.out, HK1.out]; have := HSK.out; simp only [if_true, List.length_append, List.length_cons, List.length_nil]; omega, rfl, by go_num, HS2.out.keep HY.out HK1.out⟩
             case measure => simp [intOf] <;> omega)
    · have hkn : k = n := by omega
      subst hkn
      have e : l.take k = l := List.take_of_length_le (by rw [← HN.out]; omega)
      have HRES : Hid (s = k - (l.filter (D.kp now)).length ∧ ChR R vi vt w wr ∧ BkRow wr B R ∧ ∃ vi' vt', IsR wr R most vi' vt' ((l.filter (D.kp now)).map (·.1)) ((l.filter (D.kp now)).map (·.2))) := by
        have h1 := HSK.out
        rw [e] at h1
        refine ⟨by omega, HS.out.ch, HS.out.bk, ?_⟩
        obtain ⟨vi', vt', _, _, h3⟩ := HS.out.ir
        rw [cur_end (by rw [← HN.out]; omega)] at h3
        exact ⟨vi', vt', h3⟩
      clear e
      go_wp2
      go_ret
      exact ⟨by rw [← HRES.out.1]; rfl, HRES.out.2⟩
end Go.Proofs.YtfcogjdnnnpmdaaDoor
