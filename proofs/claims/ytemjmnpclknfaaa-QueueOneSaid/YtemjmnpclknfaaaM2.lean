/- Queue: Compact, a ticket is put into the rack, clashes, Put. -/
import Derived.Lib.SlicesCompact
import Derived.Test.YtemjmnpclknfaaaM1
import Derived.Shelf.SlicesE.Compact
import Derived.Shelf.Lay
import Derived.Ground.SlgnProg
import Derived.Lib.OwnBridge
import Derived.Deep.CutBlock

/- Queue: plain: what Compact leaves of a sorted row. -/
namespace Go.Proofs.Ytemjmnpclknfaaa.T
open Go.Lib
set_option linter.unusedVariables false

theorem comp_inv (d : Array Int) (hs : ∀ i j, i ≤ j → j < d.size → d[i]! ≤ d[j]!) : ∀ m, m ≤ d.size → (compactUpTo d m).Pairwise (· < ·) ∧ ∀ x, x ∈ compactUpTo d m ↔ ∃ j, j < m ∧ d[j]! = x
  | 0, _ => ⟨by simp [compactUpTo], fun x => by simp [compactUpTo]⟩
  | m + 1, hm => by
    obtain ⟨h1, h2⟩ := comp_inv d hs m (by omega)
    rw [compactUpTo_succ]
    by_cases hk : keeps d m = true
    · rw [if_pos hk]
      have hk' : m = 0 ∨ d[m]! ≠ d[m - 1]! := by simpa [keeps] using hk
      refine ⟨List.pairwise_append.2 ⟨h1, by simp, fun x hx y hy => ?_⟩, fun x => ?_⟩
      · rw [List.mem_singleton] at hy
        subst hy
        obtain ⟨j, hj, rfl⟩ := (h2 x).1 hx
        rcases hk' with h0 | hne
        · omega
        · have a1 := hs j (m - 1) (by omega) (by omega)
          have a2 := hs (m - 1) m (by omega) (by omega)
          omega
      · rw [List.mem_append, List.mem_singleton, h2]
        constructor
        · rintro (⟨j, hj, e⟩ | rfl)
          · exact ⟨j, by omega, e⟩
          · exact ⟨m, by omega, rfl⟩
        · rintro ⟨j, hj, e⟩
          by_cases hjm : j < m
          · exact .inl ⟨j, hjm, e⟩
          · have : j = m := by omega
            subst this
            exact .inr e.symm
    · rw [if_neg hk, List.append_nil]
      have hk' : ¬ m = 0 ∧ d[m]! = d[m - 1]! := by simpa [keeps] using hk
      refine ⟨h1, fun x => ?_⟩
      rw [h2]
      constructor
      · rintro ⟨j, hj, e⟩
        exact ⟨j, by omega, e⟩
      · rintro ⟨j, hj, e⟩
        by_cases hjm : j < m
        · exact ⟨j, hjm, e⟩
        · have : j = m := by omega
          subst this
          exact ⟨j - 1, by omega, by rw [← hk'.2]; exact e⟩
/-- Compact of a sorted row: rising, and nothing is lost. -/
theorem comp_sorted (l : List Int) (h : l.Pairwise (· ≤ ·)) : (compactUpTo l.toArray l.toArray.size).Pairwise (· < ·) ∧ ∀ x, x ∈ compactUpTo l.toArray l.toArray.size ↔ x ∈ l := by
  have hs : ∀ i j, i ≤ j → j < l.toArray.size → l.toArray[i]! ≤ l.toArray[j]! := fun i j hij hj => by
    have hj' : j < l.length := by simpa using hj
    have e : ∀ k, k < l.length → l.toArray[k]! = l[k]! := fun k hk => by simp
    rw [getElem!_pos l.toArray i (by simpa using (by omega : i < l.length)), getElem!_pos l.toArray j (by simpa using hj')]
    by_cases he : i = j
    · subst he; exact Int.le_refl _
    · simpa using List.pairwise_iff_getElem.1 h i j (by omega) hj' (by omega)
  obtain ⟨h1, h2⟩ := comp_inv l.toArray hs l.toArray.size (Nat.le_refl _)
  refine ⟨h1, fun x => ?_⟩
  rw [h2, List.mem_iff_getElem]
  constructor
  · rintro ⟨j, hj, e⟩
    rw [getElem!_pos l.toArray j hj] at e
    exact ⟨j, by simpa using hj, by simpa using e⟩
  · rintro ⟨j, hj, e⟩
    exact ⟨j, by simpa using hj, by rw [getElem!_pos l.toArray j (by simpa using hj)]; simpa using e⟩
theorem nodup_len : ∀ (l m : List Nat), l.Nodup → (∀ x ∈ l, x ∈ m) → l.length ≤ m.length
  | [], m, _, _ => Nat.zero_le _
  | x :: l, m, h, hs => by
    rw [List.nodup_cons] at h
    have hx := hs x (by simp)
    have := nodup_len l (m.erase x) h.2 (fun y hy => (List.mem_erase_of_ne (fun e => by subst e; exact h.1 hy)).2 (hs y (by simp [hy])))
    rw [List.length_erase_of_mem hx] at this
    have := List.length_pos_of_mem hx
    simp
    omega
theorem not_nodup : ∀ (l : List Nat), ¬ l.Nodup → ∃ x ∈ l, x ∈ l.erase x
  | [], h => absurd List.nodup_nil h
  | a :: l, h => by
    rw [List.nodup_cons] at h
    by_cases ha : a ∈ l
    · exact ⟨a, by simp, by simp [ha]⟩
    · obtain ⟨x, h1, h2⟩ := not_nodup l (fun h' => h ⟨ha, h'⟩)
      refine ⟨x, by simp [h1], ?_⟩
      have hxa : ¬ (a == x) = true := fun e => ha (by rw [eq_of_beq e]; exact h1)
      rw [List.erase_cons, if_neg hxa]
      simp [h2]
/-- A rising row of the same numbers is shorter just where one stands twice. -/
theorem rise_len {zs l : List Nat} (hp : zs.Pairwise (· < ·)) (hm : ∀ y, y ∈ zs ↔ y ∈ l) : zs.length < l.length ↔ ¬ l.Nodup := by
  have hz : zs.Nodup := hp.imp fun {a b} h => by omega
  constructor
  · intro h hn
    have := nodup_len l zs hn (fun x hx => (hm x).2 hx)
    omega
  · intro h
    obtain ⟨x, h1, h2⟩ := not_nodup l h
    have := nodup_len zs (l.erase x) hz (fun y hy => by
      by_cases e : y = x
      · rw [e]; exact h2
      · exact (List.mem_erase_of_ne e).2 ((hm y).1 hy))
    rw [List.length_erase_of_mem h1] at this
    have := List.length_pos_of_mem h1
    omega
end Go.Proofs.Ytemjmnpclknfaaa.T

/- Queue: slices.Compact of a sorted row of one's own. -/
namespace Go.Proofs
open Go.Shelf
shelf_lay_g SlLaysE.n43 Slgn 43 at Try 94 as Ytemjmnpclknfaaa.T.cmU
namespace Ytemjmnpclknfaaa.T
open Go.RowKit Go.Lib
open Go.Proofs.Ytemjmnpclknfaaa.P (Sl un)
set_option linter.unusedVariables false

theorem zeroU (w : World) : (zeroValue 26).run Try.prog w = .ok (.int .u32 0) w := by kernel_rfl
theorem comp_nil (w : World) : Calls Try.prog 94 #[.slice none 0 0] w fun r w' => r = .returned (.slice none 0 0) ∧ w' = w := by
  go_enter Try.func94, Try.ntmps94
  go_wp2
  go_ret
  exact ⟨rfl, rfl⟩
theorem un_int (l : List Nat) : (l.map (fun x : Nat => (x : Int))).map (Value.int .u32) = un l := by unfold un; rw [List.map_map]; rfl
/-- What Compact leaves of a sorted row of one's own. -/
theorem comp_own (B : Nat) (v : Value) (l : List Nat) (w : World) (h : w.ownsRow B 26 1 v l.length (un l)) (hs : l.Pairwise (· ≤ ·)) :
    Calls Try.prog 94 #[v] w fun r w' => ∃ v' zs, r = .returned v' ∧ w'.ownsRow B 26 1 v' zs.length (un zs) ∧ zs.Pairwise (· < ·) ∧ (∀ y, y ∈ zs ↔ y ∈ l) ∧ Below B w w' ∧ ∀ k, v.ownBlock ≠ some k → w'.heap[k]? = w.heap[k]? := by
  by_cases hv : v = .slice none 0 0
  · subst hv
    have hl : l = [] := by
      rcases h.2 with ⟨_, h0⟩ | ⟨g, cap, cur, e, _⟩
      · exact List.eq_nil_of_length_eq_zero h0
      · cases e
    subst hl
    exact (comp_nil w).mono fun r w' ⟨h1, h2⟩ => ⟨_, [], h1, by rw [h2]; exact h, List.Pairwise.nil, fun y => Iff.rfl, by rw [h2]; exact Below.refl _ _, fun k _ => by rw [h2]⟩
  · rw [← un_int] at h
    obtain ⟨g, cap, rfl, hg, hgs, hn, hm, hlen, hH⟩ := holds_of_ownsRow h hv
    obtain ⟨zi, hzi⟩ : ∃ zi, zi = l.map (fun x : Nat => (x : Int)) := ⟨_, rfl⟩
    rw [← hzi] at h hH hlen
    have hsz : zi.toArray.size = l.length := by simp [hlen]
    have hsi : zi.Pairwise (· ≤ ·) := by rw [hzi]; exact List.pairwise_map.2 (hs.imp fun {a b} h => by omega)
    obtain ⟨c1, c2⟩ := comp_sorted zi hsi
    have hc := AnyE.slices_Compact (α := Int) cmU (Value.int .u32) (fun _ => rfl) (EqlAt.intD _ _ .u32) (NeqAt.intD _ _ .u32) 0 zeroU g 0 cap zi.toArray w hH (by rw [hsz]; simp only [maxLen] at hm; omega) (by rw [hsz]; exact hn)
    obtain ⟨ys, hys⟩ : ∃ ys, ys = compactUpTo zi.toArray zi.toArray.size := ⟨_, rfl⟩
    rw [← hys] at hc c1 c2
    have hle : ys.length ≤ l.length := by
      have h1 : ys.length ≤ zi.toArray.size := by rw [hys]; unfold compactUpTo; rw [List.length_map]; exact Nat.le_trans (List.length_filter_le _ _) (by simp)
      rw [hsz] at h1
      exact h1
    have hnn : ∀ x ∈ ys, 0 ≤ x := fun x hx => by
      have := (c2 x).1 hx
      rw [hzi] at this
      obtain ⟨y, _, rfl⟩ := List.mem_map.1 this
      omega
    obtain ⟨zs, hzs⟩ : ∃ zs : List Nat, zs = ys.map Int.toNat := ⟨_, rfl⟩
    have hun : un zs = ys.map (Value.int .u32) := by
      rw [hzs]
      unfold un
      rw [List.map_map]
      refine List.map_congr_left fun x hx => ?_
      have := hnn x hx
      show Value.int .u32 ((x.toNat : Nat) : Int) = _
      rw [show ((x.toNat : Nat) : Int) = x by omega]
    have hzl : zs.length = ys.length := by rw [hzs, List.length_map]
    rw [hsz] at hc
    refine hc.mono ?_
    rintro r w' ⟨rfl, q, rfl⟩
    refine ⟨_, zs, rfl, ?_, ?_, ?_, below_putRow (Below.refl _ _) hg, fun k hk => ?_⟩
    · have := ownsRow_putRow (q := q) (k := ys.length) (ys := ys ++ List.replicate (l.length - ys.length) 0) h (by simp; omega) hle
      rw [List.take_left] at this
      rw [hun, hzl]
      exact this
    · rw [hzs, List.pairwise_map]
      refine List.Pairwise.imp_of_mem (fun {a b} ha hb hab => ?_) c1
      have := hnn a ha
      have := hnn b hb
      omega
    · intro y
      rw [hzs, List.mem_map]
      constructor
      · rintro ⟨x, hx, rfl⟩
        have := (c2 x).1 hx
        rw [hzi] at this
        obtain ⟨z, hz, rfl⟩ := List.mem_map.1 this
        simpa using hz
      · intro hy
        exact ⟨(y : Int), (c2 _).2 (by rw [hzi]; exact List.mem_map.2 ⟨y, hy, rfl⟩), by simp⟩
    · have hk' : g ≠ k := fun e => hk (by rw [e]; rfl)
      simp [Sort.putRow, Sort.mapBlock, Sort.ahead, Array.getElem?_modify, hk']
end Ytemjmnpclknfaaa.T
end Go.Proofs

/- Queue: a ticket is put into the rack. -/
namespace Go.Proofs.Ytemjmnpclknfaaa.T
open Go.RowKit
open Go.Proofs.Ytemjmnpclknfaaa.P (Sl un)
set_option maxRecDepth 20000
set_option linter.unusedVariables false
set_option linter.unusedSimpArgs false


/-- What a rack's call keeps. -/
structure Stp (R : Nat) (vi vi' : Value) (w w' : World) : Prop where
  below : Below R w w'
  size : w.heap.size ≤ w'.heap.size
  fz : Fz vi vi' w
  keep : ∀ g cur T, w.heap[g]? = some (.cells cur T (0, 0)) → T ≠ 72 → T ≠ 148 → (T = 26 → vi.ownBlock ≠ some g) → w'.heap[g]? = w.heap[g]?
theorem Stp.of_below {R : Nat} {vi : Value} {w w' : World} (hR : R ≤ w.heap.size) (h : Below w.heap.size w w') : Stp R vi vi w w' := ⟨h.mono hR, h.size, fun g hg => .inl hg, fun g cur T hg _ _ _ => h.block g (lt_of_block hg)⟩
theorem Stp.trans {R : Nat} {vi vi1 vi2 : Value} {w w1 w2 : World} (h : Stp R vi vi1 w w1) (h' : Stp R vi1 vi2 w1 w2) : Stp R vi vi2 w w2 :=
  ⟨h.below.trans h'.below, Nat.le_trans h.size h'.size, fun g hg => by
    rcases h'.fz g hg with e | e
    · exact h.fz g e
    · exact .inr (Nat.le_trans h.size e), fun g cur T hg h1 h2 h3 => by
    have k1 := h.keep g cur T hg h1 h2 h3
    exact (h'.keep g cur T (k1.trans hg) h1 h2 (fun e hv => (h.fz g hv).elim (h3 e) (fun hs => by have := lt_of_block hg; omega))).trans k1⟩
theorem fl_stp {w w' : World} {R : Nat} {vi vi' : Value} {s : Sl} {l : List Nat} (h : P.Fl w R vi s l) (hs : Stp R vi vi' w w') : P.Fl w' R vi' s l := ⟨h.1, fun hl => by
  obtain ⟨b, o, e1, e2, e3, ⟨cur, e4⟩, e5⟩ := h.2 hl
  have k := hs.keep b cur 26 e4 (by decide) (by decide) (fun _ => e3)
  exact ⟨b, o, e1, e2, fun hv => (hs.fz b hv).elim e3 (fun h => by have := lt_of_block e4; omega), ⟨cur, k.trans e4⟩, fun j x hj => (World.cell?_of_block k).trans (e5 j x hj)⟩⟩
/-- A rack's own change. -/
theorem stp_of {w w' : World} {R : Nat} {most : Int} {vi vi' vt : Value} {ids : List Nat} {ths : List Mk} (h : IsR w R most vi vt ids ths) (hc : ChR R vi vt w w') (hz : Fz vi vi' w) : Stp R vi vi' w w' :=
  ⟨hc.1, hc.2.1, hz, fun g cur T hg h1 h2 h3 => hc.2.2 g (lt_of_block hg) (fun e => by
    subst e
    rw [h.row] at hg
    injection hg with hg
    injection hg with _ hg
    exact h2 hg.symm) (fun e => by
    obtain ⟨cur', hg'⟩ := own_type h.rio e.symm
    rw [hg] at hg'
    injection hg' with hg'
    injection hg' with _ hg'
    exact h3 hg' e.symm) (fun e => by
    obtain ⟨cur', hg'⟩ := own_type h.rto e.symm
    rw [hg] at hg'
    injection hg' with hg'
    injection hg' with _ hg'
    exact h1 hg')⟩

def insT (L : List Tk) (g : Tk) : List Tk := L.filter (fun e => decide (e.id < g.id)) ++ g :: L.filter (fun e => decide (g.id < e.id))
theorem filtT_all {L : List Tk} {p : Tk → Bool} (h : ∀ e ∈ L, p e = true) : L.filter p = L := List.filter_eq_self.2 h
theorem filtT_no {L : List Tk} {p : Tk → Bool} (h : ∀ e ∈ L, p e = false) : L.filter p = [] := List.filter_eq_nil_iff.2 fun e he => by rw [h e he]; simp
theorem new_insT {L : List Tk} {p : Nat} {g : Tk} (h1 : ∀ e ∈ L.take p, e.id < g.id) (h2 : ∀ e ∈ L.drop p, g.id < e.id) : L.take p ++ [g] ++ L.drop p = insT L g := by
  have e1 : L.filter (fun e => decide (e.id < g.id)) = L.take p := by
    conv => lhs; rw [← List.take_append_drop p L]
    rw [List.filter_append, filtT_all (fun e he => by simpa using h1 e he), filtT_no (fun e he => by have := h2 e he; simp; omega), List.append_nil]
  have e2 : L.filter (fun e => decide (g.id < e.id)) = L.drop p := by
    conv => lhs; rw [← List.take_append_drop p L]
    rw [List.filter_append, filtT_no (fun e he => by have := h1 e he; simp; omega), filtT_all (fun e he => by simpa using h2 e he), List.nil_append]
  unfold insT
  rw [e1, e2]
  simp

theorem insT_perm {L : List Tk} {g : Tk} (h : ∀ e ∈ L, e.id ≠ g.id) : (insT L g).Perm (g :: L) := by
  have e1 : L.filter (fun e => decide (g.id < e.id)) = L.filter (fun e => !decide (e.id < g.id)) := List.filter_congr fun e he => by
    have := h e he
    by_cases h1 : e.id < g.id
    · rw [decide_eq_true h1, decide_eq_false (by omega)]; rfl
    · rw [decide_eq_false h1, decide_eq_true (by omega)]; rfl
  unfold insT
  rw [e1]
  exact List.perm_middle.trans ((List.filter_append_perm (fun e => decide (e.id < g.id)) L).cons g)
theorem mem_insT {L : List Tk} {g e : Tk} (h : ∀ e ∈ L, e.id ≠ g.id) : e ∈ insT L g ↔ e = g ∨ e ∈ L := by
  rw [(insT_perm h).mem_iff, List.mem_cons]
theorem Bq.ctx {w : World} {B R : Nat} {mo : Int} {vi : Value} {ms : Sl} {L : List Tk} (h : Bq w B R mo vi ms L) : P.Ctx w R vi := by
  obtain ⟨vt, ths, h1, _⟩ := h.ex
  exact ⟨lt_of_block h1.row, fun g hg => (ownlt h1.rio g hg).2⟩
/-- What a put does: the tickets then, and what is kept. -/
def PutT (B R : Nat) (mo : Int) (vi : Value) (ms : Sl) (L' : List Tk) (w w' : World) : Prop := ∃ vi', Bq w' B R mo vi' ms L' ∧ Stp R vi vi' w w'
theorem qadd_new (B R : Nat) (mo : Int) (vi : Value) (ms : Sl) (L : List Tk) (s : Sl) (g : Tk) (w0 w : World) (h0 : Bq w0 B R mo vi ms L) (hb0 : Below w0.heap.size w0 w) (hl : L.length ≤ 100) (hm : ∀ e ∈ L, e.id ≠ g.id) (hok : 1 ≤ g.id ∧ g.id ≤ 2147483647) (hf : (L.length : Int) < min mo 2147483647) (hg : P.Fl w R vi s g.mem) :
    Calls Try.prog 64 #[qp R, .int .u32 (g.id : Int), mV g.id g.md s g.rt g.sn] w fun r w' => r = .returned (.int .i64 0) ∧ PutT B R mo vi ms (insT L g) w w' ∧ ∀ k, w0.heap.size ≤ k → k < w.heap.size → w'.heap[k]? = w.heap[k]? := by
  obtain ⟨vt, ths, h10, h20⟩ := h0.ex
  have h1 := h10.after hb0
  have h2 : ∀ (i : Nat) (p : Tk), L[i]? = some p → ∃ s : Sl, ths[i]? = some (tk (s, p)) ∧ P.Fl w R vi s p.mem := fun i p hp => by
    obtain ⟨s, e1, e2⟩ := h20 i p hp
    exact ⟨s, e1, e2.after hb0⟩
  obtain ⟨cur, hB1, hB2, hB3⟩ := (h0.after hb0).blk
  have hkeep : ∀ w', ChR R vi vt w w' → ∀ k, w0.heap.size ≤ k → k < w.heap.size → w'.heap[k]? = w.heap[k]? := fun w' hch k hk1 hk2 => hch.2.2 k hk2 (fun e => by have := lt_of_block h10.row; omega) (fun e => by have := (ownlt h10.rio k e.symm).2; omega) (fun e => by have := (ownlt h10.rto k e.symm).2; omega)
  refine (add_new R mo vi vt _ ths g.id g.id g.md s g.rt g.sn w h1 (by simp; omega) (fun hx => by obtain ⟨e, he, hi⟩ := List.mem_map.1 hx; exact hm e he hi) hok (by simpa using hf)).mono ?_
  rintro r w' ⟨rfl, hch, p, vi', vt', hpl, hz, hi⟩
  have hs := stp_of h1 hch hz
  have hp : p ≤ L.length := by simpa using hpl.1
  have hlt : ths.length = L.length := by simpa using h1.len
  have e1 : insT L g = L.take p ++ [g] ++ L.drop p := (new_insT (fun e he => by
    obtain ⟨j, hj⟩ := List.mem_iff_getElem?.1 he
    rw [List.getElem?_take] at hj
    split at hj
    · exact hpl.2.1 j e.id (by assumption) (by rw [List.getElem?_map, hj]; rfl)
    · cases hj) (fun e he => by
    obtain ⟨j, hj⟩ := List.mem_iff_getElem?.1 he
    rw [List.getElem?_drop] at hj
    have a1 := hpl.2.2 (p + j) e.id (by omega) (by rw [List.getElem?_map, hj]; rfl)
    have a2 := hm e (List.mem_of_getElem? hj)
    omega)).symm
  refine ⟨rfl, ⟨vi', ⟨⟨cur, (hs.keep B _ 116 hB1 (by decide) (by decide) (fun e => absurd e (by decide))).trans hB1, hB2, hB3⟩, vt', ths.take p ++ [tk (s, g)] ++ ths.drop p, ?_, fun i q hq => ?_⟩, hs⟩, hkeep w' hch⟩
  · rw [e1, List.map_append, List.map_append, List.map_take, List.map_drop]
    exact hi
  · rw [e1, P.ins_get _ _ _ hp] at hq
    rw [P.ins_get _ _ _ (by omega)]
    by_cases a1 : i < p
    · rw [if_pos a1] at hq ⊢
      obtain ⟨th, b1, b2⟩ := h2 i q hq
      exact ⟨th, b1, fl_stp b2 hs⟩
    · rw [if_neg a1] at hq ⊢
      by_cases a2 : i = p
      · rw [if_pos a2] at hq ⊢
        injection hq with hq
        subst hq
        exact ⟨_, rfl, fl_stp hg hs⟩
      · rw [if_neg a2] at hq ⊢
        obtain ⟨th, b1, b2⟩ := h2 (i - 1) q hq
        exact ⟨th, b1, fl_stp b2 hs⟩
theorem Stp.from {R : Nat} {vi vi' : Value} {w W w' : World} (hR : R ≤ w.heap.size) (hB : Below w.heap.size w W) (h : Stp R vi vi' W w') : Stp R vi vi' w w' := (Stp.of_below hR hB).trans h
theorem PutT.from {B R : Nat} {mo : Int} {vi : Value} {ms : Sl} {L' : List Tk} {w W w' : World} (hR : R ≤ w.heap.size) (hB : Below w.heap.size w W) (h : PutT B R mo vi ms L' W w') : PutT B R mo vi ms L' w w' := by
  obtain ⟨vi', h1, h2⟩ := h
  exact ⟨vi', h1, h2.from hR hB⟩
theorem PutT.of_below {B R : Nat} {mo : Int} {vi : Value} {ms : Sl} {L : List Tk} {w w' : World} (h : Bq w B R mo vi ms L) (hb : Below w.heap.size w w') : PutT B R mo vi ms L w w' := ⟨vi, h.after hb, Stp.of_below (Nat.le_of_lt h.ctx.1) hb⟩
theorem Rm.stp {w w' : World} {A : Option Addr} {l : List M5} {R : Nat} {vi vi' : Value} (h : Rm w A l) (hs : Stp R vi vi' w w') : Rm w' A l := fun hl => by
  obtain ⟨b, o, e1, ⟨cur, e2⟩, e3⟩ := h hl
  have k := hs.keep b cur 68 e2 (by decide) (by decide) (fun e => absurd e (by decide))
  exact ⟨b, o, e1, ⟨cur, k.trans e2⟩, fun j v hj => (World.cell?_of_block k).trans (e3 j v hj)⟩
end Go.Proofs.Ytemjmnpclknfaaa.T

/- Queue: clashes. -/
namespace Go.Proofs.Ytemjmnpclknfaaa.T
open Go.RowKit
open Go.Proofs.Ytemjmnpclknfaaa.P (Sl un)
set_option maxRecDepth 20000
set_option linter.unusedVariables false
set_option linter.unusedSimpArgs false

def clashP (L : List Tk) (id : Nat) (l : List Nat) : Prop := id ∈ L.map (·.id) ∨ (∃ e ∈ L, ¬ ∀ x ∈ e.mem, x ∉ l) ∨ ¬ l.Nodup
set_option maxHeartbeats 8000000 in
open Classical in
theorem clash_any (B R : Nat) (mo : Int) (vi : Value) (ms : Sl) (L : List Tk) (id : Nat) (md rt sn : Int) (s : Sl) (l : List Nat) (b : Bool) (w : World) (h : Bq w B R mo vi ms L) (hl : L.length ≤ 1000) (hm : ∀ e ∈ L, e.mem.length ≤ 1000) (h1 : s.n = l.length) (hR : P.Rn w s.a l) (hll : l.length ≤ 1000) (hb : b = true ↔ clashP L id l) :
    Calls Try.prog 61 #[qp B, .agg (mC id md s rt sn)] w fun r w' => r = .returned (.bool b) ∧ Below w.heap.size w w' := by
  obtain ⟨G, hG⟩ : ∃ G, G = w.heap.size := ⟨_, rfl⟩
  obtain ⟨w0, hw0⟩ : ∃ W, W = w.alloc (.cells (mC id md s rt sn) 72) := ⟨_, rfl⟩
  have hq0 : w0.heap[G]? = some (.cells (mC id md s rt sn) 72 (0, 0)) := by rw [hw0, hG]; exact heap_alloc_new w _
  have hb0 : Below w.heap.size w w0 := by rw [hw0]; exact (Below.refl _ _).alloc (Nat.le_refl _) _
  obtain ⟨w1, hw1⟩ : ∃ W, W = w0.alloc (.cells #[.slice s.a s.n s.c] 27) := ⟨_, rfl⟩
  have hb1 : Below w0.heap.size w0 w1 := by rw [hw1]; exact (Below.refl _ _).alloc (Nat.le_refl _) _
  have hq1 : w1.heap[w0.heap.size]? = some (.cells #[.slice s.a s.n s.c] 27 (0, 0)) := by rw [hw1]; exact heap_alloc_new w0 _
  have HVAL : Hid (Calls Try.prog 53 #[.slice s.a s.n s.c] w0 fun e w' => e = .returned (.func (.func 87) #[] #[.pointer (some ⟨w0.heap.size, 0, none⟩)]) ∧ w' = w1) := by rw [hw1]; exact P.values_any s.a s.n s.c w0
  have HSRT := Lib.hid (P.sorted_any w0.heap.size s.a s.n s.c l h1 (by omega) w1 (lt_of_block hq1) (by have := cell_of_row w1 _ 0 _ _ _ hq1; simpa using this) ((hR.after hb0).after hb1))
  have HB0 := Lib.hid hb0
  have HB1 := Lib.hid (hb0.trans (hb1.mono hb0.size))
  have HQ0 := Lib.hid hq0
  have HQ1 := Lib.hid ((hb1.block G (lt_of_block hq0)).trans hq0)
  have HQB := Lib.hid h
  have HG := Lib.hid hG
  have H0 := Lib.hid hw0
  have HLL := Lib.hid hll
  have HH1 := Lib.hid h1
  have HW1 : Hid (w.heap.size ≤ w1.heap.size) := HB1.out.size
  have HBI := Lib.hid hb
  have HM := Lib.hid hm
  have HL := Lib.hid hl
  have z2 := cell_of_row w0 G 2 _ _ _ hq0
  simp at z2
  clear hw0 hb0 hq0 hw1 hb1 hq1 h hR hG hb hm h1 hl
  go_enter Try.func61, Try.ntmps61
  go_upto_region 1 with (fail)
  rw [← H0.out, ← HG.out]
  go_wp2_with fail
  refine HVAL.out.mono ?_
  rintro r w1' ⟨rfl, hw⟩
  subst hw
  go_wp2_with fail
  refine HSRT.out.mono ?_
  rintro r w2 ⟨v, rfl, ho, hb2⟩
  obtain ⟨Av, cv, rfl⟩ := own_form1 ho
  obtain ⟨KP, hK⟩ : ∃ KP, KP = w2.heap.size := ⟨_, rfl⟩
  obtain ⟨w3, hw3⟩ : ∃ W, W = w2.alloc (.cells #[.slice Av l.length cv] 27) := ⟨_, rfl⟩
  have hb3 : Below w2.heap.size w2 w3 := by rw [hw3]; exact (Below.refl _ _).alloc (Nat.le_refl _) _
  have hq3 : w3.heap[KP]? = some (.cells #[.slice Av l.length cv] 27 (0, 0)) := by rw [hw3, hK]; exact heap_alloc_new w2 _
  have hb13 := hb2.trans (hb3.mono hb2.size)
  have HOW : Hid (w3.ownsRow w1'.heap.size 26 1 (.slice Av l.length cv) l.length (un (Go.Proofs.Ytemjmnpclknfaaa.Z.sortedN l))) := P.own_blk ho hb3
  have HOL : Hid (∀ g, (Value.slice Av l.length cv).ownBlock = some g → w1'.heap.size ≤ g ∧ g < KP) := fun g hg => by rw [hK]; exact ownlt ho g hg
  have HB3 : Hid (Below w.heap.size w w3) := HB1.out.trans (hb13.mono HB1.out.size)
  have HKC : Hid (w3.cell? ⟨KP, 0, none⟩ = some (.slice Av l.length cv)) := by have := cell_of_row w3 KP 0 _ _ _ hq3; simp only [Hid]; simpa using this
  have HKL : Hid (KP < w3.heap.size) := lt_of_block hq3
  have hg3 := (hb13.block G (lt_of_block HQ1.out)).trans HQ1.out
  have HGL : Hid (G < w3.heap.size) := lt_of_block hg3
  have HGC : Hid (w3.cell? ⟨G, 0, none⟩ = some (.int .u32 (id : Int)) ∧ w3.cell? ⟨G, 2, none⟩ = some (.slice s.a s.n s.c)) := by
    have e0 := cell_of_row w3 G 0 _ _ _ hg3
    have e2 := cell_of_row w3 G 2 _ _ _ hg3
    exact ⟨by simpa using e0, by simpa using e2⟩
  have HNK : Hid ((Value.slice Av l.length cv).ownBlock ≠ some KP) := fun e => by have := (HOL.out KP e).2; omega
  have HNG : Hid ((Value.slice Av l.length cv).ownBlock ≠ some G) := fun e => by have := (HOL.out G e).1; have := lt_of_block HQ1.out; omega
  have HGT : Hid (∀ W, Below w3.heap.size w3 W → Calls Try.prog 91 #[qp R, .int .u32 (id : Int)] W fun r w' => ∃ (y1 : Nat) (y2 : Int) (y3 : Sl) (y4 y5 : Int), r = .returned (.tuple #[mV y1 y2 y3 y4 y5, .bool (decide (id ∈ L.map (·.id)))]) ∧ Below W.heap.size W w') := fun W hW => by
    obtain ⟨vt, ths, hi, _⟩ := ((HQB.out.after HB3.out).after hW).ex
    by_cases hx : id ∈ L.map (·.id)
    · rw [decide_eq_true hx]
      exact (get_there R mo vi vt _ ths id W hi (by rw [List.length_map]; exact HL.out) hx).mono fun r w' ⟨⟨p, y1, y2, y3, y4, y5, _, _, e⟩, hb⟩ => ⟨y1, y2, y3, y4, y5, e, hb⟩
    · rw [decide_eq_false hx]
      exact (get_none R mo vi vt _ ths id W hi (by rw [List.length_map]; exact HL.out) hx).mono fun r w' ⟨e, hb⟩ => ⟨0, 0, ⟨none, 0, 0⟩, 0, 0, e, hb⟩
  have HS2 : Hid (∀ W, Below w3.heap.size w3 W → (fun W : World => W.cell? ⟨B, 14, none⟩ = some (qp R) ∧ W.cell? ⟨G, 0, none⟩ = some (.int .u32 (id : Int))) W) := fun W hW => ⟨((HQB.out.after HB3.out).after hW).ptr, (hW.cell (p := ⟨G, _, none⟩) HGL.out).trans HGC.out.1⟩
  obtain ⟨th, hth⟩ : ∃ th, th = decide (id ∈ L.map (·.id)) := ⟨_, rfl⟩
  rw [← hth] at HGT
  have HTH := Lib.hid hth
  have H3 := Lib.hid hw3
  have HKK := Lib.hid hK
  clear ho hb2 hb3 hq3 hb13 hg3 hw3 hK z2 hth
  go_upto_region 2 with (fail)
  rw [← H3.out, ← HKK.out]
  go_cut [7] (fun tv wx => tv = .bool th ∧ Hid (Below w3.heap.size w3 wx))
  case first =>
    have HDk : Hid (Below w3.heap.size w3 w3.drew) := (Below.refl _ _).drew
    refine wp_region_held_drew (S := fun W : World => W.cell? ⟨B, 14, none⟩ = some (qp R) ∧ W.cell? ⟨G, 0, none⟩ = some (.int .u32 (id : Int))) (by kernel_rfl) (HS2.out _ (HDk.out)) (fun hHeld => ?_)
    obtain ⟨Wk0, hW0⟩ : ∃ W0, W0 = w3.drew := ⟨_, rfl⟩
    rw [← hW0] at hHeld HDk ⊢
    clear hW0
    refine wpAnyH_take (i := 0) (oi := ?oi0k) (v := ?v0k) ?hi0k ?hs0k ?hf0k ?hr0k ?hQ0k ?hy0k ?hS0k ?h0k
    case hi0k => exact (by simp only [List.getElem?_toArray, List.getElem?_cons_zero]; rfl)
    case hs0k => kernel_rfl
    case hf0k => kernel_rfl
    case hr0k => kernel_rfl
    case hQ0k => exact fun _ _ _ h => h
    case hy0k =>
      refine Or.inl ⟨rfl, ?_⟩
      intro W hSw
      obtain ⟨q0, q1⟩ := hSw
      go_simp
      try with_reducible rfl
    case hS0k => assumption
    try simp only [Act.put, List.setIfInBounds_toArray, List.set_cons_zero, List.set_cons_succ]
    refine wpAnyH_take (i := 1) (oi := ?oi1k) (v := ?v1k) ?hi1k ?hs1k ?hf1k ?hr1k ?hQ1k ?hy1k ?hS1k ?h1k
    case hi1k => exact (by simp only [List.getElem?_toArray, List.getElem?_cons_succ, List.getElem?_cons_zero]; rfl)
    case hs1k => kernel_rfl
    case hf1k => kernel_rfl
    case hr1k => kernel_rfl
    case hQ1k => exact fun _ _ _ h => h
    case hy1k =>
      refine Or.inl ⟨rfl, ?_⟩
      intro W hSw
      obtain ⟨q0, q1⟩ := hSw
      go_simp
      try with_reducible rfl
    case hS1k => assumption
    try simp only [Act.put, List.setIfInBounds_toArray, List.set_cons_zero, List.set_cons_succ]
    refine wpAnyH_take (i := 2) (oi := ?oi2k) (v := ?v2k) ?hi2k ?hs2k ?hf2k ?hr2k ?hQ2k ?hy2k ?hS2k ?h2k
    case hi2k => exact (by simp only [List.getElem?_toArray, List.getElem?_cons_succ, List.getElem?_cons_zero]; rfl)
    case hs2k => kernel_rfl
    case hf2k => kernel_rfl
    case hr2k => kernel_rfl
    case hQ2k => exact fun _ _ _ h => h
    case hy2k =>
      refine Or.inl ⟨rfl, ?_⟩
      intro W hSw
      obtain ⟨q0, q1⟩ := hSw
      go_simp
      try with_reducible rfl
    case hS2k => assumption
    try simp only [Act.put, List.setIfInBounds_toArray, List.set_cons_zero, List.set_cons_succ]
    refine wpAnyH_take (i := 3) (oi := ?oi3k) (v := ?v3k) ?hi3k ?hs3k ?hf3k ?hr3k ?hQ3k ?hy3k ?hS3k ?h3k
    case hi3k => exact (by simp only [List.getElem?_toArray, List.getElem?_cons_succ, List.getElem?_cons_zero]; rfl)
    case hs3k => kernel_rfl
    case hf3k => kernel_rfl
    case hr3k => kernel_rfl
    case hQ3k => exact fun _ _ _ h => h
    case hy3k =>
      refine Or.inl ⟨rfl, ?_⟩
      intro W hSw
      obtain ⟨q0, q1⟩ := hSw
      go_simp
      try with_reducible rfl
    case hS3k => assumption
    try simp only [Act.put, List.setIfInBounds_toArray, List.set_cons_zero, List.set_cons_succ]
    refine wpAnyH_take (i := 4) (oi := ?oi4k) (v := ?v4k) ?hi4k ?hs4k ?hf4k ?hr4k ?hQ4k ?hy4k ?hS4k ?h4k
    case hi4k => exact (by simp only [List.getElem?_toArray, List.getElem?_cons_succ, List.getElem?_cons_zero]; rfl)
    case hs4k => kernel_rfl
    case hf4k => kernel_rfl
    case hr4k => kernel_rfl
    case hQ4k => exact fun _ _ _ h => h
    case hy4k =>
      refine Or.inl ⟨rfl, ?_⟩
      intro W hSw
      obtain ⟨q0, q1⟩ := hSw
      go_simp
      try with_reducible rfl
    case hS4k => assumption
    try simp only [Act.put, List.setIfInBounds_toArray, List.set_cons_zero, List.set_cons_succ]
    refine wpAnyH_take (i := 5) (oi := ?oi5k) (v := ?v5k) ?hi5k ?hs5k ?hf5k ?hr5k ?hQ5k ?hy5k ?hS5k ?h5k
    case hi5k => exact (by simp only [List.getElem?_toArray, List.getElem?_cons_succ, List.getElem?_cons_zero]; rfl)
    case hs5k => kernel_rfl
    case hf5k => kernel_rfl
    case hr5k => kernel_rfl
    case hQ5k => exact fun _ _ _ h => h
    case hy5k =>
      refine Or.inl ⟨rfl, ?_⟩
      intro W hSw
      obtain ⟨q0, q1⟩ := hSw
      go_simp
      try with_reducible rfl
    case hS5k => assumption
    try simp only [Act.put, List.setIfInBounds_toArray, List.set_cons_zero, List.set_cons_succ]
    refine wpAnyH_ready (rs := [6, 10]) (by kernel_rfl) (by simp) ?_
    refine AllReadyH.cons (o := _) rfl (fun K hK => ?_) (AllReadyH.cons (o := _) rfl (fun K hK => ?_) AllReadyH.nil)
    · go_simp
      refine (HGT.out Wk0 HDk.out).mono ?_
      rintro r Wa1 ⟨y1, y2, y3, y4, y5, rfl, hbq⟩
      have HBWa1 := Lib.hid (HDk.out.trans (hbq.mono HDk.out.size))
      clear hbq
      refine hK.out _ _ (HS2.out _ (HBWa1.out)) (fun hHeld => ?_)
      clear hK K
      try simp only [Act.put, List.setIfInBounds_toArray, List.set_cons_zero, List.set_cons_succ]
      refine wpAnyH_take (i := 7) (oi := ?oi7ka) (v := ?v7ka) ?hi7ka ?hs7ka ?hf7ka ?hr7ka ?hQ7ka ?hy7ka ?hS7ka ?h7ka
      case hi7ka => exact (by simp only [List.getElem?_toArray, List.getElem?_cons_succ, List.getElem?_cons_zero]; rfl)
      case hs7ka => kernel_rfl
      case hf7ka => kernel_rfl
      case hr7ka => kernel_rfl
      case hQ7ka => exact fun _ _ _ h => h
      case hy7ka =>
        refine Or.inl ⟨rfl, ?_⟩
        intro W hSw
        obtain ⟨q0, q1⟩ := hSw
        go_simp
        try with_reducible rfl
      case hS7ka => assumption
      try simp only [Act.put, List.setIfInBounds_toArray, List.set_cons_zero, List.set_cons_succ]
      refine wpAnyH_take (i := 8) (oi := ?oi8ka) (v := ?v8ka) ?hi8ka ?hs8ka ?hf8ka ?hr8ka ?hQ8ka ?hy8ka ?hS8ka ?h8ka
      case hi8ka => exact (by simp only [List.getElem?_toArray, List.getElem?_cons_succ, List.getElem?_cons_zero]; rfl)
      case hs8ka => kernel_rfl
      case hf8ka => kernel_rfl
      case hr8ka => kernel_rfl
      case hQ8ka => exact fun _ _ _ h => h
      case hy8ka =>
        refine Or.inl ⟨rfl, ?_⟩
        intro W hSw
        obtain ⟨q0, q1⟩ := hSw
        go_simp
        try with_reducible rfl
      case hS8ka => assumption
      try simp only [Act.put, List.setIfInBounds_toArray, List.set_cons_zero, List.set_cons_succ]
      refine wpAnyH_take (i := 9) (oi := ?oi9ka) (v := ?v9ka) ?hi9ka ?hs9ka ?hf9ka ?hr9ka ?hQ9ka ?hy9ka ?hS9ka ?h9ka
      case hi9ka => exact (by simp only [List.getElem?_toArray, List.getElem?_cons_succ, List.getElem?_cons_zero]; rfl)
      case hs9ka => kernel_rfl
      case hf9ka => kernel_rfl
      case hr9ka => kernel_rfl
      case hQ9ka => exact fun _ _ _ h => h
      case hy9ka =>
        refine Or.inl ⟨rfl, ?_⟩
        intro W hSw
        obtain ⟨q0, q1⟩ := hSw
        go_simp
        try with_reducible rfl
      case hS9ka => assumption
      try simp only [Act.put, List.setIfInBounds_toArray, List.set_cons_zero, List.set_cons_succ]
      refine wpAnyH_ready (rs := [10]) (by kernel_rfl) (by simp) ?_
      refine AllReadyH.cons (o := _) rfl (fun K hK => ?_) AllReadyH.nil
      go_simp
      obtain ⟨KB, hKB⟩ : ∃ k, k = Wa1.heap.size := ⟨_, rfl⟩
      obtain ⟨Wa2, hWa2⟩ : ∃ W, W = Wa1.alloc (.cells #[.int .u32 0, .int .i64 0, .slice none 0 0, .int .i64 0, .int .i64 0] 72) := ⟨_, rfl⟩
      have hba : Below Wa1.heap.size Wa1 Wa2 := by rw [hWa2]; exact (Below.refl _ _).alloc (Nat.le_refl _) _
      have HBWa2 := Lib.hid (HBWa1.out.trans (hba.mono HBWa1.out.size))
      have HQWa2 : Hid (Wa2.heap[KB]? = some (.cells #[.int .u32 0, .int .i64 0, .slice none 0 0, .int .i64 0, .int .i64 0] 72 (0, 0))) := by rw [hWa2, hKB]; exact heap_alloc_new _ _
      have HKB : Hid (w3.heap.size ≤ KB) := by rw [hKB]; exact HBWa1.out.size
      rw [← hWa2, ← hKB]
      clear hWa2 hKB
      refine hK.out _ _ (HS2.out _ (HBWa2.out)) (fun hHeld => ?_)
      clear hK K
      try simp only [Act.put, List.setIfInBounds_toArray, List.set_cons_zero, List.set_cons_succ]
      refine wpAnyH_ready (rs := [11]) (by kernel_rfl) (by simp) ?_
      refine AllReadyH.cons (o := _) rfl (fun K hK => ?_) AllReadyH.nil
      have hqr := HQWa2.out
      have x0 := cell_of_row _ KB 0 _ _ _ hqr
      have x1 := cell_of_row _ KB 1 _ _ _ hqr
      have x2 := cell_of_row _ KB 2 _ _ _ hqr
      have x3 := cell_of_row _ KB 3 _ _ _ hqr
      have x4 := cell_of_row _ KB 4 _ _ _ hqr
      simp at x0 x1 x2 x3 x4
      have xf : ∀ i, Wa2.frozen? ⟨KB, i, none⟩ = false := fun i => frozen_of_row _ _ i _ _ hqr
      go_simp
      obtain ⟨W9, hW9⟩ : ∃ W, W = (((((Wa2.setCell ⟨KB, 0, none⟩ (.int .u32 (y1 : Int))).setCell ⟨KB, 1, none⟩ (.int .i64 y2)).setCell ⟨KB, 2, none⟩ (.slice y3.a y3.n y3.c)).setCell ⟨KB, 3, none⟩ (.int .i64 y4)).setCell ⟨KB, 4, none⟩ (.int .i64 y5)) := ⟨_, rfl⟩
      have HC9 : Hid (W9.cell? ⟨KB, 0, none⟩ = some (.int .u32 (y1 : Int))) := by rw [hW9]; exact (three (.int .u32 (y1 : Int)) (.int .i64 y2) (.slice y3.a y3.n y3.c) (.int .i64 y4) (.int .i64 y5) hqr).1
      have HB9 : Hid (Below w3.heap.size w3 W9) := by rw [hW9]; exact three_below (.int .u32 (y1 : Int)) (.int .i64 y2) (.slice y3.a y3.n y3.c) (.int .i64 y4) (.int .i64 y5) HBWa2.out HKB.out
      have HL9 : Hid (KB < W9.heap.size) := by rw [hW9]; have := lt_of_block hqr; simp only [Hid]; simpa using this
      rw [← hW9]
      clear hW9 hqr xf x0 x1 x2 x3 x4
      refine hK.out _ _ (HS2.out _ (HB9.out)) (fun hHeld => ?_)
      clear hK K
      try simp only [Act.put, List.setIfInBounds_toArray, List.set_cons_zero, List.set_cons_succ]
      refine wpAnyH_take (i := 12) (oi := ?oi12ka) (v := ?v12ka) ?hi12ka ?hs12ka ?hf12ka ?hr12ka ?hQ12ka ?hy12ka ?hS12ka ?h12ka
      case hi12ka => exact (by simp only [List.getElem?_toArray, List.getElem?_cons_succ, List.getElem?_cons_zero]; rfl)
      case hs12ka => kernel_rfl
      case hf12ka => kernel_rfl
      case hr12ka => kernel_rfl
      case hQ12ka => exact fun _ _ _ h => h
      case hy12ka =>
        refine Or.inl ⟨rfl, ?_⟩
        intro W hSw
        obtain ⟨q0, q1⟩ := hSw
        go_simp
        try with_reducible rfl
      case hS12ka => assumption
      try simp only [Act.put, List.setIfInBounds_toArray, List.set_cons_zero, List.set_cons_succ]
      refine wpAnyH_done (by kernel_rfl) ?_ _
      go_wp2_with fail
      go_meet
      case rel => exact ⟨rfl, HB9⟩
    · go_simp
      obtain ⟨KB, hKB⟩ : ∃ k, k = Wk0.heap.size := ⟨_, rfl⟩
      obtain ⟨Wb1, hWb1⟩ : ∃ W, W = Wk0.alloc (.cells #[.int .u32 0, .int .i64 0, .slice none 0 0, .int .i64 0, .int .i64 0] 72) := ⟨_, rfl⟩
      have hba : Below Wk0.heap.size Wk0 Wb1 := by rw [hWb1]; exact (Below.refl _ _).alloc (Nat.le_refl _) _
      have HBWb1 := Lib.hid (HDk.out.trans (hba.mono HDk.out.size))
      have HQWb1 : Hid (Wb1.heap[KB]? = some (.cells #[.int .u32 0, .int .i64 0, .slice none 0 0, .int .i64 0, .int .i64 0] 72 (0, 0))) := by rw [hWb1, hKB]; exact heap_alloc_new _ _
      have HKB : Hid (w3.heap.size ≤ KB) := by rw [hKB]; exact HDk.out.size
      rw [← hWb1, ← hKB]
      clear hWb1 hKB
      refine hK.out _ _ (HS2.out _ (HBWb1.out)) (fun hHeld => ?_)
      clear hK K
      try simp only [Act.put, List.setIfInBounds_toArray, List.set_cons_zero, List.set_cons_succ]
      refine wpAnyH_ready (rs := [6]) (by kernel_rfl) (by simp) ?_
      refine AllReadyH.cons (o := _) rfl (fun K hK => ?_) AllReadyH.nil
      go_simp
      refine (HGT.out Wb1 HBWb1.out).mono ?_
      rintro r Wb2 ⟨y1, y2, y3, y4, y5, rfl, hbq⟩
      have HBWb2 := Lib.hid (HBWb1.out.trans (hbq.mono HBWb1.out.size))
      have HQ9 := Lib.hid ((hbq.block _ (lt_of_block HQWb1.out)).trans HQWb1.out)
      clear hbq
      refine hK.out _ _ (HS2.out _ (HBWb2.out)) (fun hHeld => ?_)
      clear hK K
      try simp only [Act.put, List.setIfInBounds_toArray, List.set_cons_zero, List.set_cons_succ]
      refine wpAnyH_take (i := 7) (oi := ?oi7kb) (v := ?v7kb) ?hi7kb ?hs7kb ?hf7kb ?hr7kb ?hQ7kb ?hy7kb ?hS7kb ?h7kb
      case hi7kb => exact (by simp only [List.getElem?_toArray, List.getElem?_cons_succ, List.getElem?_cons_zero]; rfl)
      case hs7kb => kernel_rfl
      case hf7kb => kernel_rfl
      case hr7kb => kernel_rfl
      case hQ7kb => exact fun _ _ _ h => h
      case hy7kb =>
        refine Or.inl ⟨rfl, ?_⟩
        intro W hSw
        obtain ⟨q0, q1⟩ := hSw
        go_simp
        try with_reducible rfl
      case hS7kb => assumption
      try simp only [Act.put, List.setIfInBounds_toArray, List.set_cons_zero, List.set_cons_succ]
      refine wpAnyH_take (i := 8) (oi := ?oi8kb) (v := ?v8kb) ?hi8kb ?hs8kb ?hf8kb ?hr8kb ?hQ8kb ?hy8kb ?hS8kb ?h8kb
      case hi8kb => exact (by simp only [List.getElem?_toArray, List.getElem?_cons_succ, List.getElem?_cons_zero]; rfl)
      case hs8kb => kernel_rfl
      case hf8kb => kernel_rfl
      case hr8kb => kernel_rfl
      case hQ8kb => exact fun _ _ _ h => h
      case hy8kb =>
        refine Or.inl ⟨rfl, ?_⟩
        intro W hSw
        obtain ⟨q0, q1⟩ := hSw
        go_simp
        try with_reducible rfl
      case hS8kb => assumption
      try simp only [Act.put, List.setIfInBounds_toArray, List.set_cons_zero, List.set_cons_succ]
      refine wpAnyH_take (i := 9) (oi := ?oi9kb) (v := ?v9kb) ?hi9kb ?hs9kb ?hf9kb ?hr9kb ?hQ9kb ?hy9kb ?hS9kb ?h9kb
      case hi9kb => exact (by simp only [List.getElem?_toArray, List.getElem?_cons_succ, List.getElem?_cons_zero]; rfl)
      case hs9kb => kernel_rfl
      case hf9kb => kernel_rfl
      case hr9kb => kernel_rfl
      case hQ9kb => exact fun _ _ _ h => h
      case hy9kb =>
        refine Or.inl ⟨rfl, ?_⟩
        intro W hSw
        obtain ⟨q0, q1⟩ := hSw
        go_simp
        try with_reducible rfl
      case hS9kb => assumption
      try simp only [Act.put, List.setIfInBounds_toArray, List.set_cons_zero, List.set_cons_succ]
      refine wpAnyH_ready (rs := [11]) (by kernel_rfl) (by simp) ?_
      refine AllReadyH.cons (o := _) rfl (fun K hK => ?_) AllReadyH.nil
      have hqr := HQ9.out
      have x0 := cell_of_row _ KB 0 _ _ _ hqr
      have x1 := cell_of_row _ KB 1 _ _ _ hqr
      have x2 := cell_of_row _ KB 2 _ _ _ hqr
      have x3 := cell_of_row _ KB 3 _ _ _ hqr
      have x4 := cell_of_row _ KB 4 _ _ _ hqr
      simp at x0 x1 x2 x3 x4
      have xf : ∀ i, Wb2.frozen? ⟨KB, i, none⟩ = false := fun i => frozen_of_row _ _ i _ _ hqr
      go_simp
      obtain ⟨W9, hW9⟩ : ∃ W, W = (((((Wb2.setCell ⟨KB, 0, none⟩ (.int .u32 (y1 : Int))).setCell ⟨KB, 1, none⟩ (.int .i64 y2)).setCell ⟨KB, 2, none⟩ (.slice y3.a y3.n y3.c)).setCell ⟨KB, 3, none⟩ (.int .i64 y4)).setCell ⟨KB, 4, none⟩ (.int .i64 y5)) := ⟨_, rfl⟩
      have HC9 : Hid (W9.cell? ⟨KB, 0, none⟩ = some (.int .u32 (y1 : Int))) := by rw [hW9]; exact (three (.int .u32 (y1 : Int)) (.int .i64 y2) (.slice y3.a y3.n y3.c) (.int .i64 y4) (.int .i64 y5) hqr).1
      have HB9 : Hid (Below w3.heap.size w3 W9) := by rw [hW9]; exact three_below (.int .u32 (y1 : Int)) (.int .i64 y2) (.slice y3.a y3.n y3.c) (.int .i64 y4) (.int .i64 y5) HBWb2.out HKB.out
      have HL9 : Hid (KB < W9.heap.size) := by rw [hW9]; have := lt_of_block hqr; simp only [Hid]; simpa using this
      rw [← hW9]
      clear hW9 hqr xf x0 x1 x2 x3 x4
      refine hK.out _ _ (HS2.out _ (HB9.out)) (fun hHeld => ?_)
      clear hK K
      try simp only [Act.put, List.setIfInBounds_toArray, List.set_cons_zero, List.set_cons_succ]
      refine wpAnyH_take (i := 12) (oi := ?oi12kb) (v := ?v12kb) ?hi12kb ?hs12kb ?hf12kb ?hr12kb ?hQ12kb ?hy12kb ?hS12kb ?h12kb
      case hi12kb => exact (by simp only [List.getElem?_toArray, List.getElem?_cons_succ, List.getElem?_cons_zero]; rfl)
      case hs12kb => kernel_rfl
      case hf12kb => kernel_rfl
      case hr12kb => kernel_rfl
      case hQ12kb => exact fun _ _ _ h => h
      case hy12kb =>
        refine Or.inl ⟨rfl, ?_⟩
        intro W hSw
        obtain ⟨q0, q1⟩ := hSw
        go_simp
        try with_reducible rfl
      case hS12kb => assumption
      try simp only [Act.put, List.setIfInBounds_toArray, List.set_cons_zero, List.set_cons_succ]
      refine wpAnyH_done (by kernel_rfl) ?_ _
      go_wp2_with fail
      go_meet
      case rel => exact ⟨rfl, HB9⟩
  case rest =>
  obtain ⟨rfl, HR4⟩ := hcut
  rename World => w4
  have HUP : Hid (Upw (Go.Proofs.Ytemjmnpclknfaaa.Z.sortedN l)) := fun i j x y hij hx hy => by
    obtain ⟨a1, rfl⟩ := List.getElem?_eq_some_iff.1 hx
    obtain ⟨a2, rfl⟩ := List.getElem?_eq_some_iff.1 hy
    exact List.pairwise_iff_getElem.1 (Go.Proofs.Ytemjmnpclknfaaa.Z.sortedN_le l) i j a1 a2 hij
  have HTS := Lib.hid (those_92 B R mo vi ms L KP (fun e => decide (¬ ∀ x ∈ e.mem, x ∉ Go.Proofs.Ytemjmnpclknfaaa.Z.sortedN l)) w4 ((HQB.out.after HB3.out).after HR4.out) HL.out (fun W e s' hW he hf =>
    have hbw : Below w3.heap.size w3 W := HR4.out.trans (hW.mono HR4.out.size)
    have how : W.ownsRow w1'.heap.size 26 1 (.slice Av l.length cv) l.length (un (Go.Proofs.Ytemjmnpclknfaaa.Z.sortedN l)) := P.own_blk HOW.out hbw
    share_cl R vi (Go.Proofs.Ytemjmnpclknfaaa.Z.sortedN l) (.slice Av l.length cv) e.id e.md e.rt e.sn s' e.mem KP W HUP.out (by rw [Go.Proofs.Ytemjmnpclknfaaa.Z.sorted_len]; exact HLL.out) (Nat.lt_of_lt_of_le HKL.out hbw.size) ((hbw.cell (p := ⟨KP, _, none⟩) HKL.out).trans HKC.out) (P.srt_own (by rw [Go.Proofs.Ytemjmnpclknfaaa.Z.sorted_len]; exact how)) (fun g hg => (ownlt how g hg).2) hf (HM.out e he)))
  clear HGT HS2
  go_wp2_with fail
  refine HTS.out.mono ?_
  rintro r w5 ⟨A5, n5, c5, rfl, hpw, hb5⟩
  have HR5 : Hid (Below w3.heap.size w3 w5) := HR4.out.trans (hb5.mono HR4.out.size)
  have HBW5 : Hid (Below w.heap.size w w5) := HB3.out.trans (HR5.out.mono HB3.out.size)
  have HBR5 : Hid (Below w5.heap.size w5 w5) := Below.refl _ _
  have HS4 : Hid (∀ W, Below w5.heap.size w5 W → (fun W : World => W.cell? ⟨KP, 0, none⟩ = some (.slice Av l.length cv) ∧ W.cell? ⟨G, 2, none⟩ = some (.slice s.a s.n s.c)) W) := fun W hW => by
    have hbw : Below w3.heap.size w3 W := HR5.out.trans (hW.mono HR5.out.size)
    exact ⟨(hbw.cell (p := ⟨KP, _, none⟩) HKL.out).trans HKC.out, (hbw.cell (p := ⟨G, _, none⟩) HGL.out).trans HGC.out.2⟩
  have HCMP : Hid (∀ W, Below w5.heap.size w5 W → Calls Try.prog 94 #[.slice Av l.length cv] W fun r w' => ∃ v' zs, r = .returned v' ∧ w'.ownsRow w1'.heap.size 26 1 v' zs.length (un zs) ∧ zs.Pairwise (· < ·) ∧ (∀ y, y ∈ zs ↔ y ∈ Go.Proofs.Ytemjmnpclknfaaa.Z.sortedN l) ∧ Below w1'.heap.size W w' ∧ ∀ k, (Value.slice Av l.length cv).ownBlock ≠ some k → w'.heap[k]? = W.heap[k]?) := fun W hW => by
    have hbw : Below w3.heap.size w3 W := HR5.out.trans (hW.mono HR5.out.size)
    exact comp_own w1'.heap.size (.slice Av l.length cv) (Go.Proofs.Ytemjmnpclknfaaa.Z.sortedN l) W (by rw [Go.Proofs.Ytemjmnpclknfaaa.Z.sorted_len]; exact P.own_blk HOW.out hbw) (Go.Proofs.Ytemjmnpclknfaaa.Z.sortedN_le l)
  have HSH : Hid (0 < n5 ↔ ∃ e ∈ L, ¬ ∀ x ∈ e.mem, x ∉ l) := by
    have := hpw.len
    simp only [Hid]
    rw [this, List.length_pos_iff_exists_mem]
    constructor
    · rintro ⟨e, he⟩
      obtain ⟨h1, h2⟩ := List.mem_filter.1 he
      have h2 := of_decide_eq_true h2
      exact ⟨e, h1, fun hh => h2 fun x hx hm => hh x hx ((Go.Proofs.Ytemjmnpclknfaaa.Z.sortedN_mem l x).1 hm)⟩
    · rintro ⟨e, h1, h2⟩
      exact ⟨e, List.mem_filter.2 ⟨h1, decide_eq_true fun hh => h2 fun x hx hm => hh x hx ((Go.Proofs.Ytemjmnpclknfaaa.Z.sortedN_mem l x).2 hm)⟩⟩
  clear hpw hb5 HTS
  cases th
  · have hno : ¬ id ∈ L.map (·.id) := of_decide_eq_false HTH.out.symm
    by_cases hn : 0 < n5
    · have HDN : Hid (decide (0 < n5) = true) := decide_eq_true hn
      have HBT : Hid (b = true) := HBI.out.2 (.inr (.inl (HSH.out.1 hn)))
      clear hn hno
      go_upto_region 4 with (fail)
      have HDb : Hid (Below w5.heap.size w5 w5.drew) := HBR5.out.drew
      refine wp_region_held_drew (S := fun W : World => W.cell? ⟨KP, 0, none⟩ = some (.slice Av l.length cv) ∧ W.cell? ⟨G, 2, none⟩ = some (.slice s.a s.n s.c)) (by kernel_rfl) (HS4.out _ (HDb.out)) (fun hHeld => ?_)
      obtain ⟨Wb0, hW0⟩ : ∃ W0, W0 = w5.drew := ⟨_, rfl⟩
      rw [← hW0] at hHeld HDb ⊢
      clear hW0
      refine wpAnyH_take (i := 0) (oi := ?oi0b) (v := ?v0b) ?hi0b ?hs0b ?hf0b ?hr0b ?hQ0b ?hy0b ?hS0b ?h0b
      case hi0b => exact (by simp only [List.getElem?_toArray, List.getElem?_cons_zero]; rfl)
      case hs0b => kernel_rfl
      case hf0b => kernel_rfl
      case hr0b => kernel_rfl
      case hQ0b => exact fun _ _ _ h => h
      case hy0b =>
        refine Or.inl ⟨rfl, ?_⟩
        intro W hSw
        obtain ⟨q0, q1⟩ := hSw
        go_simp
        try with_reducible rfl
      case hS0b => assumption
      try simp only [Act.put, List.setIfInBounds_toArray, List.set_cons_zero, List.set_cons_succ]
      refine wpAnyH_take (i := 1) (oi := ?oi1b) (v := ?v1b) ?hi1b ?hs1b ?hf1b ?hr1b ?hQ1b ?hy1b ?hS1b ?h1b
      case hi1b => exact (by simp only [List.getElem?_toArray, List.getElem?_cons_succ, List.getElem?_cons_zero]; rfl)
      case hs1b => kernel_rfl
      case hf1b => kernel_rfl
      case hr1b => kernel_rfl
      case hQ1b => exact fun _ _ _ h => h
      case hy1b =>
        refine Or.inl ⟨rfl, ?_⟩
        intro W hSw
        obtain ⟨q0, q1⟩ := hSw
        go_simp
        try with_reducible rfl
      case hS1b => assumption
      try simp only [Act.put, List.setIfInBounds_toArray, List.set_cons_zero, List.set_cons_succ]
      refine wpAnyH_take (i := 2) (oi := ?oi2b) (v := ?v2b) ?hi2b ?hs2b ?hf2b ?hr2b ?hQ2b ?hy2b ?hS2b ?h2b
      case hi2b => exact (by simp only [List.getElem?_toArray, List.getElem?_cons_succ, List.getElem?_cons_zero]; rfl)
      case hs2b => kernel_rfl
      case hf2b => kernel_rfl
      case hr2b => kernel_rfl
      case hQ2b => exact fun _ _ _ h => h
      case hy2b =>
        refine Or.inl ⟨rfl, ?_⟩
        intro W hSw
        obtain ⟨q0, q1⟩ := hSw
        go_simp
        try with_reducible rfl
      case hS2b => assumption
      try simp only [Act.put, List.setIfInBounds_toArray, List.set_cons_zero, List.set_cons_succ]
      refine wpAnyH_take (i := 3) (oi := ?oi3b) (v := ?v3b) ?hi3b ?hs3b ?hf3b ?hr3b ?hQ3b ?hy3b ?hS3b ?h3b
      case hi3b => exact (by simp only [List.getElem?_toArray, List.getElem?_cons_succ, List.getElem?_cons_zero]; rfl)
      case hs3b => kernel_rfl
      case hf3b => kernel_rfl
      case hr3b => kernel_rfl
      case hQ3b => exact fun _ _ _ h => h
      case hy3b =>
        refine Or.inl ⟨rfl, ?_⟩
        intro W hSw
        obtain ⟨q0, q1⟩ := hSw
        go_simp
        try with_reducible rfl
      case hS3b => assumption
      try simp only [Act.put, List.setIfInBounds_toArray, List.set_cons_zero, List.set_cons_succ]
      refine wpAnyH_take (i := 4) (oi := ?oi4b) (v := .bool true) ?hi4b ?hs4b ?hf4b ?hr4b ?hQ4b ?hy4b ?hS4b ?h4b
      case hi4b => exact (by simp only [List.getElem?_toArray, List.getElem?_cons_succ, List.getElem?_cons_zero]; rfl)
      case hs4b => kernel_rfl
      case hf4b => kernel_rfl
      case hr4b => kernel_rfl
      case hQ4b => exact fun _ _ _ h => h
      case hy4b =>
        refine Or.inl ⟨rfl, ?_⟩
        intro W hSw
        go_simp
        first | exact of_decide_eq_true HDN.out | (have := of_decide_eq_false HDN.out; omega)
      case hS4b => assumption
      try simp only [Act.put, List.setIfInBounds_toArray, List.set_cons_zero, List.set_cons_succ]
      refine wpAnyH_take (i := 5) (oi := ?oi5b) (v := ?v5b) ?hi5b ?hs5b ?hf5b ?hr5b ?hQ5b ?hy5b ?hS5b ?h5b
      case hi5b => exact (by simp only [List.getElem?_toArray, List.getElem?_cons_succ, List.getElem?_cons_zero]; rfl)
      case hs5b => kernel_rfl
      case hf5b => kernel_rfl
      case hr5b => kernel_rfl
      case hQ5b => exact fun _ _ _ h => h
      case hy5b =>
        refine Or.inl ⟨rfl, ?_⟩
        intro W hSw
        obtain ⟨q0, q1⟩ := hSw
        go_simp
        try with_reducible rfl
      case hS5b => assumption
      try simp only [Act.put, List.setIfInBounds_toArray, List.set_cons_zero, List.set_cons_succ]
      refine wpAnyH_take (i := 6) (oi := ?oi6b) (v := ?v6b) ?hi6b ?hs6b ?hf6b ?hr6b ?hQ6b ?hy6b ?hS6b ?h6b
      case hi6b => exact (by simp only [List.getElem?_toArray, List.getElem?_cons_succ, List.getElem?_cons_zero]; rfl)
      case hs6b => kernel_rfl
      case hf6b => kernel_rfl
      case hr6b => kernel_rfl
      case hQ6b => exact fun _ _ _ h => h
      case hy6b =>
        refine Or.inl ⟨rfl, ?_⟩
        intro W hSw
        obtain ⟨q0, q1⟩ := hSw
        go_simp
        try with_reducible rfl
      case hS6b => assumption
      try simp only [Act.put, List.setIfInBounds_toArray, List.set_cons_zero, List.set_cons_succ]
      refine wpAnyH_take (i := 7) (oi := ?oi7b) (v := undef) ?hi7b ?hs7b ?hf7b ?hr7b ?hQ7b ?hy7b ?hS7b ?h7b
      case hi7b => exact (by simp only [List.getElem?_toArray, List.getElem?_cons_succ, List.getElem?_cons_zero]; rfl)
      case hs7b => kernel_rfl
      case hf7b => kernel_rfl
      case hr7b => kernel_rfl
      case hQ7b => exact fun _ _ _ h => h
      case hy7b =>
        exact Or.inr ⟨rfl, rfl⟩
      case hS7b => assumption
      try simp only [Act.put, List.setIfInBounds_toArray, List.set_cons_zero, List.set_cons_succ]
      refine wpAnyH_take (i := 8) (oi := ?oi8b) (v := undef) ?hi8b ?hs8b ?hf8b ?hr8b ?hQ8b ?hy8b ?hS8b ?h8b
      case hi8b => exact (by simp only [List.getElem?_toArray, List.getElem?_cons_succ, List.getElem?_cons_zero]; rfl)
      case hs8b => kernel_rfl
      case hf8b => kernel_rfl
      case hr8b => kernel_rfl
      case hQ8b => exact fun _ _ _ h => h
      case hy8b =>
        exact Or.inr ⟨rfl, rfl⟩
      case hS8b => assumption
      try simp only [Act.put, List.setIfInBounds_toArray, List.set_cons_zero, List.set_cons_succ]
      refine wpAnyH_take (i := 9) (oi := ?oi9b) (v := undef) ?hi9b ?hs9b ?hf9b ?hr9b ?hQ9b ?hy9b ?hS9b ?h9b
      case hi9b => exact (by simp only [List.getElem?_toArray, List.getElem?_cons_succ, List.getElem?_cons_zero]; rfl)
      case hs9b => kernel_rfl
      case hf9b => kernel_rfl
      case hr9b => kernel_rfl
      case hQ9b => exact fun _ _ _ h => h
      case hy9b =>
        exact Or.inr ⟨rfl, rfl⟩
      case hS9b => assumption
      try simp only [Act.put, List.setIfInBounds_toArray, List.set_cons_zero, List.set_cons_succ]
      refine wpAnyH_take (i := 10) (oi := ?oi10b) (v := undef) ?hi10b ?hs10b ?hf10b ?hr10b ?hQ10b ?hy10b ?hS10b ?h10b
      case hi10b => exact (by simp only [List.getElem?_toArray, List.getElem?_cons_succ, List.getElem?_cons_zero]; rfl)
      case hs10b => kernel_rfl
      case hf10b => kernel_rfl
      case hr10b => kernel_rfl
      case hQ10b => exact fun _ _ _ h => h
      case hy10b =>
        exact Or.inr ⟨rfl, rfl⟩
      case hS10b => assumption
      try simp only [Act.put, List.setIfInBounds_toArray, List.set_cons_zero, List.set_cons_succ]
      refine wpAnyH_take (i := 11) (oi := ?oi11b) (v := undef) ?hi11b ?hs11b ?hf11b ?hr11b ?hQ11b ?hy11b ?hS11b ?h11b
      case hi11b => exact (by simp only [List.getElem?_toArray, List.getElem?_cons_succ, List.getElem?_cons_zero]; rfl)
      case hs11b => kernel_rfl
      case hf11b => kernel_rfl
      case hr11b => kernel_rfl
      case hQ11b => exact fun _ _ _ h => h
      case hy11b =>
        exact Or.inr ⟨rfl, rfl⟩
      case hS11b => assumption
      try simp only [Act.put, List.setIfInBounds_toArray, List.set_cons_zero, List.set_cons_succ]
      refine wpAnyH_take (i := 12) (oi := ?oi12b) (v := undef) ?hi12b ?hs12b ?hf12b ?hr12b ?hQ12b ?hy12b ?hS12b ?h12b
      case hi12b => exact (by simp only [List.getElem?_toArray, List.getElem?_cons_succ, List.getElem?_cons_zero]; rfl)
      case hs12b => kernel_rfl
      case hf12b => kernel_rfl
      case hr12b => kernel_rfl
      case hQ12b => exact fun _ _ _ h => h
      case hy12b =>
        exact Or.inr ⟨rfl, rfl⟩
      case hS12b => assumption
      try simp only [Act.put, List.setIfInBounds_toArray, List.set_cons_zero, List.set_cons_succ]
      refine wpAnyH_take (i := 13) (oi := ?oi13b) (v := undef) ?hi13b ?hs13b ?hf13b ?hr13b ?hQ13b ?hy13b ?hS13b ?h13b
      case hi13b => exact (by simp only [List.getElem?_toArray, List.getElem?_cons_succ, List.getElem?_cons_zero]; rfl)
      case hs13b => kernel_rfl
      case hf13b => kernel_rfl
      case hr13b => kernel_rfl
      case hQ13b => exact fun _ _ _ h => h
      case hy13b =>
        exact Or.inr ⟨rfl, rfl⟩
      case hS13b => assumption
      try simp only [Act.put, List.setIfInBounds_toArray, List.set_cons_zero, List.set_cons_succ]
      refine wpAnyH_take (i := 14) (oi := ?oi14b) (v := ?v14b) ?hi14b ?hs14b ?hf14b ?hr14b ?hQ14b ?hy14b ?hS14b ?h14b
      case hi14b => exact (by simp only [List.getElem?_toArray, List.getElem?_cons_succ, List.getElem?_cons_zero]; rfl)
      case hs14b => kernel_rfl
      case hf14b => kernel_rfl
      case hr14b => kernel_rfl
      case hQ14b => exact fun _ _ _ h => h
      case hy14b =>
        refine Or.inl ⟨rfl, ?_⟩
        intro W hSw
        obtain ⟨q0, q1⟩ := hSw
        go_simp
        try with_reducible rfl
      case hS14b => assumption
      try simp only [Act.put, List.setIfInBounds_toArray, List.set_cons_zero, List.set_cons_succ]
      refine wpAnyH_take (i := 15) (oi := ?oi15b) (v := ?v15b) ?hi15b ?hs15b ?hf15b ?hr15b ?hQ15b ?hy15b ?hS15b ?h15b
      case hi15b => exact (by simp only [List.getElem?_toArray, List.getElem?_cons_succ, List.getElem?_cons_zero]; rfl)
      case hs15b => kernel_rfl
      case hf15b => kernel_rfl
      case hr15b => kernel_rfl
      case hQ15b => exact fun _ _ _ h => h
      case hy15b =>
        refine Or.inl ⟨rfl, ?_⟩
        intro W hSw
        obtain ⟨q0, q1⟩ := hSw
        go_simp
        try with_reducible rfl
      case hS15b => assumption
      try simp only [Act.put, List.setIfInBounds_toArray, List.set_cons_zero, List.set_cons_succ]
      refine wpAnyH_done (by kernel_rfl) ?_ _
      go_wp2_with fail
      go_ret
      exact ⟨by rw [HBT.out]; first | rfl | simp, HBW5.out.trans (HDb.out.mono HBW5.out.size)⟩
    · have HDN : Hid (decide (0 < n5) = false) := decide_eq_false hn
      have HBF : Hid (b = true ↔ ¬ l.Nodup) := by
        rw [Hid, HBI.out]
        unfold clashP
        rw [← HSH.out]
        constructor
        · rintro (h | h | h)
          · exact absurd h hno
          · exact absurd h hn
          · exact h
        · exact fun h => .inr (.inr h)
      clear hn hno
      go_upto_region 4 with (fail)
      have HDc : Hid (Below w5.heap.size w5 w5.drew) := HBR5.out.drew
      refine wp_region_held_drew (S := fun W : World => W.cell? ⟨KP, 0, none⟩ = some (.slice Av l.length cv) ∧ W.cell? ⟨G, 2, none⟩ = some (.slice s.a s.n s.c)) (by kernel_rfl) (HS4.out _ (HDc.out)) (fun hHeld => ?_)
      obtain ⟨Wc0, hW0⟩ : ∃ W0, W0 = w5.drew := ⟨_, rfl⟩
      rw [← hW0] at hHeld HDc ⊢
      clear hW0
      refine wpAnyH_take (i := 0) (oi := ?oi0c) (v := ?v0c) ?hi0c ?hs0c ?hf0c ?hr0c ?hQ0c ?hy0c ?hS0c ?h0c
      case hi0c => exact (by simp only [List.getElem?_toArray, List.getElem?_cons_zero]; rfl)
      case hs0c => kernel_rfl
      case hf0c => kernel_rfl
      case hr0c => kernel_rfl
      case hQ0c => exact fun _ _ _ h => h
      case hy0c =>
        refine Or.inl ⟨rfl, ?_⟩
        intro W hSw
        obtain ⟨q0, q1⟩ := hSw
        go_simp
        try with_reducible rfl
      case hS0c => assumption
      try simp only [Act.put, List.setIfInBounds_toArray, List.set_cons_zero, List.set_cons_succ]
      refine wpAnyH_take (i := 1) (oi := ?oi1c) (v := ?v1c) ?hi1c ?hs1c ?hf1c ?hr1c ?hQ1c ?hy1c ?hS1c ?h1c
      case hi1c => exact (by simp only [List.getElem?_toArray, List.getElem?_cons_succ, List.getElem?_cons_zero]; rfl)
      case hs1c => kernel_rfl
      case hf1c => kernel_rfl
      case hr1c => kernel_rfl
      case hQ1c => exact fun _ _ _ h => h
      case hy1c =>
        refine Or.inl ⟨rfl, ?_⟩
        intro W hSw
        obtain ⟨q0, q1⟩ := hSw
        go_simp
        try with_reducible rfl
      case hS1c => assumption
      try simp only [Act.put, List.setIfInBounds_toArray, List.set_cons_zero, List.set_cons_succ]
      refine wpAnyH_take (i := 2) (oi := ?oi2c) (v := ?v2c) ?hi2c ?hs2c ?hf2c ?hr2c ?hQ2c ?hy2c ?hS2c ?h2c
      case hi2c => exact (by simp only [List.getElem?_toArray, List.getElem?_cons_succ, List.getElem?_cons_zero]; rfl)
      case hs2c => kernel_rfl
      case hf2c => kernel_rfl
      case hr2c => kernel_rfl
      case hQ2c => exact fun _ _ _ h => h
      case hy2c =>
        refine Or.inl ⟨rfl, ?_⟩
        intro W hSw
        obtain ⟨q0, q1⟩ := hSw
        go_simp
        try with_reducible rfl
      case hS2c => assumption
      try simp only [Act.put, List.setIfInBounds_toArray, List.set_cons_zero, List.set_cons_succ]
      refine wpAnyH_take (i := 3) (oi := ?oi3c) (v := ?v3c) ?hi3c ?hs3c ?hf3c ?hr3c ?hQ3c ?hy3c ?hS3c ?h3c
      case hi3c => exact (by simp only [List.getElem?_toArray, List.getElem?_cons_succ, List.getElem?_cons_zero]; rfl)
      case hs3c => kernel_rfl
      case hf3c => kernel_rfl
      case hr3c => kernel_rfl
      case hQ3c => exact fun _ _ _ h => h
      case hy3c =>
        refine Or.inl ⟨rfl, ?_⟩
        intro W hSw
        obtain ⟨q0, q1⟩ := hSw
        go_simp
        try with_reducible rfl
      case hS3c => assumption
      try simp only [Act.put, List.setIfInBounds_toArray, List.set_cons_zero, List.set_cons_succ]
      refine wpAnyH_take (i := 4) (oi := ?oi4c) (v := .bool false) ?hi4c ?hs4c ?hf4c ?hr4c ?hQ4c ?hy4c ?hS4c ?h4c
      case hi4c => exact (by simp only [List.getElem?_toArray, List.getElem?_cons_succ, List.getElem?_cons_zero]; rfl)
      case hs4c => kernel_rfl
      case hf4c => kernel_rfl
      case hr4c => kernel_rfl
      case hQ4c => exact fun _ _ _ h => h
      case hy4c =>
        refine Or.inl ⟨rfl, ?_⟩
        intro W hSw
        go_simp
        first | exact of_decide_eq_true HDN.out | (have := of_decide_eq_false HDN.out; omega)
      case hS4c => assumption
      try simp only [Act.put, List.setIfInBounds_toArray, List.set_cons_zero, List.set_cons_succ]
      refine wpAnyH_take (i := 5) (oi := ?oi5c) (v := ?v5c) ?hi5c ?hs5c ?hf5c ?hr5c ?hQ5c ?hy5c ?hS5c ?h5c
      case hi5c => exact (by simp only [List.getElem?_toArray, List.getElem?_cons_succ, List.getElem?_cons_zero]; rfl)
      case hs5c => kernel_rfl
      case hf5c => kernel_rfl
      case hr5c => kernel_rfl
      case hQ5c => exact fun _ _ _ h => h
      case hy5c =>
        refine Or.inl ⟨rfl, ?_⟩
        intro W hSw
        obtain ⟨q0, q1⟩ := hSw
        go_simp
        try with_reducible rfl
      case hS5c => assumption
      try simp only [Act.put, List.setIfInBounds_toArray, List.set_cons_zero, List.set_cons_succ]
      refine wpAnyH_take (i := 6) (oi := ?oi6c) (v := ?v6c) ?hi6c ?hs6c ?hf6c ?hr6c ?hQ6c ?hy6c ?hS6c ?h6c
      case hi6c => exact (by simp only [List.getElem?_toArray, List.getElem?_cons_succ, List.getElem?_cons_zero]; rfl)
      case hs6c => kernel_rfl
      case hf6c => kernel_rfl
      case hr6c => kernel_rfl
      case hQ6c => exact fun _ _ _ h => h
      case hy6c =>
        refine Or.inl ⟨rfl, ?_⟩
        intro W hSw
        obtain ⟨q0, q1⟩ := hSw
        go_simp
        try with_reducible rfl
      case hS6c => assumption
      try simp only [Act.put, List.setIfInBounds_toArray, List.set_cons_zero, List.set_cons_succ]
      refine wpAnyH_take (i := 7) (oi := ?oi7c) (v := ?v7c) ?hi7c ?hs7c ?hf7c ?hr7c ?hQ7c ?hy7c ?hS7c ?h7c
      case hi7c => exact (by simp only [List.getElem?_toArray, List.getElem?_cons_succ, List.getElem?_cons_zero]; rfl)
      case hs7c => kernel_rfl
      case hf7c => kernel_rfl
      case hr7c => kernel_rfl
      case hQ7c => exact fun _ _ _ h => h
      case hy7c =>
        refine Or.inl ⟨rfl, ?_⟩
        intro W hSw
        obtain ⟨q0, q1⟩ := hSw
        go_simp
        try with_reducible rfl
      case hS7c => assumption
      try simp only [Act.put, List.setIfInBounds_toArray, List.set_cons_zero, List.set_cons_succ]
      refine wpAnyH_take (i := 10) (oi := ?oi10c) (v := ?v10c) ?hi10c ?hs10c ?hf10c ?hr10c ?hQ10c ?hy10c ?hS10c ?h10c
      case hi10c => exact (by simp only [List.getElem?_toArray, List.getElem?_cons_succ, List.getElem?_cons_zero]; rfl)
      case hs10c => kernel_rfl
      case hf10c => kernel_rfl
      case hr10c => kernel_rfl
      case hQ10c => exact fun _ _ _ h => h
      case hy10c =>
        refine Or.inl ⟨rfl, ?_⟩
        intro W hSw
        obtain ⟨q0, q1⟩ := hSw
        go_simp
        try with_reducible rfl
      case hS10c => assumption
      try simp only [Act.put, List.setIfInBounds_toArray, List.set_cons_zero, List.set_cons_succ]
      refine wpAnyH_take (i := 11) (oi := ?oi11c) (v := ?v11c) ?hi11c ?hs11c ?hf11c ?hr11c ?hQ11c ?hy11c ?hS11c ?h11c
      case hi11c => exact (by simp only [List.getElem?_toArray, List.getElem?_cons_succ, List.getElem?_cons_zero]; rfl)
      case hs11c => kernel_rfl
      case hf11c => kernel_rfl
      case hr11c => kernel_rfl
      case hQ11c => exact fun _ _ _ h => h
      case hy11c =>
        refine Or.inl ⟨rfl, ?_⟩
        intro W hSw
        obtain ⟨q0, q1⟩ := hSw
        go_simp
        try with_reducible rfl
      case hS11c => assumption
      try simp only [Act.put, List.setIfInBounds_toArray, List.set_cons_zero, List.set_cons_succ]
      refine wpAnyH_take (i := 12) (oi := ?oi12c) (v := ?v12c) ?hi12c ?hs12c ?hf12c ?hr12c ?hQ12c ?hy12c ?hS12c ?h12c
      case hi12c => exact (by simp only [List.getElem?_toArray, List.getElem?_cons_succ, List.getElem?_cons_zero]; rfl)
      case hs12c => kernel_rfl
      case hf12c => kernel_rfl
      case hr12c => kernel_rfl
      case hQ12c => exact fun _ _ _ h => h
      case hy12c =>
        refine Or.inl ⟨rfl, ?_⟩
        intro W hSw
        obtain ⟨q0, q1⟩ := hSw
        go_simp
        try with_reducible rfl
      case hS12c => assumption
      try simp only [Act.put, List.setIfInBounds_toArray, List.set_cons_zero, List.set_cons_succ]
      refine wpAnyH_ready (rs := [8]) (by kernel_rfl) (by simp) ?_
      refine AllReadyH.cons (o := _) rfl (fun K hK => ?_) AllReadyH.nil
      go_simp
      refine (HCMP.out Wc0 HDc.out).mono ?_
      rintro r Wc ⟨vz, zs, rfl, ho, hup, hmm, hbc, hoth⟩
      obtain ⟨Az, cz, rfl⟩ := own_form1 ho
      have HBC : Hid (Below w.heap.size w Wc) := (HBW5.out.trans (HDc.out.mono HBW5.out.size)).trans (hbc.mono HW1.out)
      have HCC : Hid (Wc.cell? ⟨KP, 0, none⟩ = some (.slice Av l.length cv) ∧ Wc.cell? ⟨G, 2, none⟩ = some (.slice s.a s.n s.c)) := by
        obtain ⟨q0, q1⟩ := HS4.out _ HDc.out
        exact ⟨(World.cell?_of_block (hoth KP HNK.out)).trans q0, (World.cell?_of_block (hoth G HNG.out)).trans q1⟩
      have HZL : Hid (zs.length < l.length ↔ ¬ l.Nodup) := by
        have := rise_len hup hmm
        rw [Go.Proofs.Ytemjmnpclknfaaa.Z.sorted_len, (Go.Proofs.Ytemjmnpclknfaaa.Z.sortedN_perm l).nodup_iff] at this
        exact this
      clear ho hup hmm hbc hoth
      refine hK.out _ _ (HCC.out) (fun hHeld => ?_)
      clear hK K
      try simp only [Act.put, List.setIfInBounds_toArray, List.set_cons_zero, List.set_cons_succ]
      refine wpAnyH_take (i := 9) (oi := ?oi9c) (v := ?v9c) ?hi9c ?hs9c ?hf9c ?hr9c ?hQ9c ?hy9c ?hS9c ?h9c
      case hi9c => exact (by simp only [List.getElem?_toArray, List.getElem?_cons_succ, List.getElem?_cons_zero]; rfl)
      case hs9c => kernel_rfl
      case hf9c => kernel_rfl
      case hr9c => kernel_rfl
      case hQ9c => exact fun _ _ _ h => h
      case hy9c =>
        refine Or.inl ⟨rfl, ?_⟩
        intro W hSw
        obtain ⟨q0, q1⟩ := hSw
        go_simp
        try with_reducible rfl
      case hS9c => assumption
      try simp only [Act.put, List.setIfInBounds_toArray, List.set_cons_zero, List.set_cons_succ]
      refine wpAnyH_take (i := 13) (oi := ?oi13c) (v := ?v13c) ?hi13c ?hs13c ?hf13c ?hr13c ?hQ13c ?hy13c ?hS13c ?h13c
      case hi13c => exact (by simp only [List.getElem?_toArray, List.getElem?_cons_succ, List.getElem?_cons_zero]; rfl)
      case hs13c => kernel_rfl
      case hf13c => kernel_rfl
      case hr13c => kernel_rfl
      case hQ13c => exact fun _ _ _ h => h
      case hy13c =>
        refine Or.inl ⟨rfl, ?_⟩
        intro W hSw
        obtain ⟨q0, q1⟩ := hSw
        go_simp
        try with_reducible rfl
      case hS13c => assumption
      try simp only [Act.put, List.setIfInBounds_toArray, List.set_cons_zero, List.set_cons_succ]
      refine wpAnyH_take (i := 14) (oi := ?oi14c) (v := ?v14c) ?hi14c ?hs14c ?hf14c ?hr14c ?hQ14c ?hy14c ?hS14c ?h14c
      case hi14c => exact (by simp only [List.getElem?_toArray, List.getElem?_cons_succ, List.getElem?_cons_zero]; rfl)
      case hs14c => kernel_rfl
      case hf14c => kernel_rfl
      case hr14c => kernel_rfl
      case hQ14c => exact fun _ _ _ h => h
      case hy14c =>
        refine Or.inl ⟨rfl, ?_⟩
        intro W hSw
        obtain ⟨q0, q1⟩ := hSw
        go_simp
        try with_reducible rfl
      case hS14c => assumption
      try simp only [Act.put, List.setIfInBounds_toArray, List.set_cons_zero, List.set_cons_succ]
      refine wpAnyH_take (i := 15) (oi := ?oi15c) (v := ?v15c) ?hi15c ?hs15c ?hf15c ?hr15c ?hQ15c ?hy15c ?hS15c ?h15c
      case hi15c => exact (by simp only [List.getElem?_toArray, List.getElem?_cons_succ, List.getElem?_cons_zero]; rfl)
      case hs15c => kernel_rfl
      case hf15c => kernel_rfl
      case hr15c => kernel_rfl
      case hQ15c => exact fun _ _ _ h => h
      case hy15c =>
        refine Or.inl ⟨rfl, ?_⟩
        intro W hSw
        obtain ⟨q0, q1⟩ := hSw
        go_simp
        try with_reducible rfl
      case hS15c => assumption
      try simp only [Act.put, List.setIfInBounds_toArray, List.set_cons_zero, List.set_cons_succ]
      refine wpAnyH_done (by kernel_rfl) ?_ _
      go_wp2_with fail
      go_ret
      refine ⟨?_, HBC.out⟩
      have e : b = decide ((zs.length : Int) < (s.n : Int)) := by
        rw [Bool.eq_iff_iff, HBF.out, ← HZL.out, decide_eq_true_iff, HH1.out]
        omega
      rw [e]
      first | rfl | simp
  · have HBT : Hid (b = true) := HBI.out.2 (.inl (of_decide_eq_true HTH.out.symm))
    go_upto_region 4 with (fail)
    have HDa : Hid (Below w5.heap.size w5 w5.drew) := HBR5.out.drew
    refine wp_region_held_drew (S := fun W : World => W.cell? ⟨KP, 0, none⟩ = some (.slice Av l.length cv) ∧ W.cell? ⟨G, 2, none⟩ = some (.slice s.a s.n s.c)) (by kernel_rfl) (HS4.out _ (HDa.out)) (fun hHeld => ?_)
    obtain ⟨Wa0, hW0⟩ : ∃ W0, W0 = w5.drew := ⟨_, rfl⟩
    rw [← hW0] at hHeld HDa ⊢
    clear hW0
    refine wpAnyH_take (i := 0) (oi := ?oi0a) (v := ?v0a) ?hi0a ?hs0a ?hf0a ?hr0a ?hQ0a ?hy0a ?hS0a ?h0a
    case hi0a => exact (by simp only [List.getElem?_toArray, List.getElem?_cons_zero]; rfl)
    case hs0a => kernel_rfl
    case hf0a => kernel_rfl
    case hr0a => kernel_rfl
    case hQ0a => exact fun _ _ _ h => h
    case hy0a =>
      refine Or.inl ⟨rfl, ?_⟩
      intro W hSw
      obtain ⟨q0, q1⟩ := hSw
      go_simp
      try with_reducible rfl
    case hS0a => assumption
    try simp only [Act.put, List.setIfInBounds_toArray, List.set_cons_zero, List.set_cons_succ]
    refine wpAnyH_take (i := 1) (oi := ?oi1a) (v := ?v1a) ?hi1a ?hs1a ?hf1a ?hr1a ?hQ1a ?hy1a ?hS1a ?h1a
    case hi1a => exact (by simp only [List.getElem?_toArray, List.getElem?_cons_succ, List.getElem?_cons_zero]; rfl)
    case hs1a => kernel_rfl
    case hf1a => kernel_rfl
    case hr1a => kernel_rfl
    case hQ1a => exact fun _ _ _ h => h
    case hy1a =>
      refine Or.inl ⟨rfl, ?_⟩
      intro W hSw
      obtain ⟨q0, q1⟩ := hSw
      go_simp
      try with_reducible rfl
    case hS1a => assumption
    try simp only [Act.put, List.setIfInBounds_toArray, List.set_cons_zero, List.set_cons_succ]
    refine wpAnyH_take (i := 2) (oi := ?oi2a) (v := undef) ?hi2a ?hs2a ?hf2a ?hr2a ?hQ2a ?hy2a ?hS2a ?h2a
    case hi2a => exact (by simp only [List.getElem?_toArray, List.getElem?_cons_succ, List.getElem?_cons_zero]; rfl)
    case hs2a => kernel_rfl
    case hf2a => kernel_rfl
    case hr2a => kernel_rfl
    case hQ2a => exact fun _ _ _ h => h
    case hy2a =>
      exact Or.inr ⟨rfl, rfl⟩
    case hS2a => assumption
    try simp only [Act.put, List.setIfInBounds_toArray, List.set_cons_zero, List.set_cons_succ]
    refine wpAnyH_take (i := 3) (oi := ?oi3a) (v := undef) ?hi3a ?hs3a ?hf3a ?hr3a ?hQ3a ?hy3a ?hS3a ?h3a
    case hi3a => exact (by simp only [List.getElem?_toArray, List.getElem?_cons_succ, List.getElem?_cons_zero]; rfl)
    case hs3a => kernel_rfl
    case hf3a => kernel_rfl
    case hr3a => kernel_rfl
    case hQ3a => exact fun _ _ _ h => h
    case hy3a =>
      exact Or.inr ⟨rfl, rfl⟩
    case hS3a => assumption
    try simp only [Act.put, List.setIfInBounds_toArray, List.set_cons_zero, List.set_cons_succ]
    refine wpAnyH_take (i := 4) (oi := ?oi4a) (v := undef) ?hi4a ?hs4a ?hf4a ?hr4a ?hQ4a ?hy4a ?hS4a ?h4a
    case hi4a => exact (by simp only [List.getElem?_toArray, List.getElem?_cons_succ, List.getElem?_cons_zero]; rfl)
    case hs4a => kernel_rfl
    case hf4a => kernel_rfl
    case hr4a => kernel_rfl
    case hQ4a => exact fun _ _ _ h => h
    case hy4a =>
      exact Or.inr ⟨rfl, rfl⟩
    case hS4a => assumption
    try simp only [Act.put, List.setIfInBounds_toArray, List.set_cons_zero, List.set_cons_succ]
    refine wpAnyH_take (i := 5) (oi := ?oi5a) (v := ?v5a) ?hi5a ?hs5a ?hf5a ?hr5a ?hQ5a ?hy5a ?hS5a ?h5a
    case hi5a => exact (by simp only [List.getElem?_toArray, List.getElem?_cons_succ, List.getElem?_cons_zero]; rfl)
    case hs5a => kernel_rfl
    case hf5a => kernel_rfl
    case hr5a => kernel_rfl
    case hQ5a => exact fun _ _ _ h => h
    case hy5a =>
      refine Or.inl ⟨rfl, ?_⟩
      intro W hSw
      obtain ⟨q0, q1⟩ := hSw
      go_simp
      try with_reducible rfl
    case hS5a => assumption
    try simp only [Act.put, List.setIfInBounds_toArray, List.set_cons_zero, List.set_cons_succ]
    refine wpAnyH_take (i := 6) (oi := ?oi6a) (v := ?v6a) ?hi6a ?hs6a ?hf6a ?hr6a ?hQ6a ?hy6a ?hS6a ?h6a
    case hi6a => exact (by simp only [List.getElem?_toArray, List.getElem?_cons_succ, List.getElem?_cons_zero]; rfl)
    case hs6a => kernel_rfl
    case hf6a => kernel_rfl
    case hr6a => kernel_rfl
    case hQ6a => exact fun _ _ _ h => h
    case hy6a =>
      refine Or.inl ⟨rfl, ?_⟩
      intro W hSw
      obtain ⟨q0, q1⟩ := hSw
      go_simp
      try with_reducible rfl
    case hS6a => assumption
    try simp only [Act.put, List.setIfInBounds_toArray, List.set_cons_zero, List.set_cons_succ]
    refine wpAnyH_take (i := 7) (oi := ?oi7a) (v := undef) ?hi7a ?hs7a ?hf7a ?hr7a ?hQ7a ?hy7a ?hS7a ?h7a
    case hi7a => exact (by simp only [List.getElem?_toArray, List.getElem?_cons_succ, List.getElem?_cons_zero]; rfl)
    case hs7a => kernel_rfl
    case hf7a => kernel_rfl
    case hr7a => kernel_rfl
    case hQ7a => exact fun _ _ _ h => h
    case hy7a =>
      exact Or.inr ⟨rfl, rfl⟩
    case hS7a => assumption
    try simp only [Act.put, List.setIfInBounds_toArray, List.set_cons_zero, List.set_cons_succ]
    refine wpAnyH_take (i := 8) (oi := ?oi8a) (v := undef) ?hi8a ?hs8a ?hf8a ?hr8a ?hQ8a ?hy8a ?hS8a ?h8a
    case hi8a => exact (by simp only [List.getElem?_toArray, List.getElem?_cons_succ, List.getElem?_cons_zero]; rfl)
    case hs8a => kernel_rfl
    case hf8a => kernel_rfl
    case hr8a => kernel_rfl
    case hQ8a => exact fun _ _ _ h => h
    case hy8a =>
      exact Or.inr ⟨rfl, rfl⟩
    case hS8a => assumption
    try simp only [Act.put, List.setIfInBounds_toArray, List.set_cons_zero, List.set_cons_succ]
    refine wpAnyH_take (i := 9) (oi := ?oi9a) (v := undef) ?hi9a ?hs9a ?hf9a ?hr9a ?hQ9a ?hy9a ?hS9a ?h9a
    case hi9a => exact (by simp only [List.getElem?_toArray, List.getElem?_cons_succ, List.getElem?_cons_zero]; rfl)
    case hs9a => kernel_rfl
    case hf9a => kernel_rfl
    case hr9a => kernel_rfl
    case hQ9a => exact fun _ _ _ h => h
    case hy9a =>
      exact Or.inr ⟨rfl, rfl⟩
    case hS9a => assumption
    try simp only [Act.put, List.setIfInBounds_toArray, List.set_cons_zero, List.set_cons_succ]
    refine wpAnyH_take (i := 10) (oi := ?oi10a) (v := undef) ?hi10a ?hs10a ?hf10a ?hr10a ?hQ10a ?hy10a ?hS10a ?h10a
    case hi10a => exact (by simp only [List.getElem?_toArray, List.getElem?_cons_succ, List.getElem?_cons_zero]; rfl)
    case hs10a => kernel_rfl
    case hf10a => kernel_rfl
    case hr10a => kernel_rfl
    case hQ10a => exact fun _ _ _ h => h
    case hy10a =>
      exact Or.inr ⟨rfl, rfl⟩
    case hS10a => assumption
    try simp only [Act.put, List.setIfInBounds_toArray, List.set_cons_zero, List.set_cons_succ]
    refine wpAnyH_take (i := 11) (oi := ?oi11a) (v := undef) ?hi11a ?hs11a ?hf11a ?hr11a ?hQ11a ?hy11a ?hS11a ?h11a
    case hi11a => exact (by simp only [List.getElem?_toArray, List.getElem?_cons_succ, List.getElem?_cons_zero]; rfl)
    case hs11a => kernel_rfl
    case hf11a => kernel_rfl
    case hr11a => kernel_rfl
    case hQ11a => exact fun _ _ _ h => h
    case hy11a =>
      exact Or.inr ⟨rfl, rfl⟩
    case hS11a => assumption
    try simp only [Act.put, List.setIfInBounds_toArray, List.set_cons_zero, List.set_cons_succ]
    refine wpAnyH_take (i := 12) (oi := ?oi12a) (v := undef) ?hi12a ?hs12a ?hf12a ?hr12a ?hQ12a ?hy12a ?hS12a ?h12a
    case hi12a => exact (by simp only [List.getElem?_toArray, List.getElem?_cons_succ, List.getElem?_cons_zero]; rfl)
    case hs12a => kernel_rfl
    case hf12a => kernel_rfl
    case hr12a => kernel_rfl
    case hQ12a => exact fun _ _ _ h => h
    case hy12a =>
      exact Or.inr ⟨rfl, rfl⟩
    case hS12a => assumption
    try simp only [Act.put, List.setIfInBounds_toArray, List.set_cons_zero, List.set_cons_succ]
    refine wpAnyH_take (i := 13) (oi := ?oi13a) (v := undef) ?hi13a ?hs13a ?hf13a ?hr13a ?hQ13a ?hy13a ?hS13a ?h13a
    case hi13a => exact (by simp only [List.getElem?_toArray, List.getElem?_cons_succ, List.getElem?_cons_zero]; rfl)
    case hs13a => kernel_rfl
    case hf13a => kernel_rfl
    case hr13a => kernel_rfl
    case hQ13a => exact fun _ _ _ h => h
    case hy13a =>
      exact Or.inr ⟨rfl, rfl⟩
    case hS13a => assumption
    try simp only [Act.put, List.setIfInBounds_toArray, List.set_cons_zero, List.set_cons_succ]
    refine wpAnyH_take (i := 14) (oi := ?oi14a) (v := ?v14a) ?hi14a ?hs14a ?hf14a ?hr14a ?hQ14a ?hy14a ?hS14a ?h14a
    case hi14a => exact (by simp only [List.getElem?_toArray, List.getElem?_cons_succ, List.getElem?_cons_zero]; rfl)
    case hs14a => kernel_rfl
    case hf14a => kernel_rfl
    case hr14a => kernel_rfl
    case hQ14a => exact fun _ _ _ h => h
    case hy14a =>
      refine Or.inl ⟨rfl, ?_⟩
      intro W hSw
      obtain ⟨q0, q1⟩ := hSw
      go_simp
      try with_reducible rfl
    case hS14a => assumption
    try simp only [Act.put, List.setIfInBounds_toArray, List.set_cons_zero, List.set_cons_succ]
    refine wpAnyH_take (i := 15) (oi := ?oi15a) (v := ?v15a) ?hi15a ?hs15a ?hf15a ?hr15a ?hQ15a ?hy15a ?hS15a ?h15a
    case hi15a => exact (by simp only [List.getElem?_toArray, List.getElem?_cons_succ, List.getElem?_cons_zero]; rfl)
    case hs15a => kernel_rfl
    case hf15a => kernel_rfl
    case hr15a => kernel_rfl
    case hQ15a => exact fun _ _ _ h => h
    case hy15a =>
      refine Or.inl ⟨rfl, ?_⟩
      intro W hSw
      obtain ⟨q0, q1⟩ := hSw
      go_simp
      try with_reducible rfl
    case hS15a => assumption
    try simp only [Act.put, List.setIfInBounds_toArray, List.set_cons_zero, List.set_cons_succ]
    refine wpAnyH_done (by kernel_rfl) ?_ _
    go_wp2_with fail
    go_ret
    exact ⟨by rw [HBT.out]; first | rfl | simp, HBW5.out.trans (HDa.out.mono HBW5.out.size)⟩
end Go.Proofs.Ytemjmnpclknfaaa.T

/- Queue: Put. -/
namespace Go.Proofs.Ytemjmnpclknfaaa.T
open Go.RowKit
open Go.Proofs.Ytemjmnpclknfaaa.P (Sl un)
set_option maxRecDepth 20000
set_option linter.unusedVariables false
set_option linter.unusedSimpArgs false

theorem m5_get : ∀ (l : List M5) (i : Nat) (m : M5), l[i]? = some m → (m5 l)[i * 5]? = some (.int .i64 m.1) ∧ (m5 l)[i * 5 + 1]? = some (.int .i64 m.2.1) ∧ (m5 l)[i * 5 + 2]? = some (.int .i64 m.2.2.1) ∧ (m5 l)[i * 5 + 3]? = some (.int .i64 m.2.2.2.1) ∧ (m5 l)[i * 5 + 4]? = some (.int .i64 m.2.2.2.2)
  | [], i, m, h => by simp at h
  | x :: l, 0, m, h => by
    obtain rfl : x = m := by simpa using h
    simp [m5]
  | x :: l, i + 1, m, h => by
    obtain ⟨h0, h1, h2, h3, h4⟩ := m5_get l i m (by simpa using h)
    have e : ∀ j, (m5 (x :: l))[(i + 1) * 5 + j]? = (m5 l)[i * 5 + j]? := fun j => by
      rw [show m5 (x :: l) = [.int .i64 x.1, .int .i64 x.2.1, .int .i64 x.2.2.1, .int .i64 x.2.2.2.1, .int .i64 x.2.2.2.2] ++ m5 l from rfl, List.getElem?_append_right (by simp; omega)]
      congr 1
      simp
      omega
    exact ⟨(e 0).trans h0, (e 1).trans h1, (e 2).trans h2, (e 3).trans h3, (e 4).trans h4⟩
/-- The mode of a number, else noughts. -/
def eM (l : List M5) (m : Int) : M5 := if 0 ≤ m ∧ m < (l.length : Int) then (l[m.toNat]?).getD (0, 0, 0, 0, 0) else (0, 0, 0, 0, 0)
theorem cmode_all (cs : Array Value) (ms : Sl) (l : List M5) (m : Int) (w : World) (hc : cs[13]? = some (.slice ms.a ms.n ms.c)) (hn : ms.n = l.length) (hl : ms.n ≤ 100) (hR : Rm w ms.a l) :
    Calls Try.prog 59 #[.agg cs, .int .i64 m] w fun r w' => r = .returned (.tuple #[.agg #[.int .i64 (eM l m).1, .int .i64 (eM l m).2.1, .int .i64 (eM l m).2.2.1, .int .i64 (eM l m).2.2.2.1, .int .i64 (eM l m).2.2.2.2], .bool (decide (0 ≤ m ∧ m < (l.length : Int)))]) ∧ Below w.heap.size w w' := by
  by_cases hm : 0 ≤ m ∧ m < (l.length : Int)
  · obtain ⟨b, o, hA, ⟨cur, hb⟩, hR⟩ := hR (by omega)
    obtain ⟨x, hx⟩ : ∃ x, l[m.toNat]? = some x := ⟨l[m.toNat]'(by omega), List.getElem?_eq_getElem _⟩
    obtain ⟨q0, q1, q2, q3, q4⟩ := m5_get l _ x hx
    have e : eM l m = x := by unfold eM; rw [if_pos hm, hx]; rfl
    rw [e, decide_eq_true hm]
    refine cmode_yes cs ms.a ms.n ms.c m w hc (by omega) (by omega) _ _ _ _ _ b o hA (lt_of_block hb) (hR _ _ q0) ?_ ?_ ?_ ?_
    · have := hR _ _ q1; rwa [← Nat.add_assoc] at this
    · have := hR _ _ q2; rwa [← Nat.add_assoc] at this
    · have := hR _ _ q3; rwa [← Nat.add_assoc] at this
    · have := hR _ _ q4; rwa [← Nat.add_assoc] at this
  · have e : eM l m = (0, 0, 0, 0, 0) := by unfold eM; rw [if_neg hm]
    rw [e, decide_eq_false hm]
    exact cmode_no cs ms.a ms.n ms.c m w hc (by omega) (by omega)
theorem Bq.cfg {w : World} {B R : Nat} {mo : Int} {vi : Value} {ms : Sl} {L : List Tk} (h : Bq w B R mo vi ms L) : ∃ c0 c1 c2 c3 c4 c5 c6 c7 c8 c9 c10 c11 c12 : Value, ∀ W, Below w.heap.size w W → W.cell? ⟨B, 0, none⟩ = some c0 ∧ W.cell? ⟨B, 1, none⟩ = some c1 ∧ W.cell? ⟨B, 2, none⟩ = some c2 ∧ W.cell? ⟨B, 3, none⟩ = some c3 ∧ W.cell? ⟨B, 4, none⟩ = some c4 ∧ W.cell? ⟨B, 5, none⟩ = some c5 ∧ W.cell? ⟨B, 6, none⟩ = some c6 ∧ W.cell? ⟨B, 7, none⟩ = some c7 ∧ W.cell? ⟨B, 8, none⟩ = some c8 ∧ W.cell? ⟨B, 9, none⟩ = some c9 ∧ W.cell? ⟨B, 10, none⟩ = some c10 ∧ W.cell? ⟨B, 11, none⟩ = some c11 ∧ W.cell? ⟨B, 12, none⟩ = some c12 ∧ W.cell? ⟨B, 13, none⟩ = some (.slice ms.a ms.n ms.c) := by
  obtain ⟨⟨cur, h1, h2, h3⟩, _⟩ := h
  have hs := (Array.getElem?_eq_some_iff.1 h3).1
  have hk : ∀ W, Below w.heap.size w W → ∀ i (hi : i < cur.size), W.cell? ⟨B, i, none⟩ = some cur[i] := fun W hW i hi => by
    rw [cell_of_row W B i _ _ _ ((hW.block B (lt_of_block h1)).trans h1)]
    exact Array.getElem?_eq_getElem hi
  refine ⟨cur[0]'(by omega), cur[1]'(by omega), cur[2]'(by omega), cur[3]'(by omega), cur[4]'(by omega), cur[5]'(by omega), cur[6]'(by omega), cur[7]'(by omega), cur[8]'(by omega), cur[9]'(by omega), cur[10]'(by omega), cur[11]'(by omega), cur[12]'(by omega), fun W hW => ⟨hk W hW 0 (by omega), hk W hW 1 (by omega), hk W hW 2 (by omega), hk W hW 3 (by omega), hk W hW 4 (by omega), hk W hW 5 (by omega), hk W hW 6 (by omega), hk W hW 7 (by omega), hk W hW 8 (by omega), hk W hW 9 (by omega), hk W hW 10 (by omega), hk W hW 11 (by omega), hk W hW 12 (by omega), ?_⟩⟩
  rw [cell_of_row W B 13 _ _ _ ((hW.block B (lt_of_block h1)).trans h1)]
  exact h2
theorem of_any (m : Int) (w : World) : Calls Try.prog 63 #[.int .i64 m] w fun r w' => r = .returned (.func (.func 96) #[] #[.pointer (some ⟨w.heap.size, 0, none⟩)]) ∧ w' = w.alloc (.cells #[.int .i64 m] 3) := by
  go_enter Try.func63, Try.ntmps63
  go_wp2
  go_ret
  exact ⟨rfl, rfl⟩
def cntM (L : List Tk) (m : Int) : Nat := (L.filter fun e => decide (e.md = m)).length
open Classical in
/-- What Put answers. -/
noncomputable def errQ (ml : List M5) (L : List Tk) (t : Tk) : Int :=
  if ¬ P.okN t.id ∨ ¬ (∀ x ∈ t.mem, P.okN x) then 14
  else if ¬ (0 ≤ t.md ∧ t.md < (ml.length : Int)) then 20
  else if t.mem.length = 0 ∨ (eM ml t.md).1 < (t.mem.length : Int) then 21
  else if t.rt < 0 ∨ 10000 < t.rt then 2
  else if clashP L t.id t.mem then 11
  else if 16 ≤ cntM L t.md then 10
  else 0
def QPutP (B R : Nat) (mo : Int) (vi : Value) (ms : Sl) (ml : List M5) (L : List Tk) (t : Tk) (w : World) (r : Ending) (w' : World) : Prop := r = .returned (.int .i64 (errQ ml L t)) ∧ PutT B R mo vi ms (if errQ ml L t = 0 then insT L t else L) w w'
set_option maxHeartbeats 16000000 in
theorem qput_any (B R : Nat) (mo : Int) (vi : Value) (ms : Sl) (ml : List M5) (L : List Tk) (t : Tk) (s : Sl) (w : World) (h : Bq w B R mo vi ms L) (hms : ms.n = ml.length) (hml : ms.n ≤ 100) (hRm : Rm w ms.a ml) (hl : L.length ≤ 100) (hm : ∀ e ∈ L, e.mem.length ≤ 1000) (h1 : s.n = t.mem.length) (hR : P.Rn w s.a t.mem) (hll : t.mem.length ≤ 1000)
    (hroom : 0 ≤ t.md → t.md < (ml.length : Int) → cntM L t.md < 16 → (L.length : Int) < min mo 2147483647) :
    Calls Try.prog 26 #[qp B, .agg (mC t.id t.md s t.rt t.sn)] w fun r w' => QPutP B R mo vi ms ml L t w r w' := by
  obtain ⟨G, hG⟩ : ∃ G, G = w.heap.size := ⟨_, rfl⟩
  obtain ⟨w0, hw0⟩ : ∃ W, W = w.alloc (.cells (mC t.id t.md s t.rt t.sn) 72) := ⟨_, rfl⟩
  have hq0 : w0.heap[G]? = some (.cells (mC t.id t.md s t.rt t.sn) 72 (0, 0)) := by rw [hw0, hG]; exact heap_alloc_new w _
  have hb0 : Below w.heap.size w w0 := by rw [hw0]; exact (Below.refl _ _).alloc (Nat.le_refl _) _
  obtain ⟨c0, c1, c2, c3, c4, c5, c6, c7, c8, c9, c10, c11, c12, hcfg⟩ := h.cfg
  have HQB := Lib.hid h
  have HB0 := Lib.hid hb0
  have HQ0 := Lib.hid hq0
  have HGG := Lib.hid hG
  have H0 := Lib.hid hw0
  have HRO := Lib.hid hroom
  have HRT := Lib.hid hR
  have HH1 := Lib.hid h1
  have HLL := Lib.hid hll
  have HM := Lib.hid hm
  have HL := Lib.hid hl
  have HG : Hid (∀ W, Below w0.heap.size w0 W → W.cell? ⟨G, 0, none⟩ = some (.int .u32 (t.id : Int)) ∧ W.cell? ⟨G, 1, none⟩ = some (.int .i64 t.md) ∧ W.cell? ⟨G, 2, none⟩ = some (.slice s.a s.n s.c) ∧ W.cell? ⟨G, 3, none⟩ = some (.int .i64 t.rt) ∧ W.cell? ⟨G, 4, none⟩ = some (.int .i64 t.sn)) := fun W hW => by
    have hq := (hW.block G (lt_of_block hq0)).trans hq0
    have x0 := cell_of_row _ G 0 _ _ _ hq
    have x1 := cell_of_row _ G 1 _ _ _ hq
    have x2 := cell_of_row _ G 2 _ _ _ hq
    have x3 := cell_of_row _ G 3 _ _ _ hq
    have x4 := cell_of_row _ G 4 _ _ _ hq
    exact ⟨by simpa using x0, by simpa using x1, by simpa using x2, by simpa using x3, by simpa using x4⟩
  have HS3 : Hid (∀ W, Below w0.heap.size w0 W → (fun W : World => (W.cell? ⟨B, 0, none⟩ = some c0 ∧ W.cell? ⟨B, 1, none⟩ = some c1 ∧ W.cell? ⟨B, 2, none⟩ = some c2 ∧ W.cell? ⟨B, 3, none⟩ = some c3 ∧ W.cell? ⟨B, 4, none⟩ = some c4 ∧ W.cell? ⟨B, 5, none⟩ = some c5 ∧ W.cell? ⟨B, 6, none⟩ = some c6 ∧ W.cell? ⟨B, 7, none⟩ = some c7 ∧ W.cell? ⟨B, 8, none⟩ = some c8 ∧ W.cell? ⟨B, 9, none⟩ = some c9 ∧ W.cell? ⟨B, 10, none⟩ = some c10 ∧ W.cell? ⟨B, 11, none⟩ = some c11 ∧ W.cell? ⟨B, 12, none⟩ = some c12 ∧ W.cell? ⟨B, 13, none⟩ = some (.slice ms.a ms.n ms.c)) ∧ W.cell? ⟨G, 1, none⟩ = some (.int .i64 t.md)) W) := fun W hW => ⟨hcfg W (hb0.trans (hW.mono hb0.size)), (HG.out W hW).2.1⟩
  obtain ⟨bm, hbm⟩ : ∃ b, b = decide (0 ≤ t.md ∧ t.md < (ml.length : Int)) := ⟨_, rfl⟩
  obtain ⟨⟨e0, e1, e2, e3, e4⟩, he⟩ : ∃ e, e = eM ml t.md := ⟨_, rfl⟩
  have HMO : Hid (∀ W, Below w0.heap.size w0 W → Calls Try.prog 59 #[.agg #[c0, c1, c2, c3, c4, c5, c6, c7, c8, c9, c10, c11, c12, .slice ms.a ms.n ms.c], .int .i64 t.md] W fun r w' => r = .returned (.tuple #[.agg #[.int .i64 e0, .int .i64 e1, .int .i64 e2, .int .i64 e3, .int .i64 e4], .bool bm]) ∧ Below W.heap.size W w') := fun W hW => by
    have := cmode_all #[c0, c1, c2, c3, c4, c5, c6, c7, c8, c9, c10, c11, c12, .slice ms.a ms.n ms.c] ms ml t.md W rfl hms hml ((hRm.after hb0).after hW)
    rw [← he, ← hbm] at this
    exact this
  have HBM := Lib.hid hbm
  have HE0 : Hid ((eM ml t.md).1 = e0) := by simp only [Hid]; rw [← he]
  clear h hRm hms hml hl hm h1 hR hll hroom hw0 hq0 hb0 hG hcfg hbm he
  go_enter Try.func26, Try.ntmps26
  go_upto_region 3 with (fail)
  rw [← H0.out, ← HGG.out]
  go_cut [5, 6] (fun pv iv wx => iv = .bool bm ∧ ∃ KB, pv = .pointer (some ⟨KB, 0, none⟩) ∧ Hid (wx.cell? ⟨KB, 0, none⟩ = some (.int .i64 e0)) ∧ Hid (KB < wx.heap.size) ∧ Hid (Below w0.heap.size w0 wx))
  case first =>
    have HDk : Hid (Below w0.heap.size w0 w0.drew) := (Below.refl _ _).drew
    refine wp_region_held_drew (S := fun W : World => (W.cell? ⟨B, 0, none⟩ = some c0 ∧ W.cell? ⟨B, 1, none⟩ = some c1 ∧ W.cell? ⟨B, 2, none⟩ = some c2 ∧ W.cell? ⟨B, 3, none⟩ = some c3 ∧ W.cell? ⟨B, 4, none⟩ = some c4 ∧ W.cell? ⟨B, 5, none⟩ = some c5 ∧ W.cell? ⟨B, 6, none⟩ = some c6 ∧ W.cell? ⟨B, 7, none⟩ = some c7 ∧ W.cell? ⟨B, 8, none⟩ = some c8 ∧ W.cell? ⟨B, 9, none⟩ = some c9 ∧ W.cell? ⟨B, 10, none⟩ = some c10 ∧ W.cell? ⟨B, 11, none⟩ = some c11 ∧ W.cell? ⟨B, 12, none⟩ = some c12 ∧ W.cell? ⟨B, 13, none⟩ = some (.slice ms.a ms.n ms.c)) ∧ W.cell? ⟨G, 1, none⟩ = some (.int .i64 t.md)) (by kernel_rfl) (HS3.out _ (HDk.out)) (fun hHeld => ?_)
    obtain ⟨Wk0, hW0⟩ : ∃ W0, W0 = w0.drew := ⟨_, rfl⟩
    rw [← hW0] at hHeld HDk ⊢
    clear hW0
    refine wpAnyH_take (i := 0) (oi := ?oi0k) (v := ?v0k) ?hi0k ?hs0k ?hf0k ?hr0k ?hQ0k ?hy0k ?hS0k ?h0k
    case hi0k => exact (by simp only [List.getElem?_toArray, List.getElem?_cons_zero]; rfl)
    case hs0k => kernel_rfl
    case hf0k => kernel_rfl
    case hr0k => kernel_rfl
    case hQ0k => exact fun _ _ _ h => h
    case hy0k =>
      refine Or.inl ⟨rfl, ?_⟩
      intro W hSw
      obtain ⟨⟨q0, q1, q2, q3, q4, q5, q6, q7, q8, q9, q10, q11, q12, q13⟩, q14⟩ := hSw
      go_simp
      try with_reducible rfl
    case hS0k => assumption
    try simp only [Act.put, List.setIfInBounds_toArray, List.set_cons_zero, List.set_cons_succ]
    refine wpAnyH_take (i := 1) (oi := ?oi1k) (v := ?v1k) ?hi1k ?hs1k ?hf1k ?hr1k ?hQ1k ?hy1k ?hS1k ?h1k
    case hi1k => exact (by simp only [List.getElem?_toArray, List.getElem?_cons_succ, List.getElem?_cons_zero]; rfl)
    case hs1k => kernel_rfl
    case hf1k => kernel_rfl
    case hr1k => kernel_rfl
    case hQ1k => exact fun _ _ _ h => h
    case hy1k =>
      refine Or.inl ⟨rfl, ?_⟩
      intro W hSw
      obtain ⟨⟨q0, q1, q2, q3, q4, q5, q6, q7, q8, q9, q10, q11, q12, q13⟩, q14⟩ := hSw
      go_simp
      try with_reducible rfl
    case hS1k => assumption
    try simp only [Act.put, List.setIfInBounds_toArray, List.set_cons_zero, List.set_cons_succ]
    refine wpAnyH_take (i := 2) (oi := ?oi2k) (v := ?v2k) ?hi2k ?hs2k ?hf2k ?hr2k ?hQ2k ?hy2k ?hS2k ?h2k
    case hi2k => exact (by simp only [List.getElem?_toArray, List.getElem?_cons_succ, List.getElem?_cons_zero]; rfl)
    case hs2k => kernel_rfl
    case hf2k => kernel_rfl
    case hr2k => kernel_rfl
    case hQ2k => exact fun _ _ _ h => h
    case hy2k =>
      refine Or.inl ⟨rfl, ?_⟩
      intro W hSw
      obtain ⟨⟨q0, q1, q2, q3, q4, q5, q6, q7, q8, q9, q10, q11, q12, q13⟩, q14⟩ := hSw
      go_simp
      try with_reducible rfl
    case hS2k => assumption
    try simp only [Act.put, List.setIfInBounds_toArray, List.set_cons_zero, List.set_cons_succ]
    refine wpAnyH_take (i := 3) (oi := ?oi3k) (v := ?v3k) ?hi3k ?hs3k ?hf3k ?hr3k ?hQ3k ?hy3k ?hS3k ?h3k
    case hi3k => exact (by simp only [List.getElem?_toArray, List.getElem?_cons_succ, List.getElem?_cons_zero]; rfl)
    case hs3k => kernel_rfl
    case hf3k => kernel_rfl
    case hr3k => kernel_rfl
    case hQ3k => exact fun _ _ _ h => h
    case hy3k =>
      refine Or.inl ⟨rfl, ?_⟩
      intro W hSw
      obtain ⟨⟨q0, q1, q2, q3, q4, q5, q6, q7, q8, q9, q10, q11, q12, q13⟩, q14⟩ := hSw
      go_simp
      try with_reducible rfl
    case hS3k => assumption
    try simp only [Act.put, List.setIfInBounds_toArray, List.set_cons_zero, List.set_cons_succ]
    refine wpAnyH_take (i := 4) (oi := ?oi4k) (v := ?v4k) ?hi4k ?hs4k ?hf4k ?hr4k ?hQ4k ?hy4k ?hS4k ?h4k
    case hi4k => exact (by simp only [List.getElem?_toArray, List.getElem?_cons_succ, List.getElem?_cons_zero]; rfl)
    case hs4k => kernel_rfl
    case hf4k => kernel_rfl
    case hr4k => kernel_rfl
    case hQ4k => exact fun _ _ _ h => h
    case hy4k =>
      refine Or.inl ⟨rfl, ?_⟩
      intro W hSw
      obtain ⟨⟨q0, q1, q2, q3, q4, q5, q6, q7, q8, q9, q10, q11, q12, q13⟩, q14⟩ := hSw
      go_simp
      try with_reducible rfl
    case hS4k => assumption
    try simp only [Act.put, List.setIfInBounds_toArray, List.set_cons_zero, List.set_cons_succ]
    refine wpAnyH_take (i := 5) (oi := ?oi5k) (v := ?v5k) ?hi5k ?hs5k ?hf5k ?hr5k ?hQ5k ?hy5k ?hS5k ?h5k
    case hi5k => exact (by simp only [List.getElem?_toArray, List.getElem?_cons_succ, List.getElem?_cons_zero]; rfl)
    case hs5k => kernel_rfl
    case hf5k => kernel_rfl
    case hr5k => kernel_rfl
    case hQ5k => exact fun _ _ _ h => h
    case hy5k =>
      refine Or.inl ⟨rfl, ?_⟩
      intro W hSw
      obtain ⟨⟨q0, q1, q2, q3, q4, q5, q6, q7, q8, q9, q10, q11, q12, q13⟩, q14⟩ := hSw
      go_simp
      try with_reducible rfl
    case hS5k => assumption
    try simp only [Act.put, List.setIfInBounds_toArray, List.set_cons_zero, List.set_cons_succ]
    refine wpAnyH_ready (rs := [6, 10]) (by kernel_rfl) (by simp) ?_
    refine AllReadyH.cons (o := _) rfl (fun K hK => ?_) (AllReadyH.cons (o := _) rfl (fun K hK => ?_) AllReadyH.nil)
    · go_simp
      refine (HMO.out Wk0 HDk.out).mono ?_
      rintro r Wa1 ⟨rfl, hbq⟩
      have HBWa1 := Lib.hid (HDk.out.trans (hbq.mono HDk.out.size))
      clear hbq
      refine hK.out _ _ (HS3.out _ (HBWa1.out)) (fun hHeld => ?_)
      clear hK K
      try simp only [Act.put, List.setIfInBounds_toArray, List.set_cons_zero, List.set_cons_succ]
      refine wpAnyH_take (i := 7) (oi := ?oi7ka) (v := ?v7ka) ?hi7ka ?hs7ka ?hf7ka ?hr7ka ?hQ7ka ?hy7ka ?hS7ka ?h7ka
      case hi7ka => exact (by simp only [List.getElem?_toArray, List.getElem?_cons_succ, List.getElem?_cons_zero]; rfl)
      case hs7ka => kernel_rfl
      case hf7ka => kernel_rfl
      case hr7ka => kernel_rfl
      case hQ7ka => exact fun _ _ _ h => h
      case hy7ka =>
        refine Or.inl ⟨rfl, ?_⟩
        intro W hSw
        obtain ⟨⟨q0, q1, q2, q3, q4, q5, q6, q7, q8, q9, q10, q11, q12, q13⟩, q14⟩ := hSw
        go_simp
        try with_reducible rfl
      case hS7ka => assumption
      try simp only [Act.put, List.setIfInBounds_toArray, List.set_cons_zero, List.set_cons_succ]
      refine wpAnyH_take (i := 8) (oi := ?oi8ka) (v := ?v8ka) ?hi8ka ?hs8ka ?hf8ka ?hr8ka ?hQ8ka ?hy8ka ?hS8ka ?h8ka
      case hi8ka => exact (by simp only [List.getElem?_toArray, List.getElem?_cons_succ, List.getElem?_cons_zero]; rfl)
      case hs8ka => kernel_rfl
      case hf8ka => kernel_rfl
      case hr8ka => kernel_rfl
      case hQ8ka => exact fun _ _ _ h => h
      case hy8ka =>
        refine Or.inl ⟨rfl, ?_⟩
        intro W hSw
        obtain ⟨⟨q0, q1, q2, q3, q4, q5, q6, q7, q8, q9, q10, q11, q12, q13⟩, q14⟩ := hSw
        go_simp
        try with_reducible rfl
      case hS8ka => assumption
      try simp only [Act.put, List.setIfInBounds_toArray, List.set_cons_zero, List.set_cons_succ]
      refine wpAnyH_take (i := 9) (oi := ?oi9ka) (v := ?v9ka) ?hi9ka ?hs9ka ?hf9ka ?hr9ka ?hQ9ka ?hy9ka ?hS9ka ?h9ka
      case hi9ka => exact (by simp only [List.getElem?_toArray, List.getElem?_cons_succ, List.getElem?_cons_zero]; rfl)
      case hs9ka => kernel_rfl
      case hf9ka => kernel_rfl
      case hr9ka => kernel_rfl
      case hQ9ka => exact fun _ _ _ h => h
      case hy9ka =>
        refine Or.inl ⟨rfl, ?_⟩
        intro W hSw
        obtain ⟨⟨q0, q1, q2, q3, q4, q5, q6, q7, q8, q9, q10, q11, q12, q13⟩, q14⟩ := hSw
        go_simp
        try with_reducible rfl
      case hS9ka => assumption
      try simp only [Act.put, List.setIfInBounds_toArray, List.set_cons_zero, List.set_cons_succ]
      refine wpAnyH_ready (rs := [10]) (by kernel_rfl) (by simp) ?_
      refine AllReadyH.cons (o := _) rfl (fun K hK => ?_) AllReadyH.nil
      go_simp
      obtain ⟨KB, hKB⟩ : ∃ k, k = Wa1.heap.size := ⟨_, rfl⟩
      obtain ⟨Wa2, hWa2⟩ : ∃ W, W = Wa1.alloc (.cells #[.int .i64 0, .int .i64 0, .int .i64 0, .int .i64 0, .int .i64 0] 68) := ⟨_, rfl⟩
      have hba : Below Wa1.heap.size Wa1 Wa2 := by rw [hWa2]; exact (Below.refl _ _).alloc (Nat.le_refl _) _
      have HBWa2 := Lib.hid (HBWa1.out.trans (hba.mono HBWa1.out.size))
      have HQWa2 : Hid (Wa2.heap[KB]? = some (.cells #[.int .i64 0, .int .i64 0, .int .i64 0, .int .i64 0, .int .i64 0] 68 (0, 0))) := by rw [hWa2, hKB]; exact heap_alloc_new _ _
      have HKB : Hid (w0.heap.size ≤ KB) := by rw [hKB]; exact HBWa1.out.size
      rw [← hWa2, ← hKB]
      clear hWa2 hKB
      refine hK.out _ _ (HS3.out _ (HBWa2.out)) (fun hHeld => ?_)
      clear hK K
      try simp only [Act.put, List.setIfInBounds_toArray, List.set_cons_zero, List.set_cons_succ]
      refine wpAnyH_ready (rs := [11]) (by kernel_rfl) (by simp) ?_
      refine AllReadyH.cons (o := _) rfl (fun K hK => ?_) AllReadyH.nil
      have hqr := HQWa2.out
      have x0 := cell_of_row _ KB 0 _ _ _ hqr
      have x1 := cell_of_row _ KB 1 _ _ _ hqr
      have x2 := cell_of_row _ KB 2 _ _ _ hqr
      have x3 := cell_of_row _ KB 3 _ _ _ hqr
      have x4 := cell_of_row _ KB 4 _ _ _ hqr
      simp at x0 x1 x2 x3 x4
      have xf : ∀ i, Wa2.frozen? ⟨KB, i, none⟩ = false := fun i => frozen_of_row _ _ i _ _ hqr
      go_simp
      obtain ⟨W9, hW9⟩ : ∃ W, W = (((((Wa2.setCell ⟨KB, 0, none⟩ (.int .i64 e0)).setCell ⟨KB, 1, none⟩ (.int .i64 e1)).setCell ⟨KB, 2, none⟩ (.int .i64 e2)).setCell ⟨KB, 3, none⟩ (.int .i64 e3)).setCell ⟨KB, 4, none⟩ (.int .i64 e4)) := ⟨_, rfl⟩
      have HC9 : Hid (W9.cell? ⟨KB, 0, none⟩ = some (.int .i64 e0)) := by rw [hW9]; exact (three (.int .i64 e0) (.int .i64 e1) (.int .i64 e2) (.int .i64 e3) (.int .i64 e4) hqr).1
      have HB9 : Hid (Below w0.heap.size w0 W9) := by rw [hW9]; exact three_below (.int .i64 e0) (.int .i64 e1) (.int .i64 e2) (.int .i64 e3) (.int .i64 e4) HBWa2.out HKB.out
      have HL9 : Hid (KB < W9.heap.size) := by rw [hW9]; have := lt_of_block hqr; simp only [Hid]; simpa using this
      rw [← hW9]
      clear hW9 hqr xf x0 x1 x2 x3 x4
      refine hK.out _ _ (HS3.out _ (HB9.out)) (fun hHeld => ?_)
      clear hK K
      try simp only [Act.put, List.setIfInBounds_toArray, List.set_cons_zero, List.set_cons_succ]
      refine wpAnyH_take (i := 12) (oi := ?oi12ka) (v := ?v12ka) ?hi12ka ?hs12ka ?hf12ka ?hr12ka ?hQ12ka ?hy12ka ?hS12ka ?h12ka
      case hi12ka => exact (by simp only [List.getElem?_toArray, List.getElem?_cons_succ, List.getElem?_cons_zero]; rfl)
      case hs12ka => kernel_rfl
      case hf12ka => kernel_rfl
      case hr12ka => kernel_rfl
      case hQ12ka => exact fun _ _ _ h => h
      case hy12ka =>
        refine Or.inl ⟨rfl, ?_⟩
        intro W hSw
        obtain ⟨⟨q0, q1, q2, q3, q4, q5, q6, q7, q8, q9, q10, q11, q12, q13⟩, q14⟩ := hSw
        go_simp
        try with_reducible rfl
      case hS12ka => assumption
      try simp only [Act.put, List.setIfInBounds_toArray, List.set_cons_zero, List.set_cons_succ]
      refine wpAnyH_done (by kernel_rfl) ?_ _
      go_wp2_with fail
      go_meet
      case rel => exact ⟨rfl, _, rfl, HC9.out, HL9.out, HB9.out⟩
    · go_simp
      obtain ⟨KB, hKB⟩ : ∃ k, k = Wk0.heap.size := ⟨_, rfl⟩
      obtain ⟨Wb1, hWb1⟩ : ∃ W, W = Wk0.alloc (.cells #[.int .i64 0, .int .i64 0, .int .i64 0, .int .i64 0, .int .i64 0] 68) := ⟨_, rfl⟩
      have hba : Below Wk0.heap.size Wk0 Wb1 := by rw [hWb1]; exact (Below.refl _ _).alloc (Nat.le_refl _) _
      have HBWb1 := Lib.hid (HDk.out.trans (hba.mono HDk.out.size))
      have HQWb1 : Hid (Wb1.heap[KB]? = some (.cells #[.int .i64 0, .int .i64 0, .int .i64 0, .int .i64 0, .int .i64 0] 68 (0, 0))) := by rw [hWb1, hKB]; exact heap_alloc_new _ _
      have HKB : Hid (w0.heap.size ≤ KB) := by rw [hKB]; exact HDk.out.size
      rw [← hWb1, ← hKB]
      clear hWb1 hKB
      refine hK.out _ _ (HS3.out _ (HBWb1.out)) (fun hHeld => ?_)
      clear hK K
      try simp only [Act.put, List.setIfInBounds_toArray, List.set_cons_zero, List.set_cons_succ]
      refine wpAnyH_ready (rs := [6]) (by kernel_rfl) (by simp) ?_
      refine AllReadyH.cons (o := _) rfl (fun K hK => ?_) AllReadyH.nil
      go_simp
      refine (HMO.out Wb1 HBWb1.out).mono ?_
      rintro r Wb2 ⟨rfl, hbq⟩
      have HBWb2 := Lib.hid (HBWb1.out.trans (hbq.mono HBWb1.out.size))
      have HQ9 := Lib.hid ((hbq.block _ (lt_of_block HQWb1.out)).trans HQWb1.out)
      clear hbq
      refine hK.out _ _ (HS3.out _ (HBWb2.out)) (fun hHeld => ?_)
      clear hK K
      try simp only [Act.put, List.setIfInBounds_toArray, List.set_cons_zero, List.set_cons_succ]
      refine wpAnyH_take (i := 7) (oi := ?oi7kb) (v := ?v7kb) ?hi7kb ?hs7kb ?hf7kb ?hr7kb ?hQ7kb ?hy7kb ?hS7kb ?h7kb
      case hi7kb => exact (by simp only [List.getElem?_toArray, List.getElem?_cons_succ, List.getElem?_cons_zero]; rfl)
      case hs7kb => kernel_rfl
      case hf7kb => kernel_rfl
      case hr7kb => kernel_rfl
      case hQ7kb => exact fun _ _ _ h => h
      case hy7kb =>
        refine Or.inl ⟨rfl, ?_⟩
        intro W hSw
        obtain ⟨⟨q0, q1, q2, q3, q4, q5, q6, q7, q8, q9, q10, q11, q12, q13⟩, q14⟩ := hSw
        go_simp
        try with_reducible rfl
      case hS7kb => assumption
      try simp only [Act.put, List.setIfInBounds_toArray, List.set_cons_zero, List.set_cons_succ]
      refine wpAnyH_take (i := 8) (oi := ?oi8kb) (v := ?v8kb) ?hi8kb ?hs8kb ?hf8kb ?hr8kb ?hQ8kb ?hy8kb ?hS8kb ?h8kb
      case hi8kb => exact (by simp only [List.getElem?_toArray, List.getElem?_cons_succ, List.getElem?_cons_zero]; rfl)
      case hs8kb => kernel_rfl
      case hf8kb => kernel_rfl
      case hr8kb => kernel_rfl
      case hQ8kb => exact fun _ _ _ h => h
      case hy8kb =>
        refine Or.inl ⟨rfl, ?_⟩
        intro W hSw
        obtain ⟨⟨q0, q1, q2, q3, q4, q5, q6, q7, q8, q9, q10, q11, q12, q13⟩, q14⟩ := hSw
        go_simp
        try with_reducible rfl
      case hS8kb => assumption
      try simp only [Act.put, List.setIfInBounds_toArray, List.set_cons_zero, List.set_cons_succ]
      refine wpAnyH_take (i := 9) (oi := ?oi9kb) (v := ?v9kb) ?hi9kb ?hs9kb ?hf9kb ?hr9kb ?hQ9kb ?hy9kb ?hS9kb ?h9kb
      case hi9kb => exact (by simp only [List.getElem?_toArray, List.getElem?_cons_succ, List.getElem?_cons_zero]; rfl)
      case hs9kb => kernel_rfl
      case hf9kb => kernel_rfl
      case hr9kb => kernel_rfl
      case hQ9kb => exact fun _ _ _ h => h
      case hy9kb =>
        refine Or.inl ⟨rfl, ?_⟩
        intro W hSw
        obtain ⟨⟨q0, q1, q2, q3, q4, q5, q6, q7, q8, q9, q10, q11, q12, q13⟩, q14⟩ := hSw
        go_simp
        try with_reducible rfl
      case hS9kb => assumption
      try simp only [Act.put, List.setIfInBounds_toArray, List.set_cons_zero, List.set_cons_succ]
      refine wpAnyH_ready (rs := [11]) (by kernel_rfl) (by simp) ?_
      refine AllReadyH.cons (o := _) rfl (fun K hK => ?_) AllReadyH.nil
      have hqr := HQ9.out
      have x0 := cell_of_row _ KB 0 _ _ _ hqr
      have x1 := cell_of_row _ KB 1 _ _ _ hqr
      have x2 := cell_of_row _ KB 2 _ _ _ hqr
      have x3 := cell_of_row _ KB 3 _ _ _ hqr
      have x4 := cell_of_row _ KB 4 _ _ _ hqr
      simp at x0 x1 x2 x3 x4
      have xf : ∀ i, Wb2.frozen? ⟨KB, i, none⟩ = false := fun i => frozen_of_row _ _ i _ _ hqr
      go_simp
      obtain ⟨W9, hW9⟩ : ∃ W, W = (((((Wb2.setCell ⟨KB, 0, none⟩ (.int .i64 e0)).setCell ⟨KB, 1, none⟩ (.int .i64 e1)).setCell ⟨KB, 2, none⟩ (.int .i64 e2)).setCell ⟨KB, 3, none⟩ (.int .i64 e3)).setCell ⟨KB, 4, none⟩ (.int .i64 e4)) := ⟨_, rfl⟩
      have HC9 : Hid (W9.cell? ⟨KB, 0, none⟩ = some (.int .i64 e0)) := by rw [hW9]; exact (three (.int .i64 e0) (.int .i64 e1) (.int .i64 e2) (.int .i64 e3) (.int .i64 e4) hqr).1
      have HB9 : Hid (Below w0.heap.size w0 W9) := by rw [hW9]; exact three_below (.int .i64 e0) (.int .i64 e1) (.int .i64 e2) (.int .i64 e3) (.int .i64 e4) HBWb2.out HKB.out
      have HL9 : Hid (KB < W9.heap.size) := by rw [hW9]; have := lt_of_block hqr; simp only [Hid]; simpa using this
      rw [← hW9]
      clear hW9 hqr xf x0 x1 x2 x3 x4
      refine hK.out _ _ (HS3.out _ (HB9.out)) (fun hHeld => ?_)
      clear hK K
      try simp only [Act.put, List.setIfInBounds_toArray, List.set_cons_zero, List.set_cons_succ]
      refine wpAnyH_take (i := 12) (oi := ?oi12kb) (v := ?v12kb) ?hi12kb ?hs12kb ?hf12kb ?hr12kb ?hQ12kb ?hy12kb ?hS12kb ?h12kb
      case hi12kb => exact (by simp only [List.getElem?_toArray, List.getElem?_cons_succ, List.getElem?_cons_zero]; rfl)
      case hs12kb => kernel_rfl
      case hf12kb => kernel_rfl
      case hr12kb => kernel_rfl
      case hQ12kb => exact fun _ _ _ h => h
      case hy12kb =>
        refine Or.inl ⟨rfl, ?_⟩
        intro W hSw
        obtain ⟨⟨q0, q1, q2, q3, q4, q5, q6, q7, q8, q9, q10, q11, q12, q13⟩, q14⟩ := hSw
        go_simp
        try with_reducible rfl
      case hS12kb => assumption
      try simp only [Act.put, List.setIfInBounds_toArray, List.set_cons_zero, List.set_cons_succ]
      refine wpAnyH_done (by kernel_rfl) ?_ _
      go_wp2_with fail
      go_meet
      case rel => exact ⟨rfl, _, rfl, HC9.out, HL9.out, HB9.out⟩
  case rest =>
  obtain ⟨rfl, KB, rfl, HKB, HKL, HR1⟩ := hcut
  rename World => w1
  clear HMO HS3
  obtain ⟨bi, hbi⟩ : ∃ b, b = decide (1 ≤ t.id ∧ t.id ≤ 2147483647) := ⟨_, rfl⟩
  have HRI := Lib.hid (right_any t.id w1)
  rw [← hbi] at HRI
  have HBI := Lib.hid hbi
  have HBW1 : Hid (Below w.heap.size w w1) := HB0.out.trans (HR1.out.mono HB0.out.size)
  obtain ⟨z0, z1, z2, z3, z4⟩ := HG.out w1 HR1.out
  clear hbi
  go_wp2_with fail
  refine HRI.out.mono ?_
  rintro r w1' ⟨rfl, hw⟩
  have hw := hw.symm
  subst hw
  cases bi
  · have E : Hid (errQ ml L t = 14) := if_pos (.inl (of_decide_eq_false HBI.out.symm))
    go_wp2
    go_ret
    exact ⟨by rw [E.out]; first | rfl | simp, by rw [E.out, if_neg (by decide)]; exact PutT.of_below HQB.out (HBW1.out)⟩

  have HNI : Hid (P.okN t.id) := by simp only [Hid]; exact of_decide_eq_true HBI.out.symm
  obtain ⟨bb, hbb⟩ : ∃ b, b = decide (¬ ∀ x ∈ t.mem, P.okN x) := ⟨_, rfl⟩
  have HBD := Lib.hid (bad_any s.a s.n s.c t.mem w1 HH1.out ((HRT.out.after HB0.out).after HR1.out) (by have := HH1.out; have := HLL.out; omega))
  rw [← hbb] at HBD
  have HBB := Lib.hid hbb
  clear hbb
  go_wp2_with fail
  refine HBD.out.mono ?_
  rintro r w2 ⟨rfl, hb2⟩
  have HR2 := Lib.hid (HR1.out.trans (hb2.mono HR1.out.size))
  have HBW2 : Hid (Below w.heap.size w w2) := HB0.out.trans (HR2.out.mono HB0.out.size)
  have k2 := (hb2.cell (p := ⟨KB, _, none⟩) HKL.out).trans HKB.out
  clear z0 z1 z2 z3 z4 hb2
  obtain ⟨z0, z1, z2, z3, z4⟩ := HG.out w2 HR2.out
  cases bb
  case true =>
    have E : Hid (errQ ml L t = 14) := if_pos (.inr (of_decide_eq_true HBB.out.symm))
    go_wp2
    go_ret
    exact ⟨by rw [E.out]; first | rfl | simp, by rw [E.out, if_neg (by decide)]; exact PutT.of_below HQB.out (HBW2.out)⟩

  have HNA : Hid (¬ (¬ P.okN t.id ∨ ¬ (∀ x ∈ t.mem, P.okN x))) := by
    rintro (hh | hh)
    · exact hh HNI.out
    · exact of_decide_eq_false HBB.out.symm hh
  cases bm
  · have E : Hid (errQ ml L t = 20) := by
      rw [Hid]
      unfold errQ
      rw [if_neg HNA.out, if_pos (of_decide_eq_false HBM.out.symm)]
    go_wp2
    go_ret
    exact ⟨by rw [E.out]; first | rfl | simp, by rw [E.out, if_neg (by decide)]; exact PutT.of_below HQB.out (HBW2.out)⟩

  have HMD : Hid (0 ≤ t.md ∧ t.md < (ml.length : Int)) := by simp only [Hid]; exact of_decide_eq_true HBM.out.symm
  by_cases hsz : t.mem.length = 0 ∨ e0 < (t.mem.length : Int)
  · have E : Hid (errQ ml L t = 21) := by
      rw [Hid]
      unfold errQ
      rw [if_neg HNA.out, if_neg (fun hh => hh HMD.out), if_pos (by rw [HE0.out]; exact hsz)]
    obtain ⟨n, hn⟩ : ∃ n, n = t.mem.length := ⟨_, rfl⟩
    have hsn : s.n = n := by rw [hn]; exact HH1.out
    rw [← hn] at hsz
    rw [hsn] at z2
    clear hsn hn
    by_cases hn0 : n = 0
    · subst hn0
      clear hsz
      go_wp2
      go_ret
      exact ⟨by rw [E.out]; first | rfl | simp, by rw [E.out, if_neg (by decide)]; exact PutT.of_below HQB.out (HBW2.out)⟩

    · have hlt : e0 < (n : Int) := hsz.resolve_left hn0
      clear hsz
      go_wp2
      go_ret
      exact ⟨by rw [E.out]; first | rfl | simp, by rw [E.out, if_neg (by decide)]; exact PutT.of_below HQB.out (HBW2.out)⟩

  have HSZ : Hid (¬ (t.mem.length = 0 ∨ (eM ml t.md).1 < (t.mem.length : Int))) := by rw [HE0.out]; exact hsz
  have hn0 : ((s.n : Int) == 0) = false := by rw [HH1.out]; exact beq_eq_false_iff_ne.2 (fun e => hsz (.inl (by omega)))
  have hlt : decide (e0 < (s.n : Int)) = false := by rw [HH1.out]; exact decide_eq_false (fun e => hsz (.inr e))
  clear hsz
  by_cases hrt : t.rt < 0 ∨ 10000 < t.rt
  · have E : Hid (errQ ml L t = 2) := by
      rw [Hid]
      unfold errQ
      rw [if_neg HNA.out, if_neg (fun hh => hh HMD.out), if_neg HSZ.out, if_pos hrt]
    obtain ⟨rt, hrt'⟩ : ∃ x, x = t.rt := ⟨_, rfl⟩
    rw [← hrt'] at hrt z3
    clear hrt'
    by_cases hr0 : rt < 0
    · clear hrt
      go_wp2
      go_ret
      exact ⟨by rw [E.out]; first | rfl | simp, by rw [E.out, if_neg (by decide)]; exact PutT.of_below HQB.out (HBW2.out)⟩

    · have hlt' : decide (10000 < rt) = true := decide_eq_true (hrt.resolve_left hr0)
      have hr0' : decide (rt < 0) = false := decide_eq_false hr0
      clear hrt hr0
      go_wp2
      go_ret
      exact ⟨by rw [E.out]; first | rfl | simp, by rw [E.out, if_neg (by decide)]; exact PutT.of_below HQB.out (HBW2.out)⟩

  have HRTG := Lib.hid hrt
  have HCL : Hid (∀ b : Bool, (b = true ↔ clashP L t.id t.mem) → Calls Try.prog 61 #[qp B, .agg (mC t.id t.md s t.rt t.sn)] w2 fun r w' => r = .returned (.bool b) ∧ Below w2.heap.size w2 w') := fun b hb =>
    clash_any B R mo vi ms L t.id t.md t.rt t.sn s t.mem b w2 (HQB.out.after HBW2.out) (by have := HL.out; omega) HM.out HH1.out ((HRT.out.after HB0.out).after HR2.out) HLL.out hb
  have hr1 : decide (t.rt < 0) = false := decide_eq_false fun e => hrt (.inl e)
  have hr2 : decide (10000 < t.rt) = false := decide_eq_false fun e => hrt (.inr e)
  clear hrt
  obtain ⟨bc, HBC⟩ : ∃ b : Bool, Hid (b = true ↔ clashP L t.id t.mem) := by
    classical
    exact ⟨decide (clashP L t.id t.mem), decide_eq_true_iff⟩
  have HCB := Lib.hid (HCL.out bc HBC.out)
  clear HCL
  go_wp2_with fail
  refine HCB.out.mono ?_
  rintro r w3 ⟨rfl, hb3⟩
  have HR3 := Lib.hid (HR2.out.trans (hb3.mono HR2.out.size))
  have HBW3 : Hid (Below w.heap.size w w3) := HB0.out.trans (HR3.out.mono HB0.out.size)
  clear z0 z1 z2 z3 z4 k2 hb3 hr1 hr2 hn0 hlt
  obtain ⟨z0, z1, z2, z3, z4⟩ := HG.out w3 HR3.out
  cases bc
  case true =>
    have E : Hid (errQ ml L t = 11) := by
      rw [Hid]
      unfold errQ
      rw [if_neg HNA.out, if_neg (fun hh => hh HMD.out), if_neg HSZ.out, if_neg HRTG.out, if_pos (HBC.out.1 rfl)]
    go_wp2
    go_ret
    exact ⟨by rw [E.out]; first | rfl | simp, by rw [E.out, if_neg (by decide)]; exact PutT.of_below HQB.out (HBW3.out)⟩

  have HNC : Hid (¬ clashP L t.id t.mem) := fun hh => by have := HBC.out.2 hh; cases this
  have HOF := Lib.hid (of_any t.md w3)
  go_wp2_with fail
  refine HOF.out.mono ?_
  rintro r w4 ⟨rfl, hw4⟩
  obtain ⟨KF, hKF⟩ : ∃ K, K = w3.heap.size := ⟨_, rfl⟩
  have hb4 : Below w3.heap.size w3 w4 := by rw [hw4]; exact (Below.refl _ _).alloc (Nat.le_refl _) _
  have hq4 : w4.heap[KF]? = some (.cells #[.int .i64 t.md] 3 (0, 0)) := by rw [hw4, hKF]; exact heap_alloc_new w3 _
  have HR4 := Lib.hid (HR3.out.trans (hb4.mono HR3.out.size))
  have HBW4 : Hid (Below w.heap.size w w4) := HB0.out.trans (HR4.out.mono HB0.out.size)
  have HTS := Lib.hid (those_96 B R mo vi ms L KF (fun e => decide (e.md = t.md)) w4 (HQB.out.after HBW4.out) (by have := HL.out; omega) (fun W e s' hW he hf =>
    mode_cl e.id e.md e.rt e.sn t.md s' KF W (Nat.lt_of_lt_of_le (lt_of_block hq4) hW.size) (by
      rw [cell_of_row W KF 0 _ _ _ ((hW.block KF (lt_of_block hq4)).trans hq4)]
      rfl)))
  rw [← hKF]
  clear hw4 hb4 hq4 hKF
  go_wp2_with fail
  refine HTS.out.mono ?_
  rintro r w6 ⟨A6, n6, c6, rfl, hpw, hb6⟩
  have hn6 : n6 = cntM L t.md := hpw.len
  have HR6 := Lib.hid (HR4.out.trans (hb6.mono HR4.out.size))
  have HB6 : Hid (Below w.heap.size w w6) := HB0.out.trans (HR6.out.mono HB0.out.size)
  have HN6 := Lib.hid hn6
  clear z0 z1 z2 z3 z4 hb6 hpw hn6
  obtain ⟨z0, z1, z2, z3, z4⟩ := HG.out w6 HR6.out
  by_cases h16 : 16 ≤ n6
  · have E : Hid (errQ ml L t = 10) := by
      rw [Hid]
      unfold errQ
      rw [if_neg HNA.out, if_neg (fun hh => hh HMD.out), if_neg HSZ.out, if_neg HRTG.out, if_neg HNC.out, if_pos (by rw [← HN6.out]; exact h16)]
    have h16i : decide ((16 : Int) ≤ (n6 : Int)) = true := decide_eq_true (by omega)
    have h16n : decide (16 ≤ n6) = true := decide_eq_true h16
    clear h16
    go_wp2
    go_ret
    exact ⟨by rw [E.out]; first | rfl | simp, by rw [E.out, if_neg (by decide)]; exact PutT.of_below HQB.out (HB6.out)⟩

  have E : Hid (errQ ml L t = 0) := by
    rw [Hid]
    unfold errQ
    rw [if_neg HNA.out, if_neg (fun hh => hh HMD.out), if_neg HSZ.out, if_neg HRTG.out, if_neg HNC.out, if_neg (by rw [← HN6.out]; exact h16)]
  have HROOM : Hid ((L.length : Int) < min mo 2147483647) := HRO.out HMD.out.1 HMD.out.2 (by rw [← HN6.out]; omega)
  have h16i : decide ((16 : Int) ≤ (n6 : Int)) = false := decide_eq_false (by omega)
  have h16n : decide (16 ≤ n6) = false := decide_eq_false h16
  have HQG : Hid (∀ W, Below w6.heap.size w6 W → W.heap[G]? = some (.cells (mC t.id t.md s t.rt t.sn) 72 (0, 0))) := fun W hW => by
    have hb := HR6.out.trans (hW.mono HR6.out.size)
    exact (hb.block G (lt_of_block HQ0.out)).trans HQ0.out
  have HGW : Hid (G < w6.heap.size) := lt_of_block (HQG.out w6 (Below.refl _ _))
  have HBR6 : Hid (Below w6.heap.size w6 w6) := Below.refl _ _
  have HS16 : Hid (∀ W, Below w6.heap.size w6 W → (fun W : World => W.cell? ⟨B, 14, none⟩ = some (qp R) ∧ W.cell? ⟨G, 0, none⟩ = some (.int .u32 (t.id : Int)) ∧ W.cell? ⟨G, 1, none⟩ = some (.int .i64 t.md) ∧ W.cell? ⟨G, 2, none⟩ = some (.slice s.a s.n s.c) ∧ W.cell? ⟨G, 3, none⟩ = some (.int .i64 t.rt) ∧ W.cell? ⟨G, 4, none⟩ = some (.int .i64 t.sn)) W) := fun W hW => ⟨((HQB.out.after HB6.out).after hW).ptr, HG.out W (HR6.out.trans (hW.mono HR6.out.size))⟩
  have HOWN : Hid (∀ W, Below w6.heap.size w6 W → Calls Try.prog 65 #[.agg (mC t.id t.md s t.rt t.sn)] W fun r w' => ∃ A c, r = .returned (.agg (mC t.id t.md ⟨A, t.mem.length, c⟩ t.rt t.sn)) ∧ w'.ownsRow w6.heap.size 26 1 (.slice A t.mem.length c) t.mem.length (un t.mem) ∧ Below W.heap.size W w') := fun W hW =>
    (own_any t.id t.md t.rt t.sn s t.mem W HH1.out (((HRT.out.after HB0.out).after HR6.out).after hW) HLL.out).mono fun r w' ⟨A, c, e1, e2, e3⟩ => ⟨A, c, e1, P.own_base' e2 hW.size, e3⟩
  have HADD : Hid (∀ W, Below w6.heap.size w6 W → ∀ A c, W.ownsRow w6.heap.size 26 1 (.slice A t.mem.length c) t.mem.length (un t.mem) → Calls Try.prog 64 #[qp R, .int .u32 (t.id : Int), .agg (mC t.id t.md ⟨A, t.mem.length, c⟩ t.rt t.sn)] W fun r w' => r = .returned (.int .i64 0) ∧ PutT B R mo vi ms (insT L t) W w' ∧ ∀ k, w.heap.size ≤ k → k < W.heap.size → w'.heap[k]? = W.heap[k]?) := fun W hW A c ho =>
    qadd_new B R mo vi ms L ⟨A, t.mem.length, c⟩ t w W HQB.out (HB6.out.trans (hW.mono HB6.out.size)) HL.out (fun e he hi => HNC.out (.inl (List.mem_map.2 ⟨e, he, hi⟩))) HNI.out HROOM.out (P.Fl.fresh ((HQB.out.after HB6.out).ctx) (Nat.le_refl _) ho)
  clear h16 z0 z1 z2 z3 z4
  go_upto_region 16 with (fail)
  have HDz : Hid (Below w6.heap.size w6 w6.drew) := HBR6.out.drew
  refine wp_region_held_drew (S := fun W : World => W.cell? ⟨B, 14, none⟩ = some (qp R) ∧ W.cell? ⟨G, 0, none⟩ = some (.int .u32 (t.id : Int)) ∧ W.cell? ⟨G, 1, none⟩ = some (.int .i64 t.md) ∧ W.cell? ⟨G, 2, none⟩ = some (.slice s.a s.n s.c) ∧ W.cell? ⟨G, 3, none⟩ = some (.int .i64 t.rt) ∧ W.cell? ⟨G, 4, none⟩ = some (.int .i64 t.sn)) (by kernel_rfl) (HS16.out _ (HDz.out)) (fun hHeld => ?_)
  obtain ⟨Wz0, hW0⟩ : ∃ W0, W0 = w6.drew := ⟨_, rfl⟩
  rw [← hW0] at hHeld HDz ⊢
  clear hW0
  refine wpAnyH_take (i := 0) (oi := ?oi0z) (v := ?v0z) ?hi0z ?hs0z ?hf0z ?hr0z ?hQ0z ?hy0z ?hS0z ?h0z
  case hi0z => exact (by simp only [List.getElem?_toArray, List.getElem?_cons_zero]; rfl)
  case hs0z => kernel_rfl
  case hf0z => kernel_rfl
  case hr0z => kernel_rfl
  case hQ0z => exact fun _ _ _ h => h
  case hy0z =>
    refine Or.inl ⟨rfl, ?_⟩
    intro W hSw
    obtain ⟨q0, q1, q2, q3, q4, q5⟩ := hSw
    go_simp
    try with_reducible rfl
  case hS0z => assumption
  try simp only [Act.put, List.setIfInBounds_toArray, List.set_cons_zero, List.set_cons_succ]
  refine wpAnyH_take (i := 1) (oi := ?oi1z) (v := ?v1z) ?hi1z ?hs1z ?hf1z ?hr1z ?hQ1z ?hy1z ?hS1z ?h1z
  case hi1z => exact (by simp only [List.getElem?_toArray, List.getElem?_cons_succ, List.getElem?_cons_zero]; rfl)
  case hs1z => kernel_rfl
  case hf1z => kernel_rfl
  case hr1z => kernel_rfl
  case hQ1z => exact fun _ _ _ h => h
  case hy1z =>
    refine Or.inl ⟨rfl, ?_⟩
    intro W hSw
    obtain ⟨q0, q1, q2, q3, q4, q5⟩ := hSw
    go_simp
    try with_reducible rfl
  case hS1z => assumption
  try simp only [Act.put, List.setIfInBounds_toArray, List.set_cons_zero, List.set_cons_succ]
  refine wpAnyH_take (i := 2) (oi := ?oi2z) (v := ?v2z) ?hi2z ?hs2z ?hf2z ?hr2z ?hQ2z ?hy2z ?hS2z ?h2z
  case hi2z => exact (by simp only [List.getElem?_toArray, List.getElem?_cons_succ, List.getElem?_cons_zero]; rfl)
  case hs2z => kernel_rfl
  case hf2z => kernel_rfl
  case hr2z => kernel_rfl
  case hQ2z => exact fun _ _ _ h => h
  case hy2z =>
    refine Or.inl ⟨rfl, ?_⟩
    intro W hSw
    obtain ⟨q0, q1, q2, q3, q4, q5⟩ := hSw
    go_simp
    try with_reducible rfl
  case hS2z => assumption
  try simp only [Act.put, List.setIfInBounds_toArray, List.set_cons_zero, List.set_cons_succ]
  refine wpAnyH_take (i := 3) (oi := ?oi3z) (v := ?v3z) ?hi3z ?hs3z ?hf3z ?hr3z ?hQ3z ?hy3z ?hS3z ?h3z
  case hi3z => exact (by simp only [List.getElem?_toArray, List.getElem?_cons_succ, List.getElem?_cons_zero]; rfl)
  case hs3z => kernel_rfl
  case hf3z => kernel_rfl
  case hr3z => kernel_rfl
  case hQ3z => exact fun _ _ _ h => h
  case hy3z =>
    refine Or.inl ⟨rfl, ?_⟩
    intro W hSw
    obtain ⟨q0, q1, q2, q3, q4, q5⟩ := hSw
    go_simp
    try with_reducible rfl
  case hS3z => assumption
  try simp only [Act.put, List.setIfInBounds_toArray, List.set_cons_zero, List.set_cons_succ]
  refine wpAnyH_take (i := 4) (oi := ?oi4z) (v := ?v4z) ?hi4z ?hs4z ?hf4z ?hr4z ?hQ4z ?hy4z ?hS4z ?h4z
  case hi4z => exact (by simp only [List.getElem?_toArray, List.getElem?_cons_succ, List.getElem?_cons_zero]; rfl)
  case hs4z => kernel_rfl
  case hf4z => kernel_rfl
  case hr4z => kernel_rfl
  case hQ4z => exact fun _ _ _ h => h
  case hy4z =>
    refine Or.inl ⟨rfl, ?_⟩
    intro W hSw
    obtain ⟨q0, q1, q2, q3, q4, q5⟩ := hSw
    go_simp
    try with_reducible rfl
  case hS4z => assumption
  try simp only [Act.put, List.setIfInBounds_toArray, List.set_cons_zero, List.set_cons_succ]
  refine wpAnyH_take (i := 5) (oi := ?oi5z) (v := ?v5z) ?hi5z ?hs5z ?hf5z ?hr5z ?hQ5z ?hy5z ?hS5z ?h5z
  case hi5z => exact (by simp only [List.getElem?_toArray, List.getElem?_cons_succ, List.getElem?_cons_zero]; rfl)
  case hs5z => kernel_rfl
  case hf5z => kernel_rfl
  case hr5z => kernel_rfl
  case hQ5z => exact fun _ _ _ h => h
  case hy5z =>
    refine Or.inl ⟨rfl, ?_⟩
    intro W hSw
    obtain ⟨q0, q1, q2, q3, q4, q5⟩ := hSw
    go_simp
    try with_reducible rfl
  case hS5z => assumption
  try simp only [Act.put, List.setIfInBounds_toArray, List.set_cons_zero, List.set_cons_succ]
  refine wpAnyH_take (i := 6) (oi := ?oi6z) (v := ?v6z) ?hi6z ?hs6z ?hf6z ?hr6z ?hQ6z ?hy6z ?hS6z ?h6z
  case hi6z => exact (by simp only [List.getElem?_toArray, List.getElem?_cons_succ, List.getElem?_cons_zero]; rfl)
  case hs6z => kernel_rfl
  case hf6z => kernel_rfl
  case hr6z => kernel_rfl
  case hQ6z => exact fun _ _ _ h => h
  case hy6z =>
    refine Or.inl ⟨rfl, ?_⟩
    intro W hSw
    obtain ⟨q0, q1, q2, q3, q4, q5⟩ := hSw
    go_simp
    try with_reducible rfl
  case hS6z => assumption
  try simp only [Act.put, List.setIfInBounds_toArray, List.set_cons_zero, List.set_cons_succ]
  refine wpAnyH_ready (rs := [7]) (by kernel_rfl) (by simp) ?_
  refine AllReadyH.cons (o := _) rfl (fun K hK => ?_) AllReadyH.nil
  go_simp
  refine (HOWN.out Wz0 HDz.out).mono ?_
  rintro r Wz1 ⟨A1, c1, rfl, ho1, hbq⟩
  have HBz1 := Lib.hid (HDz.out.trans (hbq.mono HDz.out.size))
  have HO1 := Lib.hid ho1
  clear ho1
  clear hbq
  refine hK.out _ _ (HS16.out _ (HBz1.out)) (fun hHeld => ?_)
  clear hK K
  try simp only [Act.put, List.setIfInBounds_toArray, List.set_cons_zero, List.set_cons_succ]
  refine wpAnyH_ready (rs := [8]) (by kernel_rfl) (by simp) ?_
  refine AllReadyH.cons (o := _) rfl (fun K hK => ?_) AllReadyH.nil
  have hq8 := HADD.out Wz1 HBz1.out A1 c1 HO1.out
  go_simp
  refine hq8.mono ?_
  rintro r W9 ⟨rfl, hp, hkp⟩
  have HPF := Lib.hid (hp.from (Nat.le_of_lt HQB.out.ctx.1) (HB6.out.trans (HBz1.out.mono HB6.out.size)))
  have HS9 : Hid ((fun W : World => W.cell? ⟨B, 14, none⟩ = some (qp R) ∧ W.cell? ⟨G, 0, none⟩ = some (.int .u32 (t.id : Int)) ∧ W.cell? ⟨G, 1, none⟩ = some (.int .i64 t.md) ∧ W.cell? ⟨G, 2, none⟩ = some (.slice s.a s.n s.c) ∧ W.cell? ⟨G, 3, none⟩ = some (.int .i64 t.rt) ∧ W.cell? ⟨G, 4, none⟩ = some (.int .i64 t.sn)) W9) := by
    obtain ⟨vi', hbq9, _⟩ := hp
    have hq := (hkp G (by have := HGG.out; omega) (Nat.lt_of_lt_of_le HGW.out HBz1.out.size)).trans (HQG.out _ HBz1.out)
    have x0 := cell_of_row _ G 0 _ _ _ hq
    have x1 := cell_of_row _ G 1 _ _ _ hq
    have x2 := cell_of_row _ G 2 _ _ _ hq
    have x3 := cell_of_row _ G 3 _ _ _ hq
    have x4 := cell_of_row _ G 4 _ _ _ hq
    exact ⟨hbq9.ptr, by simpa using x0, by simpa using x1, by simpa using x2, by simpa using x3, by simpa using x4⟩
  clear hq8 hp hkp
  refine hK.out _ _ (HS9.out) (fun hHeld => ?_)
  clear hK K
  try simp only [Act.put, List.setIfInBounds_toArray, List.set_cons_zero, List.set_cons_succ]
  refine wpAnyH_take (i := 9) (oi := ?oi9z) (v := ?v9z) ?hi9z ?hs9z ?hf9z ?hr9z ?hQ9z ?hy9z ?hS9z ?h9z
  case hi9z => exact (by simp only [List.getElem?_toArray, List.getElem?_cons_succ, List.getElem?_cons_zero]; rfl)
  case hs9z => kernel_rfl
  case hf9z => kernel_rfl
  case hr9z => kernel_rfl
  case hQ9z => exact fun _ _ _ h => h
  case hy9z =>
    refine Or.inl ⟨rfl, ?_⟩
    intro W hSw
    obtain ⟨q0, q1, q2, q3, q4, q5⟩ := hSw
    go_simp
    try with_reducible rfl
  case hS9z => assumption
  try simp only [Act.put, List.setIfInBounds_toArray, List.set_cons_zero, List.set_cons_succ]
  refine wpAnyH_done (by kernel_rfl) ?_ _
  go_wp2_with fail
  go_ret
  exact ⟨by rw [E.out]; rfl, by rw [E.out, if_pos rfl]; exact HPF.out⟩
end Go.Proofs.Ytemjmnpclknfaaa.T
