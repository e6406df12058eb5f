/- Queue: UA, UB, UC, one behind the other. -/
import Derived.Test.YtemjmnpclknfaaaGreatM1
import Derived.Lib.SlicesCompact
import Derived.Shelf.SlicesE.Compact
import Derived.Shelf.Lay
import Derived.Ground.SlgnProg
import Derived.Lib.OwnBridge
/- Queue: plain: what Compact leaves of a sorted row. -/
namespace Go.Proofs.YtemjmnpclknfaaaGreat.T
open Go.Lib
set_option linter.unusedVariables false

theorem comp_inv (d : Array Int) (hs : ∀ i j, i ≤ j → j < d.size → d[i]! ≤ d[j]!) : ∀ m, m ≤ d.size → (compactUpTo d m).Pairwise (· < ·) ∧ ∀ x, x ∈ compactUpTo d m ↔ ∃ j, j < m ∧ d[j]! = x
  | 0, _ => ⟨by simp [compactUpTo], fun x => by simp [compactUpTo]⟩
  | m + 1, hm => by
    obtain ⟨h1, h2⟩ := comp_inv d hs m (by omega)
    rw [compactUpTo_succ]
    by_cases hk : keeps d m = true
    · rw [if_pos hk]
      have hk' : m = 0 ∨ d[m]! ≠ d[m - 1]! := by simpa [keeps] using hk
      refine ⟨List.pairwise_append.2 ⟨h1, by simp, fun x hx y hy => ?_⟩, fun x => ?_⟩
      · rw [List.mem_singleton] at hy
        subst hy
        obtain ⟨j, hj, rfl⟩ := (h2 x).1 hx
        rcases hk' with h0 | hne
        · omega
        · have a1 := hs j (m - 1) (by omega) (by omega)
          have a2 := hs (m - 1) m (by omega) (by omega)
          omega
      · rw [List.mem_append, List.mem_singleton, h2]
        constructor
        · rintro (⟨j, hj, e⟩ | rfl)
          · exact ⟨j, by omega, e⟩
          · exact ⟨m, by omega, rfl⟩
        · rintro ⟨j, hj, e⟩
          by_cases hjm : j < m
          · exact .inl ⟨j, hjm, e⟩
          · have : j = m := by omega
            subst this
            exact .inr e.symm
    · rw [if_neg hk, List.append_nil]
      have hk' : ¬ m = 0 ∧ d[m]! = d[m - 1]! := by simpa [keeps] using hk
      refine ⟨h1, fun x => ?_⟩
      rw [h2]
      constructor
      · rintro ⟨j, hj, e⟩
        exact ⟨j, by omega, e⟩
      · rintro ⟨j, hj, e⟩
        by_cases hjm : j < m
        · exact ⟨j, hjm, e⟩
        · have : j = m := by omega
          subst this
          exact ⟨j - 1, by omega, by rw [← hk'.2]; exact e⟩
/-- Compact of a sorted row: rising, and nothing is lost. -/
theorem comp_sorted (l : List Int) (h : l.Pairwise (· ≤ ·)) : (compactUpTo l.toArray l.toArray.size).Pairwise (· < ·) ∧ ∀ x, x ∈ compactUpTo l.toArray l.toArray.size ↔ x ∈ l := by
  have hs : ∀ i j, i ≤ j → j < l.toArray.size → l.toArray[i]! ≤ l.toArray[j]! := fun i j hij hj => by
    have hj' : j < l.length := by simpa using hj
    have e : ∀ k, k < l.length → l.toArray[k]! = l[k]! := fun k hk => by simp
    rw [getElem!_pos l.toArray i (by simpa using (by omega : i < l.length)), getElem!_pos l.toArray j (by simpa using hj')]
    by_cases he : i = j
    · subst he; exact Int.le_refl _
    · simpa using List.pairwise_iff_getElem.1 h i j (by omega) hj' (by omega)
  obtain ⟨h1, h2⟩ := comp_inv l.toArray hs l.toArray.size (Nat.le_refl _)
  refine ⟨h1, fun x => ?_⟩
  rw [h2, List.mem_iff_getElem]
  constructor
  · rintro ⟨j, hj, e⟩
    rw [getElem!_pos l.toArray j hj] at e
    exact ⟨j, by simpa using hj, by simpa using e⟩
  · rintro ⟨j, hj, e⟩
    exact ⟨j, by simpa using hj, by rw [getElem!_pos l.toArray j (by simpa using hj)]; simpa using e⟩
theorem nodup_len : ∀ (l m : List Nat), l.Nodup → (∀ x ∈ l, x ∈ m) → l.length ≤ m.length
  | [], m, _, _ => Nat.zero_le _
  | x :: l, m, h, hs => by
    rw [List.nodup_cons] at h
    have hx := hs x (by simp)
    have := nodup_len l (m.erase x) h.2 (fun y hy => (List.mem_erase_of_ne (fun e => by subst e; exact h.1 hy)).2 (hs y (by simp [hy])))
    rw [List.length_erase_of_mem hx] at this
    have := List.length_pos_of_mem hx
    simp
    omega
theorem not_nodup : ∀ (l : List Nat), ¬ l.Nodup → ∃ x ∈ l, x ∈ l.erase x
  | [], h => absurd List.nodup_nil h
  | a :: l, h => by
    rw [List.nodup_cons] at h
    by_cases ha : a ∈ l
    · exact ⟨a, by simp, by simp [ha]⟩
    · obtain ⟨x, h1, h2⟩ := not_nodup l (fun h' => h ⟨ha, h'⟩)
      refine ⟨x, by simp [h1], ?_⟩
      have hxa : ¬ (a == x) = true := fun e => ha (by rw [eq_of_beq e]; exact h1)
      rw [List.erase_cons, if_neg hxa]
      simp [h2]
/-- A rising row of the same numbers is shorter just where one stands twice. -/
theorem rise_len {zs l : List Nat} (hp : zs.Pairwise (· < ·)) (hm : ∀ y, y ∈ zs ↔ y ∈ l) : zs.length < l.length ↔ ¬ l.Nodup := by
  have hz : zs.Nodup := hp.imp fun {a b} h => by omega
  constructor
  · intro h hn
    have := nodup_len l zs hn (fun x hx => (hm x).2 hx)
    omega
  · intro h
    obtain ⟨x, h1, h2⟩ := not_nodup l h
    have := nodup_len zs (l.erase x) hz (fun y hy => by
      by_cases e : y = x
      · rw [e]; exact h2
      · exact (List.mem_erase_of_ne e).2 ((hm y).1 hy))
    rw [List.length_erase_of_mem h1] at this
    have := List.length_pos_of_mem h1
    omega
end Go.Proofs.YtemjmnpclknfaaaGreat.T

/- Queue: slices.Compact of a sorted row of one's own. -/
namespace Go.Proofs
open Go.Shelf
shelf_lay_g SlLaysE.n43 Slgn 43 at Tryz 59 as YtemjmnpclknfaaaGreat.T.cmU
namespace YtemjmnpclknfaaaGreat.T
open Go.RowKit Go.Lib
open Go.Proofs.YtemjmnpclknfaaaGreat.P (Sl un)
set_option linter.unusedVariables false

theorem zeroU (w : World) : (zeroValue 33).run Tryz.prog w = .ok (.int .u32 0) w := by kernel_rfl
theorem comp_nil (w : World) : Calls Tryz.prog 59 #[.slice none 0 0] w fun r w' => r = .returned (.slice none 0 0) ∧ w' = w := by
  go_enter Tryz.func59, Tryz.ntmps59
  go_wp2
  go_ret
  exact ⟨rfl, rfl⟩
theorem un_int (l : List Nat) : (l.map (fun x : Nat => (x : Int))).map (Value.int .u32) = un l := by unfold un; rw [List.map_map]; rfl
/-- What Compact leaves of a sorted row of one's own. -/
theorem comp_own (B : Nat) (v : Value) (l : List Nat) (w : World) (h : w.ownsRow B 33 1 v l.length (un l)) (hs : l.Pairwise (· ≤ ·)) :
    Calls Tryz.prog 59 #[v] w fun r w' => ∃ v' zs, r = .returned v' ∧ w'.ownsRow B 33 1 v' zs.length (un zs) ∧ zs.Pairwise (· < ·) ∧ (∀ y, y ∈ zs ↔ y ∈ l) ∧ Below B w w' ∧ ∀ k, v.ownBlock ≠ some k → w'.heap[k]? = w.heap[k]? := by
  by_cases hv : v = .slice none 0 0
  · subst hv
    have hl : l = [] := by
      rcases h.2 with ⟨_, h0⟩ | ⟨g, cap, cur, e, _⟩
      · exact List.eq_nil_of_length_eq_zero h0
      · cases e
    subst hl
    exact (comp_nil w).mono fun r w' ⟨h1, h2⟩ => ⟨_, [], h1, by rw [h2]; exact h, List.Pairwise.nil, fun y => Iff.rfl, by rw [h2]; exact Below.refl _ _, fun k _ => by rw [h2]⟩
  · rw [← un_int] at h
    obtain ⟨g, cap, rfl, hg, hgs, hn, hm, hlen, hH⟩ := holds_of_ownsRow h hv
    obtain ⟨zi, hzi⟩ : ∃ zi, zi = l.map (fun x : Nat => (x : Int)) := ⟨_, rfl⟩
    rw [← hzi] at h hH hlen
    have hsz : zi.toArray.size = l.length := by simp [hlen]
    have hsi : zi.Pairwise (· ≤ ·) := by rw [hzi]; exact List.pairwise_map.2 (hs.imp fun {a b} h => by omega)
    obtain ⟨c1, c2⟩ := comp_sorted zi hsi
    have hc := AnyE.slices_Compact (α := Int) cmU (Value.int .u32) (fun _ => rfl) (EqlAt.intD _ _ .u32) (NeqAt.intD _ _ .u32) 0 zeroU g 0 cap zi.toArray w hH (by rw [hsz]; simp only [maxLen] at hm; omega) (by rw [hsz]; exact hn)
    obtain ⟨ys, hys⟩ : ∃ ys, ys = compactUpTo zi.toArray zi.toArray.size := ⟨_, rfl⟩
    rw [← hys] at hc c1 c2
    have hle : ys.length ≤ l.length := by
      have h1 : ys.length ≤ zi.toArray.size := by rw [hys]; unfold compactUpTo; rw [List.length_map]; exact Nat.le_trans (List.length_filter_le _ _) (by simp)
      rw [hsz] at h1
      exact h1
    have hnn : ∀ x ∈ ys, 0 ≤ x := fun x hx => by
      have := (c2 x).1 hx
      rw [hzi] at this
      obtain ⟨y, _, rfl⟩ := List.mem_map.1 this
      omega
    obtain ⟨zs, hzs⟩ : ∃ zs : List Nat, zs = ys.map Int.toNat := ⟨_, rfl⟩
    have hun : un zs = ys.map (Value.int .u32) := by
      rw [hzs]
      unfold un
      rw [List.map_map]
      refine List.map_congr_left fun x hx => ?_
      have := hnn x hx
      show Value.int .u32 ((x.toNat : Nat) : Int) = _
      rw [show ((x.toNat : Nat) : Int) = x by omega]
    have hzl : zs.length = ys.length := by rw [hzs, List.length_map]
    rw [hsz] at hc
    refine hc.mono ?_
    rintro r w' ⟨rfl, q, rfl⟩
    refine ⟨_, zs, rfl, ?_, ?_, ?_, below_putRow (Below.refl _ _) hg, fun k hk => ?_⟩
    · have := ownsRow_putRow (q := q) (k := ys.length) (ys := ys ++ List.replicate (l.length - ys.length) 0) h (by simp; omega) hle
      rw [List.take_left] at this
      rw [hun, hzl]
      exact this
    · rw [hzs, List.pairwise_map]
      refine List.Pairwise.imp_of_mem (fun {a b} ha hb hab => ?_) c1
      have := hnn a ha
      have := hnn b hb
      omega
    · intro y
      rw [hzs, List.mem_map]
      constructor
      · rintro ⟨x, hx, rfl⟩
        have := (c2 x).1 hx
        rw [hzi] at this
        obtain ⟨z, hz, rfl⟩ := List.mem_map.1 this
        simpa using hz
      · intro hy
        exact ⟨(y : Int), (c2 _).2 (by rw [hzi]; exact List.mem_map.2 ⟨y, hy, rfl⟩), by simp⟩
    · have hk' : g ≠ k := fun e => hk (by rw [e]; rfl)
      simp [Sort.putRow, Sort.mapBlock, Sort.ahead, Array.getElem?_modify, hk']
end YtemjmnpclknfaaaGreat.T
end Go.Proofs

/- Queue: a ticket is put into the rack. -/
namespace Go.Proofs.YtemjmnpclknfaaaGreat.T
open Go.RowKit
open Go.Proofs.YtemjmnpclknfaaaGreat.P (Sl un)
set_option maxRecDepth 20000
set_option linter.unusedVariables false
set_option linter.unusedSimpArgs false


/-- What a rack's call keeps. -/
structure Stp (R : Nat) (vi vi' : Value) (w w' : World) : Prop where
  below : Below R w w'
  size : w.heap.size ≤ w'.heap.size
  fz : Fz vi vi' w
  keep : ∀ g cur T, w.heap[g]? = some (.cells cur T (0, 0)) → T ≠ 39 → T ≠ 89 → (T = 33 → vi.ownBlock ≠ some g) → w'.heap[g]? = w.heap[g]?
theorem Stp.of_below {R : Nat} {vi : Value} {w w' : World} (hR : R ≤ w.heap.size) (h : Below w.heap.size w w') : Stp R vi vi w w' := ⟨h.mono hR, h.size, fun g hg => .inl hg, fun g cur T hg _ _ _ => h.block g (lt_of_block hg)⟩
theorem Stp.trans {R : Nat} {vi vi1 vi2 : Value} {w w1 w2 : World} (h : Stp R vi vi1 w w1) (h' : Stp R vi1 vi2 w1 w2) : Stp R vi vi2 w w2 :=
  ⟨h.below.trans h'.below, Nat.le_trans h.size h'.size, fun g hg => by
    rcases h'.fz g hg with e | e
    · exact h.fz g e
    · exact .inr (Nat.le_trans h.size e), fun g cur T hg h1 h2 h3 => by
    have k1 := h.keep g cur T hg h1 h2 h3
    exact (h'.keep g cur T (k1.trans hg) h1 h2 (fun e hv => (h.fz g hv).elim (h3 e) (fun hs => by have := lt_of_block hg; omega))).trans k1⟩
theorem fl_stp {w w' : World} {R : Nat} {vi vi' : Value} {s : Sl} {l : List Nat} (h : P.Fl w R vi s l) (hs : Stp R vi vi' w w') : P.Fl w' R vi' s l := ⟨h.1, fun hl => by
  obtain ⟨b, o, e1, e2, e3, ⟨cur, e4⟩, e5⟩ := h.2 hl
  have k := hs.keep b cur 33 e4 (by decide) (by decide) (fun _ => e3)
  exact ⟨b, o, e1, e2, fun hv => (hs.fz b hv).elim e3 (fun h => by have := lt_of_block e4; omega), ⟨cur, k.trans e4⟩, fun j x hj => (World.cell?_of_block k).trans (e5 j x hj)⟩⟩
/-- A rack's own change. -/
theorem stp_of {w w' : World} {R : Nat} {most : Int} {vi vi' vt : Value} {ids : List Nat} {ths : List Mk} (h : IsR w R most vi vt ids ths) (hc : ChR R vi vt w w') (hz : Fz vi vi' w) : Stp R vi vi' w w' :=
  ⟨hc.1, hc.2.1, hz, fun g cur T hg h1 h2 h3 => hc.2.2 g (lt_of_block hg) (fun e => by
    subst e
    rw [h.row] at hg
    injection hg with hg
    injection hg with _ hg
    exact h2 hg.symm) (fun e => by
    obtain ⟨cur', hg'⟩ := own_type h.rio e.symm
    rw [hg] at hg'
    injection hg' with hg'
    injection hg' with _ hg'
    exact h3 hg' e.symm) (fun e => by
    obtain ⟨cur', hg'⟩ := own_type h.rto e.symm
    rw [hg] at hg'
    injection hg' with hg'
    injection hg' with _ hg'
    exact h1 hg')⟩

def insT (L : List Tk) (g : Tk) : List Tk := L.filter (fun e => decide (e.id < g.id)) ++ g :: L.filter (fun e => decide (g.id < e.id))
theorem filtT_all {L : List Tk} {p : Tk → Bool} (h : ∀ e ∈ L, p e = true) : L.filter p = L := List.filter_eq_self.2 h
theorem filtT_no {L : List Tk} {p : Tk → Bool} (h : ∀ e ∈ L, p e = false) : L.filter p = [] := List.filter_eq_nil_iff.2 fun e he => by rw [h e he]; simp
theorem new_insT {L : List Tk} {p : Nat} {g : Tk} (h1 : ∀ e ∈ L.take p, e.id < g.id) (h2 : ∀ e ∈ L.drop p, g.id < e.id) : L.take p ++ [g] ++ L.drop p = insT L g := by
  have e1 : L.filter (fun e => decide (e.id < g.id)) = L.take p := by
    conv => lhs; rw [← List.take_append_drop p L]
    rw [List.filter_append, filtT_all (fun e he => by simpa using h1 e he), filtT_no (fun e he => by have := h2 e he; simp; omega), List.append_nil]
  have e2 : L.filter (fun e => decide (g.id < e.id)) = L.drop p := by
    conv => lhs; rw [← List.take_append_drop p L]
    rw [List.filter_append, filtT_no (fun e he => by have := h1 e he; simp; omega), filtT_all (fun e he => by simpa using h2 e he), List.nil_append]
  unfold insT
  rw [e1, e2]
  simp

theorem insT_perm {L : List Tk} {g : Tk} (h : ∀ e ∈ L, e.id ≠ g.id) : (insT L g).Perm (g :: L) := by
  have e1 : L.filter (fun e => decide (g.id < e.id)) = L.filter (fun e => !decide (e.id < g.id)) := List.filter_congr fun e he => by
    have := h e he
    by_cases h1 : e.id < g.id
    · rw [decide_eq_true h1, decide_eq_false (by omega)]; rfl
    · rw [decide_eq_false h1, decide_eq_true (by omega)]; rfl
  unfold insT
  rw [e1]
  exact List.perm_middle.trans ((List.filter_append_perm (fun e => decide (e.id < g.id)) L).cons g)
theorem mem_insT {L : List Tk} {g e : Tk} (h : ∀ e ∈ L, e.id ≠ g.id) : e ∈ insT L g ↔ e = g ∨ e ∈ L := by
  rw [(insT_perm h).mem_iff, List.mem_cons]
theorem Bq.ctx {w : World} {B R : Nat} {mo : Int} {vi : Value} {ms : Sl} {L : List Tk} (h : Bq w B R mo vi ms L) : P.Ctx w R vi := by
  obtain ⟨vt, ths, h1, _⟩ := h.ex
  exact ⟨lt_of_block h1.row, fun g hg => (ownlt h1.rio g hg).2⟩
theorem isr_one {w : World} {R : Nat} {mo : Int} {vi vt vt2 : Value} {ids : List Nat} {ths ths2 : List Mk} (h : IsR w R mo vi vt ids ths) (h2 : IsR w R mo vi vt2 ids ths2) : vt2 = vt ∧ ths2 = ths := by
  have e := h.row
  rw [h2.row] at e
  injection e with e
  injection e with e
  simp at e
  subst e
  refine ⟨rfl, List.ext_getElem? fun i => ?_⟩
  have hl := h.len
  have hl2 := h2.len
  by_cases hi : i < ids.length
  · obtain ⟨g, cap, a1, a2, a3, a4, a5, hv, ht, q0, q1, q2, q3, q4⟩ := thing_at h (p := i) hi
    obtain ⟨g', cap', b1, b2, b3, b4, b5, hv', ht', p0, p1, p2, p3, p4⟩ := thing_at h2 (p := i) hi
    rw [hv] at hv'
    injection hv' with hv'
    injection hv' with hv'
    injection hv' with hv'
    subst hv'
    rw [q0] at p0
    rw [q1] at p1
    rw [q2] at p2
    rw [q3] at p3
    rw [q4] at p4
    simp at p0 p1 p2 p3 p4
    obtain ⟨c1, c2, c3⟩ := p2
    have e3 : a3 = b3 := by cases a3; cases b3; simp at c1 c2 c3; simp [c1, c2, c3]
    rw [ht, ht', show b1 = a1 by omega, show b2 = a2 by omega, ← e3, show b4 = a4 by omega, show b5 = a5 by omega]
  · rw [List.getElem?_eq_none (by omega), List.getElem?_eq_none (by omega)]
/-- A rack of tickets nothing of which lies in block N. -/
def AvQ (w : World) (R : Nat) (mo : Int) (vi : Value) (L : List Tk) (N : Nat) : Prop := vi.ownBlock ≠ some N ∧ ∃ vt ths, IsR w R mo vi vt (L.map (·.id)) ths ∧ ∀ (i : Nat) (p : Tk), L[i]? = some p → ∃ s : Sl, ths[i]? = some (tk (s, p)) ∧ P.Fl w R vi s p.mem ∧ (0 < p.mem.length → ∀ b o, s.a = some ⟨b, o, none⟩ → b ≠ N)
/-- A rack neither of whose rows lies in block N. -/
def AvT (w : World) (R : Nat) (mo : Int) (vi : Value) (L : List Tk) (N : Nat) : Prop := ∃ vt ths, IsR w R mo vi vt (L.map (·.id)) ths ∧ vt.ownBlock ≠ some N ∧ vi.ownBlock ≠ some N ∧ R ≠ N
theorem AvT.after {w w' : World} {R : Nat} {mo : Int} {vi : Value} {L : List Tk} {N : Nat} (h : AvT w R mo vi L N) (hb : Below w.heap.size w w') : AvT w' R mo vi L N := by
  obtain ⟨vt, ths, h1, h2⟩ := h
  exact ⟨vt, ths, h1.after hb, h2⟩
theorem AvT.of {w W : World} {B R N : Nat} {mo : Int} {vi : Value} {ms : Sl} {L : List Tk} (h : Bq w B R mo vi ms L) (hb : Below w.heap.size w W) (hN : w.heap.size ≤ N) : AvT W R mo vi L N := by
  obtain ⟨vt, ths, h1, _⟩ := h.ex
  exact ⟨vt, ths, h1.after hb, fun e => by have := (ownlt h1.rto N e).2; omega, fun e => by have := (ownlt h1.rio N e).2; omega, fun e => by have := lt_of_block h1.row; omega⟩
theorem AvQ.of {w W : World} {B R N : Nat} {mo : Int} {vi : Value} {ms : Sl} {L : List Tk} (h : Bq w B R mo vi ms L) (hb : Below w.heap.size w W) (hN : w.heap.size ≤ N) : AvQ W R mo vi L N := by
  obtain ⟨vt, ths, h1, h2⟩ := h.ex
  refine ⟨fun e => by have := (ownlt h1.rio N e).2; omega, vt, ths, h1.after hb, fun i p hp => ?_⟩
  obtain ⟨s, e1, e2⟩ := h2 i p hp
  refine ⟨s, e1, e2.after hb, fun hl b o e => ?_⟩
  obtain ⟨b', o', e', _, _, ⟨cur, hc⟩, _⟩ := e2.2 hl
  rw [e] at e'
  injection e' with e'
  injection e' with e' _
  subst e'
  have := lt_of_block hc
  omega
theorem AvQ.after {w w' : World} {R : Nat} {mo : Int} {vi : Value} {L : List Tk} {N : Nat} (h : AvQ w R mo vi L N) (hb : Below w.heap.size w w') : AvQ w' R mo vi L N := by
  obtain ⟨h0, vt, ths, h1, h2⟩ := h
  exact ⟨h0, vt, ths, h1.after hb, fun i p hp => by
    obtain ⟨s, e1, e2, e3⟩ := h2 i p hp
    exact ⟨s, e1, e2.after hb, e3⟩⟩
/-- What a put does: the tickets then, and what is kept. -/
def PutT (nb B R : Nat) (mo : Int) (vi : Value) (ms : Sl) (L L' : List Tk) (w w' : World) : Prop := ∃ vi', Bq w' B R mo vi' ms L' ∧ Stp R vi vi' w w' ∧ ∀ N, N < nb → (AvQ w R mo vi L N → AvQ w' R mo vi' L' N) ∧ (AvT w R mo vi L N → w'.heap[N]? = w.heap[N]?)
theorem qadd_new (B R : Nat) (mo : Int) (vi : Value) (ms : Sl) (L : List Tk) (s : Sl) (g : Tk) (w0 w : World) (h0 : Bq w0 B R mo vi ms L) (hb0 : Below w0.heap.size w0 w) (hl : L.length ≤ 100) (hm : ∀ e ∈ L, e.id ≠ g.id) (hok : 1 ≤ g.id ∧ g.id ≤ 2147483647) (hf : (L.length : Int) < min mo 2147483647) (hg : P.Fl w R vi s g.mem) (hsb : ∀ b o, s.a = some ⟨b, o, none⟩ → w0.heap.size ≤ b) :
    Calls Tryz.prog 35 #[qp R, .int .u32 (g.id : Int), mV g.id g.md s g.rt g.sn] w fun r w' => r = .returned (.int .i64 0) ∧ PutT w0.heap.size B R mo vi ms L (insT L g) w w' ∧ ∀ k, w0.heap.size ≤ k → k < w.heap.size → w'.heap[k]? = w.heap[k]? := by
  obtain ⟨vt, ths, h10, h20⟩ := h0.ex
  have h1 := h10.after hb0
  have h2 : ∀ (i : Nat) (p : Tk), L[i]? = some p → ∃ s : Sl, ths[i]? = some (tk (s, p)) ∧ P.Fl w R vi s p.mem := fun i p hp => by
    obtain ⟨s, e1, e2⟩ := h20 i p hp
    exact ⟨s, e1, e2.after hb0⟩
  obtain ⟨cur, hB1, hB2, hB3⟩ := (h0.after hb0).blk
  have hkeep : ∀ w', ChR R vi vt w w' → ∀ k, w0.heap.size ≤ k → k < w.heap.size → w'.heap[k]? = w.heap[k]? := fun w' hch k hk1 hk2 => hch.2.2 k hk2 (fun e => by have := lt_of_block h10.row; omega) (fun e => by have := (ownlt h10.rio k e.symm).2; omega) (fun e => by have := (ownlt h10.rto k e.symm).2; omega)
  refine (add_new R mo vi vt _ ths g.id g.id g.md s g.rt g.sn w h1 (by simp; omega) (fun hx => by obtain ⟨e, he, hi⟩ := List.mem_map.1 hx; exact hm e he hi) hok (by simpa using hf)).mono ?_
  rintro r w' ⟨rfl, hch, p, vi', vt', hpl, hz, hi⟩
  have hs := stp_of h1 hch hz
  have hp : p ≤ L.length := by simpa using hpl.1
  have hlt : ths.length = L.length := by simpa using h1.len
  have e1 : insT L g = L.take p ++ [g] ++ L.drop p := (new_insT (fun e he => by
    obtain ⟨j, hj⟩ := List.mem_iff_getElem?.1 he
    rw [List.getElem?_take] at hj
    split at hj
    · exact hpl.2.1 j e.id (by assumption) (by rw [List.getElem?_map, hj]; rfl)
    · cases hj) (fun e he => by
    obtain ⟨j, hj⟩ := List.mem_iff_getElem?.1 he
    rw [List.getElem?_drop] at hj
    have a1 := hpl.2.2 (p + j) e.id (by omega) (by rw [List.getElem?_map, hj]; rfl)
    have a2 := hm e (List.mem_of_getElem? hj)
    omega)).symm
  refine ⟨rfl, ⟨vi', ⟨⟨cur, (hs.keep B _ 68 hB1 (by decide) (by decide) (fun e => absurd e (by decide))).trans hB1, hB2, hB3⟩, vt', ths.take p ++ [tk (s, g)] ++ ths.drop p, ?_, fun i q hq => ?_⟩, hs, fun M hM => ⟨fun hav => ?_, fun hat => ?_⟩⟩, hkeep w' hch⟩
  · rw [e1, List.map_append, List.map_append, List.map_take, List.map_drop]
    exact hi
  · rw [e1, P.ins_get _ _ _ hp] at hq
    rw [P.ins_get _ _ _ (by omega)]
    by_cases a1 : i < p
    · rw [if_pos a1] at hq ⊢
      obtain ⟨th, b1, b2⟩ := h2 i q hq
      exact ⟨th, b1, fl_stp b2 hs⟩
    · rw [if_neg a1] at hq ⊢
      by_cases a2 : i = p
      · rw [if_pos a2] at hq ⊢
        injection hq with hq
        subst hq
        exact ⟨_, rfl, fl_stp hg hs⟩
      · rw [if_neg a2] at hq ⊢
        obtain ⟨th, b1, b2⟩ := h2 (i - 1) q hq
        exact ⟨th, b1, fl_stp b2 hs⟩
  · obtain ⟨hv0, vt2, ths2, k1, k2⟩ := hav
    obtain ⟨rfl, rfl⟩ := isr_one h1 k1
    refine ⟨fun e => ?_, vt', ths2.take p ++ [tk (s, g)] ++ ths2.drop p, ?_, fun i q hq => ?_⟩
    · rcases hz M e with e | e
      · exact hv0 e
      · have := hb0.size
        omega
    · rw [e1, List.map_append, List.map_append, List.map_take, List.map_drop]
      exact hi
    · rw [e1, P.ins_get _ _ _ hp] at hq
      rw [P.ins_get _ _ _ (by omega)]
      by_cases a1 : i < p
      · rw [if_pos a1] at hq ⊢
        obtain ⟨th, b1, b2, b3⟩ := k2 i q hq
        exact ⟨th, b1, fl_stp b2 hs, b3⟩
      · rw [if_neg a1] at hq ⊢
        by_cases a2 : i = p
        · rw [if_pos a2] at hq ⊢
          injection hq with hq
          subst hq
          exact ⟨_, rfl, fl_stp hg hs, fun _ b o e => by have := hsb b o e; omega⟩
        · rw [if_neg a2] at hq ⊢
          obtain ⟨th, b1, b2, b3⟩ := k2 (i - 1) q hq
          exact ⟨th, b1, fl_stp b2 hs, b3⟩
  · obtain ⟨vt2, ths2, k1, k2, k3, k4⟩ := hat
    obtain ⟨rfl, rfl⟩ := isr_one h1 k1
    exact hch.2.2 M (Nat.lt_of_lt_of_le hM hb0.size) (fun e => k4 e.symm) (fun e => k3 e.symm) (fun e => k2 e.symm)
theorem Stp.from {R : Nat} {vi vi' : Value} {w W w' : World} (hR : R ≤ w.heap.size) (hB : Below w.heap.size w W) (h : Stp R vi vi' W w') : Stp R vi vi' w w' := (Stp.of_below hR hB).trans h
theorem PutT.from {nb B R : Nat} {mo : Int} {vi : Value} {ms : Sl} {L L' : List Tk} {w W w' : World} (hR : R ≤ w.heap.size) (hB : Below w.heap.size w W) (h : PutT nb B R mo vi ms L L' W w') (hn : nb ≤ w.heap.size) : PutT nb B R mo vi ms L L' w w' := by
  obtain ⟨vi', h1, h2, h3⟩ := h
  exact ⟨vi', h1, h2.from hR hB, fun N hN => ⟨fun hav => (h3 N hN).1 (hav.after hB), fun hat => ((h3 N hN).2 (hat.after hB)).trans (hB.block N (Nat.lt_of_lt_of_le hN hn))⟩⟩
theorem PutT.of_below {nb B R : Nat} {mo : Int} {vi : Value} {ms : Sl} {L : List Tk} {w w' : World} (h : Bq w B R mo vi ms L) (hb : Below w.heap.size w w') (hn : nb ≤ w.heap.size) : PutT nb B R mo vi ms L L w w' := ⟨vi, h.after hb, Stp.of_below (Nat.le_of_lt h.ctx.1) hb, fun N hN => ⟨fun hav => hav.after hb, fun _ => hb.block N (Nat.lt_of_lt_of_le hN hn)⟩⟩
theorem Rm.stp {w w' : World} {A : Option Addr} {l : List M5} {R : Nat} {vi vi' : Value} (h : Rm w A l) (hs : Stp R vi vi' w w') : Rm w' A l := fun hl => by
  obtain ⟨b, o, e1, ⟨cur, e2⟩, e3⟩ := h hl
  have k := hs.keep b cur 58 e2 (by decide) (by decide) (fun e => absurd e (by decide))
  exact ⟨b, o, e1, ⟨cur, k.trans e2⟩, fun j v hj => (World.cell?_of_block k).trans (e3 j v hj)⟩
end Go.Proofs.YtemjmnpclknfaaaGreat.T
