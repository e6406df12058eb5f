/- Penal: a book of one player at most; what came in as numbers. -/
import Derived.Test.YtfcogjdnnnpmdaaDoorRE
import Derived.Test.YtfcogjdnnnpmdaaDoorN8
namespace Go.Proofs.YtfcogjdnnnpmdaaDoor
open Go.ChangeShapes Go.WideShapes Go.ChangeAt Go.RowKit
set_option maxRecDepth 20000

def idl (x : Nat) : Option Mk → List Nat
  | none => []
  | some _ => [x]
def mkD : Option Mk → Mk
  | none => (0, 0, 0)
  | some m => m
/-- A book in B over a rack in R: x alone may have a mark there. -/
structure Fs (w W : World) (B R x : Nat) (o : Option Mk) (now : Int) : Prop where
  bel : Below w.heap.size w W
  hR : w.heap.size ≤ R
  hB : w.heap.size ≤ B
  bk : BkRow W B R
  rack : ∃ vi vt, IsR W R 3 vi vt (idl x o) o.toList
  ok : ∀ m, o = some m → (1 ≤ m.1 ∧ m.1 ≤ 6) ∧ (0 ≤ m.2.1 ∧ m.2.1 ≤ now) ∧ (0 ≤ m.2.2 ∧ m.2.2 ≤ now + 86400)
theorem Fs.after {w W W' : World} {B R x : Nat} {o : Option Mk} {now : Int} (h : Fs w W B R x o now) (hb : Below W.heap.size W W') : Fs w W' B R x o now := by
  obtain ⟨vi, vt, hr⟩ := h.rack
  exact ⟨h.bel.trans (hb.mono h.bel.size), h.hR, h.hB, (hb.block B (lt_of_block h.bk)).trans h.bk, ⟨vi, vt, hr.after hb⟩, h.ok⟩
theorem bk_ne {W : World} {B R : Nat} {most : Int} {vi vt : Value} {ids : List Nat} {ths : List Mk} (hb : BkRow W B R) (h : IsR W R most vi vt ids ths) : B ≠ R ∧ vi.ownBlock ≠ some B ∧ vt.ownBlock ≠ some B := by
  refine ⟨fun e => ?_, fun e => ?_, fun e => ?_⟩
  · have h1 := h.row
    rw [← e, show W.heap[B]? = _ from hb] at h1
    injection h1 with h1
    injection h1 with _ h1
    exact absurd h1 (by decide)
  · obtain ⟨c, h1⟩ := own_type h.rio e
    rw [show W.heap[B]? = _ from hb] at h1
    injection h1 with h1
    injection h1 with _ h1
    exact absurd h1 (by decide)
  · obtain ⟨c, h1⟩ := own_type h.rto e
    rw [show W.heap[B]? = _ from hb] at h1
    injection h1 with h1
    injection h1 with _ h1
    exact absurd h1 (by decide)
theorem Fs.gets {w W : World} {B R x : Nat} {o : Option Mk} {now : Int} (h : Fs w W B R x o now) : GetsM W R x (mkD o).1 (mkD o).2.1 (mkD o).2.2 o.isSome := fun W' hb => by
  obtain ⟨vi, vt, hr⟩ := h.rack
  rcases o with _ | m
  · exact get_none R 3 vi vt [] [] x W' (hr.after hb) (by simp) (by simp)
  · refine (get_there R 3 vi vt [x] [m] x W' (hr.after hb) (by simp) (by simp)).mono ?_
    rintro r w' ⟨⟨p, y1, y2, y3, h1, h2, rfl⟩, hb'⟩
    have hp : p = 0 := by
      have := (List.getElem?_eq_some_iff.1 h1).1
      simp at this
      exact this
    subst hp
    simp at h2
    subst h2
    exact ⟨rfl, hb'⟩
theorem Fs.bd {w W : World} {B R x : Nat} {o : Option Mk} {now : Int} (h : Fs w W B R x o now) (h0 : 0 ≤ now) (h1 : now ≤ 1000000000000000) : inI (mkD o).1 ∧ inI (mkD o).2.1 ∧ inI (mkD o).2.2 := by
  rcases o with _ | m
  · exact ⟨inI_mk (by decide) (by decide), inI_mk (by decide) (by decide), inI_mk (by decide) (by decide)⟩
  · obtain ⟨⟨a1, a2⟩, ⟨a3, a4⟩, a5, a6⟩ := h.ok m rfl
    exact ⟨inI_mk (by show _ ≤ m.1; omega) (by show m.1 ≤ _; omega), inI_mk (by show _ ≤ m.2.1; omega) (by show m.2.1 ≤ _; omega), inI_mk (by show _ ≤ m.2.2; omega) (by show m.2.2 ≤ _; omega)⟩
theorem hit_bd (l s u now0 now : Int) (h1 : (l = 0 ∧ s = 0 ∧ u = 0) ∨ ((1 ≤ l ∧ l ≤ 6) ∧ (0 ≤ s ∧ s ≤ now0) ∧ (0 ≤ u ∧ u ≤ now0 + 86400))) (h2 : 0 ≤ now0) (h3 : now0 ≤ now) (h4 : now ≤ 1000000000000000) :
    (1 ≤ hitL l s now ∧ hitL l s now ≤ 6) ∧ (0 ≤ hitU l s u now ∧ hitU l s u now ≤ now + 86400) := by
  have hsI : inI s := inI_mk (by omega) (by omega)
  have hnI : inI now := inI_mk (by omega) (by omega)
  have hL := atL_bd l s now (dwn_nonneg s now hsI hnI)
  have hM : 1 ≤ hitL l s now ∧ hitL l s now ≤ 6 := by
    unfold hitL upL
    split <;> omega
  have hla := ladAt_bd (hitL l s now - 1).toNat (by omega)
  refine ⟨hM, ?_⟩
  have hb : ban (hitL l s now) now = now + ladAt (hitL l s now - 1).toNat := by
    unfold ban sadd
    rw [if_neg (by omega)]
  have hu : 0 ≤ atU l s u now ∧ atU l s u now ≤ now + 86400 := by
    unfold atU
    split <;> (try split) <;> omega
  unfold hitU
  rw [hb]
  omega
theorem fin_bd (l s u now later : Int) (h1 : (l = 0 ∧ s = 0 ∧ u = 0) ∨ ((1 ≤ l ∧ l ≤ 6) ∧ (0 ≤ s ∧ s ≤ now) ∧ (0 ≤ u ∧ u ≤ now + 86400))) (h2 : 0 ≤ now) (h3 : later = now + 86400) : atL l s later = 0 ∧ atS l s later = 0 ∧ atU l s u later = 0 := by
  have hl := lvl_bd l
  have hd : ¬ dwn s later < lvl l := by
    unfold dwn btw
    rw [if_neg (by omega)]
    omega
  unfold atL atS atU
  rw [if_neg hd, if_neg hd, if_neg hd, if_pos (by omega)]
  exact ⟨rfl, rfl, rfl⟩
theorem Fs.cases {w W : World} {B R x : Nat} {o : Option Mk} {now : Int} (h : Fs w W B R x o now) : ((mkD o).1 = 0 ∧ (mkD o).2.1 = 0 ∧ (mkD o).2.2 = 0) ∨ ((1 ≤ (mkD o).1 ∧ (mkD o).1 ≤ 6) ∧ (0 ≤ (mkD o).2.1 ∧ (mkD o).2.1 ≤ now) ∧ (0 ≤ (mkD o).2.2 ∧ (mkD o).2.2 ≤ now + 86400)) := by
  rcases o with _ | m
  · exact .inl ⟨rfl, rfl, rfl⟩
  · exact .inr (h.ok m rfl)

theorem hit_step (w W : World) (B R x : Nat) (o : Option Mk) (now0 now : Int) (hlw : Lw w) (hz : 0 < w.heap.size) (h : Fs w W B R x o now0) (h0 : 0 ≤ now0) (hn : now0 ≤ now) (hm : now ≤ 1000000000000000) :
    Calls Tryd.prog 18 #[.pointer (some ⟨B, 0, none⟩), .int .u32 (x : Int), .int .i64 now] W fun r w' => ∃ (q1 q2 q3 e : Int) (o' : Option Mk), r = .returned (.tuple #[mV q1 q2 q3, .int .i64 e]) ∧ Fs w w' B R x o' now ∧ ((e = 14 ∧ o' = none ∧ o = none) ∨ (e = 0 ∧ ∃ m, o' = some m)) := by
  obtain ⟨b1, b2, b3⟩ := h.bd h0 (by omega)
  have hnI : inI now := inI_mk (by omega) (by omega)
  obtain ⟨hM, hU⟩ := hit_bd _ _ _ now0 now h.cases h0 hn hm
  have hH : ∀ W', Below W.heap.size W W' → Calls Tryd.prog 12 #[mV (mkD o).1 (mkD o).2.1 (mkD o).2.2, .int .i64 now] W' fun r w' => r = .returned (mV (hitL (mkD o).1 (mkD o).2.1 now) now (hitU (mkD o).1 (mkD o).2.1 (mkD o).2.2 now)) ∧ Below W'.heap.size W' w' := fun W' hb => by
    have hb2 := h.bel.trans (hb.mono h.bel.size)
    exact hit_any _ _ _ now W' (hlw.below hb2 hz) (Nat.lt_of_lt_of_le hz hb2.size) b1 b2 b3 hnI
  obtain ⟨M, hMe⟩ : ∃ M, M = hitL (mkD o).1 (mkD o).2.1 now := ⟨_, rfl⟩
  obtain ⟨U, hUe⟩ : ∃ U, U = hitU (mkD o).1 (mkD o).2.1 (mkD o).2.2 now := ⟨_, rfl⟩
  rw [← hMe] at hM
  rw [← hUe] at hU
  rw [← hMe, ← hUe] at hH
  obtain ⟨vi, vt, hr⟩ := h.rack
  have hne := bk_ne h.bk hr
  have hfin : ∀ w' : World, ChR R vi vt W w' → (∃ vi' vt', IsR w' R 3 vi' vt' [x] [(M, now, U)]) → Fs w w' B R x (some (M, now, U)) now := fun w' hc hi =>
    ⟨h.bel.trans (hc.1.mono h.hR), h.hR, h.hB, (hc.2.2 B (lt_of_block h.bk) hne.1 (fun e => hne.2.1 e.symm) (fun e => hne.2.2 e.symm)).trans h.bk, hi, fun m e => by
      injection e with e
      subst e
      exact ⟨hM, ⟨show (0 : Int) ≤ now by omega, Int.le_refl _⟩, hU⟩⟩
  have hvi : ∀ g, vi.ownBlock = some g → g < W.heap.size := fun g hg => (ownlt hr.rio g hg).2
  have hvt : ∀ g, vt.ownBlock = some g → g < W.heap.size := fun g hg => (ownlt hr.rto g hg).2
  by_cases hok : 1 ≤ x ∧ x ≤ 2147483647
  · refine (bhit_ok B R x _ _ _ now M U 3 _ vi vt [x] [(M, now, U)] W h.bk (lt_of_block hr.row) h.gets hH (by omega) hne hvi hvt ?_).mono ?_
    · intro W' hb
      rcases o with _ | m
      · refine (put_new R 3 vi vt [] [] x M now U W' (hr.after hb) (by simp) (by simp) hok (by decide)).mono ?_
        rintro r w' ⟨rfl, hc, p, vi', vt', hp, hi⟩
        simp at hi
        exact ⟨rfl, hc, 0, vi', vt', hi, rfl⟩
      · refine (put_there R 3 vi vt [x] [m] x M now U W' (hr.after hb) (by simp) (by simp)).mono ?_
        rintro r w' ⟨rfl, hc, p, hp, hi⟩
        have hp0 : p = 0 := by
          have := (List.getElem?_eq_some_iff.1 hp).1
          simp at this
          exact this
        subst hp0
        exact ⟨rfl, hc, 0, vi, vt, hi, rfl⟩
    · rintro r w' ⟨rfl, hc, hi⟩
      exact ⟨_, _, _, _, _, rfl, hfin w' hc hi, .inr ⟨rfl, _, rfl⟩⟩
  · rcases o with _ | m
    · refine (bhit_id B R x _ _ _ now M U _ W h.bk h.gets hH (fun W' hb => put_id R 3 vi vt [] [] x M now U W' (hr.after hb) (by simp) hok)).mono ?_
      rintro r w' ⟨rfl, hb⟩
      have h2 := h.after hb
      exact ⟨_, _, _, _, none, rfl, ⟨h2.bel, h2.hR, h2.hB, h2.bk, h2.rack, fun m e => by cases e⟩, .inl ⟨rfl, rfl, rfl⟩⟩
    · exact absurd (hr.ok x (by simp [idl])) hok

theorem open_u32s {H : Type} {enc : TypeId × Value → H} {W : World} {r : Reach} {b0 : Nat} {v : Value} {d : DataW H} {q : List MemPlace} (hv : Value.okWide Tryd.prog W r b0 51 v) (h : DataW.Trod enc Tryd.prog W 0 (fun _ => true) true 51 v d q) :
    ∃ (A : Option Addr) (c : Nat) (l : List Nat), v = .slice A l.length c ∧ S32 W (.slice A l.length c) l ∧ (l.length ≤ 9223372036854775807 ∧ ∀ x ∈ l, x < 4294967296) := by
  obtain ⟨A, n, c, rfl⟩ := WideShapes.okWide_slice Tryd.underlying51 hv
  obtain ⟨fuel, hf⟩ := h
  have c1 : Tryd.prog.cellsOf 36 = 1 := by kernel_rfl
  rcases Deep.open_slice1 Tryd.underlying51 c1 hf with ⟨hcs, _⟩ | ⟨a, len, cap, m, k, V, D, Pl, hcs, _, hl, hm, hmm, _, hx⟩
  · simp [Value.cells] at hcs
    obtain ⟨rfl, rfl, rfl⟩ := hcs
    exact ⟨none, 0, [], rfl, ⟨none, 0, rfl, fun h => by simp at h⟩, by simp, fun x h => by simp at h⟩
  · simp [Value.cells] at hcs
    obtain ⟨rfl, rfl, rfl⟩ := hcs
    have each : ∀ i, i < n → ∃ x : Nat, x < 4294967296 ∧ W.cell? (a.add i) = some (.int .u32 (x : Int)) := fun i hi => by
      obtain ⟨h1, h2⟩ := hx i (by rw [hmm]; simp; omega)
      obtain ⟨x, e, _, wf⟩ := DataW.trod_int Tryd.underlying36 h2
      simp only [List.cons.injEq, and_true] at e
      have b := bounds_u32 wf
      refine ⟨x.toNat, by omega, ?_⟩
      rw [h1, e, show ((x.toNat : Nat) : Int) = x by omega]
    obtain ⟨f, hf⟩ := Deep.choose_lt each
    refine ⟨some a, c, (List.range n).map f, by simp, ⟨_, _, rfl, fun h0 => ?_⟩, by unfold maxLen at hm; simp; omega, fun x hx => ?_⟩
    · simp at h0
      have hc0 := (hf 0 h0).2
      obtain ⟨b, off, spot⟩ := a
      have hspot : spot = none := by simpa [Addr.add] using World.cell?_spot hc0
      subst hspot
      refine ⟨b, off, rfl, World.block_lt_of_cell? W ⟨b, off + 0, none⟩ (by rw [← Go.WideShapes.add_plain]; exact hc0), fun i x hi => ?_⟩
      rw [List.getElem?_map] at hi
      obtain ⟨i', hi', rfl⟩ := Option.map_eq_some_iff.1 hi
      obtain ⟨hin, rfl⟩ := List.getElem?_eq_some_iff.1 hi'
      simp at hin
      simp only [List.getElem_range]
      have := (hf i hin).2
      rw [Go.WideShapes.add_plain] at this
      exact this
    · obtain ⟨i, hi, rfl⟩ := List.mem_map.1 hx
      exact (hf i (List.mem_range.1 hi)).1
end Go.Proofs.YtfcogjdnnnpmdaaDoor
