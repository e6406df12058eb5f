/- Fields that are alike are told to be alike: a contract for Same. -/
import Derived.Test.YtkhhbmbjmfdgdaaDoorB9
import Derived.Deep.QuietTactic
import Derived.BigQuiet
namespace Go.Proofs.YtkhhbmbjmfdgdaaDoor
set_option maxRecDepth 4000
open Go.RowKit

theorem below_drewN' {B : Nat} {a w : World} (h : Below B a w) (n : Nat) : Below B a (w.drewN n) := ⟨h.os, h.tape, h.output, h.size, h.block⟩

/-- Both fields in their boxes, alike. -/
structure Two (w : World) (F : Nat) (aN aS aL bN bS bL : Option Addr) (cN cS cL dN dS dL : Nat) (vs us : List Value) (N : List Nat) (S : List ByteArray) (L : List (List Nat)) : Prop where
  pA : w.heap[F]? = some (.cells #[.slice aN N.length cN, .slice aS S.length cS, .slice aL L.length cL] 38 (0, 0))
  pB : w.heap[F + 1]? = some (.cells #[.slice bN N.length dN, .slice bS S.length dS, .slice bL L.length dL] 38 (0, 0))
  fA : Flds w aN aS aL cN cS cL vs N S L
  fB : Flds w bN bS bL dN dS dL us N S L

theorem Two.drewN {w : World} {F : Nat} {aN aS aL bN bS bL : Option Addr} {cN cS cL dN dS dL : Nat} {vs us : List Value} {N : List Nat} {S : List ByteArray} {L : List (List Nat)}
    (h : Two w F aN aS aL bN bS bL cN cS cL dN dS dL vs us N S L) (n : Nat) : Two (w.drewN n) F aN aS aL bN bS bL cN cS cL dN dS dL vs us N S L :=
  ⟨h.pA, h.pB, h.fA.below (below_drewN' (Below.refl _ _) n), h.fB.below (below_drewN' (Below.refl _ _) n)⟩

theorem Two.cells {w : World} {F : Nat} {aN aS aL bN bS bL : Option Addr} {cN cS cL dN dS dL : Nat} {vs us : List Value} {N : List Nat} {S : List ByteArray} {L : List (List Nat)}
    (h : Two w F aN aS aL bN bS bL cN cS cL dN dS dL vs us N S L) :
    w.cell? ⟨F, 0, none⟩ = some (.slice aN N.length cN) ∧ w.cell? ⟨F, 1, none⟩ = some (.slice aS S.length cS) ∧ w.cell? ⟨F, 2, none⟩ = some (.slice aL L.length cL) ∧
    w.cell? ⟨F + 1, 0, none⟩ = some (.slice bN N.length dN) ∧ w.cell? ⟨F + 1, 1, none⟩ = some (.slice bS S.length dS) ∧ w.cell? ⟨F + 1, 2, none⟩ = some (.slice bL L.length dL) :=
  ⟨cell_of_row w F 0 _ _ _ h.pA, cell_of_row w F 1 _ _ _ h.pA, cell_of_row w F 2 _ _ _ h.pA, cell_of_row w (F + 1) 0 _ _ _ h.pB, cell_of_row w (F + 1) 1 _ _ _ h.pB, cell_of_row w (F + 1) 2 _ _ _ h.pB⟩

set_option maxHeartbeats 4000000 in
theorem same_any (aN aS aL bN bS bL : Option Addr) (cN cS cL dN dS dL : Nat) (vs us : List Value) (N : List Nat) (S : List ByteArray) (L : List (List Nat)) (w : World)
    (hA : Flds w aN aS aL cN cS cL vs N S L) (hB : Flds w bN bS bL dN dS dL us N S L) (hN : N.length ≤ 1000) (hS : S.length ≤ 1000) (hL : L.length ≤ 1000) (hu : ∀ u ∈ L, u.length ≤ 1000) :
    Calls Tryd.prog 36 #[.agg #[.slice aN N.length cN, .slice aS S.length cS, .slice aL L.length cL], .agg #[.slice bN N.length dN, .slice bS S.length dS, .slice bL L.length dL]] w fun e w' =>
      e = .returned (.bool true) ∧ Below w.heap.size w w' := by
  have hb1 := (Below.refl w.heap.size w).alloc (Nat.le_refl _) (.cells #[.slice aN N.length cN, .slice aS S.length cS, .slice aL L.length cL] 38)
  have hb2 := hb1.alloc (by simp) (.cells #[.slice bN N.length dN, .slice bS S.length dS, .slice bL L.length dL] 38)
  have hT : Two ((w.alloc (.cells #[.slice aN N.length cN, .slice aS S.length cS, .slice aL L.length cL] 38)).alloc (.cells #[.slice bN N.length dN, .slice bS S.length dS, .slice bL L.length dL] 38)) w.heap.size aN aS aL bN bS bL cN cS cL dN dS dL vs us N S L := by
    have h2 := heap_alloc_new (w.alloc (.cells #[.slice aN N.length cN, .slice aS S.length cS, .slice aL L.length cL] 38)) (.cells #[.slice bN N.length dN, .slice bS S.length dS, .slice bL L.length dL] 38)
    rw [size_alloc'] at h2
    exact ⟨(Below.heap_alloc _ _ _ (by simp)).trans (heap_alloc_new w _), h2, hA.below hb2, hB.below hb2⟩
  have HT := Lib.hid hT
  have HU := Lib.hid hu
  have q1 : ((N.length : Int) != (N.length : Int)) = false := by simp
  have q2 : ((S.length : Int) != (S.length : Int)) = false := by simp
  have q3 : ((L.length : Int) != (L.length : Int)) = false := by simp
  clear hT hu hA hB hb1
  go_enter Tryd.func36, Tryd.ntmps36
  go_wp2
  go_loopw [5] (fun i wr => ∃ k : Nat, k ≤ N.length ∧ i = .int .i64 k ∧ Hid (Two wr w.heap.size aN aS aL bN bS bL cN cS cL dN dS dL vs us N S L) ∧ Below w.heap.size w wr) (fun i _ => N.length - (intOf i).toNat)
  case atStart => exact ⟨0, by omega, rfl, HT, hb2⟩
  case round =>
    clear HT hb2
    obtain ⟨k, hk, rfl, ht, hb⟩ := hrel
    by_cases hlt : k < N.length
    · obtain ⟨b1, o1, rfl, _, hc1⟩ := ht.out.fA.rN.get (k := k) (by simpa [uv] using hlt)
      obtain ⟨b2, o2, rfl, _, hc2⟩ := ht.out.fB.rN.get (k := k) (by simpa [uv] using hlt)
      obtain ⟨n, hn⟩ : ∃ n, n = N[k] := ⟨_, rfl⟩
      have e1 : (uv .u64 N)[k]'(by simpa [uv] using hlt) = .int .u64 (n : Int) := by rw [hn]; simp [uv]
      rw [e1] at hc1 hc2
      obtain ⟨g0, g1, g2, g3, g4, g5⟩ := ht.out.cells
      have hq : ((n : Int) != (n : Int)) = false := by simp
      have hk0 : (0 : Int) ≤ (k : Int) := by omega
      have hki : (k : Int) < (N.length : Int) := by omega
      clear hn e1
      go_wp2
      go_quiet (fail)
      go_wp2
      go_roundw
      case rel => exact ⟨k + 1, by omega, by go_num, ht.out.drewN _, below_drewN' hb _⟩
      case measure => simp [intOf] <;> omega
    · obtain ⟨g0, g1, g2, g3, g4, g5⟩ := ht.out.cells
      have hke : N.length ≤ k := by omega
      go_wp2
      clear g0 g1 g2 g3 g4 g5
      obtain ⟨wa, rfl⟩ : ∃ wa : World, wa = wr := ⟨_, rfl⟩
      go_loopw [6] (fun i wr => ∃ k : Nat, k ≤ S.length ∧ i = .int .i64 k ∧ Hid (Two wr w.heap.size aN aS aL bN bS bL cN cS cL dN dS dL vs us N S L) ∧ Below w.heap.size w wr) (fun i _ => S.length - (intOf i).toNat)
      case atStart => exact ⟨0, by omega, rfl, ht, hb⟩
      case round =>
        clear ht hb hk hlt hke
        obtain ⟨k, hk, rfl, ht, hb⟩ := hrel
        by_cases hlt : k < S.length
        · obtain ⟨b1, o1, rfl, _, hc1⟩ := ht.out.fA.rS.get (k := k) (by simpa [sv] using hlt)
          obtain ⟨b2, o2, rfl, _, hc2⟩ := ht.out.fB.rS.get (k := k) (by simpa [sv] using hlt)
          obtain ⟨n, hn⟩ : ∃ n, n = S[k] := ⟨_, rfl⟩
          have e1 : (sv S)[k]'(by simpa [sv] using hlt) = .string n := by rw [hn]; simp [sv]
          rw [e1] at hc1 hc2
          obtain ⟨g0, g1, g2, g3, g4, g5⟩ := ht.out.cells
          have hk0 : (0 : Int) ≤ (k : Int) := by omega
          have hki : (k : Int) < (S.length : Int) := by omega
          clear hn e1
          go_wp2
          go_quiet (fail)
          go_wp2
          go_roundw
          case rel => exact ⟨k + 1, by omega, by go_num, ht.out.drewN _, below_drewN' hb _⟩
          case measure => simp [intOf] <;> omega
        · obtain ⟨g0, g1, g2, g3, g4, g5⟩ := ht.out.cells
          have hke : S.length ≤ k := by omega
          go_wp2
          clear g0 g1 g2 g3 g4 g5
          obtain ⟨wb, rfl⟩ : ∃ wb : World, wb = wr := ⟨_, rfl⟩
          go_loopw [7, 8] (fun i _ wr => ∃ k : Nat, k ≤ L.length ∧ i = .int .i64 k ∧ Hid (Two wr w.heap.size aN aS aL bN bS bL cN cS cL dN dS dL vs us N S L) ∧ Below w.heap.size w wr) (fun i _ _ => L.length - (intOf i).toNat)
          case atStart => exact ⟨0, by omega, rfl, ht, hb⟩
          case round =>
            clear ht hb hk hlt hke
            obtain ⟨k, hk, rfl, ht, hb⟩ := hrel
            by_cases hlt : k < L.length
            · obtain ⟨b1, o1, rfl, lb1, hc1⟩ := ht.out.fA.rL.get (k := k) (by rw [Lss.length ht.out.fA.ls]; exact hlt)
              obtain ⟨b2, o2, rfl, lb2, hc2⟩ := ht.out.fB.rL.get (k := k) (by rw [Lss.length ht.out.fB.ls]; exact hlt)
              obtain ⟨x1, y1, hv1, hr1⟩ := Lss.get k hlt ht.out.fA.ls
              obtain ⟨x2, y2, hv2, hr2⟩ := Lss.get k hlt ht.out.fB.ls
              have hu := HU.out L[k] (List.getElem_mem hlt)
              obtain ⟨u, hue⟩ : ∃ u, u = L[k] := ⟨_, rfl⟩
              rw [← hue] at hv1 hv2 hr1 hr2 hu
              rw [List.getElem?_eq_getElem (by rw [Lss.length ht.out.fA.ls]; exact hlt)] at hv1
              rw [List.getElem?_eq_getElem (by rw [Lss.length ht.out.fB.ls]; exact hlt)] at hv2
              rw [Option.some.inj hv1] at hc1
              rw [Option.some.inj hv2] at hc2
              obtain ⟨g0, g1, g2, g3, g4, g5⟩ := ht.out.cells
              have hk0 : (0 : Int) ≤ (k : Int) := by omega
              have hki : (k : Int) < (L.length : Int) := by omega
              have hq : ((u.length : Int) != (u.length : Int)) = false := by simp
              have HC : Hid (∀ W, Below wr.heap.size wr W → W.cell? ⟨b1, o1 + k, none⟩ = some (.slice x1 u.length y1) ∧ W.cell? ⟨b2, o2 + k, none⟩ = some (.slice x2 u.length y2) ∧ Rd W wr.heap.size x1 (uv .u32 u) ∧ Rd W wr.heap.size x2 (uv .u32 u)) := fun W hW =>
                ⟨(hW.cell (p := ⟨b1, o1 + k, none⟩) lb1).trans hc1, (hW.cell (p := ⟨b2, o2 + k, none⟩) lb2).trans hc2, hr1.below hW (Nat.le_refl _), hr2.below hW (Nat.le_refl _)⟩
              clear hue hv1 hv2 hr1 hr2
              go_wp2
              go_quiet (fail)
              go_wp2
              clear g0 g1 g2 g3 g4 g5 hc1 hc2
              have ht2 := Lib.hid (ht.out.drewN nq)
              have hb2 := below_drewN' hb nq
              have hbw : Hid (Below wr.heap.size wr (wr.drewN nq)) := below_drewN' (Below.refl _ _) nq
              clear ht hb
              obtain ⟨wc, rfl⟩ : ∃ wc : World, wc = wr := ⟨_, rfl⟩
              go_loopw [8] (fun i wr => ∃ j : Nat, j ≤ u.length ∧ i = .int .i64 j ∧ Hid (Two wr w.heap.size aN aS (some ⟨b1, o1, none⟩) bN bS (some ⟨b2, o2, none⟩) cN cS cL dN dS dL vs us N S L) ∧ Below w.heap.size w wr ∧ Hid (Below wc.heap.size wc wr)) (fun i _ => u.length - (intOf i).toNat)
              case atStart => exact ⟨0, by omega, rfl, ht2, hb2, hbw⟩
              case round =>
                clear ht2 hb2 hbw
                obtain ⟨j, hj, rfl, ht, hb, hbw⟩ := hrel
                obtain ⟨d1, d2, r1, r2⟩ := HC.out wr hbw.out
                by_cases hjl : j < u.length
                · obtain ⟨b3, o3, rfl, _, hc3⟩ := r1.get (k := j) (by simpa [uv] using hjl)
                  obtain ⟨b4, o4, rfl, _, hc4⟩ := r2.get (k := j) (by simpa [uv] using hjl)
                  obtain ⟨n, hn⟩ : ∃ n, n = u[j] := ⟨_, rfl⟩
                  have e1 : (uv .u32 u)[j]'(by simpa [uv] using hjl) = .int .u32 (n : Int) := by rw [hn]; simp [uv]
                  rw [e1] at hc3 hc4
                  obtain ⟨g0, g1, g2, g3, g4, g5⟩ := ht.out.cells
                  have hq2 : ((n : Int) != (n : Int)) = false := by simp
                  have hj0 : (0 : Int) ≤ (j : Int) := by omega
                  have hji : (j : Int) < (u.length : Int) := by omega
                  clear hn e1 r1 r2
                  go_wp2
                  go_quiet (fail)
                  go_wp2
                  go_roundw
                  case rel => exact ⟨j + 1, by omega, by go_num, ht.out.drewN _, below_drewN' hb _, below_drewN' hbw.out _⟩
                  case measure => simp [intOf] <;> omega
                · obtain ⟨g0, g1, g2, g3, g4, g5⟩ := ht.out.cells
                  have hje : u.length ≤ j := by omega
                  clear r1 r2
                  go_wp2
                  go_roundw
                  case rel => exact ⟨k + 1, by omega, by go_num, ht, hb⟩
                  case measure => simp [intOf] <;> omega
            · obtain ⟨g0, g1, g2, g3, g4, g5⟩ := ht.out.cells
              have hke : L.length ≤ k := by omega
              go_wp2
              go_ret
              exact ⟨rfl, hb⟩
end Go.Proofs.YtkhhbmbjmfdgdaaDoor
