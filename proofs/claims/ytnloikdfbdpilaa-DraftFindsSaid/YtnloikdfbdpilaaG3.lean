/- Draft: DraftFinds' walk. -/
import Derived.Test.YtnloikdfbdpilaaG2
import Derived.Test.YtnloikdfbdpilaaDO
namespace Go.Proofs.Ytnloikdfbdpilaa
open Go.RowKit
set_option maxRecDepth 20000
set_option linter.unusedVariables false

set_option linter.unusedSimpArgs false in
set_option maxHeartbeats 16000000 in
theorem finds_walk (m : Mo) (now : Int) (A : Option Addr) (c : Nat) (l : List Tk) (w : World) (hnow : In64 now) (hE : Tr w w.heap.size A l) (hl : l.length ≤ 9223372036854775807) (hs : ∀ t ∈ l, In64 t.r ∧ In64 t.s) :
    Calls Try.prog 5 #[m.v, .int .i64 now, .slice A l.length c] w fun r w' => r = .returned (.bool true) ∧ Below w.heap.size w w' := by
  obtain ⟨w0, hw0⟩ : ∃ w0, w0 = w.alloc (.cells m.cells 23) := ⟨_, rfl⟩
  have hb0 : Below w.heap.size w w0 := by rw [hw0]; exact (Below.refl _ _).alloc (Nat.le_refl _) _
  have hq0 : w0.heap[w.heap.size]? = some (.cells m.cells 23 (0, 0)) := by rw [hw0]; exact heap_alloc_new w _
  have HCE : Hid (∀ W, Below w0.heap.size w0 W → W.cell? ⟨w.heap.size, 0, none⟩ = some (.int .i64 m.k) ∧ W.cell? ⟨w.heap.size, 1, none⟩ = some (.int .i64 m.b) ∧ W.cell? ⟨w.heap.size, 2, none⟩ = some (.int .i64 m.s) ∧ W.cell? ⟨w.heap.size, 3, none⟩ = some (.int .i64 m.c) ∧ W.cell? ⟨w.heap.size, 4, none⟩ = some (.int .i64 m.e)) := fun W hW => by
    have e2 := (hW.block _ (lt_of_block hq0)).trans hq0
    exact ⟨cell_of_row W _ 0 _ _ _ e2, cell_of_row W _ 1 _ _ _ e2, cell_of_row W _ 2 _ _ _ e2, cell_of_row W _ 3 _ _ _ e2, cell_of_row W _ 4 _ _ _ e2⟩
  obtain ⟨n, hn⟩ : ∃ n, n = l.length := ⟨_, rfl⟩
  have HE0 := Lib.hid (hE.later hb0 (Nat.le_refl _))
  have H0 := Lib.hid hw0
  have HB0 := Lib.hid hb0
  have HN := Lib.hid hn
  have HS := Lib.hid hs
  have HNOW := Lib.hid hnow
  have HAW : Hid (∀ W, Calls Try.prog 16 #[] W fun r w' => r = .returned (.bool true) ∧ Below W.heap.size W w') := fun W => dawake W
  have HMO : Hid (∀ W, Calls Try.prog 13 #[m.v] W fun r w' => r = .returned m.v ∧ Below W.heap.size W w') := fun W => mo_any m W
  rw [← hn] at hl ⊢
  clear hw0 hb0 hq0 hn hE hs hnow
  by_cases h20 : 20 < n
  · go_enter Try.func5, Try.ntmps5
    go_upto_region 1 with (fail)
    rw [← H0.out]
    go_wp2
    go_ret
    exact ⟨rfl, HB0.out⟩
  · have HSM := Lib.hid (small_any A n c l w0 HN.out HE0.out.ts (by omega))
    go_enter Try.func5, Try.ntmps5
    go_upto_region 1 with (fail)
    rw [← H0.out]
    go_wp2_with fail
    refine HSM.out.mono ?_
    rintro r w' ⟨⟨t, rfl, ht⟩, rfl⟩
    cases t
    · clear ht
      go_wp2
      go_ret
      exact ⟨rfl, HB0.out⟩
    · have HSN : Hid (Sm l) := fun t h => ⟨ht.1 rfl t h, (HS.out t h).2⟩
      have HOW : Hid (∀ W, Below w'.heap.size w' W → Calls Try.prog 14 #[.slice A n c] W fun r w' => (∃ A' c', r = .returned (.slice A' n c') ∧ Ts w' w'.heap.size A' l) ∧ Below W.heap.size W w') := fun W hW => own_any A n c l W HN.out (HE0.out.later hW (Nat.le_refl _)) (by omega) (fun t h => (HSN.out t h).1)
      clear ht HSM
      obtain ⟨o, ho⟩ : ∃ o, o = findP m now l := ⟨_, rfl⟩
      have HTE : Hid (∀ W A9 c9, Ts W W.heap.size A9 l → Calls Try.prog 20 #[m.v, .int .i64 now, .slice A9 n c9] W fun r w' => (∃ v, r = .returned v ∧ Spl w' W.heap.size v o) ∧ Below W.heap.size W w') := fun W A9 c9 h => by rw [ho]; exact find_any m now A9 n c9 l W HN.out h (by omega) HNOW.out HSN.out
      have HRT : Hid (∀ W, Below w'.heap.size w' W → Calls Try.prog 21 #[m.v, .int .i64 now, .slice A n c] W fun r w' => TPost W o r w') := fun W hW => by rw [ho]; exact rfind_any m now A n c l W HN.out (HE0.out.later hW (Nat.le_refl _)).ts (by omega) HNOW.out HSN.out
      have HSZ : Hid ((o.getD ([], [])).1.length ≤ 1000 ∧ (o.getD ([], [])).2.length ≤ 1000) := by
        simp only [Hid]
        rw [ho]
        cases hf : findP m now l with
        | none => simp
        | some r =>
          obtain ⟨_, hl16, q, _, hs, _, hp⟩ := find_get hf
          obtain ⟨PA, PB⟩ := r
          obtain ⟨way, _, _, rfl, rfl⟩ := part_get hp
          have h1 := hs.length_le
          rw [entsP_len] at h1
          have h2 := sA_len way q.length q
          have h3 := sB_len way q.length q
          simp only [Option.getD_some, List.length_map]
          omega
      clear ho
      obtain ⟨z0, z1, z2, z3, z4⟩ := HCE.out w' (Below.refl _ _)
      go_wp2_with fail
      refine (HMO.out _).mono ?_
      rintro r w2 ⟨rfl, hb⟩
      have HB2 : Hid (Below w'.heap.size w' w2) := hb
      clear hb z0 z1 z2 z3 z4
      go_wp2_with fail
      refine (HOW.out _ HB2.out).mono ?_
      rintro r w3 ⟨⟨A9, c9, rfl, hts⟩, hb⟩
      have HB3 := Lib.hid (HB2.out.trans (hb.mono HB2.out.size))
      have HTS := Lib.hid hts
      clear hb hts
      go_wp2_with fail
      refine (HTE.out w3 A9 c9 HTS.out).mono ?_
      rintro r w4 ⟨⟨v, rfl, hS⟩, hb⟩
      have HB4 := Lib.hid (HB3.out.trans (hb.mono HB3.out.size))
      obtain ⟨A1, c1, A2, c2, rfl, hz1, hz2⟩ := hS.form
      clear hb hS
      obtain ⟨la, hla⟩ : ∃ la, la = (o.getD ([], [])).1 := ⟨_, rfl⟩
      obtain ⟨lb, hlb⟩ : ∃ lb, lb = (o.getD ([], [])).2 := ⟨_, rfl⟩
      obtain ⟨iso, hiso⟩ : ∃ iso, iso = o.isSome := ⟨_, rfl⟩
      rw [← hla, ← hlb, ← hiso]
      rw [← hla] at hz1 HSZ
      rw [← hlb] at hz2 HSZ
      obtain ⟨n1, hn1⟩ : ∃ n1, n1 = la.length := ⟨_, rfl⟩
      obtain ⟨n2, hn2⟩ : ∃ n2, n2 = lb.length := ⟨_, rfl⟩
      rw [← hn1, ← hn2]
      rw [← hn1, ← hn2] at HSZ
      have HN1 := Lib.hid hn1
      have HN2 := Lib.hid hn2
      have HRT2 : Hid (∀ W, Below w'.heap.size w' W → Calls Try.prog 21 #[m.v, .int .i64 now, .slice A n c] W fun r w' => (∃ A3 c3 A4 c4, r = .returned (.tuple #[.slice A3 n1 c3, .slice A4 n2 c4, .bool iso]) ∧ Zs w' w'.heap.size A3 la ∧ Zs w' w'.heap.size A4 lb) ∧ Below W.heap.size W w') := fun W hW => by
        rw [hn1, hn2, hla, hlb, hiso]
        exact (HRT.out W hW).mono fun r w' h => h
      obtain ⟨w5, hw5⟩ : ∃ w5, w5 = w4.alloc (.cells #[.slice A1 n1 c1, .slice A2 n2 c2] 40) := ⟨_, rfl⟩
      obtain ⟨Q, hQ⟩ : ∃ Q, Q = w4.heap.size := ⟨_, rfl⟩
      have hq5 : w5.heap[Q]? = some (.cells #[.slice A1 n1 c1, .slice A2 n2 c2] 40 (0, 0)) := by rw [hw5, hQ]; exact heap_alloc_new w4 _
      have hb5 : Below w4.heap.size w4 w5 := by rw [hw5]; exact (Below.refl _ _).alloc (Nat.le_refl _) _
      have HB5 := Lib.hid (HB4.out.trans (hb5.mono HB4.out.size))
      have HCQ : Hid (∀ W, Below w5.heap.size w5 W → W.cell? ⟨Q, 0, none⟩ = some (.slice A1 n1 c1) ∧ W.cell? ⟨Q, 1, none⟩ = some (.slice A2 n2 c2)) := fun W hW => by
        have e1 := (hW.block _ (lt_of_block hq5)).trans hq5
        exact ⟨cell_of_row W _ 0 _ _ _ e1, cell_of_row W _ 1 _ _ _ e1⟩
      have HZ1 := Lib.hid (hz1.later hb5 (Nat.le_refl _))
      have HZ2 := Lib.hid (hz2.later hb5 (Nat.le_refl _))
      have H5 := Lib.hid hw5
      have HQE := Lib.hid hQ
      clear hla hlb hiso hn1 hn2 hw5 hQ hq5 hb5 hz1 hz2 HRT HTE HOW
      go_upto_region 4 with (fail)
      rw [← H5.out]
      rw [← HQE.out]
      obtain ⟨z0, z1, z2, z3, z4⟩ := HCE.out w5 HB5.out
      go_wp2_with fail
      refine (HRT2.out w5 HB5.out).mono ?_
      rintro r w6 ⟨⟨A3, c3, A4, c4, rfl, hz3, hz4⟩, hb⟩
      have HB6 : Hid (Below w5.heap.size w5 w6) := hb
      have HZ3 := Lib.hid hz3
      have HZ4 := Lib.hid hz4
      clear hb hz3 hz4 z0 z1 z2 z3 z4
      have HS1 := Lib.hid (same_eq A1 A3 n1 c1 c3 la w6 HN1.out (HZ1.out.later HB6.out (Nat.le_refl _)) HZ3.out HSZ.out.1)
      obtain ⟨q0, q1⟩ := HCQ.out w6 HB6.out
      have hee : (iso == iso) = true := by simp
      go_wp2_with fail
      refine HS1.out.mono ?_
      rintro r w7 ⟨rfl, hb⟩
      have HB7 := Lib.hid (HB6.out.trans (hb.mono HB6.out.size))
      have HS2 := Lib.hid (same_eq A2 A4 n2 c2 c4 lb w7 HN2.out (HZ2.out.later HB7.out (Nat.le_refl _)) (HZ4.out.later hb (Nat.le_refl _)) HSZ.out.2)
      clear hb q0 q1
      obtain ⟨q0, q1⟩ := HCQ.out w7 HB7.out
      go_wp2_with fail
      refine HS2.out.mono ?_
      rintro r w8 ⟨rfl, hb⟩
      have HB8 := Lib.hid (HB7.out.trans (hb.mono HB7.out.size))
      clear hb q0 q1
      go_wp2_with fail
      refine (HAW.out _).mono ?_
      rintro r w9 ⟨rfl, hb⟩
      go_wp2
      go_ret
      exact ⟨rfl, HB0.out.trans ((HB5.out.trans ((HB8.out.trans (hb.mono HB8.out.size)).mono HB5.out.size)).mono HB0.out.size)⟩
end Go.Proofs.Ytnloikdfbdpilaa
