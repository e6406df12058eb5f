/- Party: what a lead and a join leave; a join that is not there. -/
import Derived.Test.YtjlpmdokmfmdiaaE7
namespace Go.Proofs.Ytjlpmdokmfmdiaa.P
open Go.RowKit
set_option maxRecDepth 20000
set_option linter.unusedVariables false
set_option linter.unusedSimpArgs false

theorem lead_shape {L : List Pt} (h : Inv L) (a b : Nat) : (∃ e : Int, e ≠ 0 ∧ leadS L a b = (L, e)) ∨
    (∃ L3 g3, leadS L a b = (L3, 0) ∧ Nx L L3 ∧ ofP L3 a = g3.id ∧ getP L3 g3.id = some g3 ∧ g3.ld = b ∧ leadS L3 a b = (L3, 18)) := by
  by_cases hz : ledC L a b ≠ 0
  · refine .inl ⟨(ledC L a b : Int), by omega, ?_⟩
    unfold leadS
    rw [if_pos hz]
  · cases hg : getP L (ofP L a) with
    | none =>
      refine .inl ⟨12, by decide, ?_⟩
      unfold leadS
      rw [if_neg hz, hg]
    | some g =>
      by_cases hb : b ∈ g.mem
      · have hc : ledC L a b = 0 := Decidable.not_not.1 hz
        unfold ledC at hc
        rw [hg] at hc
        simp only at hc
        have hld : g.ld = a := Decidable.byContradiction fun hn => by rw [if_pos hn] at hc; cases hc
        rw [if_neg (by simpa using hld)] at hc
        have hab : a ≠ b := fun e => by rw [if_pos e] at hc; cases hc
        have hS : leadS L a b = (insL L { g with ld := b }, 0) := by
          unfold leadS
          rw [if_neg hz, hg]
          simp only
          rw [if_pos hb]
        have hN := nx_lead h a b
        rw [hS] at hN
        simp only at hN
        have hm3 : ({ g with ld := b } : Pt) ∈ insL L { g with ld := b } := mem_insL.2 (.inl rfl)
        have ham : a ∈ g.mem := by have := (h.each g (get_some hg).1).ld; rw [hld] at this; exact this
        have ho : ofP (insL L { g with ld := b }) a = g.id := of_mem hN.1 hm3 ham
        have hgt : getP (insL L { g with ld := b }) g.id = some { g with ld := b } := get_mem hN.1.ris hm3
        refine .inr ⟨_, { g with ld := b }, hS, hN, ho, hgt, rfl, ?_⟩
        have hc2 : ledC (insL L { g with ld := b }) a b = 18 := by
          unfold ledC
          rw [ho, hgt]
          simp only
          rw [if_pos (fun e => hab e.symm)]
        unfold leadS
        rw [hc2, if_pos (by decide)]
        rfl
      · refine .inl ⟨13, by decide, ?_⟩
        unfold leadS
        rw [if_neg hz, hg]
        simp only
        rw [if_neg hb]
theorem join_shape {L : List Pt} (h : Inv L) (a b : Nat) : (∃ e : Int, e ≠ 0 ∧ joinS L b a = (L, e)) ∨
    (∃ L3 g3, joinS L b a = (L3, 0) ∧ Nx L L3 ∧ ofP L3 a = b ∧ getP L3 b = some g3 ∧ a ∉ g3.inv) := by
  cases hg : getP L b with
  | none =>
    refine .inl ⟨12, by decide, ?_⟩
    unfold joinS
    rw [hg]
  | some g =>
    by_cases hp : a ∈ g.inv
    · by_cases ho : ofP L a ≠ 0
      · refine .inl ⟨19, by decide, ?_⟩
        unfold joinS
        rw [hg]
        simp only
        rw [if_pos hp, if_pos ho]
      · have hS : joinS L b a = (insL L { g with mem := g.mem ++ [a], inv := wo g.inv a }, 0) := by
          unfold joinS
          rw [hg]
          simp only
          rw [if_pos hp, if_neg ho]
        have hN := nx_join h b a
        rw [hS] at hN
        simp only at hN
        have hm3 : ({ g with mem := g.mem ++ [a], inv := wo g.inv a } : Pt) ∈ insL L { g with mem := g.mem ++ [a], inv := wo g.inv a } := mem_insL.2 (.inl rfl)
        have hid := (get_some hg).2
        refine .inr ⟨_, { g with mem := g.mem ++ [a], inv := wo g.inv a }, hS, hN, ?_, ?_, ?_⟩
        · have := of_mem hN.1 hm3 (p := a) (List.mem_append.2 (.inr (List.mem_singleton.2 rfl)))
          rw [this]
          exact hid
        · have := get_mem hN.1.ris hm3
          rw [← hid]
          exact this
        · intro hh
          exact (mem_wo.1 hh).2 rfl
    · refine .inl ⟨12, by decide, ?_⟩
      unfold joinS
      rw [hg]
      simp only
      rw [if_neg hp]
set_option maxHeartbeats 4000000 in
theorem join_miss (B R : Nat) (most : Int) (vi : Value) (L : List Pt) (x p : Nat) (g : Pt) (w : World) (h : Bk w B R most vi L) (hI : Inv L) (hl : L.length ≤ 100) (hg : getP L x = some g) (hp : p ∉ g.inv) :
    Calls Try.prog 25 #[bp B, .int .u32 (x : Int), .int .u32 (p : Int)] w fun r w' => r = .returned (.int .i64 12) ∧ Below w.heap.size w w' := by
  obtain ⟨hm, hgi⟩ := get_some hg
  have HV := Lib.hid (inviting_some B R most vi L x p g false w h hl hg (by have := (hI.each g hm).four; omega) (by simpa using hp))
  clear h hI hg hp hm hgi
  go_enter Try.func25, Try.ntmps25
  go_wp2_with fail
  refine HV.out.mono ?_
  rintro r w1 ⟨y1, y2, y3, rfl, e1, f2, f3, hb⟩
  have HF : Hid (∀ w', Below w1.heap.size w1 w' → Below w.heap.size w w') := fun w' hb' => hb.trans (hb'.mono hb.size)
  clear hb e1 f2 f3
  go_wp2
  go_ret
  exact ⟨rfl, HF.out _ ((Below.refl _ _).alloc (Nat.le_refl _) _)⟩
end Go.Proofs.Ytjlpmdokmfmdiaa.P
