/- HMAC: few parts; parts put one behind the other. -/
import Derived.Test.YtbnmblhpoaaegaaDoorM5
namespace Go.Proofs.YtbnmblhpoaaegaaDoor
open Go.RowKit

def mfewB (ps : List (List UInt8)) : Bool := decide ((∀ p ∈ ps, p.length ≤ 200) ∧ ps.length ≤ 12)

set_option maxHeartbeats 1000000 in
theorem mfew_any (v : Value) (ps : List (List UInt8)) (w : World) (hp : Pbs w v ps) (hpl : ps.length ≤ 9223372036854775807) (hql : ∀ p ∈ ps, p.length ≤ 9223372036854775807) :
    Calls Tryd.prog 23 #[v] w fun e w' => e = .returned (.bool (mfewB ps)) ∧ w = w' := by
  obtain ⟨A, c, rfl, _, _⟩ := id hp
  obtain ⟨res, hres⟩ : ∃ res, res = mfewB ps := ⟨_, rfl⟩
  rw [← hres]
  have HP := Lib.hid hp
  have HRES := Lib.hid hres
  have HQ := Lib.hid hql
  clear hp hres hql
  go_enter Tryd.func23, Tryd.ntmps23
  go_wp2_with fail
  go_loop [3] (fun i => ∃ k : Nat, k ≤ ps.length ∧ i = .int .i64 k ∧ Hid (∀ p ∈ ps.take k, p.length ≤ 200)) (fun i => ps.length - (intOf i).toNat)
  case atStart => exact ⟨0, by omega, rfl, by simp [Hid]⟩
  case round =>
    obtain ⟨k, hk, rfl, hs⟩ := hrel
    by_cases hlt : k < ps.length
    · obtain ⟨b, o, c2, u, e2, hb, h1, A3, c3, rfl, _, _⟩ := HP.out.get hlt
      injection e2 with e3 _ e4
      subst e3 e4
      have hn63 := HQ.out ps[k] (List.getElem_mem hlt)
      obtain ⟨n, hn⟩ : ∃ n, n = (ps[k]).length := ⟨_, rfl⟩
      rw [← hn] at h1 hn63
      have HN := Lib.hid hn
      clear hn
      by_cases hbig : 200 < n
      · have HRE : Hid (res = false) := HRES.out.trans (by
          unfold mfewB
          rw [decide_eq_false_iff_not]
          rintro ⟨h, _⟩
          have := h ps[k] (List.getElem_mem hlt)
          have := HN.out
          omega)
        go_wp2_with fail
        go_ret
        exact ⟨by rw [HRE.out]; rfl, rfl⟩
      · go_wp2_with fail
        go_round
        case rel =>
          refine ⟨k + 1, by omega, by go_num, ?_⟩
          intro p hp
          rw [List.take_succ_eq_append_getElem hlt, List.mem_append] at hp
          rcases hp with hp | hp
          · exact hs.out p hp
          · simp at hp
            rw [hp, ← HN.out]
            omega
        case measure => simp [intOf] <;> omega
    · have hk2 : k = ps.length := by omega
      have hs2 := hs.out
      rw [hk2, List.take_length] at hs2
      have HRE : Hid (res = decide ((ps.length : Int) ≤ 12)) := HRES.out.trans (by
        unfold mfewB
        rw [decide_eq_decide]
        constructor
        · rintro ⟨_, h⟩
          omega
        · intro h
          exact ⟨hs2, by omega⟩)
      clear hs hs2
      go_wp2_with fail
      go_ret
      exact ⟨by rw [HRE.out]; rfl, rfl⟩

theorem mfew_flat {ps : List (List UInt8)} (h : mfewB ps = true) : ps.flatten.length ≤ 2400 := by
  unfold mfewB at h
  rw [decide_eq_true_iff] at h
  have := flat_few h.1
  have := h.2
  omega

set_option maxHeartbeats 1000000 in
/-- The reference's All. -/
theorem all_any (v : Value) (ps : List (List UInt8)) (w : World) (hp : Pbs w v ps) (hpl : ps.length ≤ 9223372036854775807) (hlen : ps.flatten.length ≤ 900000) :
    Calls Tryd.prog 25 #[v] w fun e w' => ∃ A n c, e = .returned (.slice A n c) ∧ w'.ownsRow w.heap.size 5 1 (.slice A n c) ps.flatten.length (bv ps.flatten) ∧ Below w.heap.size w w' := by
  obtain ⟨A, c, rfl, _, _⟩ := id hp
  have HP := Lib.hid hp
  obtain ⟨B, hB⟩ : ∃ B, B = w.heap.size := ⟨_, rfl⟩
  rw [← hB]
  have HBB := Lib.hid hB
  have HB0 : Hid (Below w.heap.size w w) := Lib.hid (Below.refl _ _)
  clear hp hB
  go_enter Tryd.func25, Tryd.ntmps25
  go_wp2_with fail
  go_loopw [3, 4] (fun u i wr => ∃ k : Nat, k ≤ ps.length ∧ i = .int .i64 k ∧ Hid (wr.ownsRow B 5 1 u (ps.take k).flatten.length (bv (ps.take k).flatten)) ∧ Hid (Below w.heap.size w wr)) (fun _ i _ => ps.length - (intOf i).toNat)
  case atStart => exact ⟨0, by omega, rfl, by simp only [List.take_zero, List.flatten_nil]; exact World.ownsRow_nil w B 5 1, HB0⟩
  case round =>
    clear HB0
    obtain ⟨k, hkl, rfl, ho, hb⟩ := hrel
    have hsz : B ≤ wr.heap.size := by rw [HBB.out]; exact hb.out.size
    by_cases hk : k < ps.length
    · obtain ⟨b, o, c2, u, e2, hbl, hcw, hpw⟩ := HP.out.get hk
      injection e2 with e3 _ e4
      subst e3 e4
      have hcell := (hb.out.cell (p := ⟨b, o + k, none⟩) hbl).trans hcw
      have hflk := flat_le ps (k + 1)
      rw [flat_take ps k hk, List.length_append] at hflk
      obtain ⟨Lk, hLk⟩ : ∃ Lk, Lk = (ps.take k).flatten := ⟨_, rfl⟩
      obtain ⟨p, hpk⟩ : ∃ p, p = ps[k] := ⟨_, rfl⟩
      have hLk1 : (ps.take (k + 1)).flatten = Lk ++ p := by rw [flat_take ps k hk, hLk, hpk]
      rw [← hLk] at ho hflk
      rw [← hpk] at hpw hflk
      obtain ⟨A3, c3, rfl, _, _⟩ := id hpw
      have hpa := hpw.below hb.out
      have HPA := Lib.hid hpa
      have HL1 := Lib.hid hLk1
      clear hpa hpw hLk1 hLk hpk hcw
      go_wp2_with (at_builtin; refine wpList_append_bytes rfl (.tmp 11) (.tmp 15) rfl B u3 (.slice A3 p.length c3) Lk p rfl rfl ho.out HPA.out (by omega) hsz ?_; intro v3 w3 hown3 hg3)
      have hb3 := hb.out.grown hg3 hb.out.size (fun g hg => by have := (ho.out.lt g hg).1; rw [← HBB.out]; exact this)
      go_roundw
      case rel =>
        refine ⟨k + 1, by omega, by go_num, ?_, Lib.hid hb3⟩
        rw [HL1.out]
        exact Lib.hid hown3
      case measure => simp [intOf] <;> omega
    · have hk2 : k = ps.length := by omega
      rw [hk2, List.take_length] at ho
      obtain ⟨A5, n5, c5, rfl⟩ := own_form ho.out
      go_wp2_with fail
      go_ret
      exact ⟨A5, n5, c5, rfl, ho.out, by rw [HBB.out]; exact hb.out⟩
end Go.Proofs.YtbnmblhpoaaegaaDoor
