/- The statements' own helpers over fields: contracts for Small, fields and back. -/
import Derived.Test.YtkhhbmbjmfdgdaaDoorB8
namespace Go.Proofs.YtkhhbmbjmfdgdaaDoor
set_option maxRecDepth 4000
open Go.RowKit

def smallB (N : List Nat) (S : List ByteArray) (L : List (List Nat)) : Bool := decide ((∀ s ∈ S, s.size ≤ 300) ∧ (∀ u ∈ L, u.length ≤ 300) ∧ N.length ≤ 12 ∧ S.length ≤ 12 ∧ L.length ≤ 12)

theorem Lss.get {w : World} {B : Nat} : ∀ {vs : List Value} {us : List (List Nat)} (k : Nat) (hk : k < us.length), Lss w B vs us → ∃ a c, vs[k]? = some (.slice a us[k].length c) ∧ Rd w B a (uv .u32 us[k])
  | [], _ :: _, _, _, h => h.elim
  | _, [], _, hk, _ => absurd hk (by simp)
  | v :: vs, u :: us, 0, _, ⟨⟨a, c, hv, hr, _⟩, _⟩ => ⟨a, c, by rw [hv]; rfl, hr⟩
  | v :: vs, u :: us, k + 1, hk, ⟨_, h⟩ => by
    obtain ⟨a, c, h1, h2⟩ := Lss.get k (by simpa using hk) h
    exact ⟨a, c, by simpa using h1, by simpa using h2⟩

theorem mem_take {α : Type} {l : List α} {k : Nat} {P : α → Prop} (h : ∀ x ∈ l.take k, P x) (hk : k < l.length) (hp : P l[k]) : ∀ x ∈ l.take (k + 1), P x := by
  intro x hx
  rw [List.take_succ_eq_append_getElem hk] at hx
  rcases List.mem_append.1 hx with hx | hx
  · exact h x hx
  · simp at hx
    subst hx
    exact hp

set_option maxHeartbeats 2000000 in
theorem small_any (aN aS aL : Option Addr) (cN cS cL : Nat) (vs : List Value) (N : List Nat) (S : List ByteArray) (L : List (List Nat)) (w : World) (h : Flds w aN aS aL cN cS cL vs N S L)
    (hN : N.length ≤ 9223372036854775807) (hS : S.length ≤ 9223372036854775807) (hL : L.length ≤ 9223372036854775807) :
    Calls Tryd.prog 18 #[.agg #[.slice aN N.length cN, .slice aS S.length cS, .slice aL L.length cL]] w fun e w' => e = .returned (.bool (smallB N S L)) ∧ Below w.heap.size w w' := by
  have hb := (Below.refl w.heap.size w).alloc (Nat.le_refl _) (.cells #[.slice aN N.length cN, .slice aS S.length cS, .slice aL L.length cL] 38)
  have hrS := h.rS.below hb (Nat.le_refl _)
  have hrL := h.rL.below hb (Nat.le_refl _)
  have hls := h.ls
  have hvl := Lss.length hls
  have HRS := Lib.hid hrS
  have HRL := Lib.hid hrL
  have HLS := Lib.hid hls
  have HVL := Lib.hid hvl
  obtain ⟨res, hres⟩ : ∃ res, res = smallB N S L := ⟨_, rfl⟩
  rw [← hres]
  have HRES := Lib.hid hres
  clear hrS hrL hls h hvl hres
  go_enter Tryd.func18, Tryd.ntmps18
  go_wp2
  go_loop [3] (fun i => ∃ k : Nat, k ≤ S.length ∧ i = .int .i64 k ∧ Hid (∀ s ∈ S.take k, s.size ≤ 300)) (fun i => S.length - (intOf i).toNat)
  case atStart => exact ⟨0, by omega, rfl, by intro s hs; simp at hs⟩
  case round =>
    obtain ⟨k, hk, rfl, hsm⟩ := hrel
    by_cases hlt : k < S.length
    · obtain ⟨b, o, rfl, hbB, hc⟩ := HRS.out.get (k := k) (by simpa [sv] using hlt)
      obtain ⟨t, ht⟩ : ∃ t, t = S[k] := ⟨_, rfl⟩
      replace hc : (w.alloc (.cells #[.slice aN N.length cN, .slice (some ⟨b, o, none⟩) S.length cS, .slice aL L.length cL] 38)).cell? ⟨b, o + k, none⟩ = some (.string t) := by rw [hc, ht]; simp [sv]
      have HT := Lib.hid ht
      clear ht
      by_cases hts : t.size ≤ 300
      · go_wp2
        go_round
        case rel => exact ⟨k + 1, by omega, by go_num, mem_take hsm.out hlt (by rw [← HT.out]; exact hts)⟩
        case measure => simp [intOf] <;> omega
      · have hf : Hid (res = false) := by
          have : smallB N S L = false := by
            simp only [smallB, decide_eq_false_iff_not]
            intro ⟨h1, _⟩
            have := h1 S[k] (List.getElem_mem hlt)
            rw [← HT.out] at this
            omega
          exact HRES.out.trans this
        go_wp2
        go_ret
        exact ⟨by rw [hf.out]; rfl, hb⟩
    · have hall : ∀ s ∈ S, s.size ≤ 300 := by
        have := hsm.out
        rw [List.take_of_length_le (by omega)] at this
        exact this
      have HALL := Lib.hid hall
      have hke : S.length ≤ k := by omega
      clear hall hsm
      go_wp2
      go_loop [4] (fun i => ∃ j : Nat, j ≤ L.length ∧ i = .int .i64 j ∧ Hid (∀ u ∈ L.take j, u.length ≤ 300)) (fun i => L.length - (intOf i).toNat)
      case atStart => exact ⟨0, by omega, rfl, by intro s hs; simp at hs⟩
      case round =>
        obtain ⟨j, hj, rfl, hsm⟩ := hrel
        by_cases hjl : j < L.length
        · obtain ⟨b, o, rfl, hbB, hc⟩ := HRL.out.get (k := j) (by rw [HVL.out]; exact hjl)
          obtain ⟨a, c, hv, _⟩ := Lss.get j hjl HLS.out
          have hv2 : vs[j]'(by rw [HVL.out]; exact hjl) = .slice a L[j].length c := by
            have := List.getElem?_eq_getElem (show j < vs.length by rw [HVL.out]; exact hjl)
            rw [hv] at this
            exact (Option.some.inj this).symm
          rw [hv2] at hc
          obtain ⟨n, hn⟩ : ∃ n, n = L[j].length := ⟨_, rfl⟩
          rw [← hn] at hc
          have HN := Lib.hid hn
          clear hn hv hv2
          by_cases hts : n ≤ 300
          · go_wp2
            go_round
            case rel => exact ⟨j + 1, by omega, by go_num, mem_take hsm.out hjl (by rw [← HN.out]; exact hts)⟩
            case measure => simp [intOf] <;> omega
          · have hf : Hid (res = false) := by
              have : smallB N S L = false := by
                simp only [smallB, decide_eq_false_iff_not]
                intro ⟨_, h1, _⟩
                have := h1 L[j] (List.getElem_mem hjl)
                rw [← HN.out] at this
                omega
              exact HRES.out.trans this
            go_wp2
            go_ret
            exact ⟨by rw [hf.out]; rfl, hb⟩
        · have hallL : ∀ u ∈ L, u.length ≤ 300 := by
            have := hsm.out
            rw [List.take_of_length_le (by omega)] at this
            exact this
          have HALLL := Lib.hid hallL
          have hje : L.length ≤ j := by omega
          have hf : Hid (res = decide (N.length ≤ 12 ∧ S.length ≤ 12 ∧ L.length ≤ 12)) := by
            have : smallB N S L = decide (N.length ≤ 12 ∧ S.length ≤ 12 ∧ L.length ≤ 12) := by
              unfold smallB
              congr 1
              simp only [eq_iff_iff]
              exact ⟨fun ⟨_, _, h⟩ => h, fun h => ⟨HALL.out, HALLL.out, h⟩⟩
            exact HRES.out.trans this
          clear hallL hsm
          by_cases n1 : N.length ≤ 12
          · by_cases n2 : S.length ≤ 12
            · by_cases n3 : L.length ≤ 12
              · have q3 : decide ((L.length : Int) ≤ 12) = true := by simp; omega
                go_wp2
                go_ret
                exact ⟨by have e := hf.out.trans (decide_eq_true ⟨n1, n2, n3⟩); rw [e]; rfl, hb⟩
              · have e3 : decide ((L.length : Int) ≤ 12) = false := by simp; omega
                go_wp2
                go_ret
                exact ⟨by rw [hf.out, decide_eq_false (fun h => n3 h.2.2)]; rfl, hb⟩
            · have e2 : decide ((S.length : Int) ≤ 12) = false := by simp; omega
              go_wp2
              go_ret
              exact ⟨by rw [hf.out, decide_eq_false (fun h => n2 h.2.1)]; rfl, hb⟩
          · have e1 : decide ((N.length : Int) ≤ 12) = false := by simp; omega
            go_wp2
            go_ret
            exact ⟨by rw [hf.out, decide_eq_false (fun h => n1 h.1)]; rfl, hb⟩

end Go.Proofs.YtkhhbmbjmfdgdaaDoor
