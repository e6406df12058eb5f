/- Ledger: what Issue and Spend do to the number of entries. -/
import Derived.Test.YticegnbdpihdpaaLD
namespace Go.Proofs.Yticegnbdpihdpaa
open Go.RowKit
set_option maxRecDepth 20000

theorem issue_all (L M cnt : Nat) (D : DataW Unit) (l : List Ent) (n o a : Nat) (x now : Int) (w : World) (hL : IsL w L M 10 cnt D) (hR : Rep D l) (hn : n < 18446744073709551616) (hc : cnt ≤ 1000) (h10 : Maps.size D ≤ 10) :
    ∃ (c cnt' : Nat) (D' : DataW Unit) (l' : List Ent), (Calls Try.prog 15 #[.pointer (some ⟨L, 0, none⟩), eV n o a x, .int .i64 now] w fun r w' => r = .returned (.int .i64 (c : Int)) ∧ IsL w' L M 10 cnt' D' ∧ ChM M w w') ∧ Rep D' l' ∧ cnt' ≤ cnt + 1 ∧ Maps.size D' ≤ 10 ∧
      ((c = 0 ∧ Maps.size D' = Maps.size D + 1) ∨ (c ≠ 0 ∧ Maps.size D' = Maps.size D)) := by
  obtain ⟨n', o', a', x', h, hh, hat⟩ : ∃ (n' o' a' : Nat) (x' : Int) (h : Bool), Maps.has D (kl n) = h ∧ D.atKey (kl n) (eD 0 0 0 0) = eD n' o' a' x' := by
    cases hh : Maps.has D (kl n) with
    | false => exact ⟨0, 0, 0, 0, false, rfl, Maps.atKey_of_not_has hh _⟩
    | true =>
      have h1 := hR.has n
      rw [hh] at h1
      obtain ⟨e, he, hen⟩ := List.any_eq_true.1 h1.symm
      have h2 := hR.at' e he
      rw [show e.1 = n by simpa using hen] at h2
      exact ⟨_, _, _, _, true, rfl, h2⟩
  by_cases h1 : x < now
  · refine ⟨9, cnt, D, l, (issue_old L M 10 cnt D n o a x now w hL hn h1 h hh n' o' a' x' hat).mono ?_, hR, by omega, h10, .inr ⟨by decide, rfl⟩⟩
    rintro r w' ⟨rfl, hb⟩
    exact ⟨rfl, hL.below hb, ChM.of_below hb⟩
  · cases h with
    | true =>
      refine ⟨11, cnt, D, l, (issue_exists L M 10 cnt D n o a x now w hL hn h1 hh n' o' a' x' hat).mono ?_, hR, by omega, h10, .inr ⟨by decide, rfl⟩⟩
      rintro r w' ⟨rfl, hb⟩
      exact ⟨rfl, hL.below hb, ChM.of_below hb⟩
    | false =>
      by_cases h2 : (Maps.size D : Int) < 10
      · have hP := hR.put (hL.2.tidy K26) (n, o, a, x) hn (by rw [← hR.has]; exact hh)
        have hs : Maps.size (D.put (kl n) (eD n o a x)) = Maps.size D + 1 := by rw [hP.size, hR.size, List.length_append]; rfl
        exact ⟨0, cnt + 1, D.put (kl n) (eD n o a x), l ++ [(n, o, a, x)], issue_ok L M 10 cnt D n o a x now w hL hn h1 hh h2 hc, hP, by omega, by rw [hs]; omega, .inl ⟨rfl, hs⟩⟩
      · refine ⟨10, cnt, D, l, (issue_full L M 10 cnt D n o a x now w hL hn h1 hh h2).mono ?_, hR, by omega, h10, .inr ⟨by decide, rfl⟩⟩
        rintro r w' ⟨rfl, hb⟩
        exact ⟨rfl, hL.below hb, ChM.of_below hb⟩
theorem spend_len (L M cnt : Nat) (D : DataW Unit) (l : List Ent) (n u b : Nat) (now : Int) (w : World) (hL : IsL w L M 10 cnt D) (hR : Rep D l) (hn : n < 18446744073709551616) :
    ∃ (c : Nat) (D' : DataW Unit), (Calls Try.prog 17 #[.pointer (some ⟨L, 0, none⟩), .int .u64 (n : Int), .int .u32 (u : Int), .int .u32 (b : Int), .int .i64 now] w fun r w' => r = .returned (.int .i64 (c : Int)) ∧ IsL w' L M 10 cnt D' ∧ ChM M w w') ∧
      ((c = 0 ∧ Maps.size D' + 1 = Maps.size D) ∨ (c ≠ 0 ∧ Maps.size D' = Maps.size D)) := by
  have low : ∀ {c : Nat}, (Calls Try.prog 17 #[.pointer (some ⟨L, 0, none⟩), .int .u64 (n : Int), .int .u32 (u : Int), .int .u32 (b : Int), .int .i64 now] w fun r w' => r = .returned (.int .i64 (c : Int)) ∧ Below w.heap.size w w') → (Calls Try.prog 17 #[.pointer (some ⟨L, 0, none⟩), .int .u64 (n : Int), .int .u32 (u : Int), .int .u32 (b : Int), .int .i64 now] w fun r w' => r = .returned (.int .i64 (c : Int)) ∧ IsL w' L M 10 cnt D ∧ ChM M w w') := fun h => h.mono fun r w' ⟨hr, hb⟩ => ⟨hr, hL.below hb, ChM.of_below hb⟩
  cases hh : Maps.has D (kl n) with
  | false => exact ⟨12, D, low (spend_missing _ n u b now w (get_any L M 10 cnt D n 0 0 0 0 false w hL hn hh (Maps.atKey_of_not_has hh _))), .inr ⟨by decide, rfl⟩⟩
  | true =>
    have h1 := hR.has n
    rw [hh] at h1
    obtain ⟨e, he, hen⟩ := List.any_eq_true.1 h1.symm
    have hat := hR.at' e he
    obtain ⟨n', o', a', x'⟩ := e
    obtain rfl : n' = n := by simpa using hen
    have hg := get_any L M 10 cnt D n' n' o' a' x' true w hL hn hh hat
    by_cases c1 : o' = u
    · subst c1
      by_cases c2 : a' = b
      · subst c2
        by_cases c3 : x' < now
        · exact ⟨9, D, low (spend_old _ n' o' a' n' x' now w c3 hg), .inr ⟨by decide, rfl⟩⟩
        · refine ⟨0, D.del (kl n'), spend_ok L M 10 cnt D n' o' a' n' x' now w hL hn c3 hh hat, .inl ⟨rfl, ?_⟩⟩
          have := Maps.size_del (hL.2.tidy K26) (k := kl n')
          rw [hh] at this
          simpa using this
      · exact ⟨13, D, low (spend_wrong2 _ n' o' b n' o' a' x' now w ⟨rfl, c2⟩ hg), .inr ⟨by decide, rfl⟩⟩
    · exact ⟨13, D, low (spend_wrong _ n' u b n' o' a' x' now w c1 hg), .inr ⟨by decide, rfl⟩⟩
end Go.Proofs.Yticegnbdpihdpaa
