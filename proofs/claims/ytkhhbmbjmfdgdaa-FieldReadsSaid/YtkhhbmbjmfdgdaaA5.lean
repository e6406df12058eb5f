/- What the chapter's examples say: a contract for the statements' own helper awake. -/
import Derived.Test.YtkhhbmbjmfdgdaaA4
import Derived.Laws.IdiomStrings
import Derived.Laws.BytesArg
namespace Go.Proofs.Ytkhhbmbjmfdgdaa
set_option maxRecDepth 4000
open Go.RowKit

theorem own_rd {w : World} {base e n : Nat} {v : Value} {xs : List Value} (h : w.ownsRow base e 1 v n xs) : ∃ A c, v = .slice A n c ∧ Rd w w.heap.size A xs ∧ n ≤ c ∧ xs.length = n := by
  have hl : xs.length = n := by simpa using h.1
  have hcells := fun g => h.cells (g := g)
  have hlt := h.lt
  rcases h.2 with ⟨rfl, rfl⟩ | ⟨g, cap, cur, rfl, hg, hh, hnc, _⟩
  · exact ⟨none, 0, rfl, fun hx => absurd hx (by omega), Nat.le_refl _, hl⟩
  · refine ⟨_, cap, rfl, fun _ => ⟨g, 0, rfl, (hlt g rfl).2, fun j u hu => ?_⟩, hnc, hl⟩
    have := hcells g rfl j u hu
    rw [← this]
    unfold Addr.add
    split <;> simp_all

theorem conv_rd {w : World} {B : Nat} {A : Option Addr} {l : List UInt8} (h : Rd w B A (bv l)) (c : Nat) :
    (convert 22 9 (.slice A l.length c)).run Try.prog w = .ok (.string ⟨l.toArray⟩) w := by
  rcases A with _ | ad
  · have hl : l = [] := by
      rcases l with _ | ⟨x, l⟩
      · rfl
      · obtain ⟨b, o, hA, _⟩ := h (by simp [bv])
        cases hA
    subst hl
    exact run_convert_bytes_nil w 22 5 Try.underlying22 Try.underlying5 0 c 9 Try.underlying9
  · refine run_convert_bytes_back w 22 9 5 ad c l Try.underlying22 Try.underlying5 Try.underlying9 fun j hj => ?_
    obtain ⟨b, o, hA, _, hc⟩ := h (by simp [bv]; omega)
    injection hA with hA
    subst hA
    have := hc j (.int .u8 (l[j].toNat : Int)) (by simp [bv, List.getElem?_eq_getElem hj])
    rw [← this]
    unfold Addr.add
    split <;> simp_all

theorem rd_block' {w : World} {g B : Nat} {cs : Array Value} {t : TypeId} {m : Nat × Nat} {xs : List Value} (h : w.heap[g]? = some (.cells cs t m)) (hx : cs.toList = xs) (hB : g < B) : Rd w B (some ⟨g, 0, none⟩) xs := fun _ =>
  ⟨g, 0, rfl, hB, fun j u hj => by
    subst hx
    rw [cell_of_row w g (0 + j) cs t m h]
    simpa using hj⟩

theorem awake_bytes : writeR [98, 119, 115] [7, 258] [⟨#[97, 98]⟩] [] = ([7, 1, 2, 2, 97, 98], 0) := by rfl
theorem awake_least : least [113, 115, 108] = 10 := by rfl

set_option maxHeartbeats 1000000 in
theorem awake_any (w : World) : Calls Try.prog 8 #[] w fun e w' => e = .returned (.bool true) ∧ Below w.heap.size w w' := by
  obtain ⟨W0, hW0⟩ : ∃ W0, W0 = (w.alloc (.cells #[.int .u64 7, .int .u64 258] 46)).alloc (.cells #[.string ⟨#[97, 98]⟩] 9) := ⟨_, rfl⟩
  have hb0 : Below w.heap.size w W0 := by rw [hW0]; exact ((Below.refl _ _).alloc (Nat.le_refl _) _).alloc (by simp) _
  have hwr := write_any ⟨#[98, 119, 115]⟩ [7, 258] [⟨#[97, 98]⟩] [] [] (some ⟨w.heap.size, 0, none⟩) (some ⟨w.heap.size + 1, 0, none⟩) none 2 1 0 W0
    (rd_block' (by rw [hW0]; exact (Below.heap_alloc _ _ _ (by simp)).trans (heap_alloc_new w _)) rfl (by rw [hW0]; simp; omega))
    (rd_block' (t := 9) (m := (0, 0)) (cs := #[.string ⟨#[97, 98]⟩]) (by rw [hW0]; have h2 := heap_alloc_new (w.alloc (.cells #[.int .u64 7, .int .u64 258] 46)) (.cells #[.string ⟨#[97, 98]⟩] 9); rw [World.size_alloc] at h2; exact h2) rfl (by rw [hW0]; simp))
    Rd.nil trivial (by simp) (by simp) (by simp) (by simp)
  rw [show (⟨#[98, 119, 115]⟩ : ByteArray).data.toList = [98, 119, 115] from rfl, awake_bytes] at hwr
  have HW := Lib.hid hwr
  have hls := fun W => least_any ⟨#[113, 115, 108]⟩ W
  rw [show (⟨#[113, 115, 108]⟩ : ByteArray).data.toList = [113, 115, 108] from rfl, awake_least] at hls
  have HL := Lib.hid hls
  have H0 := Lib.hid hW0
  clear hwr hls hW0
  go_enter Try.func8, Try.ntmps8
  go_wp2_with fail
  rw [← H0.out]
  refine HW.out.mono ?_
  rintro e w1 ⟨v, rfl, hown, _, hb1⟩
  obtain ⟨A, c, rfl, hr, hc, _⟩ := own_rd hown
  have k1 : (convert 22 9 (.slice A 6 c)).run Try.prog w1 = .ok (.string ⟨#[7, 1, 2, 2, 97, 98]⟩) w1 := conv_rd hr c
  have k2 : (convert 22 9 (.slice (some ⟨w1.heap.size, 0, none⟩) 6 6)).run Try.prog (w1.alloc (.cells #[.int .u8 7, .int .u8 1, .int .u8 2, .int .u8 2, .int .u8 97, .int .u8 98] 5)) =
      .ok (.string ⟨#[7, 1, 2, 2, 97, 98]⟩) (w1.alloc (.cells #[.int .u8 7, .int .u8 1, .int .u8 2, .int .u8 2, .int .u8 97, .int .u8 98] 5)) :=
    conv_rd (l := [7, 1, 2, 2, 97, 98]) (rd_block' (heap_alloc_new w1 _) rfl (Nat.lt_succ_self _)) 6
  clear hr hown hc
  go_wp2_with fail
  refine (HL.out _).mono ?_
  rintro e w' ⟨rfl, rfl⟩
  go_wp2
  go_ret
  exact ⟨rfl, ((hb0.trans (hb1.mono hb0.size)).alloc (Nat.le_trans hb0.size hb1.size) _)⟩
end Go.Proofs.Ytkhhbmbjmfdgdaa
