/- Friend: the document's Unblock. -/
import Derived.Test.YtohcibmlkngaeaaD2
namespace Go.Proofs.Ytohcibmlkngaeaa
open Go.RowKit Go.Maps
set_option maxRecDepth 20000
set_option linter.unusedVariables false
set_option linter.unusedSimpArgs false

theorem RpOf {w w' : World} {B : Option Addr} {m c base : Nat} {l : List Rw} (h : w'.ownsRow base 70 3 (.slice B m c) m (rw3 l)) : m = l.length ∧ Rr w' B l := ⟨own3_len h, Rr.of_own h⟩
set_option maxHeartbeats 8000000 in
theorem runblock_any (A : Option Addr) (n c a b : Nat) (l : List Rw) (w : World) (hn : n = l.length) (hR : Rr w A l) (hl : n ≤ 500) :
    Calls Try.prog 27 #[.slice A n c, u a, u b] w fun r w' => ∃ B m c', r = .returned (.tuple #[.slice B m c', .int .i64 (unbL l a b).2]) ∧ m = (unbL l a b).1.length ∧ Rr w' B (unbL l a b).1 ∧ Below w.heap.size w w' := by
  have HC := Lib.hid (rblocks_any A n c a b l w hn hR hl)
  have HR := Lib.hid hR
  have HN := Lib.hid hn
  have HB0 : Hid (Below w.heap.size w w) := Below.refl _ _
  clear hR hn
  by_cases hm : (3, a, b) ∈ l
  · have e0 : decide ((3, a, b) ∈ l) = true := by simp [hm]
    have hr : unbL l a b = (unb l a b, 0) := by simp [unbL, hm]
    rw [hr]
    clear hr hm
    go_enter Try.func27, Try.ntmps27
    go_wp2_with fail
    refine HC.out.mono ?_
    rintro r w' ⟨rfl, hw⟩
    have hw := hw.symm
    subst hw
    rw [e0]
    go_wp2_with fail
    go_loopw [8, 9] (fun o x wr => ∃ (k m : Nat) (B : Option Addr) (c2 : Nat), k ≤ n ∧ x = .int .i64 (k : Int) ∧ o = .slice B m c2 ∧ Hid (wr.ownsRow w.heap.size 70 3 (.slice B m c2) m (rw3 (unb (l.take k) a b)) ∧ Below w.heap.size w wr)) (fun _ x _ => n - (intOf x).toNat)
    case atStart => exact ⟨0, 0, none, 0, by omega, rfl, rfl, World.ownsRow_nil w _ 70 3, HB0.out⟩
    case round =>
      obtain ⟨k, m, B, c2, hk, rfl, rfl, HV⟩ := hrel
      by_cases hlt : k < n
      · obtain ⟨⟨s, p, q⟩, hy⟩ : ∃ e, l[k]? = some e := ⟨l[k]'(by rw [← HN.out]; exact hlt), List.getElem?_eq_getElem _⟩
        obtain ⟨b1, o1, cc, rfl, hb1, ha1⟩ := HR.out (by have := HN.out; omega)
        obtain ⟨d0, d1, d2⟩ := ha1 k _ hy
        have hbe : wr.heap[b1]? = w.heap[b1]? := HV.out.2.block b1 (lt_of_block hb1)
        rw [← World.cell?_of_block hbe] at d0 d1 d2
        simp only at d0 d1 d2
        have hnx : l.take (k + 1) = l.take k ++ [(s, p, q)] := by rw [List.take_add_one, hy]; rfl
        have HTK := Lib.hid hnx
        have HO1 : Hid (wr.ownsRow w.heap.size 70 3 (.slice B m c2) m (rw3 (unb (l.take k) a b))) := HV.out.1
        have HB1 : Hid (Below w.heap.size w wr) := HV.out.2
        have HS1 : Hid (w.heap.size ≤ wr.heap.size) := HB1.out.size
        have HM : Hid (m ≤ 500) := by
          have h1 := own3_len HV.out.1
          have h2 : (unb (l.take k) a b).length ≤ (l.take k).length := List.length_filter_le _ _
          rw [List.length_take] at h2
          simp only [Hid]
          omega
        clear hy ha1 hb1 hnx hbe
        by_cases hs : s = 3
        · by_cases hp : p = a
          · by_cases hq : q = b
            · have HH : Hid (s = 3 ∧ p = a ∧ q = b) := by simp only [Hid]; omega
              clear hs hp hq
              have HNX : Hid (unb (l.take (k + 1)) a b = unb (l.take k) a b) := by
                simp only [Hid]
                rw [HTK.out, unb_snoc, if_neg (by have hh := HH.out; simp; omega)]
                simp
              have e0 : ((s : Int) != (3 : Int)) = false := by have hh := HH.out; simp; omega
              have e1 : ((p : Int) != (a : Int)) = false := by have hh := HH.out; simp; omega
              have e2 : ((q : Int) != (b : Int)) = false := by have hh := HH.out; simp; omega
              go_wp2
              go_roundw
              case rel => exact ⟨k + 1, m, B, c2, by omega, by go_num, rfl, by rw [HNX.out]; exact HV.out.1, HV.out.2⟩
              case measure => simp [intOf] <;> omega
            · have HH : Hid (s = 3 ∧ p = a ∧ ¬ q = b) := by simp only [Hid]; omega
              clear hs hp hq
              have HNX : Hid (unb (l.take (k + 1)) a b = unb (l.take k) a b ++ [(s, p, q)]) := by
                simp only [Hid]
                rw [HTK.out, unb_snoc, if_pos (by have hh := HH.out; simp; omega)]
              have e0 : ((s : Int) != (3 : Int)) = false := by have hh := HH.out; simp; omega
              have e1 : ((p : Int) != (a : Int)) = false := by have hh := HH.out; simp; omega
              have e2 : ((q : Int) != (b : Int)) = true := by have hh := HH.out; simp; omega
              go_upto_region 8 with (fail)
              clear e0 e1 e2
              go_wp2_with (at_builtin; refine wpList_append_rw rfl _ _ rfl w.heap.size wr.heap.size (.slice B m c2) m (unb (l.take k) a b) (s, p, q) rfl rfl (HO1.out.alloc _) (heap_alloc_new _ _) (by have := HM.out; omega) (by have := HS1.out; simp; omega) ?_; intro v4 w4 hown4 hg4; obtain ⟨B4, c4, rfl⟩ := own3_form hown4; go_frame)
              have HB4 : Hid (Below w.heap.size w w4) := (HB1.out.alloc HS1.out _).grown hg4 (by have := HS1.out; simp; omega) (fun g h => (own3_lt HO1.out g h).1)
              rw [← HNX.out] at hown4
              go_roundw
              case rel => exact ⟨k + 1, m + 1, B4, c4, by omega, by go_num, rfl, hown4, HB4.out⟩
              case measure => simp [intOf] <;> omega
          · have HH : Hid (s = 3 ∧ ¬ p = a) := by simp only [Hid]; omega
            clear hs hp
            have HNX : Hid (unb (l.take (k + 1)) a b = unb (l.take k) a b ++ [(s, p, q)]) := by
              simp only [Hid]
              rw [HTK.out, unb_snoc, if_pos (by have hh := HH.out; simp; omega)]
            have e0 : ((s : Int) != (3 : Int)) = false := by have hh := HH.out; simp; omega
            have e1 : ((p : Int) != (a : Int)) = true := by have hh := HH.out; simp; omega
            go_upto_region 8 with (fail)
            clear e0 e1
            go_wp2_with (at_builtin; refine wpList_append_rw rfl _ _ rfl w.heap.size wr.heap.size (.slice B m c2) m (unb (l.take k) a b) (s, p, q) rfl rfl (HO1.out.alloc _) (heap_alloc_new _ _) (by have := HM.out; omega) (by have := HS1.out; simp; omega) ?_; intro v4 w4 hown4 hg4; obtain ⟨B4, c4, rfl⟩ := own3_form hown4; go_frame)
            have HB4 : Hid (Below w.heap.size w w4) := (HB1.out.alloc HS1.out _).grown hg4 (by have := HS1.out; simp; omega) (fun g h => (own3_lt HO1.out g h).1)
            rw [← HNX.out] at hown4
            go_roundw
            case rel => exact ⟨k + 1, m + 1, B4, c4, by omega, by go_num, rfl, hown4, HB4.out⟩
            case measure => simp [intOf] <;> omega
        · have HH : Hid (¬ s = 3) := by simp only [Hid]; omega
          clear hs
          have HNX : Hid (unb (l.take (k + 1)) a b = unb (l.take k) a b ++ [(s, p, q)]) := by
            simp only [Hid]
            rw [HTK.out, unb_snoc, if_pos (by have hh := HH.out; simp; omega)]
          have e0 : ((s : Int) != (3 : Int)) = true := by have hh := HH.out; simp; omega
          go_upto_region 8 with (fail)
          clear e0
          go_wp2_with (at_builtin; refine wpList_append_rw rfl _ _ rfl w.heap.size wr.heap.size (.slice B m c2) m (unb (l.take k) a b) (s, p, q) rfl rfl (HO1.out.alloc _) (heap_alloc_new _ _) (by have := HM.out; omega) (by have := HS1.out; simp; omega) ?_; intro v4 w4 hown4 hg4; obtain ⟨B4, c4, rfl⟩ := own3_form hown4; go_frame)
          have HB4 : Hid (Below w.heap.size w w4) := (HB1.out.alloc HS1.out _).grown hg4 (by have := HS1.out; simp; omega) (fun g h => (own3_lt HO1.out g h).1)
          rw [← HNX.out] at hown4
          go_roundw
          case rel => exact ⟨k + 1, m + 1, B4, c4, by omega, by go_num, rfl, hown4, HB4.out⟩
          case measure => simp [intOf] <;> omega
      · obtain rfl : k = n := by omega
        have HRES : Hid (m = (unb l a b).length ∧ Rr wr B (unb l a b) ∧ Below w.heap.size w wr) := by
          have h1 := HV.out
          rw [List.take_of_length_le (by rw [← HN.out]; exact Nat.le_refl _)] at h1
          exact ⟨own3_len h1.1, Rr.of_own h1.1, h1.2⟩
        go_wp2
        exact bodyPost_ret (v := .tuple #[.slice B m c2, .int .i64 0]) (by simp [results, Try.results27, go_sem]) rfl ⟨_, _, _, rfl, HRES.out⟩
  · have e0 : decide ((3, a, b) ∈ l) = false := by simp [hm]
    have hr : unbL l a b = (l, 12) := by simp [unbL, hm]
    rw [hr]
    clear hr hm
    go_enter Try.func27, Try.ntmps27
    go_wp2_with fail
    refine HC.out.mono ?_
    rintro r w' ⟨rfl, hw⟩
    have hw := hw.symm
    subst hw
    rw [e0]
    go_wp2
    exact bodyPost_ret (v := .tuple #[.slice A n c, .int .i64 12]) (by simp [results, Try.results27, go_sem]) rfl ⟨_, _, _, rfl, HN.out, HR.out, HB0.out⟩
end Go.Proofs.Ytohcibmlkngaeaa
