/- Outbox: Wrap. -/
import Derived.Test.YtbahifbhjdnacaaO1
namespace Go.Proofs.Ytbahifbhjdnacaa
open Go.RowKit

theorem right_any (n : Int) (w : World) : Calls Try.prog 23 #[.int .i64 n] w fun e w' => e = .returned (.bool (decide (1 ≤ n ∧ n ≤ 1024))) ∧ w = w' := by
  obtain ⟨r, hr⟩ : ∃ r, r = decide (1 ≤ n ∧ n ≤ 1024) := ⟨_, rfl⟩
  rw [← hr]
  have HR := Lib.hid hr
  clear hr
  go_enter Try.func23, Try.ntmps23
  by_cases h1 : 1 ≤ n
  · by_cases h2 : n ≤ 1024
    · go_wp2_with fail
      go_ret
      exact ⟨by rw [HR.out, decide_eq_true ⟨h1, h2⟩]; rfl, rfl⟩
    · go_wp2_with fail
      go_ret
      exact ⟨by rw [HR.out, decide_eq_false (by omega)]; rfl, rfl⟩
  · go_wp2_with fail
    go_ret
    exact ⟨by rw [HR.out, decide_eq_false (by omega)]; rfl, rfl⟩

def goodB (fs : List (List UInt8)) : Bool := decide (∀ f ∈ fs, 1 ≤ f.length ∧ f.length ≤ 1024)
/-- What Wrap answers: nothing, when one can't be. -/
def wrapR (fs : List (List UInt8)) : List UInt8 := if goodB fs then wrapP fs else []
theorem wrapP_take (fs : List (List UInt8)) (k : Nat) (hk : k < fs.length) : wrapP (fs.take (k + 1)) = (wrapP (fs.take k) ++ [UInt8.ofNat (fs[k].length / 256), UInt8.ofNat (fs[k].length % 256)]) ++ fs[k] := by
  rw [List.take_succ_eq_append_getElem hk, wrapP_append, wrapP_cons, wrapP_nil]
  simp
theorem wrapP_le (fs : List (List UInt8)) (k : Nat) : (wrapP (fs.take k)).length ≤ (wrapP fs).length := by
  have h : wrapP fs = wrapP (fs.take k) ++ wrapP (fs.drop k) := by rw [← wrapP_append, List.take_append_drop]
  rw [h, List.length_append]
  omega
theorem pb_head {w : World} {n : Nat} (h1 : n ≤ 1024) : Pb (w.alloc (.cells #[.int .u8 ((n : Int) / 256), .int .u8 ((n : Int) % 256)] 5)) (.slice (some ⟨w.heap.size, 0, none⟩) 2 2) [UInt8.ofNat (n / 256), UInt8.ofNat (n % 256)] :=
  ⟨_, 2, rfl, by simp, fun _ => ⟨w.heap.size, 0, rfl, by simp, fun j u hu => by
    rw [cell_of_row _ _ _ _ _ _ (heap_alloc_new w _), Nat.zero_add, List.getElem?_toArray, ← hu]
    simp only [bv, List.map_cons, List.map_nil]
    have e1 : ((UInt8.ofNat (n / 256)).toNat : Int) = (n : Int) / 256 := by simp; omega
    have e2 : ((UInt8.ofNat (n % 256)).toNat : Int) = (n : Int) % 256 := by simp
    rw [e1, e2]⟩⟩

set_option maxHeartbeats 2000000 in
set_option maxRecDepth 4000 in
theorem wrap_any (v : Value) (fs : List (List UInt8)) (w : World) (hp : Pbs w v fs) (hpl : fs.length ≤ 9223372036854775807) (hql : ∀ p ∈ fs, p.length ≤ 9223372036854775807) (hlen : (wrapP fs).length ≤ 900000) :
    Calls Try.prog 20 #[v] w fun e w' => ∃ A n c, e = .returned (.tuple #[.slice A n c, .int .i64 (if goodB fs then 0 else 6)]) ∧ w'.ownsRow w.heap.size 5 1 (.slice A n c) (wrapR fs).length (bv (wrapR fs)) ∧ Below w.heap.size w w' := by
  obtain ⟨A, c, rfl, _, _⟩ := id hp
  obtain ⟨B, hB⟩ : ∃ B, B = w.heap.size := ⟨_, rfl⟩
  have HP := Lib.hid hp
  have HBB := Lib.hid hB
  have HQL := Lib.hid hql
  have HB0 : Hid (Below w.heap.size w w) := Lib.hid (Below.refl _ _)
  rw [← hB]
  obtain ⟨er, her⟩ : ∃ er : Int, er = if goodB fs then 0 else 6 := ⟨_, rfl⟩
  rw [← her]
  have HER := Lib.hid her
  clear hp hB hql her
  go_enter Try.func20, Try.ntmps20
  go_wp2_with fail
  go_loopw [4, 9] (fun u i wr => ∃ (k : Nat) (A4 : Option Addr) (n4 c4 : Nat), k ≤ fs.length ∧ i = .int .i64 k ∧ u = .slice A4 n4 c4 ∧ Hid (∀ f ∈ fs.take k, 1 ≤ f.length ∧ f.length ≤ 1024) ∧ Hid (wr.ownsRow B 5 1 (.slice A4 n4 c4) (wrapP (fs.take k)).length (bv (wrapP (fs.take k)))) ∧ Hid (Below w.heap.size w wr)) (fun _ i _ => fs.length - (intOf i).toNat)
  case atStart => exact ⟨0, none, 0, 0, by omega, rfl, rfl, by simp [Hid], World.ownsRow_nil w B 5 1, HB0⟩
  case round =>
    clear HB0
    obtain ⟨k, A4, n4, c4, hk, rfl, rfl, hgd, ho, hb⟩ := hrel
    have hsz : B ≤ wr.heap.size := by rw [HBB.out]; exact hb.out.size
    by_cases hlt : k < fs.length
    · obtain ⟨b, o, c2, u, e2, hbl, hcw, hpw⟩ := HP.out.get hlt
      injection e2 with e3 _ e4
      subst e3 e4
      have hcell := (hb.out.cell (p := ⟨b, o + k, none⟩) hbl).trans hcw
      obtain ⟨f, hf⟩ : ∃ f, f = fs[k] := ⟨_, rfl⟩
      have hn1 := wrapP_take fs k hlt
      have hle := wrapP_le fs (k + 1)
      have hfl := HQL.out fs[k] (List.getElem_mem hlt)
      rw [← hf] at hpw hn1 hfl
      obtain ⟨L, hL⟩ : ∃ L, L = wrapP (fs.take k) := ⟨_, rfl⟩
      rw [hn1] at hle
      rw [← hL] at ho hn1 hle
      obtain ⟨A6, c6, rfl, _, _⟩ := id hpw
      have hpb := hpw.below hb.out
      obtain ⟨n, hn⟩ : ∃ n, n = f.length := ⟨_, rfl⟩
      rw [← hn] at hpb hn1 hcell hfl
      have hrt := right_any (n : Int) wr
      obtain ⟨ok, hok⟩ : ∃ ok, ok = decide (1 ≤ (n : Int) ∧ (n : Int) ≤ 1024) := ⟨_, rfl⟩
      rw [← hok] at hrt
      have HF := Lib.hid hf
      have HN1 := Lib.hid hn1
      have HLE := Lib.hid (show L.length + 2 + n ≤ 900000 by simp only [List.length_append, List.length_cons, List.length_nil] at hle; omega)
      have hpx := fun (W : World) (h : Below w.heap.size w W) => hpw.below h
      rw [← hn] at hpx
      have HPX := Lib.hid hpx
      clear hpx
      have HPB := Lib.hid hpb
      have HN := Lib.hid hn
      have HRT := Lib.hid hrt
      have HOK := Lib.hid hok
      clear hf hn1 hle hpb hn hrt hok hpw hcw hL
      go_wp2_with fail
      refine HRT.out.mono ?_
      rintro e w1 ⟨rfl, rfl⟩
      clear HRT
      cases ok with
      | false =>
        have hgb : goodB fs = false := by
          unfold goodB
          rw [decide_eq_false_iff_not]
          intro h
          have h1 := h fs[k] (List.getElem_mem hlt)
          rw [← HF.out, ← HN.out] at h1
          have := decide_eq_false_iff_not.1 HOK.out.symm
          omega
        have HGB := Lib.hid hgb
        clear hgb
        go_wp2_with fail
        go_ret2
        refine ⟨none, 0, 0, by rw [HER.out, HGB.out]; rfl, ?_, by rw [HBB.out]; exact hb.out⟩
        unfold wrapR
        rw [HGB.out]
        exact World.ownsRow_nil _ B 5 1
      | true =>
        have hok2 := decide_eq_true_iff.1 HOK.out.symm
        have hn0 : 1 ≤ n := by omega
        have hn2 : n ≤ 1024 := by omega
        clear hok2
        have HOA := Lib.hid (ho.out.alloc (.cells #[.int .u8 ((n : Int) / 256), .int .u8 ((n : Int) % 256)] 5))
        have HBA := Lib.hid (hb.out.alloc hb.out.size (.cells #[.int .u8 ((n : Int) / 256), .int .u8 ((n : Int) % 256)] 5))
        have HSA := Lib.hid (show B ≤ (wr.alloc (.cells #[.int .u8 ((n : Int) / 256), .int .u8 ((n : Int) % 256)] 5)).heap.size by simp; omega)
        go_wp2_with (first
          | (at_builtin; refine wpList_append_bytes rfl (.tmp 17) (.tmp 25) rfl B (.slice A4 n4 c4) (.slice (some ⟨wr.heap.size, 0, none⟩) 2 2) L [UInt8.ofNat (n / 256), UInt8.ofNat (n % 256)] rfl rfl HOA.out (pb_head hn2) (by have := HLE.out; simp; omega) HSA.out ?_; intro v3 w3 hown3 hg3 hat3; have HW3 : Hid (w3.ownsRow B 5 1 v3 (L ++ [UInt8.ofNat (n / 256), UInt8.ofNat (n % 256)]).length (bv (L ++ [UInt8.ofNat (n / 256), UInt8.ofNat (n % 256)])) ∧ Below w.heap.size w w3 ∧ B ≤ w3.heap.size ∧ Pb w3 (.slice A6 n c6) f) := ⟨hown3, HBA.out.grown hg3 HBA.out.size (fun g hg => by rw [← HBB.out]; exact (HOA.out.lt g hg).1), Nat.le_trans HSA.out hg3.size, HPX.out w3 (HBA.out.grown hg3 HBA.out.size (fun g hg => by rw [← HBB.out]; exact (HOA.out.lt g hg).1))⟩; clear hown3 hg3 hat3; obtain ⟨A3, n3, c3, rfl⟩ := own_form HW3.out.1)
          | (at_builtin; refine wpList_append_bytes rfl (.tmp 27) (.tmp 28) rfl B (.slice A3 n3 c3) (.slice A6 n c6) (L ++ [UInt8.ofNat (n / 256), UInt8.ofNat (n % 256)]) f rfl rfl HW3.out.1 HW3.out.2.2.2 (by have := HLE.out; have := HN.out; simp; omega) HW3.out.2.2.1 ?_; intro v5 w5 hown5 hg5 hat5; have HW5 : Hid (w5.ownsRow B 5 1 v5 ((L ++ [UInt8.ofNat (n / 256), UInt8.ofNat (n % 256)]) ++ f).length (bv ((L ++ [UInt8.ofNat (n / 256), UInt8.ofNat (n % 256)]) ++ f)) ∧ Below w.heap.size w w5) := ⟨hown5, HW3.out.2.1.grown hg5 HW3.out.2.1.size (fun g hg => by rw [← HBB.out]; exact (HW3.out.1.lt g hg).1)⟩; clear hown5 hg5 hat5; obtain ⟨A5, n5, c5, rfl⟩ := own_form HW5.out.1))
        go_roundw
        case rel =>
          refine ⟨k + 1, A5, n5, c5, by omega, by go_num, rfl, ?_, ?_, Lib.hid HW5.out.2⟩
          · intro p hp
            rw [List.take_succ_eq_append_getElem hlt, List.mem_append] at hp
            rcases hp with hp | hp
            · exact hgd.out p hp
            · simp at hp
              rw [hp, ← HF.out, ← HN.out]
              exact ⟨hn0, hn2⟩
          · rw [HN1.out]
            exact Lib.hid HW5.out.1
        case measure => simp [intOf] <;> omega
    · have hk2 : k = fs.length := by omega
      have hgb : goodB fs = true := by
        unfold goodB
        rw [decide_eq_true_iff]
        have := hgd.out
        rw [hk2, List.take_length] at this
        exact this
      have ho2 := ho.out
      rw [hk2, List.take_length] at ho2
      have HGB := Lib.hid hgb
      have HO2 := Lib.hid ho2
      clear hgb ho2
      go_wp2_with fail
      go_ret2
      refine ⟨A4, n4, c4, by rw [HER.out, HGB.out]; rfl, ?_, by rw [HBB.out]; exact hb.out⟩
      unfold wrapR
      rw [HGB.out]
      exact HO2.out
end Go.Proofs.Ytbahifbhjdnacaa
