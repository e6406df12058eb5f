/- Frames: few and short pieces; a dead reader, no reader; what the chapter's examples say. -/
import Derived.Test.YtggoclmboemmlaaF9
import Derived.Test.YtggoclmboemmlaaF7
namespace Go.Proofs.Ytggoclmboemmlaa
open Go.RowKit

def shortB (ps : List (List UInt8)) : Bool := decide ((∀ p ∈ ps, p.length ≤ 1200) ∧ ps.length ≤ 20)

set_option maxHeartbeats 1000000 in
theorem short_any (v : Value) (ps : List (List UInt8)) (w : World) (hp : Pbs w v ps) (hpl : ps.length ≤ 9223372036854775807) (hql : ∀ p ∈ ps, p.length ≤ 9223372036854775807) :
    Calls Try.prog 10 #[v] w fun e w' => e = .returned (.bool (shortB ps)) ∧ w = w' := by
  obtain ⟨A, c, rfl, _, _⟩ := id hp
  obtain ⟨res, hres⟩ : ∃ res, res = shortB ps := ⟨_, rfl⟩
  rw [← hres]
  have HP := Lib.hid hp
  have HRES := Lib.hid hres
  have HQ := Lib.hid hql
  clear hp hres hql
  go_enter Try.func10, Try.ntmps10
  go_wp2_with fail
  go_loop [3] (fun i => ∃ k : Nat, k ≤ ps.length ∧ i = .int .i64 k ∧ Hid (∀ p ∈ ps.take k, p.length ≤ 1200)) (fun i => ps.length - (intOf i).toNat)
  case atStart => exact ⟨0, by omega, rfl, by simp [Hid]⟩
  case round =>
    obtain ⟨k, hk, rfl, hs⟩ := hrel
    by_cases hlt : k < ps.length
    · obtain ⟨b, o, c2, u, e2, hb, h1, A3, c3, rfl, _, _⟩ := HP.out.get hlt
      injection e2 with e3 _ e4
      subst e3 e4
      have hn63 := HQ.out ps[k] (List.getElem_mem hlt)
      obtain ⟨n, hn⟩ : ∃ n, n = (ps[k]).length := ⟨_, rfl⟩
      rw [← hn] at h1 hn63
      have HN := Lib.hid hn
      clear hn
      by_cases hbig : 1200 < n
      · have HRE : Hid (res = false) := HRES.out.trans (by
          unfold shortB
          rw [decide_eq_false_iff_not]
          rintro ⟨h, _⟩
          have := h ps[k] (List.getElem_mem hlt)
          have := HN.out
          omega)
        go_wp2_with fail
        go_ret
        exact ⟨by rw [HRE.out]; rfl, rfl⟩
      · go_wp2_with fail
        go_round
        case rel =>
          refine ⟨k + 1, by omega, by go_num, ?_⟩
          intro p hp
          rw [List.take_succ_eq_append_getElem hlt, List.mem_append] at hp
          rcases hp with hp | hp
          · exact hs.out p hp
          · simp at hp
            rw [hp, ← HN.out]
            omega
        case measure => simp [intOf] <;> omega
    · have hk2 : k = ps.length := by omega
      have hs2 := hs.out
      rw [hk2, List.take_length] at hs2
      have HRE : Hid (res = decide ((ps.length : Int) ≤ 20)) := HRES.out.trans (by
        unfold shortB
        rw [decide_eq_decide]
        constructor
        · rintro ⟨_, h⟩
          omega
        · intro h
          exact ⟨hs2, by omega⟩)
      clear hs hs2
      go_wp2_with fail
      go_ret
      exact ⟨by rw [HRE.out]; rfl, rfl⟩

theorem feed_nil (y : Value) (w : World) : Calls Try.prog 16 #[.pointer Option.none, y] w fun e w' => e = .returned (.tuple #[.slice none 0 0, .int .i64 6]) ∧ w = w' := by
  have hd := dead_nil w
  go_enter Try.func16, Try.ntmps16
  go_wp2_with fail
  go_step3
  go_wp2_with fail
  refine hd.mono ?_
  rintro e w' ⟨rfl, rfl⟩
  go_wp2_with fail
  rw [Exit.noGoto_ret]
  go_ret2
  exact ⟨rfl, rfl⟩
theorem feed_dead (H : Nat) (v y : Value) (w : World) (hr : w.heap[H]? = some (.cells #[v, .bool true] 50 (0, 0))) : Calls Try.prog 16 #[.pointer (some ⟨H, 0, none⟩), y] w fun e w' => e = .returned (.tuple #[.slice none 0 0, .int .i64 6]) ∧ w = w' := by
  have hd := dead_any H v true w hr
  clear hr
  go_enter Try.func16, Try.ntmps16
  go_wp2_with fail
  go_step3
  go_wp2_with fail
  refine hd.mono ?_
  rintro e w' ⟨rfl, rfl⟩
  go_wp2_with fail
  rw [Exit.noGoto_ret]
  go_ret2
  exact ⟨rfl, rfl⟩

theorem parse5 : parse [0, 1, 5, 0, 0] = ([[5]], [], true) := by
  have h : hd2 [0, 1, 5, 0, 0] = 1 := rfl
  rw [parse_take (by decide) (by rw [h]; decide) (by rw [h]; decide), h]
  rw [show List.drop (2 + 1) [0, 1, 5, 0, 0] = [(0 : UInt8), 0] from rfl, parse_wrong (by decide) (by left; decide)]
  rfl
theorem wrap3 : wrapR [[7, 8], [9]] = [0, 2, 7, 8, 0, 1, 9] := by decide
theorem good3 : goodB [[7, 8], [9]] = true := by decide
theorem pb_lit (w : World) (l : List UInt8) (cs : Array Value) (h : cs.toList = bv l) (n : Nat) (hn : n = l.length) : Pb (w.alloc (.cells cs 5)) (.slice (some ⟨w.heap.size, 0, none⟩) n n) l :=
  ⟨_, n, by rw [hn], by omega, fun _ => ⟨w.heap.size, 0, rfl, by simp, fun j u hu => by
    rw [cell_of_row _ _ _ _ _ _ (heap_alloc_new w _), Nat.zero_add, ← Array.getElem?_toList, h]
    exact hu⟩⟩
theorem pbs_two {w : World} {v u : Value} {p q : List UInt8} (h : Pb w v p) (k : Pb w u q) : Pbs (w.alloc (.cells #[v, u] 24)) (.slice (some ⟨w.heap.size, 0, none⟩) 2 2) [p, q] :=
  ⟨_, 2, rfl, by simp, fun _ => ⟨w.heap.size, 0, rfl, by simp, fun j hj => by
    have hb := (Below.refl w.heap.size w).alloc (Nat.le_refl _) (.cells #[v, u] 24)
    rcases j with _ | _ | j
    · exact ⟨v, by rw [cell_of_row _ _ _ _ _ _ (heap_alloc_new w _)]; rfl, h.below hb⟩
    · exact ⟨u, by rw [cell_of_row _ _ _ _ _ _ (heap_alloc_new w _)]; rfl, k.below hb⟩
    · simp at hj
      omega⟩⟩

set_option maxHeartbeats 2000000 in
set_option maxRecDepth 4000 in
theorem awake_any (w : World) : Calls Try.prog 13 #[] w fun e w' => e = .returned (.bool true) ∧ Below w.heap.size w w' := by
  obtain ⟨w1, hw1⟩ : ∃ w1, w1 = w.alloc (.cells #[.int .u8 7, .int .u8 8] 5) := ⟨_, rfl⟩
  obtain ⟨w2, hw2⟩ : ∃ w2, w2 = w1.alloc (.cells #[.int .u8 9] 5) := ⟨_, rfl⟩
  have p1 : Pb w1 (.slice (some ⟨w.heap.size, 0, none⟩) 2 2) [7, 8] := by rw [hw1]; exact pb_lit w _ _ rfl 2 rfl
  have p2 : Pb w2 (.slice (some ⟨w1.heap.size, 0, none⟩) 1 1) [9] := by rw [hw2]; exact pb_lit w1 _ _ rfl 1 rfl
  have hz1 : w1.heap.size = w.heap.size + 1 := by rw [hw1]; simp
  have hz2 : w2.heap.size = w.heap.size + 1 + 1 := by rw [hw2]; simp [hz1]
  have hb1 : Below w.heap.size w w1 := by rw [hw1]; exact (Below.refl _ _).alloc (Nat.le_refl _) _
  have hb2 : Below w.heap.size w w2 := by rw [hw2]; exact hb1.alloc hb1.size _
  have hb12 : Below w1.heap.size w1 w2 := by rw [hw2]; exact (Below.refl _ _).alloc (Nat.le_refl _) _
  have hps := pbs_two (p1.below hb12) p2
  have hb3 := hb2.alloc hb2.size (.cells #[.slice (some ⟨w.heap.size, 0, none⟩) 2 2, .slice (some ⟨w1.heap.size, 0, none⟩) 1 1] 24)
  have hwr := wrap_any _ _ _ hps (by simp) (by simp) (by decide)
  rw [wrap3, good3] at hwr
  rw [hz1] at hb3
  rw [hz2, hz1] at hwr
  rw [hw2, hw1] at hwr hb3
  simp only [if_true] at hwr
  have HWR := Lib.hid hwr
  have HB3 := Lib.hid hb3
  clear hwr hb3 hps hb12 hb2 hb1 hz2 hz1 p2 p1
  go_enter Try.func13, Try.ntmps13
  go_wp2_with fail
  refine HWR.out.mono ?_
  rintro e w4 ⟨A1, n1, c1, rfl, hown1, hb4⟩
  have hbw4 := HB3.out.trans (hb4.mono HB3.out.size)
  have hown1' := own_base hown1 (Nat.zero_le _)
  clear HWR HB3 hown1 hb4 hw1 hw2
  have HO1 := Lib.hid hown1'
  have HB4 := Lib.hid hbw4
  clear hown1' hbw4
  go_wp2_with fail
  refine (new_any w4).mono ?_
  rintro e w5 ⟨rfl, hw5⟩
  obtain ⟨H, hH⟩ : ∃ H, H = w4.heap.size := ⟨_, rfl⟩
  rw [← hH]
  have hk5 : Kp (fun _ => False) w4 w5 := by rw [hw5]; exact Kp.alloc _ _ _
  have hr5 : w5.heap[H]? = some (.cells #[.slice none 0 0, .bool false] 50 (0, 0)) := by rw [hw5, hH]; exact heap_alloc_new w4 _
  obtain ⟨w6, hw6⟩ : ∃ w6, w6 = w5.alloc (.cells #[.int .u8 0, .int .u8 1, .int .u8 5, .int .u8 0, .int .u8 0] 5) := ⟨_, rfl⟩
  have hk6 : Kp (fun _ => False) w5 w6 := by rw [hw6]; exact Kp.alloc _ _ _
  have hir : IsR w6 H (.slice none 0 0) [] false := ⟨hk6.heap hr5 (fun e => e), World.ownsRow_nil w6 (H + 1) 5 1⟩
  have hpl : Pb w6 (.slice (some ⟨w5.heap.size, 0, none⟩) 5 5) [0, 1, 5, 0, 0] := by rw [hw6]; exact pb_lit w5 _ _ rfl 5 rfl
  have hfd := feed_any H _ _ [] [0, 1, 5, 0, 0] w6 hir hpl (by simp)
  rw [List.nil_append, parse5] at hfd
  simp only [if_true] at hfd
  have HO6 := Lib.hid (hk6.own (hk5.own HO1.out (fun _ _ e => e)) (fun _ _ e => e))
  have HK6 := Lib.hid (hk5.trans hk6 (fun _ _ e => e))
  have HLT := Lib.hid (show ∀ k, (Value.slice A1 n1 c1).ownBlock = some k → k < H by rw [hH]; exact fun k hk => (HO1.out.lt k hk).2)
  have HHH := Lib.hid hH
  have HFD := Lib.hid hfd
  have HW6 := Lib.hid hw6
  clear hfd hpl hir hk6 hr5 hk5 hw5 hH HO1
  go_wp2_with fail
  rw [← HW6.out]
  refine HFD.out.mono ?_
  rintro e w7 ⟨A2, n2, c2, vs, v7, rfl, hfr, _, _, _, hk7⟩
  have hk7' : Kp (fun k => k = H) w6 w7 := hk7.weaken (fun i _ e => by rcases e with e | e; exact e; cases e)
  have ho7 := hk7'.own HO6.out (fun k hk e => by have := HLT.out k hk; omega)
  have hb7 : Below w.heap.size w w7 := HB4.out.trans (((HK6.out.weaken (D := fun k => k = H) (fun _ _ e => e.elim)).trans hk7' (fun _ _ e => e)).below HB4.out.size (fun k e => by have := HHH.out; have := HB4.out.size; omega))
  obtain ⟨A8, n8, c8, hv0, ho8⟩ := hfr.2 0 (by simp)
  have hcell : ∃ g, A2 = some ⟨g, 0, none⟩ ∧ n2 = 1 ∧ 1 ≤ c2 ∧ w7.cell? ⟨g, 0, none⟩ = some (.slice A8 n8 c8) := by
    have hcs := fun g => hfr.1.cells (g := g)
    rcases hfr.1.2 with ⟨h, h0⟩ | ⟨g, cap, cur, h, _, _, hc, _⟩
    · simp at h0
    · injection h with h1 h2 h3
      subst h1 h2 h3
      have := hcs g rfl 0 _ hv0
      rw [Addr.add_mid] at this
      exact ⟨g, rfl, rfl, hc, this⟩
  obtain ⟨g, rfl, rfl, hc2, hcell⟩ := hcell
  have hp1 := own_pb ho7
  have k1 : (convert 24 9 (.slice A1 n1 c1)).run Try.prog w7 = .ok (.string ⟨#[0, 2, 7, 8, 0, 1, 9]⟩) w7 := conv_pb hp1
  have hb8 : Below w7.heap.size w7 (w7.alloc (.cells #[.int .u8 0, .int .u8 2, .int .u8 7, .int .u8 8, .int .u8 0, .int .u8 1, .int .u8 9] 5)) := (Below.refl _ _).alloc (Nat.le_refl _) _
  have k2 : (convert 24 9 (.slice (some ⟨w7.heap.size, 0, none⟩) 7 7)).run Try.prog (w7.alloc (.cells #[.int .u8 0, .int .u8 2, .int .u8 7, .int .u8 8, .int .u8 0, .int .u8 1, .int .u8 9] 5)) = .ok (.string ⟨#[0, 2, 7, 8, 0, 1, 9]⟩) (w7.alloc (.cells #[.int .u8 0, .int .u8 2, .int .u8 7, .int .u8 8, .int .u8 0, .int .u8 1, .int .u8 9] 5)) := conv_pb (pb_lit w7 [0, 2, 7, 8, 0, 1, 9] _ rfl 7 rfl)
  have k3 : (convert 24 9 (.slice A8 n8 c8)).run Try.prog (w7.alloc (.cells #[.int .u8 0, .int .u8 2, .int .u8 7, .int .u8 8, .int .u8 0, .int .u8 1, .int .u8 9] 5)) = .ok (.string ⟨#[5]⟩) (w7.alloc (.cells #[.int .u8 0, .int .u8 2, .int .u8 7, .int .u8 8, .int .u8 0, .int .u8 1, .int .u8 9] 5)) := conv_pb (l := [5]) ((own_pb ho8).below hb8)
  have hgl := World.block_lt_of_cell? w7 _ hcell
  have hcell8 := (hb8.cell (p := ⟨g, 0, none⟩) hgl).trans hcell
  have HB9 := Lib.hid (hb7.alloc hb7.size (.cells #[.int .u8 0, .int .u8 2, .int .u8 7, .int .u8 8, .int .u8 0, .int .u8 1, .int .u8 9] 5))
  clear hfr hk7 hk7' ho7 hb7 hv0 ho8 hp1 hb8 hgl
  go_wp2_with fail
  go_ret
  exact ⟨rfl, HB9.out⟩
end Go.Proofs.Ytggoclmboemmlaa
