/- Frames: behind a wrong length nothing comes any more: FrameDead returns true for every input. -/
import Derived.Test.YtggoclmboemmlaaFD
namespace Go.Proofs.Ytggoclmboemmlaa
open Go.RowKit

theorem pb_five {w : World} {n : Nat} (h1 : n ≤ 65535) : Pb (w.alloc (.cells #[.int .u8 0, .int .u8 1, .int .u8 9, .int .u8 ((n : Int) / 256), .int .u8 ((n : Int) % 256)] 5)) (.slice (some ⟨w.heap.size, 0, none⟩) 5 5) [0, 1, 9, UInt8.ofNat (n / 256), UInt8.ofNat (n % 256)] := by
  refine pb_lit w _ _ ?_ 5 rfl
  have e1 : ((UInt8.ofNat (n / 256)).toNat : Int) = (n : Int) / 256 := by simp; omega
  have e2 : ((UInt8.ofNat (n % 256)).toNat : Int) = (n : Int) % 256 := by simp
  simp only [bv, List.map_cons, List.map_nil, e1, e2]
  rfl
theorem parse_five {n : Nat} (h1 : n ≤ 65535) (h2 : n < 1 ∨ 1024 < n) : parse [0, 1, 9, UInt8.ofNat (n / 256), UInt8.ofNat (n % 256)] = ([[9]], [], true) := by
  have h : hd2 [0, 1, 9, UInt8.ofNat (n / 256), UInt8.ofNat (n % 256)] = 1 := rfl
  have e : hd2 [UInt8.ofNat (n / 256), UInt8.ofNat (n % 256)] = n := by
    simp [hd2]
    omega
  rw [parse_take (by simp) (by rw [h]; decide) (by rw [h]; simp), h]
  rw [show List.drop (2 + 1) [0, 1, 9, UInt8.ofNat (n / 256), UInt8.ofNat (n % 256)] = [UInt8.ofNat (n / 256), UInt8.ofNat (n % 256)] from rfl, parse_wrong (by simp) (by rw [e]; exact h2)]
  rfl

set_option maxHeartbeats 2000000 in
set_option maxRecDepth 4000 in
theorem dead_walk (v : Value) (high : Bool) (more : Nat) (ps : List (List UInt8)) (w : World) (hp : Pbs w v ps) (hpl : ps.length ≤ 9223372036854775807) (hql : ∀ p ∈ ps, p.length ≤ 9223372036854775807) (hm : more < 65536) :
    Calls Try.prog 9 #[v, .bool high, .int .u16 (more : Int)] w fun e w' => e = .returned (.bool true) ∧ Below w.heap.size w w' := by
  obtain ⟨A, c, rfl, _, _⟩ := id hp
  have hsh := short_any _ ps w hp hpl hql
  obtain ⟨sb, hsb⟩ : ∃ sb, sb = shortB ps := ⟨_, rfl⟩
  rw [← hsb] at hsh
  have HSH := Lib.hid hsh
  have HP := Lib.hid hp
  have HA := Lib.hid (fun (W : World) => awake_any W)
  obtain ⟨H, hH⟩ : ∃ H, H = w.heap.size := ⟨_, rfl⟩
  have HHH := Lib.hid hH
  clear hsh hsb hp hql
  go_enter Try.func9, Try.ntmps9
  go_wp2_with fail
  refine HSH.out.mono ?_
  rintro e w0 ⟨rfl, rfl⟩
  clear HSH
  cases sb with
  | false =>
    go_wp2_with fail
    go_ret
    exact ⟨rfl, Below.refl _ _⟩
  | true =>
    go_wp2_with fail
    refine (new_any w).mono ?_
    rintro e w1 ⟨rfl, hw1⟩
    rw [← hH]
    have hr1 : w1.heap[H]? = some (.cells #[.slice none 0 0, .bool false] 50 (0, 0)) := by rw [hw1, hH]; exact heap_alloc_new w _
    have hb1 : Below w.heap.size w w1 := by rw [hw1]; exact (Below.refl _ _).alloc (Nat.le_refl _) _
    have HI1 := Lib.hid (show IsR w1 H (.slice none 0 0) [] false from ⟨hr1, World.ownsRow_nil w1 (H + 1) 5 1⟩)
    have HB1 := Lib.hid hb1
    clear hr1 hb1 hw1 hH
    go_upto_if 18 with fail
    go_cut [8] (fun x wx => ∃ n : Nat, x = .int .i64 (n : Int) ∧ n ≤ 65535 ∧ Hid (n < 1 ∨ 1024 < n) ∧ w1 = wx)
    case first =>
      obtain ⟨q, hq⟩ : ∃ q, q = more % 64511 := ⟨_, rfl⟩
      have e1 : ((more : Int) % 64511) = (q : Int) := by omega
      have hq2 : q < 64511 := by omega
      clear hq
      cases high with
      | false =>
        go_wp2_with fail
        go_meet
        exact ⟨0, rfl, by omega, Lib.hid (.inl (by omega)), rfl⟩
      | true =>
        go_wp2_with fail
        go_meet
        exact ⟨1025 + q, by simp, by omega, Lib.hid (.inr (by omega)), rfl⟩
    case rest =>
      obtain ⟨n, rfl, hn, hnw, rfl⟩ := hcut
      have hfd := feed_any H _ _ [] [0, 1, 9, UInt8.ofNat (n / 256), UInt8.ofNat (n % 256)] (w1.alloc (.cells #[.int .u8 0, .int .u8 1, .int .u8 9, .int .u8 ((n : Int) / 256), .int .u8 ((n : Int) % 256)] 5)) ⟨(Kp.alloc (fun _ => False) w1 _).heap HI1.out.1 (fun e => e), HI1.out.2.alloc _⟩ (pb_five hn) (by simp)
      rw [List.nil_append, parse_five hn hnw.out, if_pos rfl] at hfd
      have HFD := Lib.hid hfd
      have HBA := Lib.hid (HB1.out.alloc HB1.out.size (.cells #[.int .u8 0, .int .u8 1, .int .u8 9, .int .u8 ((n : Int) / 256), .int .u8 ((n : Int) % 256)] 5))
      clear hfd
      go_wp2_with fail
      refine HFD.out.mono ?_
      intro e w2 hq
      obtain ⟨A2, n2, c2, vs, x2, e1, hfr, hir, _, _, hk2⟩ := hq
      subst e1
      have hb2 : Below w.heap.size w w2 := HBA.out.trans (hk2.below HBA.out.size (fun k e => by
        rcases e with e | e
        · rw [e, HHH.out]; exact Nat.le_refl _
        · cases e))
      have hdd := fun (W : World) (hr : W.heap[H]? = some (.cells #[x2, .bool true] 50 (0, 0))) => dead_any H x2 true W hr
      have HIR := Lib.hid hir
      have HB2 := Lib.hid hb2
      have HD2 := Lib.hid (hdd w2 hir.1)
      have HH2 := Lib.hid (held_any H x2 [] true w2 hir.1 (own_pb hir.2))
      clear hir hb2 hdd hfr hk2 HFD HBA HI1 HB1
      go_wp2_with fail
      refine HD2.out.mono ?_
      rintro e w3 ⟨rfl, rfl⟩
      go_wp2_with fail
      go_loopw [11] (fun i wr => ∃ k : Nat, k ≤ ps.length ∧ i = .int .i64 k ∧ w2 = wr) (fun i _ => ps.length - (intOf i).toNat)
      case atStart => exact ⟨0, by omega, rfl, rfl⟩
      case round =>
        obtain ⟨k, hk, rfl, rfl⟩ := hrel
        by_cases hlt : k < ps.length
        · obtain ⟨b, o, c2, u, e2, hbl, hcw, hpw⟩ := HP.out.get hlt
          injection e2 with e3 _ e4
          subst e3 e4
          have hcell := (HB2.out.cell (p := ⟨b, o + k, none⟩) hbl).trans hcw
          have hfd := feed_dead H x2 u w2 HIR.out.1
          have HFD := Lib.hid hfd
          obtain ⟨_, _, rfl, _, _⟩ := id hpw
          clear hfd hcw hpw
          go_wp2_with fail
          refine HFD.out.mono ?_
          rintro e w3 ⟨rfl, rfl⟩
          go_wp2_with fail
          refine HH2.out.mono ?_
          rintro e w3 ⟨rfl, rfl⟩
          go_wp2_with fail
          go_roundw
          case rel => exact ⟨k + 1, by omega, by go_num, trivial⟩
          case measure => simp [intOf] <;> omega
        · have hk2 : k = ps.length := by omega
          subst hk2
          go_wp2_with fail
          refine (HA.out w2).mono ?_
          rintro e w4 ⟨rfl, hb4⟩
          have HB4 := Lib.hid (HB2.out.trans (hb4.mono HB2.out.size))
          clear hb4
          go_wp2_with fail
          go_ret
          exact ⟨rfl, HB4.out⟩
end Go.Proofs.Ytggoclmboemmlaa
