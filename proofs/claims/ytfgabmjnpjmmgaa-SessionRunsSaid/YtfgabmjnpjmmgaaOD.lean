/- session: Players. -/
import Derived.Test.YtfgabmjnpjmmgaaOC
import Derived.Test.YtfgabmjnpjmmgaaSB
namespace Go.Proofs.Ytfgabmjnpjmmgaa
open Go.RowKit
set_option maxRecDepth 20000
set_option linter.unusedVariables false

/-- Who is logged in, connection by connection. -/
def playersQ (l : List (Nat × Mk)) : List Nat := (l.filter fun z => decide (z.2.2 ≠ 0)).map fun z => z.2.2.toNat
theorem playersQ_snoc (l : List (Nat × Mk)) (k : Nat) (z : Nat × Mk) (h : l[k]? = some z) : playersQ (l.take (k + 1)) = playersQ (l.take k) ++ if z.2.2 = 0 then [] else [z.2.2.toNat] := by
  rw [List.take_add_one, h]
  simp only [playersQ, Option.toList, List.filter_append, List.map_append]
  congr 1
  by_cases hc : z.2.2 = 0 <;> simp [hc]
theorem playersQ_len (l : List (Nat × Mk)) : (playersQ l).length ≤ l.length := by
  unfold playersQ
  rw [List.length_map]
  exact List.length_filter_le _ _

set_option maxHeartbeats 4000000 in
theorem players_any (B T : Nat) (idle most : Int) (ids : List Nat) (ths : List Mk) (w : World) (h : Tb w B T idle most ids ths) (hl : ids.length ≤ 900) (hpl : ∀ y ∈ ths, 0 ≤ y.2 ∧ y.2 ≤ 4294967295) :
    Calls Try.prog 22 #[.pointer (some ⟨T, 0, none⟩)] w fun r w' => ∃ v', r = .returned v' ∧ w'.ownsRow w.heap.size 28 1 v' (playersQ (ids.zip ths)).length (un (sortedN (playersQ (ids.zip ths)))) ∧ Below w.heap.size w w' := by
  obtain ⟨hlen, hup, -⟩ := h.facts
  have HC := Lib.hid (conns_any B T idle most ids ths w h (by omega))
  have HT := Lib.hid h
  have HL := Lib.hid hl
  have HLEN := Lib.hid hlen
  have HUP := Lib.hid hup
  have HPL := Lib.hid hpl
  obtain ⟨n, hn⟩ : ∃ n, n = ids.length := ⟨_, rfl⟩
  have HN := Lib.hid hn
  rw [← hn] at hl
  clear h hlen hup hn hpl
  go_enter Try.func22, Try.ntmps22
  go_wp2_with fail
  refine HC.out.mono ?_
  rintro r w1 ⟨v', rfl, ho, hb1⟩
  obtain ⟨A, c, rfl, hS⟩ := S32.of_own ho
  have HS := Lib.hid hS
  have HB1 := Lib.hid hb1
  have HBr : Hid (Below w1.heap.size w1 w1) := Below.refl _ _
  rw [← HN.out]
  clear ho hS hb1
  go_wp2_with fail
  go_loopw [3, 10] (fun o u wr => ∃ (k m : Nat), k ≤ n ∧ m ≤ k ∧ u = .int .i64 (k : Int) ∧ Hid (m = (playersQ ((ids.zip ths).take k)).length ∧ wr.ownsRow w1.heap.size 28 1 o m (un (playersQ ((ids.zip ths).take k))) ∧ Below w1.heap.size w1 wr)) (fun _ u _ => n - (intOf u).toNat)
  case atStart => exact ⟨0, 0, by omega, by omega, rfl, rfl, World.ownsRow_nil w1 _ 28 1, HBr.out⟩
  case round =>
    obtain ⟨k, m, hk, hm, rfl, HV⟩ := hrel
    obtain ⟨O, co, rfl⟩ := own_form1 HV.out.2.1
    by_cases hlt : k < n
    · obtain ⟨x, y, hx, hy, hz⟩ := zip_at HLEN.out (k := k) (by rw [← HN.out]; exact hlt)
      obtain ⟨b, o, rfl, hbs, hat⟩ := HS.out (by have := HN.out; omega)
      have hcell : wr.cell? ⟨b, o + k, none⟩ = some (.int .u32 (x : Int)) := (HV.out.2.2.cell (p := ⟨b, _, none⟩) hbs).trans (hat k x hx)
      have HBW : Hid (Below w.heap.size w wr) := HB1.out.trans (HV.out.2.2.mono HB1.out.size)
      have hyb := HPL.out y (List.mem_of_getElem? hy)
      have HSN := Lib.hid (playersQ_snoc (ids.zip ths) k _ hz)
      obtain ⟨y1, y2⟩ := y
      simp only at hyb HSN
      obtain ⟨q, hq⟩ := Int.eq_ofNat_of_zero_le hyb.1
      subst hq
      have HP : Hid (Calls Try.prog 21 #[.pointer (some ⟨T, 0, none⟩), .int .u32 (x : Int)] wr fun r w' => r = .returned (.int .u32 (q : Int)) ∧ Below wr.heap.size wr w') :=
        (player_there B T idle most ids ths x wr (HT.out.after HBW.out) (by have := HL.out; omega) (List.mem_of_getElem? hx)).mono fun r w' ⟨⟨p, z1, z2, hp1, hp2, e⟩, hb⟩ => by
          obtain rfl := up_same HUP.out hp1 hx
          rw [hy] at hp2
          injection hp2 with hp2
          injection hp2 with e1 e2
          rw [e2]
          exact ⟨e, hb⟩
      clear hx hy hz hat hbs hyb
      go_upto_region 5 with fail
      clear hcell
      go_upto_region 6 with (go_at_call 21; refine HP.out.mono ?_; rintro r w2 ⟨rfl, hb2⟩; have HB2r := Lib.hid hb2; clear hb2)
      have HB2 : Hid (Below w1.heap.size w1 w2) := HV.out.2.2.trans (HB2r.out.mono HV.out.2.2.size)
      have HO2 : Hid (w2.ownsRow w1.heap.size 28 1 (.slice O m co) m (un (playersQ ((ids.zip ths).take k)))) := own_after HV.out.2.1 fun g hg => HB2r.out.block g (ownlt HV.out.2.1 g hg).2
      by_cases he : q = 0
      · subst he
        have HQ : Hid (playersQ ((ids.zip ths).take (k + 1)) = playersQ ((ids.zip ths).take k)) := by have := HSN.out; rw [if_pos (by rfl : ((0 : Nat) : Int) = 0), List.append_nil] at this; exact this
        go_wp2
        go_roundw
        case rel => exact ⟨k + 1, m, by omega, by omega, by go_num, by rw [HQ.out]; exact HV.out.1, by rw [HQ.out]; exact HO2.out, HB2.out⟩
        case measure => simp [intOf] <;> omega
      · have heb : ((q : Int) == 0) = false := by simp; omega
        have hei : ¬ (q : Int) = 0 := by omega
        have HQ : Hid (playersQ ((ids.zip ths).take (k + 1)) = playersQ ((ids.zip ths).take k) ++ [q]) := by have := HSN.out; rw [if_neg hei] at this; exact this
        obtain ⟨w5, hw5⟩ : ∃ w5, w5 = w2.alloc (.cells #[.int .u32 (q : Int)] 28) := ⟨_, rfl⟩
        have hg5 : w5.heap[w2.heap.size]? = some (.cells #[.int .u32 (q : Int)] 28 (0, 0)) := by rw [hw5]; exact heap_alloc_new w2 _
        have hb5 : Below w2.heap.size w2 w5 := by rw [hw5]; exact (Below.refl _ _).alloc (Nat.le_refl _) _
        have HB5 : Hid (Below w1.heap.size w1 w5) := HB2.out.trans (hb5.mono HB2.out.size)
        have HO5 : Hid (w5.ownsRow w1.heap.size 28 1 (.slice O m co) m (un (playersQ ((ids.zip ths).take k)))) := own_after HO2.out fun g hg => hb5.block g (ownlt HO2.out g hg).2
        have H5 := Lib.hid hw5
        have ht : Hid (∀ W : World, W = w5 → W.ownsRow w1.heap.size 28 1 (.slice O m co) m (un (playersQ ((ids.zip ths).take k))) ∧ W.heap[w2.heap.size]? = some (.cells #[.int .u32 (q : Int)] 28 (0, 0)) ∧ w1.heap.size ≤ W.heap.size) := fun W e => by rw [e]; exact ⟨HO5.out, hg5, HB5.out.size⟩
        clear hw5 hg5 hb5
        go_wp2_with (at_builtin; refine wpList_append_u32 rfl (.tmp 19) (.tmp 21) rfl w1.heap.size w2.heap.size (.slice O m co) m (un (playersQ ((ids.zip ths).take k))) q rfl rfl (ht.out _ H5.out.symm).1 (ht.out _ H5.out.symm).2.1 (by omega) (ht.out _ H5.out.symm).2.2 ?_; intro v6 w6 hown6 hg6; rw [← H5.out] at hg6; obtain ⟨O6, c6, rfl⟩ := own_form1 hown6; have HO6 := Lib.hid hown6; have HB6 : Hid (Below w1.heap.size w1 w6) := HB5.out.grown hg6 HB5.out.size (fun g h => (ownlt HO5.out g h).1); clear hown6 hg6)
        go_roundw
        case rel =>
          refine ⟨k + 1, m + 1, by omega, by omega, by go_num, ?_, ?_, HB6.out⟩
          · rw [HQ.out, List.length_append, ← HV.out.1]; rfl
          · have h := HO6.out
            rw [HQ.out]
            have e : un (playersQ ((ids.zip ths).take k) ++ [q]) = un (playersQ ((ids.zip ths).take k)) ++ [.int .u32 (q : Int)] := by simp [un]
            rw [e]
            exact h
        case measure => simp [intOf] <;> omega
    · have hkn : k = n := by omega
      subst hkn
      have hfull : (ids.zip ths).take k = ids.zip ths := List.take_of_length_le (by rw [List.length_zip, HLEN.out, ← HN.out]; omega)
      obtain ⟨L, hL⟩ : ∃ L, L = playersQ (ids.zip ths) := ⟨_, rfl⟩
      have hLl : L.length ≤ k := by
        rw [hL]
        have := playersQ_len (ids.zip ths)
        rw [List.length_zip, HLEN.out, ← HN.out] at this
        omega
      have HM : Hid (m = L.length) := by rw [hL, ← hfull]; exact HV.out.1
      have HF : Hid (wr.ownsRow w1.heap.size 28 1 (.slice O m co) L.length (un L)) := by
        rw [← HM.out, hL]
        have h2 := HV.out.2.1
        rw [hfull] at h2
        exact h2
      have CS := Lib.hid (sort_own w1.heap.size (.slice O m co) L wr HF.out (by omega))
      have HLE := Lib.hid hL
      clear hfull hL
      go_wp2_with (go_at_call 39; refine CS.out.mono ?_; rintro r w5 ⟨rfl, ho, hb⟩; have HO5 := Lib.hid ho; have HB5 := Lib.hid hb; clear ho hb)
      go_ret
      rw [← HLE.out]
      refine ⟨_, rfl, ⟨HO5.out.1, ?_⟩, HB1.out.trans ((HV.out.2.2.trans HB5.out).mono HB1.out.size)⟩
      rcases HO5.out.2 with h | ⟨g, cap, cur, e1, e2, e3⟩
      · exact .inl h
      · exact .inr ⟨g, cap, cur, e1, Nat.le_trans HB1.out.size e2, e3⟩
end Go.Proofs.Ytfgabmjnpjmmgaa
