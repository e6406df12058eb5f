/- SHA-256: a contract for the document's own Step. -/
import Derived.Test.YtaefgieodehceaaDoorS9
import Derived.BigRegion
namespace Go.Proofs.YtaefgieodehceaaDoor.Sha
set_option maxRecDepth 4000
open Go.RowKit

theorem rowK_pre (bl : List UInt8) (n m j : Nat) (hj : j < 16 + n) : (rowK bl (n + m)).getD j 0 = (rowK bl n).getD j 0 := by
  induction m with
  | zero => rfl
  | succ m ih =>
    rw [← ih, show n + (m + 1) = (n + m) + 1 by omega]
    simp only [rowK]
    rw [List.getD_eq_getElem?_getD, List.getElem?_append_left (by rw [rowK_length]; omega), List.getD_eq_getElem?_getD]
theorem row_front (bl : List UInt8) (k : Nat) (hk : k < 16) : (rowK bl 48).getD k 0 = wd ((bl.drop (4 * k)).take 4) := by
  have h := rowK_pre bl 0 48 k (by omega)
  rw [Nat.zero_add] at h
  rw [h]
  simp [rowK, row16, hk]
theorem row_back (bl : List UInt8) (k : Nat) (h1 : 16 ≤ k) (h2 : k < 64) :
    (rowK bl 48).getD k 0 = wadd (wadd (wadd ((rowK bl 48).getD (k - 16) 0) (sg0 ((rowK bl 48).getD (k - 15) 0))) ((rowK bl 48).getD (k - 7) 0)) (sg1 ((rowK bl 48).getD (k - 2) 0)) := by
  obtain ⟨n, rfl⟩ : ∃ n, k = n + 16 := ⟨k - 16, by omega⟩
  have hp : ∀ j, j < 16 + n → (rowK bl 48).getD j 0 = (rowK bl n).getD j 0 := fun j hj => by
    have := rowK_pre bl n (48 - n) j hj
    rwa [show n + (48 - n) = 48 by omega] at this
  have hk := rowK_pre bl (n + 1) (47 - n) (n + 16) (by omega)
  rw [show n + 1 + (47 - n) = 48 by omega] at hk
  rw [hk, hp _ (by omega), hp _ (by omega), hp _ (by omega), hp _ (by omega)]
  have hl := rowK_length bl n
  simp only [rowK]
  rw [List.getD_eq_getElem?_getD, List.getElem?_append_right (by omega), hl, show n + 16 - (16 + n) = 0 by omega]
  simp only [List.getElem?_cons_zero, Option.getD_some, rowNext, hl]
  rw [show 16 + n - 16 = n + 16 - 16 by omega, show 16 + n - 15 = n + 16 - 15 by omega, show 16 + n - 7 = n + 16 - 7 by omega, show 16 + n - 2 = n + 16 - 2 by omega]

theorem right_int (x : W32) (n : Int) (w : World) (h1 : 1 ≤ n) (h2 : n ≤ 31) : Calls Tryd.prog 52 #[.int .u32 (iv x), .int .u64 n] w fun e w' => e = .returned (.int .u32 (iv (rotr x n.toNat))) ∧ w' = w := by
  have h := right_any x n.toNat w (by omega) (by omega)
  rw [Int.toNat_of_nonneg (by omega)] at h
  exact h.mono fun _ _ h => ⟨h.1, h.2.symm⟩
theorem right_eq (x : W32) (n : Int) (w : World) (h1 : 1 ≤ n) (h2 : n ≤ 31) : Calls Tryd.prog 52 #[.int .u32 (iv x), .int .u64 n] w fun e w' => e = .returned (.int .u32 (iv (rotr x n.toNat))) ∧ w = w' :=
  (right_int x n w h1 h2).mono fun _ _ h => ⟨h.1, h.2.symm⟩

/-- A row while it is laid: its first k words are there. -/
def rowR (R : List W32) (k : Nat) : List W32 := R.take k ++ List.replicate (64 - k) 0
theorem rowR_length (R : List W32) (k : Nat) (hR : R.length = 64) (hk : k ≤ 64) : (rowR R k).length = 64 := by
  simp [rowR, hR]
  omega
theorem rowR_get (R : List W32) (k j : Nat) (hR : R.length = 64) (hk : k ≤ 64) (hj : j < k) : (rowR R k).getD j 0 = R.getD j 0 := by
  have hl : (R.take k).length = k := by simp [hR]; omega
  rw [rowR, List.getD_eq_getElem?_getD, List.getElem?_append_left (by omega), List.getElem?_take, if_pos hj, List.getD_eq_getElem?_getD]
theorem rowR_next (R : List W32) (k : Nat) (hR : R.length = 64) (hk : k < 64) : rowR R (k + 1) = (rowR R k).set k (R.getD k 0) := by
  have hl : (R.take k).length = k := by simp [hR]; omega
  unfold rowR
  rw [List.set_append_right _ _ (by omega), hl, Nat.sub_self, List.take_succ_eq_append_getElem (by omega), show 64 - k = (64 - (k + 1)) + 1 by omega, List.replicate_succ, List.set_cons_zero, List.append_assoc]
  simp [List.getD, List.getElem?_eq_getElem (show k < R.length by omega)]

theorem four_bytes {bl : List UInt8} {k : Nat} (h : 4 * k + 4 ≤ bl.length) : (bl.drop (4 * k)).take 4 = [bl.getD (4 * k) 0, bl.getD (4 * k + 1) 0, bl.getD (4 * k + 2) 0, bl.getD (4 * k + 3) 0] := by
  apply List.ext_getElem?
  intro j
  rw [List.getElem?_take]
  rcases j with _ | _ | _ | _ | j
  · simp [List.getD, List.getElem?_eq_getElem (show 4 * k < bl.length by omega)]
  · simp [List.getD, List.getElem?_eq_getElem (show 4 * k + 1 < bl.length by omega)]
  · simp [List.getD, List.getElem?_eq_getElem (show 4 * k + 2 < bl.length by omega)]
  · simp [List.getD, List.getElem?_eq_getElem (show 4 * k + 3 < bl.length by omega)]
  · simp
    omega

theorem sum5 (a b c d e : W32) : (iv a + iv b + iv c + iv d + iv e) % 4294967296 = iv (wadd (wadd (wadd a b) c) (wadd d e)) := by
  rw [← iv_addm, ← iv_addm, ← iv_addm, ← iv_addm]
  omega
theorem bs1_of (e : W32) : bits .xor .u32 (bits .xor .u32 (iv (rotr e 6)) (iv (rotr e 11))) (iv (rotr e 25)) = iv (bs1 e) := by
  rw [iv_xor, iv_xor]
  rfl
theorem bs0_of (a : W32) : bits .xor .u32 (bits .xor .u32 (iv (rotr a 2)) (iv (rotr a 13))) (iv (rotr a 22)) = iv (bs0 a) := by
  rw [iv_xor, iv_xor]
  rfl
theorem choice_of (e f g : W32) : bits .or .u32 (bits .and .u32 (iv e) (iv f)) (bits .and .u32 (bits .xor .u32 (iv e) 4294967295) (iv g)) = iv (chz e f g) := by
  rw [iv_not', iv_and, iv_and, iv_or, chz_or]
theorem most_of (a b c : W32) : bits .or .u32 (bits .or .u32 (bits .and .u32 (iv a) (iv b)) (bits .and .u32 (iv a) (iv c))) (bits .and .u32 (iv b) (iv c)) = iv (maj a b c) := by
  rw [iv_and, iv_and, iv_and, iv_or, iv_or, maj_or]

theorem or4_bytes (a b c d : UInt8) : bits .or .u32 (bits .or .u32 (bits .or .u32 ((a.toNat : Int) % 4294967296 * 16777216 % 4294967296) ((b.toNat : Int) % 4294967296 * 65536 % 4294967296)) ((c.toNat : Int) % 4294967296 * 256 % 4294967296)) ((d.toNat : Int) % 4294967296) =
    iv (wor (wor (wor (wshl (wbyte a) 24) (wshl (wbyte b) 16)) (wshl (wbyte c) 8)) (wbyte d)) := by
  have e : ∀ x : UInt8, (x.toNat : Int) % 4294967296 = iv (wbyte x) := fun x => by
    rw [iv_byte x]
    have h1 := iv_nonneg (wbyte x)
    have h2 := iv_lt (wbyte x)
    omega
  rw [e, e, e, e, show (16777216 : Int) = 2 ^ 24 from rfl, show (65536 : Int) = 2 ^ 16 from rfl, show (256 : Int) = 2 ^ 8 from rfl, iv_shlm, iv_shlm, iv_shlm, iv_or, iv_or, iv_or]

set_option maxHeartbeats 4000000 in
set_option maxRecDepth 100000 in
theorem rstep_any (h : List W32) (hl : h.length = 8) (v : Value) (bl : List UInt8) (hb : bl.length = 64) (w : World) (hv : Pb w v bl) :
    Calls Tryd.prog 41 #[.agg (wv h).toArray, v] w (WordsPost w (stepP h bl)) := by
  obtain ⟨A, c, rfl, hc, hr⟩ := hv
  obtain ⟨b, o, rfl, hbw, hcells⟩ := hr (by omega)
  rw [hb] at hc ⊢
  obtain ⟨R, hR⟩ : ∃ R, R = rowK bl 48 := ⟨_, rfl⟩
  have hRl : R.length = 64 := by rw [hR, rowK_length]
  have hRf : ∀ k, k < 16 → R.getD k 0 = wor (wor (wor (wshl (wbyte (bl.getD (4 * k) 0)) 24) (wshl (wbyte (bl.getD (4 * k + 1) 0)) 16)) (wshl (wbyte (bl.getD (4 * k + 2) 0)) 8)) (wbyte (bl.getD (4 * k + 3) 0)) := fun k hk => by
    rw [hR, row_front bl k hk, four_bytes (by omega), ← wd_four]
  have hRb := fun k h1 h2 => row_back bl k h1 h2
  rw [← hR] at hRb
  obtain ⟨fin, hfin⟩ : ∃ fin, fin = rnds R h 64 := ⟨_, rfl⟩
  have hst : stepP h bl = List.zipWith wadd h fin := by rw [hfin, hR]; rfl
  rw [hst]
  have HRL := Lib.hid hRl
  have HRF := Lib.hid hRf
  have HRB := Lib.hid hRb
  have HFIN := Lib.hid hfin
  have HL := Lib.hid hl
  have HB := Lib.hid hb
  have HCELLS := Lib.hid hcells
  clear hR hRl hRf hRb hfin hst hl hb hcells hr
  go_enter Tryd.func41, Tryd.ntmps41
  go_upto_region 2 with (fail)
  rw [z8_lit, z64_lit]
  obtain ⟨w3, hw3⟩ : ∃ w3, w3 = ((w.alloc (.cells (wv h).toArray 92)).alloc (.cells z8 92)).alloc (.cells z64 112) := ⟨_, rfl⟩
  rw [← hw3]
  have hA : w3.heap[w.heap.size]? = some (.cells (wv h).toArray 92 (0, 0)) := by
    rw [hw3]
    exact (Below.heap_alloc _ _ _ (by simp; omega)).trans ((Below.heap_alloc _ _ _ (by simp)).trans (heap_alloc_new w _))
  have hR : w3.heap[w.heap.size + 1]? = some (.cells z8 92 (0, 0)) := by
    rw [hw3]
    refine (Below.heap_alloc _ _ _ (by simp)).trans ?_
    have := heap_alloc_new (w.alloc (.cells (wv h).toArray 92)) (.cells z8 92)
    simpa using this
  have hW : w3.heap[w.heap.size + 1 + 1]? = some (.cells (wv (rowR R 0)).toArray 112 (0, 0)) := by
    rw [hw3, show (wv (rowR R 0)).toArray = z64 by rw [z64_eq]; simp [rowR]]
    have := heap_alloc_new ((w.alloc (.cells (wv h).toArray 92)).alloc (.cells z8 92)) (.cells z64 112)
    simpa using this
  have hb3 : Below w.heap.size w w3 := by
    rw [hw3]
    exact (((Below.refl _ _).alloc (Nat.le_refl _) _).alloc (by simp) _).alloc (by simp; omega) _
  have HA := Lib.hid hA
  have HR := Lib.hid hR
  have HW := Lib.hid hW
  clear hw3 hA hR hW
  go_wp2_with fail
  go_loopw [6] (fun i wr => ∃ k : Nat, k ≤ 64 ∧ i = .int .i64 k ∧ Hid (wr.heap[w.heap.size + 1 + 1]? = some (.cells (wv (rowR R k)).toArray 112 (0, 0))) ∧
      Hid (wr.heap[w.heap.size + 1]? = some (.cells z8 92 (0, 0))) ∧ Hid (wr.heap[w.heap.size]? = some (.cells (wv h).toArray 92 (0, 0))) ∧ Below w.heap.size w wr) (fun i _ => 64 - (intOf i).toNat)
  case atStart => exact ⟨0, by omega, rfl, HW, HR, HA, hb3⟩
  case round =>
    clear HA HR HW hb3
    obtain ⟨k, hk, rfl, hw, hr, ha, hbw2⟩ := hrel
    by_cases hlt : k < 64
    · have ck : wr.cell? ⟨w.heap.size + 1 + 1, k, none⟩ = some (.int .u32 (iv ((rowR R k).getD k 0))) := row_cell hw.out (by rw [rowR_length _ _ HRL.out hk]; exact hlt)
      have fr : ∀ i, wr.frozen? ⟨w.heap.size + 1 + 1, i, none⟩ = false := fun i => frozen_of_row wr _ _ _ _ hw.out
      by_cases h16 : k < 16
      · have hby : ∀ j, j < 64 → wr.cell? ⟨b, o + j, none⟩ = some (.int .u8 ((bl.getD j 0).toNat : Int)) := fun j hj => by
          refine (hbw2.cell (p := ⟨b, o + j, none⟩) hbw).trans (HCELLS.out j _ ?_)
          have hjl : j < bl.length := by rw [HB.out]; exact hj
          simp [bv, List.getD, List.getElem?_eq_getElem hjl]
        obtain ⟨c0, hc0⟩ : ∃ c0, c0 = bl.getD (4 * k) 0 := ⟨_, rfl⟩
        obtain ⟨c1, hc1⟩ : ∃ c1, c1 = bl.getD (4 * k + 1) 0 := ⟨_, rfl⟩
        obtain ⟨c2, hc2⟩ : ∃ c2, c2 = bl.getD (4 * k + 2) 0 := ⟨_, rfl⟩
        obtain ⟨c3, hc3⟩ : ∃ c3, c3 = bl.getD (4 * k + 3) 0 := ⟨_, rfl⟩
        have b0 := hby (4 * k) (by omega)
        have b1 := hby (4 * k + 1) (by omega)
        have b2 := hby (4 * k + 2) (by omega)
        have b3 := hby (4 * k + 3) (by omega)
        rw [← hc0] at b0
        rw [← hc1] at b1
        rw [← hc2] at b2
        rw [← hc3] at b3
        have hval := HRF.out k h16
        rw [← hc0, ← hc1, ← hc2, ← hc3] at hval
        have HVAL := Lib.hid hval
        clear hby hc0 hc1 hc2 hc3 hval
        go_wp2_with fail
        go_region
        go_wp2_with fail
        rw [or4_bytes]
        go_roundw
        case rel =>
          refine ⟨k + 1, by omega, by go_num, ?_, Lib.hid ((Below.heap_setCell wr _ _ _ (by simp)).trans hr.out), Lib.hid ((Below.heap_setCell wr _ _ _ (by simp; omega)).trans ha.out), ?_⟩
          · rw [rowR_next _ _ HRL.out hlt, HVAL.out]
            exact Lib.hid (row_set hw.out)
          · first | exact below_drewN (hbw2.setCell (by simp; omega) _) 1 | exact (hbw2.setCell (by simp; omega) _).drew | exact below_drewN (hbw2.setCell (by simp; omega) _) _
        case measure => simp [intOf] <;> omega
      · have hk16 : 16 ≤ k := by omega
        obtain ⟨x15, h15⟩ : ∃ x, x = R.getD (k - 15) 0 := ⟨_, rfl⟩
        obtain ⟨x2, h2⟩ : ∃ x, x = R.getD (k - 2) 0 := ⟨_, rfl⟩
        obtain ⟨x16, hx16⟩ : ∃ x, x = R.getD (k - 16) 0 := ⟨_, rfl⟩
        obtain ⟨x7, h7⟩ : ∃ x, x = R.getD (k - 7) 0 := ⟨_, rfl⟩
        have hcl : ∀ j, j < k → wr.cell? ⟨w.heap.size + 1 + 1, j, none⟩ = some (.int .u32 (iv (R.getD j 0))) := fun j hj => by
          rw [row_cell hw.out (by rw [rowR_length _ _ HRL.out hk]; omega), rowR_get _ _ _ HRL.out hk hj]
        have q15 := hcl (k - 15) (by omega)
        have q2 := hcl (k - 2) (by omega)
        have q16 := hcl (k - 16) (by omega)
        have q7 := hcl (k - 7) (by omega)
        rw [← h15] at q15
        rw [← h2] at q2
        rw [← hx16] at q16
        rw [← h7] at q7
        have hval := HRB.out k hk16 hlt
        rw [← h15, ← h2, ← hx16, ← h7] at hval
        have HVAL := Lib.hid hval
        clear hcl h15 h2 hx16 h7 hval
        go_wp2_with fail
        go_quiet ((go_at_call 52; exact Calls.quiet_of_same (right_int _ _ _ (by decide) (by decide))))
        obtain ⟨w5, hw5⟩ : ∃ w5, w5 = wr.drewN nq := ⟨_, rfl⟩
        rw [← hw5]
        have p2 : w5.cell? ⟨w.heap.size + 1 + 1, k - 2, none⟩ = some (.int .u32 (iv x2)) := by rw [hw5]; exact q2
        have p16 : w5.cell? ⟨w.heap.size + 1 + 1, k - 16, none⟩ = some (.int .u32 (iv x16)) := by rw [hw5]; exact q16
        have p7 : w5.cell? ⟨w.heap.size + 1 + 1, k - 7, none⟩ = some (.int .u32 (iv x7)) := by rw [hw5]; exact q7
        have pk : w5.cell? ⟨w.heap.size + 1 + 1, k, none⟩ = some (.int .u32 (iv ((rowR R k).getD k 0))) := by rw [hw5]; exact ck
        have pf : ∀ i, w5.frozen? ⟨w.heap.size + 1 + 1, i, none⟩ = false := fun i => by rw [hw5]; exact fr i
        have HW5 := Lib.hid hw5
        clear hw5 q15 q2 q16 q7 ck fr
        go_wp2_with fail
        go_quiet ((go_at_call 52; exact Calls.quiet_of_same (right_int _ _ _ (by decide) (by decide))))
        go_wp2_with fail
        rw [sg0_of, sg1_of]
        go_region
        go_wp2_with fail
        rw [sum4]
        have hw5 : (w5.drewN (nq + 1)).heap = wr.heap := by
          show w5.heap = _
          rw [HW5.out]
          rfl
        have hb5 : Below w.heap.size w (w5.drewN (nq + 1)) := below_drewN (by rw [HW5.out]; exact below_drewN hbw2 _) _
        have hwx := hw.out
        have hrx := hr.out
        have hax := ha.out
        rw [← hw5] at hwx hrx hax
        go_roundw
        case rel =>
          refine ⟨k + 1, by omega, by go_num, ?_, Lib.hid ((Below.heap_setCell (w5.drewN (nq + 1)) _ _ _ (by simp)).trans hrx), Lib.hid ((Below.heap_setCell (w5.drewN (nq + 1)) _ _ _ (by simp; omega)).trans hax), hb5.setCell (by simp; omega) _⟩
          rw [rowR_next _ _ HRL.out hlt, HVAL.out]
          exact Lib.hid (row_set hwx)
        case measure => simp [intOf] <;> omega
    · obtain rfl : k = 64 := by omega
      have hw2 := hw.out
      rw [show rowR R 64 = R by simp [rowR, List.take_of_length_le (Nat.le_of_eq HRL.out)]] at hw2
      have HW2 := Lib.hid hw2
      clear hw hw2 hlt hk
      go_wp2_with fail
      refine (words_any wr).mono ?_
      intro e w4 hp4
      obtain ⟨rfl, hb4⟩ := hp4
      go_upto_region 11 with (refine wpList_store_row rfl 112 (.tmp 9) (.tmp 115) rfl w4.heap.size _ rfl rfl 112 _ (heap_alloc_new w4 _) kw_built rfl (wv_one _) ?_; rw [World.setRow_alloc_new])
      obtain ⟨w5, hw5⟩ : ∃ w5, w5 = w4.alloc (.cells (wv kw).toArray 112) := ⟨_, rfl⟩
      rw [← hw5]
      have hb5 : Below wr.heap.size wr w5 := by rw [hw5]; exact hb4.alloc hb4.size _
      have hK5 : w5.heap[w4.heap.size]? = some (.cells (wv kw).toArray 112 (0, 0)) := by rw [hw5]; exact heap_alloc_new w4 _
      have hW5 := (hb5.block _ (lt_of_block' HW2.out)).trans HW2.out
      have hR5 := (hb5.block _ (lt_of_block' hr.out)).trans hr.out
      have hA5 := (hb5.block _ (lt_of_block' ha.out)).trans ha.out
      have hB5 := hbw2.trans (hb5.mono hbw2.size)
      have hz4 := hb4.size
      have hzR := lt_of_block' HW2.out
      obtain ⟨x0, x1, x2, x3, x4, x5, x6, x7, hx8⟩ := list8 HL.out
      have hcx : ∀ j, j < 8 → w5.cell? ⟨w.heap.size, j, none⟩ = some (.int .u32 (iv (h.getD j 0))) := fun j hj => row_cell hA5 (by rw [HL.out]; exact hj)
      rw [hx8] at hcx
      have q0 : w5.cell? ⟨w.heap.size, 0, none⟩ = some (.int .u32 (iv x0)) := hcx 0 (by omega)
      have q1 : w5.cell? ⟨w.heap.size, 1, none⟩ = some (.int .u32 (iv x1)) := hcx 1 (by omega)
      have q2 : w5.cell? ⟨w.heap.size, 2, none⟩ = some (.int .u32 (iv x2)) := hcx 2 (by omega)
      have q3 : w5.cell? ⟨w.heap.size, 3, none⟩ = some (.int .u32 (iv x3)) := hcx 3 (by omega)
      have q4 : w5.cell? ⟨w.heap.size, 4, none⟩ = some (.int .u32 (iv x4)) := hcx 4 (by omega)
      have q5 : w5.cell? ⟨w.heap.size, 5, none⟩ = some (.int .u32 (iv x5)) := hcx 5 (by omega)
      have q6 : w5.cell? ⟨w.heap.size, 6, none⟩ = some (.int .u32 (iv x6)) := hcx 6 (by omega)
      have q7 : w5.cell? ⟨w.heap.size, 7, none⟩ = some (.int .u32 (iv x7)) := hcx 7 (by omega)
      have HX8 := Lib.hid hx8
      have HK5 := Lib.hid hK5
      have HW5 := Lib.hid hW5
      have HR5 := Lib.hid hR5
      have HA5 := Lib.hid hA5
      clear hx8 hcx hK5 hW5 hR5 hA5 hw5 hb5 hb4 ha hr HW2 hbw2
      go_wp2_with fail
      go_quiet (fail)
      go_wp2_with fail
      clear q0 q1 q2 q3 q4 q5 q6 q7
      go_loopw [10, 11, 12, 13, 14, 15, 16, 17, 18] (fun a b c d e f g z i wr => ∃ (k : Nat) (ya yb yc yd ye yf yg yz : W32), k ≤ 64 ∧ i = .int .i64 k ∧ a = .int .u32 (iv ya) ∧ b = .int .u32 (iv yb) ∧ c = .int .u32 (iv yc) ∧ d = .int .u32 (iv yd) ∧
          e = .int .u32 (iv ye) ∧ f = .int .u32 (iv yf) ∧ g = .int .u32 (iv yg) ∧ z = .int .u32 (iv yz) ∧ Hid (rnds R h k = [ya, yb, yc, yd, ye, yf, yg, yz]) ∧
          Hid (wr.heap = w5.heap ∧ Below w.heap.size w wr)) (fun _ _ _ _ _ _ _ _ i _ => 64 - (intOf i).toNat)
      case atStart => exact ⟨0, x0, x1, x2, x3, x4, x5, x6, x7, by omega, rfl, rfl, rfl, rfl, rfl, rfl, rfl, rfl, rfl, HX8, Lib.hid ⟨rfl, below_drewN hB5 _⟩⟩
      case round =>
        obtain ⟨k, ya, yb, yc, yd, ye, yf, yg, yz, hk, rfl, rfl, rfl, rfl, rfl, rfl, rfl, rfl, rfl, hrn, hwr⟩ := hrel
        by_cases hlt : k < 64
        · obtain ⟨u, hu⟩ : ∃ u, u = kw.getD k 0 := ⟨_, rfl⟩
          obtain ⟨x, hx⟩ : ∃ x, x = R.getD k 0 := ⟨_, rfl⟩
          have cu : wr.cell? ⟨w4.heap.size, k, none⟩ = some (.int .u32 (iv u)) := by
            rw [hu]
            refine row_cell (by rw [hwr.out.1]; exact HK5.out) ?_
            show k < 64
            exact hlt
          have cx : wr.cell? ⟨w.heap.size + 1 + 1, k, none⟩ = some (.int .u32 (iv x)) := by
            rw [hx]
            exact row_cell (by rw [hwr.out.1]; exact HW5.out) (by rw [HRL.out]; exact hlt)
          have HU := Lib.hid hu
          have HX := Lib.hid hx
          clear hu hx
          go_wp2_with fail
          refine (right_eq _ _ _ (by decide) (by decide)).mono ?_
          rintro _ _ ⟨rfl, rfl⟩
          go_wp2_with fail
          refine (right_eq _ _ _ (by decide) (by decide)).mono ?_
          rintro _ _ ⟨rfl, rfl⟩
          go_wp2_with fail
          refine (right_eq _ _ _ (by decide) (by decide)).mono ?_
          rintro _ _ ⟨rfl, rfl⟩
          go_wp2_with fail
          rw [bs1_of, choice_of]
          go_quiet (fail)
          go_wp2_with fail
          refine (right_eq _ _ _ (by decide) (by decide)).mono ?_
          rintro _ _ ⟨rfl, rfl⟩
          go_wp2_with fail
          refine (right_eq _ _ _ (by decide) (by decide)).mono ?_
          rintro _ _ ⟨rfl, rfl⟩
          go_wp2_with fail
          refine (right_eq _ _ _ (by decide) (by decide)).mono ?_
          rintro _ _ ⟨rfl, rfl⟩
          go_wp2_with fail
          rw [bs0_of, most_of, sum5, iv_addm (bs0 ya), iv_addm, iv_addm]
          have hnext : rnds R h (k + 1) = [wadd (wadd (wadd (wadd yz (bs1 ye)) (chz ye yf yg)) (wadd u x)) (wadd (bs0 ya) (maj ya yb yc)), ya, yb, yc, wadd yd (wadd (wadd (wadd yz (bs1 ye)) (chz ye yf yg)) (wadd u x)), ye, yf, yg] := by
            simp only [rnds, hrn.out, ← HU.out, ← HX.out]
            rfl
          have hwr2 : (wr.drewN nq).heap = w5.heap ∧ Below w.heap.size w (wr.drewN nq) := ⟨hwr.out.1, below_drewN hwr.out.2 _⟩
          go_roundw
          case rel => exact ⟨k + 1, _, _, _, _, _, _, _, _, by omega, by go_num, rfl, rfl, rfl, rfl, rfl, rfl, rfl, rfl, Lib.hid hnext, Lib.hid hwr2⟩
          case measure => simp [intOf] <;> omega
        · have hk64 : k = 64 := by omega
          have hfin2 : fin = [ya, yb, yc, yd, ye, yf, yg, yz] := by rw [HFIN.out, ← hrn.out, hk64]
          have hcx : ∀ j, j < 8 → wr.cell? ⟨w.heap.size, j, none⟩ = some (.int .u32 (iv (h.getD j 0))) := fun j hj => row_cell (by rw [hwr.out.1]; exact HA5.out) (by rw [HL.out]; exact hj)
          rw [HX8.out] at hcx
          have q0 : wr.cell? ⟨w.heap.size, 0, none⟩ = some (.int .u32 (iv x0)) := hcx 0 (by omega)
          have q1 : wr.cell? ⟨w.heap.size, 1, none⟩ = some (.int .u32 (iv x1)) := hcx 1 (by omega)
          have q2 : wr.cell? ⟨w.heap.size, 2, none⟩ = some (.int .u32 (iv x2)) := hcx 2 (by omega)
          have q3 : wr.cell? ⟨w.heap.size, 3, none⟩ = some (.int .u32 (iv x3)) := hcx 3 (by omega)
          have q4 : wr.cell? ⟨w.heap.size, 4, none⟩ = some (.int .u32 (iv x4)) := hcx 4 (by omega)
          have q5 : wr.cell? ⟨w.heap.size, 5, none⟩ = some (.int .u32 (iv x5)) := hcx 5 (by omega)
          have q6 : wr.cell? ⟨w.heap.size, 6, none⟩ = some (.int .u32 (iv x6)) := hcx 6 (by omega)
          have q7 : wr.cell? ⟨w.heap.size, 7, none⟩ = some (.int .u32 (iv x7)) := hcx 7 (by omega)
          have hrr : wr.heap[w.heap.size + 1]? = some (.cells z8 92 (0, 0)) := by rw [hwr.out.1]; exact HR5.out
          have HRR := Lib.hid hrr
          have hfx : List.zipWith wadd h fin = [wadd x0 ya, wadd x1 yb, wadd x2 yc, wadd x3 yd, wadd x4 ye, wadd x5 yf, wadd x6 yg, wadd x7 yz] := by
            rw [HX8.out, hfin2]
            rfl
          have HFX := Lib.hid hfx
          have hbw3 := hwr.out.2
          clear hcx hrr hfx hfin2 hk64 hrn
          have hval : (wv [wadd x0 ya, wadd x1 yb, wadd x2 yc, wadd x3 yd, wadd x4 ye, wadd x5 yf, wadd x6 yg, wadd x7 yz]).toArray = #[.int .u32 ((iv x0 + iv ya) % 4294967296), .int .u32 ((iv x1 + iv yb) % 4294967296), .int .u32 ((iv x2 + iv yc) % 4294967296), .int .u32 ((iv x3 + iv yd) % 4294967296),
              .int .u32 ((iv x4 + iv ye) % 4294967296), .int .u32 ((iv x5 + iv yf) % 4294967296), .int .u32 ((iv x6 + iv yg) % 4294967296), .int .u32 ((iv x7 + iv yz) % 4294967296)] := by
            rw [iv_addm, iv_addm, iv_addm, iv_addm, iv_addm, iv_addm, iv_addm, iv_addm]
            rfl
          have HVAL := Lib.hid hval
          have HONE := Lib.hid (show (#[.int .u32 ((iv x0 + iv ya) % 4294967296), .int .u32 ((iv x1 + iv yb) % 4294967296), .int .u32 ((iv x2 + iv yc) % 4294967296), .int .u32 ((iv x3 + iv yd) % 4294967296), .int .u32 ((iv x4 + iv ye) % 4294967296), .int .u32 ((iv x5 + iv yf) % 4294967296), .int .u32 ((iv x6 + iv yg) % 4294967296), .int .u32 ((iv x7 + iv yz) % 4294967296)] : Array Value).all (·.oneCell') = true by rw [← hval]; exact wv_one _)
          clear hval
          go_wp2_with (refine wpList_store_row rfl 92 (.tmp 4) (.tmp 231) rfl (w.heap.size + 1) #[.int .u32 ((iv x0 + iv ya) % 4294967296), .int .u32 ((iv x1 + iv yb) % 4294967296), .int .u32 ((iv x2 + iv yc) % 4294967296), .int .u32 ((iv x3 + iv yd) % 4294967296), .int .u32 ((iv x4 + iv ye) % 4294967296), .int .u32 ((iv x5 + iv yf) % 4294967296), .int .u32 ((iv x6 + iv yg) % 4294967296), .int .u32 ((iv x7 + iv yz) % 4294967296)] rfl rfl 92 z8 HRR.out Tryd.size92 rfl HONE.out ?_)
          refine bodyPost_ret (v := .agg (wv [wadd x0 ya, wadd x1 yb, wadd x2 yc, wadd x3 yd, wadd x4 ye, wadd x5 yf, wadd x6 yg, wadd x7 yz]).toArray) ?_ rfl ⟨by rw [HFX.out], below_setRow hbw3 (by omega) _⟩
          rw [HVAL.out]
          exact results_cell_row Tryd.results41 _ _ (w.heap.size + 1) 92 _ (0, 0) _ rfl (setRow_heap wr _ _ _ _ _ HRR.out) Tryd.underlying92 rfl Tryd.size92
end Go.Proofs.YtaefgieodehceaaDoor.Sha
