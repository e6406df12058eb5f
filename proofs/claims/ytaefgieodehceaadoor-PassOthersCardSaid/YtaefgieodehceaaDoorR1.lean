/- Pass: bytes of tickets and tokens, keys, seal, open, sealed tickets and tokens. -/
import Derived.Test.YtaefgieodehceaaDoorC3
import Derived.Laws.StructEq
import Derived.Test.YtaefgieodehceaaDoorMB
import Derived.Test.YtaefgieodehceaaDoorM9

/- Pass: plain bytes of tickets and tokens; the small functions. -/
namespace Go.Proofs.YtaefgieodehceaaDoor
open Go.RowKit
set_option maxRecDepth 20000

/-- A 64-bit number as it stands behind a conversion to an unsigned one, and back. -/
def un64 (e : Int) : Nat := (e % 18446744073709551616).toNat
def in64 (n : Nat) : Int := if n < 9223372036854775808 then (n : Int) else (n : Int) - 18446744073709551616
theorem un_lt (e : Int) : un64 e < 18446744073709551616 := by unfold un64; omega
theorem un_wrap (e : Int) : IntKind.u64.wrap e = (un64 e : Int) := by
  rw [IntKind.wrap_u64]
  unfold un64
  omega
theorem in_wrap (n : Nat) (h : n < 18446744073709551616) : IntKind.i64.wrap (n : Int) = in64 n := by
  unfold in64 IntKind.wrap
  simp [IntKind.signed, IntKind.bits]
  omega
theorem in_un (e : Int) (h1 : -9223372036854775808 ≤ e) (h2 : e ≤ 9223372036854775807) : in64 (un64 e) = e := by
  unfold in64 un64
  split <;> omega
theorem un_in (n : Nat) (h : n < 18446744073709551616) : un64 (in64 n) = n := by
  unfold in64 un64
  split <;> omega
theorem in_range (n : Nat) (h : n < 18446744073709551616) : -9223372036854775808 ≤ in64 n ∧ in64 n ≤ 9223372036854775807 := by
  unfold in64
  split <;> omega

/-- A ticket's bytes, and a token's. -/
def tickB (p : Nat) (e : Int) (n : Nat) : List UInt8 := 116 :: (be 4 p ++ (be 8 (un64 e) ++ be 8 n))
def tokB (p m i s : Nat) (e : Int) (n : Nat) : List UInt8 := 106 :: (be 4 p ++ (be 4 m ++ (be 2 i ++ (be 1 s ++ (be 8 (un64 e) ++ be 8 n)))))
theorem tickB_len (p : Nat) (e : Int) (n : Nat) : (tickB p e n).length = 21 := by simp [tickB, be_length]
theorem tokB_len (p m i s : Nat) (e : Int) (n : Nat) : (tokB p m i s e n).length = 28 := by simp [tokB, be_length]

theorem one_byte (n : Nat) : be 1 n = [UInt8.ofNat n] := by simp [be, beT, beAt]

theorem tick_write (p : Nat) (e : Int) (n : Nat) (hp : p < 4294967296) (hn : n < 18446744073709551616) : writeR [98, 100, 113, 113] [116, p, un64 e, n] [] [] = (tickB p e n, 0) := by
  have hu := un_lt e
  have e1 : (0 : Int) ≤ least [98, 100, 113, 113] ∧ okM [98, 100, 113, 113] 4 0 0 = true := by decide
  unfold writeR
  rw [if_pos (by simpa using e1)]
  have : enc [98, 100, 113, 113] [116, p, un64 e, n] [] [] = some (tickB p e n) := by
    simp [enc, wid, hp, hu, hn, tickB, one_byte]
  rw [this]

theorem tok_write (p m i s : Nat) (e : Int) (n : Nat) (hp : p < 4294967296) (hm : m < 4294967296) (hi : i < 65536) (hs : s < 256) (hn : n < 18446744073709551616) : writeR [98, 100, 100, 119, 98, 113, 113] [106, p, m, i, s, un64 e, n] [] [] = (tokB p m i s e n, 0) := by
  have hu := un_lt e
  have e1 : (0 : Int) ≤ least [98, 100, 100, 119, 98, 113, 113] ∧ okM [98, 100, 100, 119, 98, 113, 113] 7 0 0 = true := by decide
  unfold writeR
  rw [if_pos (by simpa using e1)]
  have : enc [98, 100, 100, 119, 98, 113, 113] [106, p, m, i, s, un64 e, n] [] [] = some (tokB p m i s e n) := by
    simp [enc, wid, hp, hm, hi, hs, hu, hn, tokB, one_byte]
  rw [this]

theorem least_tick : least [98, 100, 113, 113] = 21 := by decide
theorem least_tok : least [98, 100, 100, 119, 98, 113, 113] = 28 := by decide
end Go.Proofs.YtaefgieodehceaaDoor

/- Pass: what is read out of bytes; the small functions ticket, token, stamp, Old. -/
namespace Go.Proofs.YtaefgieodehceaaDoor
open Go.RowKit
set_option maxRecDepth 20000

/-- The number in the bytes from i on, k of them. -/
def numAt (l : List UInt8) (i k : Nat) : Nat := num ((l.drop i).take k)
theorem numAt_lt (l : List UInt8) (i k : Nat) : numAt l i k < 256 ^ k := by
  have h := num_lt ((l.drop i).take k)
  have h2 : ((l.drop i).take k).length ≤ k := by simp; omega
  exact Nat.lt_of_lt_of_le h (Nat.pow_le_pow_right (by decide) h2)
theorem be_numAt (l : List UInt8) (i k : Nat) (h : i + k ≤ l.length) : be k (numAt l i k) = (l.drop i).take k := by
  have e := be_num ((l.drop i).take k)
  rwa [show ((l.drop i).take k).length = k by simp; omega] at e

theorem head_take {l : List UInt8} {x : UInt8} (h : l[0]? = some x) : l.take 1 = [x] := by
  rcases l with _ | ⟨y, l⟩
  · simp at h
  · simp at h
    subst h
    simp

theorem tick_take (l : List UInt8) (h0 : l[0]? = some 116) (hl : 21 ≤ l.length) : l.take 21 = tickB (numAt l 1 4) (in64 (numAt l 5 8)) (numAt l 13 8) := by
  unfold tickB
  rw [un_in _ (numAt_lt l 5 8), be_numAt l 1 4 (by omega), be_numAt l 5 8 (by omega), be_numAt l 13 8 (by omega), show (21 : Nat) = 1 + (4 + (8 + 8)) from rfl,
    List.take_add, List.take_add, List.take_add, head_take h0, List.drop_drop, List.drop_drop]
  rfl
theorem tok_take (l : List UInt8) (h0 : l[0]? = some 106) (hl : 28 ≤ l.length) : l.take 28 = tokB (numAt l 1 4) (numAt l 5 4) (numAt l 9 2) (numAt l 11 1) (in64 (numAt l 12 8)) (numAt l 20 8) := by
  unfold tokB
  rw [un_in _ (numAt_lt l 12 8), be_numAt l 1 4 (by omega), be_numAt l 5 4 (by omega), be_numAt l 9 2 (by omega), be_numAt l 11 1 (by omega), be_numAt l 12 8 (by omega), be_numAt l 20 8 (by omega), show (28 : Nat) = 1 + (4 + (4 + (2 + (1 + (8 + 8))))) from rfl,
    List.take_add, List.take_add, List.take_add, List.take_add, List.take_add, List.take_add, head_take h0, List.drop_drop, List.drop_drop, List.drop_drop, List.drop_drop, List.drop_drop]
  rfl

theorem tick_read (l : List UInt8) (h0 : l[0]? = some 116) (hl : 21 ≤ l.length) : readR [98, 100, 113, 113] (l.take 21) = (0, [116, numAt l 1 4, numAt l 5 8, numAt l 13 8], [], []) := by
  have h := read_write [98, 100, 113, 113] [116, numAt l 1 4, un64 (in64 (numAt l 5 8)), numAt l 13 8] [] [] _ (tick_write (numAt l 1 4) (in64 (numAt l 5 8)) (numAt l 13 8) (numAt_lt l 1 4) (numAt_lt l 13 8)) (by simp)
  rw [← tick_take l h0 hl, un_in _ (numAt_lt l 5 8)] at h
  exact h.1
theorem tok_read (l : List UInt8) (h0 : l[0]? = some 106) (hl : 28 ≤ l.length) : readR [98, 100, 100, 119, 98, 113, 113] (l.take 28) = (0, [106, numAt l 1 4, numAt l 5 4, numAt l 9 2, numAt l 11 1, numAt l 12 8, numAt l 20 8], [], []) := by
  have h := read_write [98, 100, 100, 119, 98, 113, 113] [106, numAt l 1 4, numAt l 5 4, numAt l 9 2, numAt l 11 1, un64 (in64 (numAt l 12 8)), numAt l 20 8] [] [] _ (tok_write (numAt l 1 4) (numAt l 5 4) (numAt l 9 2) (numAt l 11 1) (in64 (numAt l 12 8)) (numAt l 20 8) (numAt_lt l 1 4) (numAt_lt l 5 4) (numAt_lt l 9 2) (numAt_lt l 11 1) (numAt_lt l 20 8)) (by simp)
  rw [← tok_take l h0 hl, un_in _ (numAt_lt l 12 8)] at h
  exact h.1

theorem num_be_lt (m n : Nat) (h : n < 256 ^ m) : num (be m n) = n := by rw [num_be, Nat.mod_eq_of_lt h]
/-- What a ticket's bytes say, whatever stands behind them. -/
theorem tick_says (p : Nat) (e : Int) (n : Nat) (t : List UInt8) (hp : p < 4294967296) (hn : n < 18446744073709551616) :
    numAt (tickB p e n ++ t) 1 4 = p ∧ numAt (tickB p e n ++ t) 5 8 = un64 e ∧ numAt (tickB p e n ++ t) 13 8 = n := by
  have hu := un_lt e
  refine ⟨?_, ?_, ?_⟩
  · unfold numAt tickB
    rw [show (116 :: (be 4 p ++ (be 8 (un64 e) ++ be 8 n)) ++ t).drop 1 = be 4 p ++ ((be 8 (un64 e) ++ be 8 n) ++ t) by simp, List.take_append_of_le_length (by rw [be_length]; omega), List.take_of_length_le (by rw [be_length]; omega), num_be_lt _ _ hp]
  · unfold numAt tickB
    rw [show (116 :: (be 4 p ++ (be 8 (un64 e) ++ be 8 n)) ++ t).drop 5 = be 8 (un64 e) ++ (be 8 n ++ t) by
      rw [show 116 :: (be 4 p ++ (be 8 (un64 e) ++ be 8 n)) ++ t = (116 :: be 4 p) ++ (be 8 (un64 e) ++ (be 8 n ++ t)) by simp]
      exact List.drop_left' (by simp [be_length]), List.take_append_of_le_length (by rw [be_length]; omega), List.take_of_length_le (by rw [be_length]; omega), num_be_lt _ _ hu]
  · unfold numAt tickB
    rw [show (116 :: (be 4 p ++ (be 8 (un64 e) ++ be 8 n)) ++ t).drop 13 = be 8 n ++ t by
      rw [show 116 :: (be 4 p ++ (be 8 (un64 e) ++ be 8 n)) ++ t = (116 :: (be 4 p ++ be 8 (un64 e))) ++ (be 8 n ++ t) by simp]
      exact List.drop_left' (by simp [be_length]), List.take_append_of_le_length (by rw [be_length]; omega), List.take_of_length_le (by rw [be_length]; omega), num_be_lt _ _ hn]

theorem at_mid (a b t : List UInt8) (i k m : Nat) (ha : a.length = i) (hb : b = be k m) (hm : m < 256 ^ k) : numAt (a ++ (b ++ t)) i k = m := by
  subst hb
  unfold numAt
  rw [List.drop_left' ha, List.take_append_of_le_length (by rw [be_length]; omega), List.take_of_length_le (by rw [be_length]; omega), num_be_lt _ _ hm]
theorem tok_says (p m i s : Nat) (e : Int) (n : Nat) (t : List UInt8) (hp : p < 4294967296) (hm : m < 4294967296) (hi : i < 65536) (hs : s < 256) (hn : n < 18446744073709551616) :
    numAt (tokB p m i s e n ++ t) 1 4 = p ∧ numAt (tokB p m i s e n ++ t) 5 4 = m ∧ numAt (tokB p m i s e n ++ t) 9 2 = i ∧ numAt (tokB p m i s e n ++ t) 11 1 = s ∧ numAt (tokB p m i s e n ++ t) 12 8 = un64 e ∧ numAt (tokB p m i s e n ++ t) 20 8 = n := by
  have hu := un_lt e
  refine ⟨?_, ?_, ?_, ?_, ?_, ?_⟩
  · have h := at_mid [106] (be 4 p) ((be 4 m ++ (be 2 i ++ (be 1 s ++ (be 8 (un64 e) ++ be 8 n)))) ++ t) 1 4 p rfl rfl hp
    simpa [tokB] using h
  · have h := at_mid (106 :: be 4 p) (be 4 m) ((be 2 i ++ (be 1 s ++ (be 8 (un64 e) ++ be 8 n))) ++ t) 5 4 m (by simp [be_length]) rfl hm
    simpa [tokB] using h
  · have h := at_mid (106 :: (be 4 p ++ be 4 m)) (be 2 i) ((be 1 s ++ (be 8 (un64 e) ++ be 8 n)) ++ t) 9 2 i (by simp [be_length]) rfl hi
    simpa [tokB] using h
  · have h := at_mid (106 :: (be 4 p ++ (be 4 m ++ be 2 i))) (be 1 s) ((be 8 (un64 e) ++ be 8 n) ++ t) 11 1 s (by simp [be_length]) rfl hs
    simpa [tokB] using h
  · have h := at_mid (106 :: (be 4 p ++ (be 4 m ++ (be 2 i ++ be 1 s)))) (be 8 (un64 e)) (be 8 n ++ t) 12 8 (un64 e) (by simp [be_length]) rfl hu
    simpa [tokB] using h
  · have h := at_mid (106 :: (be 4 p ++ (be 4 m ++ (be 2 i ++ (be 1 s ++ be 8 (un64 e)))))) (be 8 n) t 20 8 n (by simp [be_length]) rfl hn
    simpa [tokB] using h

abbrev tickV (p : Nat) (e : Int) (n : Nat) : Value := .agg #[.int .u32 (p : Int), .int .i64 e, .int .u64 (n : Int)]
abbrev tokV (p m i s : Nat) (e : Int) (n : Nat) : Value := .agg #[.int .u32 (p : Int), .int .u32 (m : Int), .int .u16 (i : Int), .int .u8 (s : Int), .int .i64 e, .int .u64 (n : Int)]

set_option maxHeartbeats 1000000 in
theorem ticket_any (p : Nat) (e : Int) (n : Nat) (w : World) : Calls Tryd.prog 11 #[tickV p e n] w fun r w' => r = .returned (tickV p e n) ∧ Below w.heap.size w w' := by
  have hb := ((Below.refl w.heap.size w).alloc (Nat.le_refl _) (.cells #[.int .u32 (p : Int), .int .i64 e, .int .u64 (n : Int)] 26)).alloc (by simp)
  go_enter Tryd.func11, Tryd.ntmps11
  go_wp2
  exact bodyPost_ret (v := tickV p e n) (by simp [results, Tryd.results11, go_sem]) rfl ⟨rfl, hb _⟩

set_option maxHeartbeats 1000000 in
theorem token_any (p m i s : Nat) (e : Int) (n : Nat) (w : World) : Calls Tryd.prog 14 #[tokV p m i s e n] w fun r w' => r = .returned (tokV p m i s e n) ∧ Below w.heap.size w w' := by
  have hb := ((Below.refl w.heap.size w).alloc (Nat.le_refl _) (.cells #[.int .u32 (p : Int), .int .u32 (m : Int), .int .u16 (i : Int), .int .u8 (s : Int), .int .i64 e, .int .u64 (n : Int)] 29)).alloc (by simp)
  go_enter Tryd.func14, Tryd.ntmps14
  go_wp2
  exact bodyPost_ret (v := tokV p m i s e n) (by simp [results, Tryd.results14, go_sem]) rfl ⟨rfl, hb _⟩

set_option maxHeartbeats 1000000 in
theorem stamp_any (a n : Nat) (z : Int) (ha : IntKind.i64.wrap (a : Int) = z) (w : World) : Calls Tryd.prog 29 #[.int .u64 (a : Int), .int .u64 (n : Int)] w fun r w' => r = .returned (.agg #[.int .i64 z, .int .u64 (n : Int)]) ∧ Below w.heap.size w w' := by
  have hb := (Below.refl w.heap.size w).alloc (Nat.le_refl _)
  go_enter Tryd.func29, Tryd.ntmps29
  go_wp2
  exact bodyPost_ret (v := .agg #[.int .i64 z, .int .u64 (n : Int)]) (by simp [results, Tryd.results29, go_sem]) rfl ⟨rfl, hb _⟩

set_option maxHeartbeats 1000000 in
theorem old_any (e : Int) (n : Nat) (now : Int) (w : World) : Calls Tryd.prog 23 #[.agg #[.int .i64 e, .int .u64 (n : Int)], .int .i64 now] w fun r w' => r = .returned (.bool (decide (e < now))) ∧ Below w.heap.size w w' := by
  have hb := (Below.refl w.heap.size w).alloc (Nat.le_refl _)
  go_enter Tryd.func23, Tryd.ntmps23
  go_wp2
  go_ret
  exact ⟨rfl, hb _⟩
end Go.Proofs.YtaefgieodehceaaDoor

/- Pass: keys, their tags; seal. -/
namespace Go.Proofs.YtaefgieodehceaaDoor
open Go.RowKit
set_option maxRecDepth 20000

theorem bs_pb {w : World} {v : Value} {l : List UInt8} (h : Sha.Pb w v l) : Bs w w.heap.size v l := by
  obtain ⟨A, c, rfl, hc, hr⟩ := h
  exact ⟨A, c, rfl, hc, fun hx => hr (by simpa [bv] using hx)⟩
theorem pb_bs {w : World} {v : Value} {l : List UInt8} (h : Bs w w.heap.size v l) : Sha.Pb w v l := by
  obtain ⟨A, c, rfl, hc, hr⟩ := h
  exact ⟨A, c, rfl, hc, fun hx => hr (by simpa [bv] using hx)⟩

/-- The tables of sha lie where they are laid. -/
structure Sh (w : World) : Prop where
  k : Sha.Kt w
  f : Sha.Ft w
  n : 1 < w.heap.size
theorem Sh.below {w w' : World} (h : Sh w) (hb : Below w.heap.size w w') : Sh w' := ⟨h.k.below hb h.n, h.f.below hb h.n, Nat.lt_of_lt_of_le h.n hb.size⟩

/-- The tag that a key gives, or none. -/
def tagO : Option (List UInt8) → List UInt8 → List UInt8
  | some bl, l => Sha.sumP (Sha.mixP 92 bl ++ Sha.sumP (Sha.mixP 54 bl ++ l))
  | none, _ => List.replicate 32 0
theorem tagO_len (ko : Option (List UInt8)) (l : List UInt8) : (tagO ko l).length = 32 := by
  cases ko with
  | none => simp [tagO]
  | some bl => simp only [tagO, Sha.sumP_length]
/-- A key's value, in memory. -/
def KeyAt (w : World) (kv : Value) : Option (List UInt8) → Prop
  | some bl => ∃ K, kv = .pointer (some ⟨K, 0, none⟩) ∧ Sha.IsK w K bl
  | none => kv = .pointer none
theorem KeyAt.below {w w' : World} {kv : Value} {ko : Option (List UInt8)} (h : KeyAt w kv ko) (hb : Below w.heap.size w w') : KeyAt w' kv ko := by
  cases ko with
  | none => exact h
  | some bl =>
    obtain ⟨K, rfl, hk⟩ := h
    exact ⟨K, rfl, hk.below hb⟩
def fitO (ko : Option (List UInt8)) (t l : List UInt8) : Bool := ko.isSome && decide (t = tagO ko l)

theorem tag_o (kv v : Value) (ko : Option (List UInt8)) (p : List UInt8) (w : World) (hk : KeyAt w kv ko) (hp : Sha.Pbs w v [p]) (hs : Sh w) (hl : p.length ≤ 800000) :
    Calls Tryd.prog 36 #[kv, v] w fun e w' => e = .returned (.agg (bv (tagO ko p)).toArray) ∧ Below w.heap.size w w' := by
  cases ko with
  | none =>
    obtain rfl : kv = .pointer none := hk
    exact Sha.ktag_nil v w
  | some bl =>
    obtain ⟨K, rfl, hK⟩ := hk
    have h := Sha.ktag_any K bl v [p] w hK hp hs.k hs.f hs.n (by simpa using hl) (by simp)
    rw [show [p].flatten = p by simp] at h
    exact h
theorem fits_o (kv v u : Value) (ko : Option (List UInt8)) (t p : List UInt8) (w : World) (hk : KeyAt w kv ko) (ht : Sha.Pb w v t) (hp : Sha.Pbs w u [p]) (hs : Sh w) (htl : t.length ≤ 800000) (hl : p.length ≤ 800000) :
    Calls Tryd.prog 38 #[kv, v, u] w fun e w' => e = .returned (.bool (fitO ko t p)) ∧ Below w.heap.size w w' := by
  cases ko with
  | none =>
    obtain rfl : kv = .pointer none := hk
    refine (Sha.fits_nil v u w).mono ?_
    rintro e w' ⟨rfl, rfl⟩
    exact ⟨rfl, Below.refl _ _⟩
  | some bl =>
    obtain ⟨K, rfl, hK⟩ := hk
    have h := Sha.fits_any K bl v u t [p] w hK ht hp hs.k hs.f hs.n (by omega) (by simpa using hl) (by simp)
    rw [show [p].flatten = p by simp] at h
    refine h.mono ?_
    rintro e w' ⟨rfl, hb⟩
    have e1 : decide (t = Sha.sumP (Sha.mixP 92 bl ++ Sha.sumP (Sha.mixP 54 bl ++ p))) = fitO (some bl) t p := by
      rw [fitO, Option.isSome_some, Bool.true_and]
      exact decide_eq_decide.2 Iff.rfl
    exact ⟨by rw [e1], hb⟩

theorem own_after {w w' : World} {base size n : Nat} {e : TypeId} {v : Value} {xs : List Value} (h : w.ownsRow base e size v n xs) (hb : Below w.heap.size w w') : w'.ownsRow base e size v n xs := by
  refine ⟨h.1, ?_⟩
  rcases h.2 with hn | ⟨g, cap, cur, hv, hb0, hg, r⟩
  · exact .inl hn
  · exact .inr ⟨g, cap, cur, hv, hb0, (hb.block g (lt_of_block hg)).trans hg, r⟩

set_option maxHeartbeats 2000000 in
theorem seal_any (ko : Option (List UInt8)) (kv : Value) (sh : ByteArray) (N : List Nat) (A : Option Addr) (c : Nat) (b : List UInt8) (w : World) (hk : KeyAt w kv ko) (hs : Sh w) (hr : Rd w w.heap.size A (uv .u64 N)) (hc : N.length ≤ c) (hbN : ∀ n ∈ N, n < 18446744073709551616)
    (hb : writeR sh.data.toList N [] [] = (b, 0)) :
    Calls Tryd.prog 25 #[kv, .string sh, .slice A N.length c] w fun e w' => e = .returned (.string ⟨(b ++ tagO ko b).toArray⟩) ∧ Below w.heap.size w w' := by
  have hf : Flds w A none none c 0 0 [] N [] [] := ⟨hr, Rd.nil, Rd.nil, trivial, hc, by simp, by simp, hbN⟩
  have hw : Calls Tryd.prog 35 #[.string sh, .agg #[.slice A N.length c, .slice none 0 0, .slice none 0 0]] w (WritePost w (b, 0)) := by
    have := hf.write sh
    rwa [hb] at this
  obtain ⟨n, hn⟩ : ∃ n, n = N.length := ⟨_, rfl⟩
  rw [← hn] at hw ⊢
  obtain ⟨T, hT⟩ : ∃ T, T = tagO ko b := ⟨_, rfl⟩
  have hTl : T.length = 32 := by rw [hT, tagO_len]
  obtain ⟨L, hL⟩ : ∃ L, L = b ++ T := ⟨_, rfl⟩
  rw [← hT, ← hL]
  obtain ⟨q, hq⟩ : ∃ q, q = L.length := ⟨_, rfl⟩
  have HW := Lib.hid hw
  have HK := Lib.hid hk
  have HS := Lib.hid hs
  have HT := Lib.hid hT
  have HTL := Lib.hid hTl
  have HL := Lib.hid hL
  have HQ := Lib.hid hq
  clear hw hk hs hT hL hq hTl hf hr hc hbN hb hn
  go_enter Tryd.func25, Tryd.ntmps25
  go_wp2_with fail
  refine HW.out.mono ?_
  rintro e w1 ⟨v1, rfl, hown, hl1, hb1⟩
  simp only at hown hl1
  obtain ⟨A1, c1, rfl, hrd, hlc, _⟩ := own_rd hown
  obtain ⟨m, hm⟩ : ∃ m, m = b.length := ⟨_, rfl⟩
  have hpb : Sha.Pb w1 (.slice A1 m c1) b := pb_bs ⟨A1, c1, by rw [hm], by omega, hrd⟩
  rw [← hm] at hown hl1 ⊢
  have hba : Below w1.heap.size w1 (w1.alloc (.cells #[.slice A1 m c1] 22)) := (Below.refl _ _).alloc (Nat.le_refl _) _
  have htag := tag_o kv (.slice (some ⟨w1.heap.size, 0, none⟩) 1 1) ko b _ ((HK.out.below hb1).below hba) (Sha.pbs_one hpb 22) ((HS.out.below hb1).below hba) (by omega)
  rw [← HT.out] at htag
  have I30 := Lib.hid (show (Tryd.prog.info? 57).map (·.size) = some ((bv T).toArray.size) by
    rw [Sha.Tryd.size57]
    simp [bv, HTL.out])
  have S30 := Lib.hid (show Sha.z32.size = (bv T).toArray.size by
    simp only [bv, List.size_toArray, List.length_map, HTL.out]
    rfl)
  have HTAG := Lib.hid htag
  have HM := Lib.hid hm
  have HB1 := Lib.hid hb1
  have HBA := Lib.hid hba
  have HO := Lib.hid hown
  clear htag hm hb1 hba hown hpb hrd hlc
  go_wp2_with fail
  refine HTAG.out.mono ?_
  rintro e w2 ⟨rfl, hb2⟩
  have HB2 := Lib.hid (HBA.out.trans (hb2.mono HBA.out.size))
  clear hb2 HTAG
  go_upto_region 3 with (refine wpList_store_row rfl 57 (.tmp 9) (.tmp 20) rfl w2.heap.size (bv T).toArray rfl rfl 57 Sha.z32 (heap_alloc_new w2 _) I30.out S30.out (Sha.bv_one _) ?_; rw [World.setRow_alloc_new])
  obtain ⟨w3, hw3⟩ : ∃ w3, w3 = w2.alloc (.cells (bv T).toArray 57) := ⟨_, rfl⟩
  rw [← hw3]
  have hb23 : Below w2.heap.size w2 w3 := by rw [hw3]; exact (Below.refl _ _).alloc (Nat.le_refl _) _
  have hq3 : w3.heap[w2.heap.size]? = some (.cells (bv T).toArray 57 (0, 0)) := by rw [hw3]; exact heap_alloc_new w2 _
  have hb13 := HB2.out.trans (hb23.mono HB2.out.size)
  have HO3 := Lib.hid (own_after HO.out hb13)
  have HP3 : Hid (Bs w3 w3.heap.size (.slice (some ⟨w2.heap.size, 0, none⟩) 32 32) T) := ⟨_, 32, by rw [HTL.out], by rw [HTL.out]; omega, rd_block' hq3 rfl (lt_of_block hq3)⟩
  have HB03 := Lib.hid (HB1.out.trans (hb13.mono HB1.out.size))
  clear hb23 hq3 hb13 hw3
  go_wp2_with (at_builtin; refine wpList_append_bytes rfl (.tmp 21) (.tmp 22) rfl w.heap.size w3.heap.size (.slice A1 m c1) (.slice (some ⟨w2.heap.size, 0, none⟩) 32 32) b T rfl rfl (by rw [← HM.out]; exact HO3.out) HP3.out (by rw [← HM.out, HTL.out]; omega) HB03.out.size ?_; intro v4 w4 hown4 hg4; rw [← HL.out] at hown4; obtain ⟨A4, c4, rfl, hr4, hlc4, _⟩ := own_rd hown4; have hcv := conv_rd hr4 c4; rw [← HQ.out] at hcv; rw [← HQ.out])
  go_ret
  exact ⟨rfl, HB03.out.grown hg4 HB03.out.size (fun k hk => (HO3.out.lt k hk).1)⟩
end Go.Proofs.YtaefgieodehceaaDoor

/- Pass: open. -/
namespace Go.Proofs.YtaefgieodehceaaDoor
open Go.RowKit
set_option maxRecDepth 20000

theorem ext_front (s : ByteArray) (M : Nat) : (s.extract 0 M).data.toList = s.data.toList.take M := by
  simp
theorem ext_back (s : ByteArray) (M : Nat) : (s.extract M s.size).data.toList = s.data.toList.drop M := by
  simp [List.take_of_length_le]
theorem str_zero (s : ByteArray) (h : 0 < s.size) : ∃ x : UInt8, s.data.toList[0]? = some x ∧ ∀ W, (Instr.index 9 (.string s) (.int .i64 0)).run Tryd.prog W = .ok (.int .u8 (x.toNat : Int)) W := by
  refine ⟨s[0], ?_, fun W => ?_⟩
  · rw [Array.getElem?_toList, Array.getElem?_eq_getElem (show 0 < s.data.size from h)]
    rfl
  · rw [run_index_string W 9 s .i64 0 Tryd.underlying9, dif_pos ⟨by omega, by omega⟩]
    rfl

set_option maxHeartbeats 1000000 in
theorem open_form (kv : Value) (sh s : ByteArray) (mk : UInt8) (M : Nat) (w : World) (hM : least sh.data.toList = (M : Int)) (hMb : M ≤ 100) (hbad : ¬ (s.size = M + 32 ∧ s.data.toList[0]? = some mk)) :
    Calls Tryd.prog 28 #[kv, .string sh, .int .u8 (mk.toNat : Int), .string s] w fun e w' => e = .returned (.tuple #[.slice none 0 0, .int .i64 7]) ∧ w = w' := by
  have hle := least_any sh w
  rw [hM] at hle
  have HLE := Lib.hid hle
  by_cases hz : s.size = M + 32
  · have t1 : ((s.size : Int) != (M : Int) + 32) = false := by simp; omega
    obtain ⟨x, hx, hix⟩ := str_zero s (by omega)
    have hxm : x ≠ mk := fun e => hbad ⟨hz, by rw [hx, e]⟩
    have t2 : ((x.toNat : Int) != (mk.toNat : Int)) = true := by
      simp only [bne_iff_ne, ne_eq, Int.ofNat_inj]
      exact fun e => hxm (UInt8.toNat_inj.1 e)
    clear hle hM hbad hx hxm
    go_enter Tryd.func28, Tryd.ntmps28
    go_wp2_with fail
    refine HLE.out.mono ?_
    rintro e w1 ⟨rfl, rfl⟩
    go_wp2
    go_ret2
    exact ⟨rfl, rfl⟩
  · have t1 : ((s.size : Int) != (M : Int) + 32) = true := by simp; omega
    clear hle hM hbad
    go_enter Tryd.func28, Tryd.ntmps28
    go_wp2_with fail
    refine HLE.out.mono ?_
    rintro e w1 ⟨rfl, rfl⟩
    go_wp2
    go_ret2
    exact ⟨rfl, rfl⟩

theorem bs_up {w : World} {B B' : Nat} {v : Value} {l : List UInt8} (h : Bs w B v l) (hB : B ≤ B') : Bs w B' v l := by
  obtain ⟨A, c, hv, hl, hr⟩ := h
  refine ⟨A, c, hv, hl, fun hx => ?_⟩
  obtain ⟨b, o, hA, hb, hc⟩ := hr hx
  exact ⟨b, o, hA, by omega, hc⟩

theorem two_conv (w : World) (sa sb : ByteArray) :
    Bs (Lib.bytesWorld (Lib.bytesWorld w.drew 5 sa) 5 sb) (Lib.bytesWorld (Lib.bytesWorld w.drew 5 sa) 5 sb).heap.size (.slice (some ⟨w.heap.size, 0, none⟩) sa.size (grownCap w.drew sa.size 0 5)) sa.data.toList ∧
    Bs (Lib.bytesWorld (Lib.bytesWorld w.drew 5 sa) 5 sb) (Lib.bytesWorld (Lib.bytesWorld w.drew 5 sa) 5 sb).heap.size (.slice (some ⟨(Lib.bytesWorld w.drew 5 sa).heap.size, 0, none⟩) sb.size (grownCap (Lib.bytesWorld w.drew 5 sa) sb.size 0 5)) sb.data.toList ∧
    Below w.heap.size w (Lib.bytesWorld (Lib.bytesWorld w.drew 5 sa) 5 sb) := by
  have h1 : Bk (Lib.bytesWorld w.drew 5 sa) w.heap.size (.slice (some ⟨w.heap.size, 0, none⟩) sa.size (grownCap w.drew sa.size 0 5)) sa.data.toList := bk_conv (w := w.drew) (Nat.le_refl _) sa _ (grownCap_ge _ _ _ _)
  have h2 := bk_conv (w := Lib.bytesWorld w.drew 5 sa) (Nat.le_refl _) sb _ (grownCap_ge (Lib.bytesWorld w.drew 5 sa) sb.size 0 5)
  have hb1 : Below w.heap.size w (Lib.bytesWorld w.drew 5 sa) := (Below.refl w.heap.size w).drew.grown (grown_conv _ _) (Nat.le_refl _) (by simp)
  exact ⟨(h1.kept (grown_conv _ _) (by simp)).bs, h2.bs, hb1.grown (grown_conv _ _) hb1.size (by simp)⟩

/-- What open hands back for bytes of the right length and mark. -/
def OpenPost (w : World) (fb : Bool) (N : List Nat) (e : Ending) (w' : World) : Prop :=
  ∃ A c, e = .returned (.tuple #[.slice A (if fb then N.length else 0) c, .int .i64 (if fb then 0 else 8)]) ∧ (fb = true → w'.ownsRow w.heap.size 24 1 (.slice A N.length c) N.length (uv .u64 N)) ∧ Below w.heap.size w w'

set_option maxHeartbeats 4000000 in
theorem open_main (ko : Option (List UInt8)) (kv : Value) (sh s : ByteArray) (mk : UInt8) (M : Nat) (w : World) (hk : KeyAt w kv ko) (hs : Sh w) (hM : least sh.data.toList = (M : Int)) (hMb : M ≤ 100) (hz : s.size = M + 32) (hm : s.data.toList[0]? = some mk)
    (N : List Nat) (hrd : readR sh.data.toList (s.data.toList.take M) = (0, N, [], [])) :
    Calls Tryd.prog 28 #[kv, .string sh, .int .u8 (mk.toNat : Int), .string s] w (OpenPost w (fitO ko (s.data.toList.drop M) (s.data.toList.take M)) N) := by
  have hle := least_any sh w
  rw [hM] at hle
  have t1 : ((s.size : Int) != (M : Int) + 32) = false := by simp; omega
  obtain ⟨x, hx, hix⟩ := str_zero s (by omega)
  obtain rfl : x = mk := Option.some.inj (hx.symm.trans hm)
  have t2 : ((x.toNat : Int) != (x.toNat : Int)) = false := bne_self_eq_false _
  obtain ⟨s1, hs1⟩ : ∃ s1, s1 = s.extract 0 M := ⟨_, rfl⟩
  obtain ⟨s2, hs2⟩ : ∃ s2, s2 = s.extract M s.size := ⟨_, rfl⟩
  have hf1 : ∀ W, (Instr.slice 9 (.string s) none (some (.int .i64 (M : Int))) none).run Tryd.prog W = .ok (.string s1) W := fun W => by
    rw [run_slice_string_h W 9 s Tryd.underlying9 .i64 M (by omega) (by omega), hs1]
    rfl
  have hf2 : ∀ W, (Instr.slice 9 (.string s) (some (.int .i64 (M : Int))) none none).run Tryd.prog W = .ok (.string s2) W := fun W => by
    rw [run_slice_string_l W 9 s Tryd.underlying9 .i64 M (by omega) (by omega), hs2]
    rfl
  have h1 : s1.data.toList = s.data.toList.take M := by rw [hs1, ext_front]
  have h2 : s2.data.toList = s.data.toList.drop M := by rw [hs2, ext_back]
  have hz1 : s1.size = M := by
    have : s1.data.toList.length = M := by rw [h1, List.length_take]; simp; omega
    simpa using this
  have hz2 : s2.size = 32 := by
    have : s2.data.toList.length = 32 := by rw [h2, List.length_drop]; simp; omega
    simpa using this
  rw [← h1, ← h2]
  rw [← h1] at hrd
  obtain ⟨fb, hfb⟩ : ∃ fb, fb = fitO ko s2.data.toList s1.data.toList := ⟨_, rfl⟩
  rw [← hfb]
  have hcv1 : ∀ W, (convert 9 22 (.string s1)).run Tryd.prog W = .ok (.slice (some ⟨W.heap.size, 0, none⟩) M (grownCap W s1.size 0 5)) (Lib.bytesWorld W 5 s1) := fun W => by
    rw [Lib.run_convert_string_bytes W 9 22 5 s1 Tryd.underlying9 Tryd.underlying22 Tryd.underlying5, hz1]
  have hcv2 : ∀ W, (convert 9 22 (.string s2)).run Tryd.prog W = .ok (.slice (some ⟨W.heap.size, 0, none⟩) 32 (grownCap W s2.size 0 5)) (Lib.bytesWorld W 5 s2) := fun W => by
    rw [Lib.run_convert_string_bytes W 9 22 5 s2 Tryd.underlying9 Tryd.underlying22 Tryd.underlying5, hz2]
  have HLE := Lib.hid hle
  have HK := Lib.hid hk
  have HS := Lib.hid hs
  have HRD := Lib.hid hrd
  have HZ1 := Lib.hid hz1
  have HZ2 := Lib.hid hz2
  have HFB := Lib.hid hfb
  clear hle hM hx hm hs1 hs2 h1 h2 hz1 hz2 hk hs hrd hfb hz
  go_enter Tryd.func28, Tryd.ntmps28
  go_wp2_with fail
  refine HLE.out.mono ?_
  rintro e w1 ⟨rfl, rfl⟩
  go_upto_region 4 with (fail)
  go_cut [11, 12] (fun x y wx => ∃ (A1 A2 : Option Addr) (c1 c2 : Nat), x = .slice A1 M c1 ∧ y = .slice A2 32 c2 ∧ Hid (Bs wx wx.heap.size (.slice A1 M c1) s1.data.toList ∧ Bs wx wx.heap.size (.slice A2 32 c2) s2.data.toList ∧ Below w.heap.size w wx))
  case first =>
    go_region_law fail
    all_goals
      try go_wp2_with fail
      go_meet
      first
        | (obtain ⟨ha, hb, hc⟩ := two_conv w s1 s2; rw [HZ1.out] at ha; rw [HZ2.out] at hb; exact ⟨_, _, _, _, rfl, rfl, Lib.hid ⟨by rw [HZ1.out]; exact ha, by rw [HZ2.out]; exact hb, hc⟩⟩)
        | (obtain ⟨ha, hb, hc⟩ := two_conv w s2 s1; rw [HZ2.out] at ha; rw [HZ1.out] at hb; exact ⟨_, _, _, _, rfl, rfl, Lib.hid ⟨by rw [HZ1.out]; exact hb, by rw [HZ2.out]; exact ha, hc⟩⟩)
  case rest =>
    obtain ⟨A1, A2, c1, c2, rfl, rfl, HC⟩ := hcut
    have hba : Below wc.heap.size wc (wc.alloc (.cells #[.slice A1 M c1] 22)) := (Below.refl _ _).alloc (Nat.le_refl _) _
    have hbc : Below w.heap.size w (wc.alloc (.cells #[.slice A1 M c1] 22)) := HC.out.2.2.trans (hba.mono HC.out.2.2.size)
    have hft := fits_o kv (.slice A2 32 c2) (.slice (some ⟨wc.heap.size, 0, none⟩) 1 1) ko s2.data.toList s1.data.toList _ (HK.out.below hbc) ((pb_bs HC.out.2.1).below hba) (Sha.pbs_one (pb_bs HC.out.1) 22) (HS.out.below hbc) (by have := HZ2.out; simp; omega) (by have := HZ1.out; simp; omega)
    rw [← HFB.out] at hft
    have HFT := Lib.hid hft
    have HBC := Lib.hid hbc
    have HBA := Lib.hid hba
    clear hft hbc hba hcv1 hcv2 hf1 hf2 hix
    rcases fb with _ | _
    · go_wp2_with fail
      refine HFT.out.mono ?_
      rintro e w3 ⟨rfl, hb3⟩
      go_wp2
      go_ret2
      exact ⟨none, 0, rfl, (fun h => by cases h), HBC.out.trans (hb3.mono HBC.out.size)⟩
    · go_wp2_with fail
      refine HFT.out.mono ?_
      rintro e w3 ⟨rfl, hb3⟩
      have hb03 := HBC.out.trans (hb3.mono HBC.out.size)
      have hrd := read_any sh (.slice A1 M c1) s1.data.toList w3 (bs_up (HC.out.1.below (HBA.out.trans (hb3.mono HBA.out.size)) (Nat.le_refl _)) (HBA.out.trans (hb3.mono HBA.out.size)).size) (by have := HZ1.out; simp; omega)
      rw [HRD.out] at hrd
      have HREAD := Lib.hid hrd
      have HB03 := Lib.hid hb03
      clear hrd hb03 hb3
      go_wp2_with fail
      refine HREAD.out.mono ?_
      rintro e w4 ⟨vN, vS, vL, vs, rfl, hb4, oN, oS, oL, ls, bN⟩
      obtain ⟨aN, kN, rfl, _⟩ := own_rd oN
      obtain ⟨aS, kS, rfl, _⟩ := own_rd oS
      obtain ⟨aL, kL, rfl, _⟩ := own_rd oL
      obtain ⟨n, hn⟩ : ∃ n, n = N.length := ⟨_, rfl⟩
      simp only at oN
      have HO : Hid (w4.ownsRow w3.heap.size 24 1 (.slice aN N.length kN) N.length (uv .u64 N)) := oN
      have HB4 := Lib.hid (HB03.out.trans (hb4.mono HB03.out.size))
      have HW3 := Lib.hid HB03.out.size
      have HN := Lib.hid hn
      simp only [List.length_nil]
      rw [← hn]
      clear oN oS oL ls bN hb4 HREAD HRD hn
      obtain ⟨w5, hw5⟩ : ∃ w5, w5 = w4.alloc (.cells #[.slice aN n kN, .slice aS 0 kS, .slice aL 0 kL] 86) := ⟨_, rfl⟩
      have hb45 : Below w4.heap.size w4 w5 := by rw [hw5]; exact (Below.refl _ _).alloc (Nat.le_refl _) _
      have hq5 : w5.heap[w4.heap.size]? = some (.cells #[.slice aN n kN, .slice aS 0 kS, .slice aL 0 kL] 86 (0, 0)) := by rw [hw5]; exact heap_alloc_new w4 _
      have d0 := cell_of_row w5 w4.heap.size 0 _ _ _ hq5
      simp at d0
      have HO5 := Lib.hid (own_after HO.out hb45)
      have HB5 := Lib.hid (HB4.out.trans (hb45.mono HB4.out.size))
      have H5 := Lib.hid hw5
      clear hb45 hq5 hw5
      go_upto_region 8 with (fail)
      rw [← H5.out]
      go_wp2
      go_ret2
      rw [HN.out]
      exact ⟨aN, kN, rfl, fun _ => own_mono HO5.out HW3.out, HB5.out⟩
end Go.Proofs.YtaefgieodehceaaDoor

/- Pass: tickets and tokens sealed; awake. -/
namespace Go.Proofs.YtaefgieodehceaaDoor
open Go.RowKit
set_option maxRecDepth 20000

def sealT (ko : Option (List UInt8)) (p : Nat) (e : Int) (n : Nat) : List UInt8 := tickB p e n ++ tagO ko (tickB p e n)
def sealK (ko : Option (List UInt8)) (p m i s : Nat) (e : Int) (n : Nat) : List UInt8 := tokB p m i s e n ++ tagO ko (tokB p m i s e n)
theorem sealT_len (ko : Option (List UInt8)) (p : Nat) (e : Int) (n : Nat) : (sealT ko p e n).length = 53 := by simp [sealT, tickB_len, tagO_len]
theorem sealK_len (ko : Option (List UInt8)) (p m i s : Nat) (e : Int) (n : Nat) : (sealK ko p m i s e n).length = 60 := by simp [sealK, tokB_len, tagO_len]

theorem u64_small (n : Nat) (h : n < 18446744073709551616) : IntKind.u64.wrap (n : Int) = (n : Int) := by
  rw [IntKind.wrap_u64]
  omega

set_option maxHeartbeats 1000000 in
theorem tseal_any (ko : Option (List UInt8)) (kv : Value) (p : Nat) (e : Int) (n : Nat) (w : World) (hk : KeyAt w kv ko) (hs : Sh w) (hp : p < 4294967296) (hn : n < 18446744073709551616) :
    Calls Tryd.prog 12 #[tickV p e n, kv] w fun r w' => r = .returned (.string ⟨(sealT ko p e n).toArray⟩) ∧ Below w.heap.size w w' := by
  obtain ⟨u, hu⟩ : ∃ u, u = un64 e := ⟨_, rfl⟩
  obtain ⟨w2, hw2⟩ : ∃ w2, w2 = (w.alloc (.cells #[.int .u32 (p : Int), .int .i64 e, .int .u64 (n : Int)] 35)).alloc (.cells #[.int .u64 116, .int .u64 (p : Int), .int .u64 (u : Int), .int .u64 (n : Int)] 24) := ⟨_, rfl⟩
  have hb2 : Below w.heap.size w w2 := by rw [hw2]; exact ((Below.refl _ _).alloc (Nat.le_refl _) _).alloc (by simp) _
  have hq2 : w2.heap[w.heap.size + 1]? = some (.cells #[.int .u64 116, .int .u64 (p : Int), .int .u64 (u : Int), .int .u64 (n : Int)] 24 (0, 0)) := by
    have := heap_alloc_new (w.alloc (.cells #[.int .u32 (p : Int), .int .i64 e, .int .u64 (n : Int)] 35)) (.cells #[.int .u64 116, .int .u64 (p : Int), .int .u64 (u : Int), .int .u64 (n : Int)] 24)
    rw [hw2]
    rwa [World.size_alloc] at this
  have hse := seal_any ko kv ⟨#[98, 100, 113, 113]⟩ [116, p, u, n] (some ⟨w.heap.size + 1, 0, none⟩) 4 (tickB p e n) w2 (hk.below hb2) (hs.below hb2) (rd_block' hq2 (by simp [uv]) (lt_of_block hq2)) (by simp) (by
    intro x hx
    have := un_lt e
    simp at hx
    omega) (by rw [hu]; exact tick_write p e n hp hn)
  have h1 := u64_small p (by omega)
  have h2 := un_wrap e
  rw [← hu] at h2
  obtain ⟨r, hr⟩ : ∃ r, r = sealT ko p e n := ⟨_, rfl⟩
  rw [show tickB p e n ++ tagO ko (tickB p e n) = r by rw [hr]; rfl] at hse
  rw [← hr]
  have HSE := Lib.hid hse
  have HB2 := Lib.hid hb2
  have H2 := Lib.hid hw2
  clear hse hb2 hw2 hq2 hk hs hu hr
  go_enter Tryd.func12, Tryd.ntmps12
  go_upto_region 1 with (fail)
  go_wp2_with (rw [← H2.out])
  refine HSE.out.mono ?_
  rintro x w3 ⟨rfl, hb3⟩
  go_wp2
  go_ret
  exact ⟨rfl, HB2.out.trans (hb3.mono HB2.out.size)⟩

set_option maxHeartbeats 1000000 in
theorem kseal_any (ko : Option (List UInt8)) (kv : Value) (p m i s : Nat) (e : Int) (n : Nat) (w : World) (hk : KeyAt w kv ko) (hs : Sh w) (hp : p < 4294967296) (hm : m < 4294967296) (hi : i < 65536) (hss : s < 256) (hn : n < 18446744073709551616) :
    Calls Tryd.prog 15 #[tokV p m i s e n, kv] w fun r w' => r = .returned (.string ⟨(sealK ko p m i s e n).toArray⟩) ∧ Below w.heap.size w w' := by
  obtain ⟨u, hu⟩ : ∃ u, u = un64 e := ⟨_, rfl⟩
  obtain ⟨w2, hw2⟩ : ∃ w2, w2 = (w.alloc (.cells #[.int .u32 (p : Int), .int .u32 (m : Int), .int .u16 (i : Int), .int .u8 (s : Int), .int .i64 e, .int .u64 (n : Int)] 40)).alloc (.cells #[.int .u64 106, .int .u64 (p : Int), .int .u64 (m : Int), .int .u64 (i : Int), .int .u64 (s : Int), .int .u64 (u : Int), .int .u64 (n : Int)] 24) := ⟨_, rfl⟩
  have hb2 : Below w.heap.size w w2 := by rw [hw2]; exact ((Below.refl _ _).alloc (Nat.le_refl _) _).alloc (by simp) _
  have hq2 : w2.heap[w.heap.size + 1]? = some (.cells #[.int .u64 106, .int .u64 (p : Int), .int .u64 (m : Int), .int .u64 (i : Int), .int .u64 (s : Int), .int .u64 (u : Int), .int .u64 (n : Int)] 24 (0, 0)) := by
    have := heap_alloc_new (w.alloc (.cells #[.int .u32 (p : Int), .int .u32 (m : Int), .int .u16 (i : Int), .int .u8 (s : Int), .int .i64 e, .int .u64 (n : Int)] 40)) (.cells #[.int .u64 106, .int .u64 (p : Int), .int .u64 (m : Int), .int .u64 (i : Int), .int .u64 (s : Int), .int .u64 (u : Int), .int .u64 (n : Int)] 24)
    rw [hw2]
    rwa [World.size_alloc] at this
  have hse := seal_any ko kv ⟨#[98, 100, 100, 119, 98, 113, 113]⟩ [106, p, m, i, s, u, n] (some ⟨w.heap.size + 1, 0, none⟩) 7 (tokB p m i s e n) w2 (hk.below hb2) (hs.below hb2) (rd_block' hq2 (by simp [uv]) (lt_of_block hq2)) (by simp) (by
    intro x hx
    have := un_lt e
    simp at hx
    omega) (by rw [hu]; exact tok_write p m i s e n hp hm hi hss hn)
  have h1 := u64_small p (by omega)
  have h3 := u64_small m (by omega)
  have h4 := u64_small i (by omega)
  have h5 := u64_small s (by omega)
  have h2 := un_wrap e
  rw [← hu] at h2
  obtain ⟨r, hr⟩ : ∃ r, r = sealK ko p m i s e n := ⟨_, rfl⟩
  rw [show tokB p m i s e n ++ tagO ko (tokB p m i s e n) = r by rw [hr]; rfl] at hse
  rw [← hr]
  have HSE := Lib.hid hse
  have HB2 := Lib.hid hb2
  have H2 := Lib.hid hw2
  clear hse hb2 hw2 hq2 hk hs hu hr
  go_enter Tryd.func15, Tryd.ntmps15
  go_upto_region 1 with (fail)
  go_wp2_with (rw [← H2.out])
  refine HSE.out.mono ?_
  rintro x w3 ⟨rfl, hb3⟩
  go_wp2
  go_ret
  exact ⟨rfl, HB2.out.trans (hb3.mono HB2.out.size)⟩

/-- A made key. -/
theorem make_o (v : Value) (key : List UInt8) (w : World) (hp : Bs w w.heap.size v key) (hs : Sh w) (hl : key.length ≤ 900000) :
    Calls Tryd.prog 10 #[v] w fun e w' => ∃ kv, e = .returned kv ∧ KeyAt w' kv (some (Sha.blockP key)) ∧ Below w.heap.size w w' :=
  (Sha.make_any v key w (pb_bs hp) hs.k hs.f hs.n hl).mono fun _ _ h => ⟨_, h.1, ⟨_, rfl, h.2.1⟩, h.2.2⟩
end Go.Proofs.YtaefgieodehceaaDoor
