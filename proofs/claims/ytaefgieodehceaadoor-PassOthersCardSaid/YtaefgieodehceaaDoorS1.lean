/- SHA-256, the plain side: words of 32 bits, a round, a block's row, a step, a chain of blocks, what is put behind, a sum. -/
import Derived.Laws.BitsAllLaws
namespace Go.Proofs.YtaefgieodehceaaDoor.Sha
set_option maxRecDepth 4000

abbrev W32 := BitVec 32
/-- A word as the model's number. -/
def iv (x : W32) : Int := (x.toNat : Int)
def wxor (x y : W32) : W32 := x ^^^ y
def wand (x y : W32) : W32 := x &&& y
def wor (x y : W32) : W32 := x ||| y
def wnot (x : W32) : W32 := ~~~x
def wadd (x y : W32) : W32 := x + y
def wshr (x : W32) (n : Nat) : W32 := x >>> n
def wshl (x : W32) (n : Nat) : W32 := x <<< n
def rotr (x : W32) (n : Nat) : W32 := wor (wshl x (32 - n)) (wshr x n)
def wbyte (c : UInt8) : W32 := BitVec.ofNat 32 c.toNat

theorem iv_nonneg (x : W32) : 0 ≤ iv x := by unfold iv; omega
theorem iv_lt (x : W32) : iv x < 4294967296 := by
  have := x.isLt
  unfold iv
  omega
theorem iv_inj {x y : W32} (h : iv x = iv y) : x = y := by
  unfold iv at h
  exact BitVec.eq_of_toNat_eq (by omega)

theorem iv_xor (x y : W32) : bits .xor .u32 (iv x) (iv y) = iv (wxor x y) := by
  unfold iv wxor
  rw [u32_xor_nat _ _ (by have := x.isLt; omega) (by have := y.isLt; omega), BitVec.toNat_xor]
theorem iv_and (x y : W32) : bits .and .u32 (iv x) (iv y) = iv (wand x y) := by
  unfold iv wand
  rw [u32_and_nat _ _ (by have := x.isLt; omega) (by have := y.isLt; omega), BitVec.toNat_and]
theorem iv_or (x y : W32) : bits .or .u32 (iv x) (iv y) = iv (wor x y) := by
  unfold iv wor
  rw [u32_or_nat _ _ (by have := x.isLt; omega) (by have := y.isLt; omega), BitVec.toNat_or]
theorem iv_not (x : W32) : bits .xor .u32 4294967295 (iv x) = iv (wnot x) := by
  unfold iv wnot
  have h := u32_xor_nat 4294967295 x.toNat (by omega) (by have := x.isLt; omega)
  have e : ((4294967295 : Nat) : Int) = 4294967295 := rfl
  rw [e] at h
  rw [h]
  have h2 : (~~~x).toNat = 4294967295 ^^^ x.toNat := by
    have h3 : ~~~x = BitVec.allOnes 32 ^^^ x := by rw [BitVec.allOnes_xor]
    rw [h3, BitVec.toNat_xor]
    rfl
  rw [h2]
theorem iv_not' (x : W32) : bits .xor .u32 (iv x) 4294967295 = iv (wnot x) := by
  rw [← iv_not]
  show IntKind.u32.wrap _ = IntKind.u32.wrap _
  rw [BitVec.xor_comm]
theorem iv_add (x y : W32) : IntKind.u32.wrap (iv x + iv y) = iv (wadd x y) := by
  unfold iv wadd
  rw [IntKind.wrap_u32', BitVec.toNat_add]
  omega
theorem iv_shr (x : W32) (n : Nat) : (iv x).fdiv (2 ^ n) = iv (wshr x n) := by
  unfold iv wshr
  rw [BitVec.toNat_ushiftRight, Nat.shiftRight_eq_div_pow, Int.fdiv_eq_ediv_of_nonneg _ (by exact Int.le_of_lt (Int.pow_pos (by omega)))]
  simp
theorem iv_shr' (x : W32) (n : Nat) : iv x / 2 ^ n = iv (wshr x n) := by
  rw [← iv_shr, Int.fdiv_eq_ediv_of_nonneg _ (by exact Int.le_of_lt (Int.pow_pos (by omega)))]
theorem iv_shl (x : W32) (n : Nat) : IntKind.u32.wrap (iv x * 2 ^ n) = iv (wshl x n) := by
  unfold iv wshl
  rw [IntKind.wrap_u32', BitVec.toNat_shiftLeft, Nat.shiftLeft_eq]
  simp
theorem iv_byte (c : UInt8) : (c.toNat : Int) = iv (wbyte c) := by
  unfold iv wbyte
  have := c.toNat_lt
  rw [BitVec.toNat_ofNat]
  omega

/-- The words of the rounds. -/
def kw : List W32 := [0x428a2f98, 0x71374491, 0xb5c0fbcf, 0xe9b5dba5, 0x3956c25b, 0x59f111f1, 0x923f82a4, 0xab1c5ed5,
  0xd807aa98, 0x12835b01, 0x243185be, 0x550c7dc3, 0x72be5d74, 0x80deb1fe, 0x9bdc06a7, 0xc19bf174,
  0xe49b69c1, 0xefbe4786, 0x0fc19dc6, 0x240ca1cc, 0x2de92c6f, 0x4a7484aa, 0x5cb0a9dc, 0x76f988da,
  0x983e5152, 0xa831c66d, 0xb00327c8, 0xbf597fc7, 0xc6e00bf3, 0xd5a79147, 0x06ca6351, 0x14292967,
  0x27b70a85, 0x2e1b2138, 0x4d2c6dfc, 0x53380d13, 0x650a7354, 0x766a0abb, 0x81c2c92e, 0x92722c85,
  0xa2bfe8a1, 0xa81a664b, 0xc24b8b70, 0xc76c51a3, 0xd192e819, 0xd6990624, 0xf40e3585, 0x106aa070,
  0x19a4c116, 0x1e376c08, 0x2748774c, 0x34b0bcb5, 0x391c0cb3, 0x4ed8aa4a, 0x5b9cca4f, 0x682e6ff3,
  0x748f82ee, 0x78a5636f, 0x84c87814, 0x8cc70208, 0x90befffa, 0xa4506ceb, 0xbef9a3f7, 0xc67178f2]
/-- The first words. -/
def fw : List W32 := [0x6a09e667, 0xbb67ae85, 0x3c6ef372, 0xa54ff53a, 0x510e527f, 0x9b05688c, 0x1f83d9ab, 0x5be0cd19]

def sg0 (a : W32) : W32 := wxor (wxor (rotr a 7) (rotr a 18)) (wshr a 3)
def sg1 (b : W32) : W32 := wxor (wxor (rotr b 17) (rotr b 19)) (wshr b 10)
def bs1 (e : W32) : W32 := wxor (wxor (rotr e 6) (rotr e 11)) (rotr e 25)
def bs0 (a : W32) : W32 := wxor (wxor (rotr a 2) (rotr a 13)) (rotr a 22)
def chz (e f g : W32) : W32 := wxor (wand e f) (wand (wnot e) g)
def maj (a b c : W32) : W32 := wxor (wxor (wand a b) (wand a c)) (wand b c)

/-- One round, of a round's word and a row's word together. -/
def rnd (h : List W32) (word : W32) : List W32 :=
  match h with
  | [a, b, c, d, e, f, g, z] =>
    let x := wadd (wadd (wadd z (bs1 e)) (chz e f g)) word
    let y := wadd (bs0 a) (maj a b c)
    [wadd x y, a, b, c, wadd d x, e, f, g]
  | _ => h

/-- k rounds. -/
def rnds (row h : List W32) : Nat → List W32
  | 0 => h
  | k + 1 => rnd (rnds row h k) (wadd (kw.getD k 0) (row.getD k 0))

theorem rnd_length (h : List W32) (word : W32) (hl : h.length = 8) : (rnd h word).length = 8 := by
  unfold rnd
  split
  · rfl
  · exact hl
theorem rnds_length (row h : List W32) (k : Nat) (hl : h.length = 8) : (rnds row h k).length = 8 := by
  induction k with
  | zero => exact hl
  | succ k ih => exact rnd_length _ _ ih
theorem list8 {α : Type} {l : List α} (h : l.length = 8) : ∃ a b c d e f g z, l = [a, b, c, d, e, f, g, z] := by
  match l, h with
  | [a, b, c, d, e, f, g, z], _ => exact ⟨a, b, c, d, e, f, g, z, rfl⟩

/-- Bytes as a word, the highest first. -/
def wd (l : List UInt8) : W32 := l.foldl (fun w c => wor (wshl w 8) (wbyte c)) 0
/-- A row's first 16 words. -/
def row16 (bl : List UInt8) : List W32 := (List.range 16).map fun j => wd ((bl.drop (4 * j)).take 4)
def rowNext (w : List W32) : W32 := wadd (wadd (wadd (w.getD (w.length - 16) 0) (sg0 (w.getD (w.length - 15) 0))) (w.getD (w.length - 7) 0)) (sg1 (w.getD (w.length - 2) 0))
def rowK (bl : List UInt8) : Nat → List W32
  | 0 => row16 bl
  | k + 1 => rowK bl k ++ [rowNext (rowK bl k)]
theorem rowK_length (bl : List UInt8) (k : Nat) : (rowK bl k).length = 16 + k := by
  induction k with
  | zero => simp [rowK, row16]
  | succ k ih => simp [rowK, ih]; omega

/-- Eight words, brought on by a block. -/
def stepP (h : List W32) (bl : List UInt8) : List W32 := List.zipWith wadd h (rnds (rowK bl 48) h 64)
theorem stepP_length (h : List W32) (bl : List UInt8) (hl : h.length = 8) : (stepP h bl).length = 8 := by
  simp [stepP, hl, rnds_length _ _ _ hl]

/-- The words behind n whole blocks. -/
def chain (l : List UInt8) : Nat → List W32
  | 0 => fw
  | n + 1 => stepP (chain l n) ((l.drop (64 * n)).take 64)
theorem chain_length (l : List UInt8) (n : Nat) : (chain l n).length = 8 := by
  induction n with
  | zero => rfl
  | succ n ih => exact stepP_length _ _ ih
theorem chain_append (l x : List UInt8) (n : Nat) (h : 64 * n ≤ l.length) : chain (l ++ x) n = chain l n := by
  induction n with
  | zero => rfl
  | succ n ih =>
    have e : ((l ++ x).drop (64 * n)).take 64 = (l.drop (64 * n)).take 64 := by
      rw [List.drop_append_of_le_length (by omega), List.take_append_of_le_length (by simp; omega)]
    simp only [chain, ih (by omega), e]

/-- How many noughts fill the last block. -/
def fillN (n : Nat) : Nat := (119 - n % 64) % 64
def be8 (n : Nat) : List UInt8 := (List.range 8).map fun i => UInt8.ofNat (n / 2 ^ (56 - 8 * i))
def padP (l : List UInt8) : List UInt8 := l ++ [128] ++ List.replicate (fillN l.length) 0 ++ be8 (8 * l.length)
/-- The bytes of eight words. -/
def outP (h : List W32) : List UInt8 := (List.range 32).map fun i => UInt8.ofNat ((h.getD (i / 4) 0).toNat / 2 ^ (24 - 8 * (i % 4)))
def sumP (l : List UInt8) : List UInt8 := outP (chain (padP l) ((l.length + 72) / 64))

theorem padP_length (l : List UInt8) : (padP l).length = 64 * ((l.length + 72) / 64) := by
  simp [padP, be8, fillN]
  omega
theorem sumP_length (l : List UInt8) : (sumP l).length = 32 := by simp [sumP, outP]

theorem abc : (sumP [97, 98, 99]).take 4 = [0xba, 0x78, 0x16, 0xbf] := by decide +kernel

/-! The document's own answer spells some words otherwise. -/
theorem bit_ext {x y : W32} (h : ∀ i, i < 32 → x.getLsbD i = y.getLsbD i) : x = y := BitVec.eq_of_getLsbD_eq h
theorem chz_or (e f g : W32) : wor (wand e f) (wand (wnot e) g) = chz e f g := by
  unfold wor wand wnot chz wxor
  refine bit_ext fun i hi => ?_
  simp only [wand, wnot, BitVec.getLsbD_or, BitVec.getLsbD_and, BitVec.getLsbD_xor, BitVec.getLsbD_not, hi, decide_true, Bool.true_and]
  cases e.getLsbD i <;> cases f.getLsbD i <;> cases g.getLsbD i <;> rfl
theorem maj_or (a b c : W32) : wor (wor (wand a b) (wand a c)) (wand b c) = maj a b c := by
  unfold wor wand maj wxor
  refine bit_ext fun i hi => ?_
  simp only [wand, BitVec.getLsbD_or, BitVec.getLsbD_and, BitVec.getLsbD_xor]
  cases a.getLsbD i <;> cases b.getLsbD i <;> cases c.getLsbD i <;> rfl
theorem rotr_comm (x : W32) (n : Nat) : wor (wshr x n) (wshl x (32 - n)) = rotr x n := by
  unfold rotr wor
  exact BitVec.or_comm _ _
theorem wd_four (a b c d : UInt8) : wor (wor (wor (wshl (wbyte a) 24) (wshl (wbyte b) 16)) (wshl (wbyte c) 8)) (wbyte d) = wd [a, b, c, d] := by
  simp only [wd, List.foldl]
  unfold wor wshl wbyte
  refine bit_ext fun i hi => ?_
  simp only [BitVec.getLsbD_or, BitVec.getLsbD_shiftLeft, BitVec.getLsbD_ofNat]
  have hz : ∀ (x : UInt8) (j : Nat), 8 ≤ j → x.toNat.testBit j = false := fun x j hj => Nat.testBit_lt_two_pow (Nat.lt_of_lt_of_le x.toNat_lt (Nat.pow_le_pow_right (by omega) hj))
  by_cases h1 : i < 8
  · simp [h1, hi, show i < 16 by omega, show i < 24 by omega]
  · by_cases h2 : i < 16
    · simp [h1, h2, hi, show i < 24 by omega, show i - 8 < 8 by omega, hz d i (by omega), show i - 8 < 32 by omega]
    · by_cases h3 : i < 24
      · simp [h1, h2, h3, hi, hz d i (by omega), hz c (i - 8) (by omega), show ¬ i - 8 < 8 by omega, show i - 16 < 32 by omega, show i - 8 < 32 by omega, show i - 8 - 8 = i - 16 by omega]
        intro h
        omega
      · simp [h1, h2, h3, hi, hz d i (by omega), hz c (i - 8) (by omega), hz b (i - 16) (by omega), show ¬ i - 8 < 8 by omega, show i - 24 < 32 by omega, show i - 8 < 32 by omega, show i - 16 < 32 by omega, show i - 8 - 8 = i - 16 by omega, show i - 16 - 8 = i - 24 by omega]
        intro _
        omega
end Go.Proofs.YtaefgieodehceaaDoor.Sha
