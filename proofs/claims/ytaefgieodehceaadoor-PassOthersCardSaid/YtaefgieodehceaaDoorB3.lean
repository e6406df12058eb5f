/- Texts and lists taken from bytes: contracts for the reader's text and list. -/
import Derived.Test.YtaefgieodehceaaDoorB2
import Derived.Deep.OwnRows
namespace Go.Proofs.YtaefgieodehceaaDoor
set_option maxRecDepth 4000
open Go.RowKit

def textP (r : Rs) : List UInt8 × Rs := cutP (numP r 1).2 (numP r 1).1

def TextPost (w : World) (B G : Nat) (T : TypeId) (cs : Array Value) (x : List UInt8) (r' : Rs) (e : Ending) (w' : World) : Prop :=
  ∃ cs', e = .returned (.string ⟨x.toArray⟩) ∧ IsR w' B G T cs' r' ∧ (∀ i, 2 ≤ i → cs'[i]? = cs[i]?) ∧ cs'.size = cs.size ∧ w.grownBy w' (some G)

theorem cutP_rest (r : Rs) (m : Nat) : (cutP r m).2.1.length ≤ r.1.length := by
  unfold cutP
  split <;> simp

theorem grown_trans' {a b c : World} {row : Option Nat} (h : a.grownBy b row) (k : b.grownBy c row) : a.grownBy c row :=
  ⟨k.os.trans h.os, k.tape.trans h.tape, k.output.trans h.output, Nat.le_trans h.size k.size, fun i hi hr => (k.block i (Nat.lt_of_lt_of_le hi h.size) hr).trans (h.block i hi hr)⟩

theorem num1_lt (r : Rs) : (numP r 1).1 < 256 := by
  have h := num_lt (cutP r 1).1
  have hl := cutP_len r 1
  unfold numP
  have : 256 ^ (cutP r 1).1.length ≤ 256 ^ 1 := Nat.pow_le_pow_right (by omega) hl
  omega

set_option maxHeartbeats 1000000 in
theorem text_any (B G : Nat) (T : TypeId) (cs : Array Value) (r : Rs) (w : World) (h : IsR w B G T cs r) (hmax : r.1.length ≤ 1099511627776) :
    Calls Tryd.prog 59 #[.pointer (some ⟨G, 0, none⟩)] w (TextPost w B G T cs (textP r).1 (textP r).2) := by
  have h1 := number_any B G T cs r 1 w h hmax (by omega)
  have hlt := num1_lt r
  have hrest : (numP r 1).2.1.length ≤ 1099511627776 := Nat.le_trans (cutP_rest r 1) hmax
  unfold textP
  obtain ⟨n, hn⟩ : ∃ n, n = (numP r 1).1 := ⟨_, rfl⟩
  obtain ⟨r1, hr1⟩ : ∃ r1, r1 = (numP r 1).2 := ⟨_, rfl⟩
  rw [← hn, ← hr1] at h1
  rw [← hn] at hlt
  rw [← hr1] at hrest
  rw [← hn, ← hr1]
  have H1 := Lib.hid h1
  clear h1 hn hr1 h
  go_enter Tryd.func59, Tryd.ntmps59
  go_wp2_with fail
  refine H1.out.mono ?_
  rintro e w1 ⟨cs1, rfl, hi1, hc1, hs1, hg1⟩
  have h2 := cut_any B G T cs1 r1 n w1 hi1 hrest
  have H2 := Lib.hid h2
  have HC := Lib.hid hc1
  have HS := Lib.hid hs1
  clear h2 hi1 hc1 hs1
  go_wp2_with fail
  refine H2.out.mono ?_
  rintro e w2 ⟨v, cs2, rfl, hbs, hi2, hc2, hs2, hg2⟩
  obtain ⟨A, c, rfl, hlc, hr⟩ := hbs
  have kc := conv_rd hr c
  have HI := Lib.hid hi2
  have HC2 := Lib.hid hc2
  have HS2 := Lib.hid hs2
  clear hr hi2 hc2 hs2
  go_wp2
  go_ret
  exact ⟨cs2, rfl, HI.out, fun i hi => (HC2.out i hi).trans (HC.out i hi), HS2.out.trans HS.out, grown_trans' hg1 hg2⟩

/-- So many numbers of four bytes, one behind the other. -/
def nums : Nat → Rs → List Nat × Rs
  | 0, r => ([], r)
  | k + 1, r => ((nums k r).1 ++ [(numP (nums k r).2 4).1], (numP (nums k r).2 4).2)
def listP (r : Rs) : List Nat × Rs := nums (numP r 1).1 (numP r 1).2

theorem nums_len (k : Nat) (r : Rs) : (nums k r).1.length = k := by
  induction k with
  | zero => rfl
  | succ k ih => simp [nums, ih]

theorem nums_rest (k : Nat) (r : Rs) : (nums k r).2.1.length ≤ r.1.length := by
  induction k with
  | zero => exact Nat.le_refl _
  | succ k ih => exact Nat.le_trans (cutP_rest _ _) ih

theorem num4_lt (r : Rs) : (numP r 4).1 < 4294967296 := by
  have h := num_lt (cutP r 4).1
  have hl := cutP_len r 4
  unfold numP
  have : 256 ^ (cutP r 4).1.length ≤ 256 ^ 4 := Nat.pow_le_pow_right (by omega) hl
  omega

theorem nums_lt (k : Nat) (r : Rs) : ∀ n ∈ (nums k r).1, n < 4294967296 := by
  induction k with
  | zero => intro n hn; cases hn
  | succ k ih =>
    intro n hn
    simp only [nums, List.mem_append, List.mem_singleton] at hn
    rcases hn with hn | rfl
    · exact ih n hn
    · exact num4_lt _

/-- A list's block: numbers of 32 bits, just these. -/
def Row32 (w : World) (g : Nat) (us : List Nat) : Prop := w.rowIs g 23 us.length (fun j => .int .u32 (us.getD j 0 : Nat))

def ListPost (w : World) (B G : Nat) (T : TypeId) (cs : Array Value) (us : List Nat) (r' : Rs) (e : Ending) (w' : World) : Prop :=
  ∃ cs' g, e = .returned (.slice (some ⟨g, 0, none⟩) us.length us.length) ∧ w.heap.size ≤ g ∧ Row32 w' g us ∧ IsR w' B G T cs' r' ∧ (∀ i, 2 ≤ i → cs'[i]? = cs[i]?) ∧ cs'.size = cs.size ∧ w.grownBy w' (some G)

theorem Tryd.info23 : (Tryd.prog.info? 23).map (fun i => (i.zero, i.size, i.bytes)) = some (some (.int .u32 0), 1, 4) := by kernel_rfl

theorem IsR.keep {w w' : World} {B G : Nat} {T : TypeId} {cs : Array Value} {r : Rs} (h : IsR w B G T cs r) (he : w'.heap[G]? = w.heap[G]?) (hb : Below B w w') : IsR w' B G T cs r := by
  obtain ⟨hp, ⟨v, h0, hbs⟩, h1, hle⟩ := h
  exact ⟨he.trans hp, ⟨v, h0, hbs.below hb (Nat.le_refl _)⟩, h1, hle⟩

theorem row_step (k : Nat) (r : Rs) (j : Nat) :
    (if j = k then Value.int .u32 ((numP (nums k r).2 4).1 : Int) else .int .u32 ((nums k r).1.getD j 0 : Nat)) = .int .u32 ((nums (k + 1) r).1.getD j 0 : Nat) := by
  have hl := nums_len k r
  simp only [nums]
  by_cases h : j = k
  · rw [if_pos h]
    simp [List.getD, h, hl]
  · rw [if_neg h]
    congr 2
    by_cases h2 : j < k
    · simp [List.getD, List.getElem?_append_left (show j < (nums k r).1.length by omega)]
    · simp [List.getD, List.getElem?_eq_none (show (nums k r).1.length ≤ j by omega), List.getElem?_eq_none (show ((nums k r).1 ++ [(numP (nums k r).2 4).1]).length ≤ j by simp; omega)]

set_option maxHeartbeats 2000000 in
theorem list_any (B G : Nat) (T : TypeId) (cs : Array Value) (r : Rs) (w : World) (h : IsR w B G T cs r) (hmax : r.1.length ≤ 1099511627776) :
    Calls Tryd.prog 60 #[.pointer (some ⟨G, 0, none⟩)] w (ListPost w B G T cs (listP r).1 (listP r).2) := by
  have h1 := number_any B G T cs r 1 w h hmax (by omega)
  have hlt := num1_lt r
  have hrest : (numP r 1).2.1.length ≤ 1099511627776 := Nat.le_trans (cutP_rest r 1) hmax
  have hGw := lt_of_block h.hp
  have hBG := h.le
  unfold listP
  obtain ⟨n, hn⟩ : ∃ n, n = (numP r 1).1 := ⟨_, rfl⟩
  obtain ⟨r1, hr1⟩ : ∃ r1, r1 = (numP r 1).2 := ⟨_, rfl⟩
  rw [← hn, ← hr1] at h1
  rw [← hn] at hlt
  rw [← hr1] at hrest
  rw [← hn, ← hr1]
  have hmk := run_make_row' (P := Tryd.prog) 103 23 (.int .u32 0) 4 Tryd.underlying103 Tryd.info23 rfl .u64 .u64 n (by omega) (by omega)
  have H1 := Lib.hid h1
  clear h1 hn hr1 h
  go_enter Tryd.func60, Tryd.ntmps60
  go_wp2_with fail
  refine H1.out.mono ?_
  rintro e w1 ⟨cs1, rfl, hi1, hc1, hs1, hg1⟩
  have HI := Lib.hid hi1
  have HC := Lib.hid hc1
  have HS := Lib.hid hs1
  have hz1 := hg1.size
  clear hi1 hc1 hs1
  go_wp2_with fail
  go_loopw [10] (fun i wr => ∃ (k : Nat) (cs' : Array Value), k ≤ n ∧ i = .int .i64 k ∧ Hid (IsR wr B G T cs' (nums k r1).2 ∧ (∀ i, 2 ≤ i → cs'[i]? = cs[i]?) ∧ cs'.size = cs.size) ∧
      wr.rowIs w1.heap.size 23 n (fun j => .int .u32 ((nums k r1).1.getD j 0 : Nat)) ∧ w.grownBy wr (some G) ∧ w1.heap.size < wr.heap.size) (fun i _ => n - (intOf i).toNat)
  case atStart => exact ⟨0, cs1, by omega, rfl, ⟨HI.out.keep (Below.heap_alloc _ _ _ (by omega)) ((Below.refl _ _).alloc (by omega) _), HC.out, HS.out⟩,
      (World.rowIs_made w1 (.int .u32 0) n 23).congr (fun i _ => by simp [nums]), grown_trans' hg1 (World.grownBy_alloc w1 _ _), by simp⟩
  case round =>
    obtain ⟨k, cs', hk, rfl, hi2, hrow, hg2, hsz⟩ := hrel
    by_cases hkn : k < n
    · have h3 := number_any B G T cs' (nums k r1).2 4 wr hi2.out.1 (Nat.le_trans (nums_rest k r1) hrest) (by omega)
      have hx := num4_lt (nums k r1).2
      obtain ⟨x, hxe⟩ : ∃ x, x = (numP (nums k r1).2 4).1 := ⟨_, rfl⟩
      rw [← hxe] at h3 hx
      have H3 := Lib.hid h3
      have HX := Lib.hid hxe
      have HR := Lib.hid hrow
      clear h3 hxe hrow
      go_wp2_with fail
      refine H3.out.mono ?_
      rintro e w2 ⟨cs2, rfl, hi3, hc3, hs3, hg3⟩
      have hne : w1.heap.size ≠ G := by omega
      have hr2 := HR.out.of_block (hg3.block w1.heap.size hsz (fun e => by injection e with e; omega))
      have hcell := hr2.cell hkn
      have hfr := hr2.frozen k
      have HR2 := Lib.hid hr2
      have HI3 := Lib.hid hi3
      have HC3 := Lib.hid hc3
      have HS3 := Lib.hid hs3
      have hz3 := hg3.size
      clear hr2 hi3 hc3 hs3
      go_wp2
      have hg4 := grown_trans' hg2 hg3
      have hg5 : w.grownBy (w2.setCell ⟨w1.heap.size, k, none⟩ (.int .u32 (x : Int))) (some G) :=
        ⟨hg4.os, hg4.tape, hg4.output, by simpa [World.setCell] using hg4.size, fun j hj hjr => (Below.heap_setCell w2 ⟨w1.heap.size, k, none⟩ _ j (by simp; omega)).trans (hg4.block j hj hjr)⟩
      go_roundw
      case rel => exact ⟨k + 1, cs2, by omega, by go_num, ⟨HI3.out.keep (Below.heap_setCell _ _ _ _ (fun e => hne e.symm)) ((Below.refl _ _).setCell (by simp; omega) _), fun i hi => (HC3.out i hi).trans (hi2.out.2.1 i hi), HS3.out.trans hi2.out.2.2⟩,
          (HR2.out.set k (.int .u32 (x : Int))).congr (fun j hj => by rw [HX.out]; exact row_step k r1 j), hg5, by simp [World.setCell]; omega⟩
      case measure => simp [intOf] <;> omega
    · have hke : k = n := by omega
      have hi4 := hi2.out
      rw [hke] at hi4 hrow
      have hl := nums_len n r1
      have HI4 := Lib.hid hi4
      have HR := Lib.hid hrow
      have HL := Lib.hid hl
      clear hi4 hrow hl hke
      go_wp2
      go_ret
      refine ⟨cs', w1.heap.size, by rw [HL.out]; rfl, hz1, ?_, HI4.out.1, HI4.out.2.1, HI4.out.2.2, hg2⟩
      unfold Row32
      rw [HL.out]
      exact HR.out
end Go.Proofs.YtaefgieodehceaaDoor
