/- Bytes taken from their beginning: contracts for the reader's cut and number, and for field.fresh. -/
import Derived.Test.YtaefgieodehceaaDoorA5
namespace Go.Proofs.YtaefgieodehceaaDoor
set_option maxRecDepth 4000
open Go.RowKit

/-- A reader: what it has still to read, and whether it was short. -/
abbrev Rs := List UInt8 × Bool
def cutP (r : Rs) (m : Nat) : List UInt8 × Rs := if r.1.length < m then ([], (r.1, true)) else (r.1.take m, (r.1.drop m, r.2))
def num (l : List UInt8) : Nat := l.foldl (fun n c => n * 256 + c.toNat) 0
def numP (r : Rs) (m : Nat) : Nat × Rs := (num (cutP r m).1, (cutP r m).2)

/-- A slice value that holds bytes of old memory. -/
def Bs (w : World) (B : Nat) (v : Value) (l : List UInt8) : Prop := ∃ A c, v = .slice A l.length c ∧ l.length ≤ c ∧ Rd w B A (bv l)

/-- The block G is a reader's: bytes to come, in memory below B, and whether it was short; what else stands there is cs's. -/
structure IsR (w : World) (B G : Nat) (T : TypeId) (cs : Array Value) (r : Rs) : Prop where
  hp : w.heap[G]? = some (.cells cs T (0, 0))
  bs : ∃ v, cs[0]? = some v ∧ Bs w B v r.1
  sh : cs[1]? = some (.bool r.2)
  le : B ≤ G

theorem Bs.below {w w' : World} {B B' : Nat} {v : Value} {l : List UInt8} (h : Bs w B v l) (hb : Below B' w w') (hB : B ≤ B') : Bs w' B v l := by
  obtain ⟨A, c, hv, hl, hr⟩ := h
  exact ⟨A, c, hv, hl, hr.below hb hB⟩

theorem Rd.grown {w w' : World} {B : Nat} {A : Option Addr} {xs : List Value} {row : Option Nat} (h : Rd w B A xs) (hg : w.grownBy w' row) (hr : ∀ k, row = some k → B ≤ k) : Rd w' B A xs := fun hx => by
  obtain ⟨b, o, hA, hlt, hc⟩ := h hx
  exact ⟨b, o, hA, hlt, fun j u hu => hg.cell (hc j u hu) (fun e => by have := hr b e.symm; omega)⟩

theorem Bs.grown {w w' : World} {B : Nat} {v : Value} {l : List UInt8} {row : Option Nat} (h : Bs w B v l) (hg : w.grownBy w' row) (hr : ∀ k, row = some k → B ≤ k) : Bs w' B v l := by
  obtain ⟨A, c, hv, hl, hrd⟩ := h
  exact ⟨A, c, hv, hl, hrd.grown hg hr⟩

theorem lt_of_block {w : World} {G : Nat} {o : Obj} (h : w.heap[G]? = some o) : G < w.heap.size := by
  rcases Nat.lt_or_ge G w.heap.size with hlt | hge
  · exact hlt
  · rw [Array.getElem?_eq_none hge] at h
    cases h

theorem grown_setCell (w : World) (G i : Nat) (u : Value) : w.grownBy (w.setCell ⟨G, i, none⟩ u) (some G) :=
  ⟨rfl, rfl, rfl, by simp [World.setCell], fun k _ hk => Below.heap_setCell w ⟨G, i, none⟩ u k (fun e => hk (by rw [e]))⟩

/-- The cuts of a slice's address. -/
theorem Rd.take {w : World} {B : Nat} {A : Option Addr} {l : List UInt8} (h : Rd w B A (bv l)) (m : Nat) : Rd w B A (bv (l.take m)) := fun hx => by
  obtain ⟨b, o, hA, hlt, hc⟩ := h (by simp [bv] at hx ⊢; omega)
  refine ⟨b, o, hA, hlt, fun j u hu => hc j u ?_⟩
  simp only [bv, List.map_take, List.getElem?_take] at hu
  split at hu
  · exact hu
  · cases hu

theorem add_plain (b o m : Nat) : (⟨b, o, none⟩ : Addr).add m = ⟨b, o + m, none⟩ := by
  unfold Addr.add
  split <;> simp_all

theorem Bs.take {w : World} {B c : Nat} {A : Option Addr} {l : List UInt8} (h : Rd w B A (bv l)) {m : Nat} (hm : m ≤ l.length) (hc : l.length ≤ c) : Bs w B (.slice A m c) (l.take m) := by
  have hl : (l.take m).length = m := by simp; omega
  exact ⟨A, c, by rw [hl], by omega, h.take m⟩

theorem Bs.drop {w : World} {B c : Nat} {ad : Addr} {l : List UInt8} (h : Rd w B (some ad) (bv l)) {m : Nat} (hm : m ≤ l.length) (hc : l.length ≤ c) : Bs w B (.slice (some (ad.add m)) (l.length - m) (c - m)) (l.drop m) := by
  have hl : (l.drop m).length = l.length - m := by simp
  refine ⟨_, _, by rw [hl], by omega, fun hx => ?_⟩
  simp [bv] at hx
  obtain ⟨b, o, hA, hlt, hcell⟩ := h (by simp [bv]; omega)
  injection hA with hA
  subst hA
  refine ⟨b, o + m, by rw [add_plain], hlt, fun j u hu => ?_⟩
  have := hcell (m + j) u (by simpa [bv] using hu)
  rw [← this]
  congr 2
  omega

theorem Bs.dropAll {w : World} {B : Nat} {A : Option Addr} {l : List UInt8} {m : Nat} (hm : m ≤ l.length) (hc : l.length ≤ m) : Bs w B (.slice A (l.length - m) 0) (l.drop m) := by
  have hl : l.drop m = [] := List.drop_eq_nil_of_le hc
  rw [hl]
  exact ⟨A, 0, by rw [show l.length - m = 0 by omega]; rfl, by simp, Rd.nil⟩

/-- What a call on a reader's block leaves, and hands back. -/
def CutPost (w : World) (B G : Nat) (T : TypeId) (cs : Array Value) (x : List UInt8) (r' : Rs) (e : Ending) (w' : World) : Prop :=
  ∃ v cs', e = .returned v ∧ Bs w' B v x ∧ IsR w' B G T cs' r' ∧ (∀ i, 2 ≤ i → cs'[i]? = cs[i]?) ∧ cs'.size = cs.size ∧ w.grownBy w' (some G)

set_option maxHeartbeats 1000000 in
theorem cut_short (B G : Nat) (T : TypeId) (cs : Array Value) (r : Rs) (m : Nat) (w : World) (h : IsR w B G T cs r) (hm : r.1.length < m) :
    Calls Tryd.prog 67 #[.pointer (some ⟨G, 0, none⟩), .int .i64 (m : Int)] w (CutPost w B G T cs [] (r.1, true)) := by
  obtain ⟨hp, ⟨v, h0, hbs⟩, h1, hle⟩ := h
  obtain ⟨A, c, rfl, hlc, hr⟩ := hbs
  have hlt := lt_of_block hp
  have c0 := (cell_of_row w G 0 cs T (0, 0) hp).trans h0
  have c1 := (cell_of_row w G 1 cs T (0, 0) hp).trans h1
  have f1 := frozen_of_row w G 1 cs T hp
  have HP := Lib.hid hp
  have HB : Hid (Bs w B (.slice A r.1.length c) r.1) := ⟨A, c, rfl, hlc, hr⟩
  have H0 := Lib.hid h0
  have H1 := Lib.hid h1
  clear hp h0 h1 hr
  go_enter Tryd.func67, Tryd.ntmps67
  go_wp2
  go_ret
  refine ⟨.slice none 0 0, _, rfl, ⟨none, 0, rfl, by simp, Rd.nil⟩, ⟨heap_setCell_same w G 1 cs T (.bool true) HP.out, ⟨_, ?_, HB.out.grown (grown_setCell w G 1 _) (fun k hk => ?_)⟩, ?_, hle⟩, fun i hi => ?_, by simp, grown_setCell w G 1 _⟩
  · simpa using H0.out
  · simp at hk; omega
  · have := H1.out
    rw [Array.getElem?_setIfInBounds_self]
    have hs : 1 < cs.size := (Array.getElem?_eq_some_iff.1 this).1
    simp [hs]
  · rw [Array.getElem?_setIfInBounds_ne (by omega)]

theorem cut_close {w : World} {B G : Nat} {T : TypeId} {cs : Array Value} {r r' : Rs} {u v : Value} {x : List UInt8} (hp : w.heap[G]? = some (.cells cs T (0, 0))) (h1 : cs[1]? = some (.bool r.2)) (hr : r'.2 = r.2)
    (hle : B ≤ G) (hv : Bs w B v x) (hu : Bs w B u r'.1) : CutPost w B G T cs x r' (.returned v) (w.setCell ⟨G, 0, none⟩ u) := by
  have hg := grown_setCell w G 0 u
  have hk : ∀ k, some G = some k → B ≤ k := fun k hk => by injection hk with hk; omega
  have hs : 1 < cs.size := (Array.getElem?_eq_some_iff.1 h1).1
  refine ⟨v, _, rfl, hv.grown hg hk, ⟨heap_setCell_same w G 0 cs T u hp, ⟨u, ?_, hu.grown hg hk⟩, ?_, hle⟩, fun i hi => ?_, by simp, hg⟩
  · rw [Array.getElem?_setIfInBounds_self, if_pos (by omega)]
  · rw [Array.getElem?_setIfInBounds_ne (by omega), h1, hr]
  · rw [Array.getElem?_setIfInBounds_ne (by omega)]

set_option maxHeartbeats 1000000 in
theorem cut_ok (B G : Nat) (T : TypeId) (cs : Array Value) (r : Rs) (m : Nat) (w : World) (h : IsR w B G T cs r) (hm : m ≤ r.1.length) (hmax : r.1.length ≤ 1099511627776) :
    Calls Tryd.prog 67 #[.pointer (some ⟨G, 0, none⟩), .int .i64 (m : Int)] w (CutPost w B G T cs (r.1.take m) (r.1.drop m, r.2)) := by
  obtain ⟨hp, ⟨v, h0, hbs⟩, h1, hle⟩ := h
  obtain ⟨A, c, rfl, hlc, hr⟩ := hbs
  have hlt := lt_of_block hp
  have c0 := (cell_of_row w G 0 cs T (0, 0) hp).trans h0
  have f0 := frozen_of_row w G 0 cs T hp
  have HP := Lib.hid hp
  have HR := Lib.hid hr
  have H0 := Lib.hid h0
  have H1 := Lib.hid h1
  clear hp h0 h1 hr
  rcases A with _ | ad
  · have hl : r.1 = [] := by
      rcases hrl : r.1 with _ | ⟨y, l⟩
      · rfl
      · obtain ⟨b, o, hA, _⟩ := HR.out (by rw [hrl]; simp [bv])
        cases hA
    obtain ⟨l, sh⟩ := r
    simp only at hl
    subst hl
    have hm0 : m = 0 := by simpa using hm
    subst hm0
    go_enter Tryd.func67, Tryd.ntmps67
    go_wp2
    go_ret
    exact cut_close HP.out H1.out rfl hle ⟨none, c, rfl, by simp, Rd.nil⟩ ⟨none, c, rfl, by simp, Rd.nil⟩
  · go_enter Tryd.func67, Tryd.ntmps67
    go_wp2
    · go_ret
      exact cut_close HP.out H1.out rfl hle (Bs.take HR.out hm (by omega)) (Bs.dropAll hm (by omega))
    · go_ret
      exact cut_close HP.out H1.out rfl hle (Bs.take HR.out hm hlc) (Bs.drop HR.out hm hlc)

theorem cut_any (B G : Nat) (T : TypeId) (cs : Array Value) (r : Rs) (m : Nat) (w : World) (h : IsR w B G T cs r) (hmax : r.1.length ≤ 1099511627776) :
    Calls Tryd.prog 67 #[.pointer (some ⟨G, 0, none⟩), .int .i64 (m : Int)] w (CutPost w B G T cs (cutP r m).1 (cutP r m).2) := by
  unfold cutP
  by_cases hm : r.1.length < m
  · rw [if_pos hm]
    exact cut_short B G T cs r m w h hm
  · rw [if_neg hm]
    exact cut_ok B G T cs r m w h (by omega) hmax

def NumPost (w : World) (B G : Nat) (T : TypeId) (cs : Array Value) (n : Nat) (r' : Rs) (e : Ending) (w' : World) : Prop :=
  ∃ cs', e = .returned (.int .u64 (n : Int)) ∧ IsR w' B G T cs' r' ∧ (∀ i, 2 ≤ i → cs'[i]? = cs[i]?) ∧ cs'.size = cs.size ∧ w.grownBy w' (some G)

theorem cutP_len (r : Rs) (m : Nat) : (cutP r m).1.length ≤ m := by
  unfold cutP
  split <;> simp
  omega

theorem num_snoc (l : List UInt8) (c : UInt8) : num (l ++ [c]) = num l * 256 + c.toNat := by simp [num]
theorem num_lt (l : List UInt8) : num l < 256 ^ l.length := by
  rw [← List.reverse_reverse l]
  induction l.reverse with
  | nil => simp [num]
  | cons c l ih =>
    rw [List.reverse_cons, num_snoc, List.length_append, List.length_singleton, Nat.pow_succ]
    have := c.toNat_lt
    omega

theorem or_byte (n y : Nat) (hn : n < 72057594037927936) (hy : y < 256) : bits .or .u64 ((n : Int) * 256) (y : Int) = ((n * 256 + y : Nat) : Int) := by
  have h := u64_or_nat (n * 256) y (by omega) (by omega)
  rw [show ((n * 256 : Nat) : Int) = (n : Int) * 256 by simp] at h
  rw [h, Nat.mul_comm n 256]
  congr 1
  exact (Nat.two_pow_add_eq_or_of_lt (i := 8) (by omega) n).symm

set_option maxHeartbeats 1000000 in
theorem number_any (B G : Nat) (T : TypeId) (cs : Array Value) (r : Rs) (m : Nat) (w : World) (h : IsR w B G T cs r) (hmax : r.1.length ≤ 1099511627776) (hm : m ≤ 8) :
    Calls Tryd.prog 61 #[.pointer (some ⟨G, 0, none⟩), .int .i64 (m : Int)] w (NumPost w B G T cs (numP r m).1 (numP r m).2) := by
  have hc := cut_any B G T cs r m w h hmax
  have hl := cutP_len r m
  unfold numP
  obtain ⟨x, hx⟩ : ∃ x, x = (cutP r m).1 := ⟨_, rfl⟩
  obtain ⟨r', hr'⟩ : ∃ r', r' = (cutP r m).2 := ⟨_, rfl⟩
  rw [← hx, ← hr'] at hc
  rw [← hx] at hl
  rw [← hx, ← hr']
  have HC := Lib.hid hc
  clear hc hx hr' h
  go_enter Tryd.func61, Tryd.ntmps61
  go_wp2_with fail
  refine HC.out.mono ?_
  rintro e w1 ⟨v, cs', rfl, ⟨A, c, rfl, hxc, hrd⟩, his, hcs, hsz, hg⟩
  have HI := Lib.hid his
  have HS := Lib.hid hcs
  have HZ := Lib.hid hsz
  have HRD := Lib.hid hrd
  clear his hcs hsz hrd
  go_wp2
  go_loop [5, 12] (fun t i => ∃ k : Nat, k ≤ x.length ∧ i = .int .i64 k ∧ t = .int .u64 (num (x.take k) : Nat)) (fun _ i => x.length - (intOf i).toNat)
  case atStart => exact ⟨0, by omega, rfl, rfl⟩
  case round =>
    obtain ⟨k, hk, rfl, rfl⟩ := hrel
    by_cases hlt : k < x.length
    · obtain ⟨b, o, rfl, hbB, hcell⟩ := HRD.out.get (k := k) (by simpa [bv] using hlt)
      obtain ⟨y, hy⟩ : ∃ y, y = x[k] := ⟨_, rfl⟩
      replace hcell : w1.cell? ⟨b, o + k, none⟩ = some (.int .u8 (y.toNat : Int)) := by rw [hcell, hy]; simp [bv]
      have hs : num (x.take (k + 1)) = num (x.take k) * 256 + y.toNat := by rw [List.take_succ_eq_append_getElem hlt, num_snoc, hy]
      have hb := num_lt (x.take k)
      rw [List.length_take, Nat.min_eq_left hk] at hb
      have hb2 : 256 ^ k ≤ 256 ^ 7 := Nat.pow_le_pow_right (by omega) (by omega)
      obtain ⟨n, hn⟩ : ∃ n, n = num (x.take k) := ⟨_, rfl⟩
      rw [← hn] at hs hb
      have hbb : n < 72057594037927936 := Nat.lt_of_lt_of_le hb hb2
      have hyb := y.toNat_lt
      have HX := Lib.hid hs
      have HN := Lib.hid hn
      clear hs hb hb2 hy hn
      rw [← HN.out]
      go_wp2
      go_round
      case rel => exact ⟨k + 1, by omega, by go_num, by rw [HX.out, or_byte n y.toNat hbb hyb]⟩
      case measure => simp [intOf] <;> omega
    · have hge : x.length ≤ k := by omega
      go_wp2
      go_ret
      exact ⟨cs', by rw [List.take_of_length_le hge]; rfl, HI.out, HS.out, HZ.out, hg⟩

theorem Rd.add {w : World} {B : Nat} {ad : Addr} {xs : List Value} (h : Rd w B (some ad) xs) : ∀ j u, xs[j]? = some u → w.cell? (ad.add j) = some u := fun j u hu => by
  have hlt : j < xs.length := (List.getElem?_eq_some_iff.1 hu).1
  obtain ⟨b, o, hA, _, hc⟩ := h (by omega)
  injection hA with hA
  subst hA
  rw [add_plain]
  exact hc j u hu

theorem bv_one (l : List UInt8) : ∀ u ∈ bv l, u.oneCell' = true := by
  intro u hu
  simp only [bv, List.mem_map] at hu
  obtain ⟨c, _, rfl⟩ := hu
  rfl

end Go.Proofs.YtaefgieodehceaaDoor
