/- The bytes of any fields by any shape: a contract for field.Write. -/
import Derived.Test.YtaefgieodehceaaDoorA3
import Derived.OneCell
import Derived.Deep.RegionHeld3
namespace Go.Proofs.YtaefgieodehceaaDoor
set_option maxRecDepth 4000
open Go.RowKit

def enc : List UInt8 → List Nat → List ByteArray → List (List Nat) → Option (List UInt8)
  | [], _, _, _ => some []
  | c :: r, N, S, L =>
    if c.toNat = 115 then match S with
      | s :: S' => if s.size ≤ 255 then (enc r N S' L).map ((be 1 s.size ++ s.data.toList) ++ ·) else none
      | [] => none
    else if c.toNat = 108 then match L with
      | u :: L' => if u.length ≤ 255 then (enc r N S L').map ((be 1 u.length ++ u.flatMap (be 4)) ++ ·) else none
      | [] => none
    else match N with
      | n :: N' => if n < 2 ^ (8 * wid c) then (enc r N' S L).map (be (wid c) n ++ ·) else none
      | [] => none

def writeR (l : List UInt8) (N : List Nat) (S : List ByteArray) (L : List (List Nat)) : List UInt8 × Nat :=
  if 0 ≤ least l ∧ okM l N.length S.length L.length = true then
    match enc l N S L with
    | some b => (b, 0)
    | none => ([], 2)
  else ([], 1)

def sv (l : List ByteArray) : List Value := l.map fun s => .string s

/-- The values vs are slices that hold the lists us. -/
def Lss (w : World) (B : Nat) : List Value → List (List Nat) → Prop
  | [], [] => True
  | v :: vs, u :: us => (∃ a c, v = .slice a u.length c ∧ Rd w B a (uv .u32 u) ∧ (∀ n ∈ u, n < 4294967296)) ∧ Lss w B vs us
  | _, _ => False

theorem Lss.below {w w' : World} {B B' : Nat} (hb : Below B' w w') (hB : B ≤ B') : ∀ {vs : List Value} {us : List (List Nat)}, Lss w B vs us → Lss w' B vs us
  | [], [], _ => trivial
  | _ :: _, _ :: _, ⟨⟨a, c, hv, hr, hn⟩, ht⟩ => ⟨⟨a, c, hv, hr.below hb hB, hn⟩, Lss.below hb hB ht⟩

theorem Lss.length {w : World} {B : Nat} : ∀ {vs : List Value} {us : List (List Nat)}, Lss w B vs us → vs.length = us.length
  | [], [], _ => rfl
  | _ :: _, _ :: _, ⟨_, ht⟩ => by simp [ht.length]

theorem Rd.tail {w : World} {B b o : Nat} {x : Value} {xs : List Value} (h : Rd w B (some ⟨b, o, none⟩) (x :: xs)) {c : Nat} (hc : xs.length + 1 ≤ c) :
    Rd w B (if c = 1 then some ⟨b, o, none⟩ else some ⟨b, o + 1, none⟩) xs := fun hx => by
  obtain ⟨b', o', hA, hlt, hcell⟩ := h (by simp)
  injection hA with hA
  injection hA with e1 e2
  subst e1 e2
  rw [if_neg (by omega)]
  exact ⟨b, o + 1, rfl, hlt, fun j u hu => by
    have := hcell (j + 1) u (by simpa using hu)
    rw [← this]
    congr 2
    omega⟩

set_option maxHeartbeats 1000000 in
theorem write_shape (s : ByteArray) (aN aS aL : Option Addr) (nN nS nL cN cS cL : Nat) (w : World)
    (h : ¬ (0 ≤ least s.data.toList ∧ okM s.data.toList nN nS nL = true)) :
    Calls Tryd.prog 35 #[.string s, .agg #[.slice aN nN cN, .slice aS nS cS, .slice aL nL cL]] w fun e w' =>
      e = .returned (.tuple #[.slice none 0 0, .int .i64 1]) ∧ Below w.heap.size w w' := by
  have hb0 := (Below.refl w.heap.size w).alloc (Nat.le_refl _)
  by_cases h0 : 0 ≤ least s.data.toList
  · have h8 : s.size ≤ 8 := by
      unfold least at h0
      split at h0
      · omega
      · simp at *; omega
    have hr := fun W => right_any s W
    have hm := fun W => matches_any s aN aS aL nN nS nL cN cS cL W h8
    have hk : okM s.data.toList nN nS nL = false := by simpa [h0] using h
    rw [hk] at hm
    rw [decide_eq_true h0] at hr
    have HR := Lib.hid hr
    have HM := Lib.hid hm
    clear hr hm h h0 hk
    go_enter Tryd.func35, Tryd.ntmps35
    go_wp2_with fail
    refine (HR.out _).mono ?_
    rintro e w' ⟨rfl, rfl⟩
    go_wp2_with fail
    refine (HM.out _).mono ?_
    rintro e w1 ⟨rfl, hb1⟩
    go_wp2
    go_ret2
    exact ⟨rfl, (hb0 _).trans (hb1.mono (by simp))⟩
  · have hr := fun W => right_any s W
    rw [decide_eq_false h0] at hr
    have HR := Lib.hid hr
    clear hr h h0
    go_enter Tryd.func35, Tryd.ntmps35
    go_wp2_with fail
    refine (HR.out _).mono ?_
    rintro e w' ⟨rfl, rfl⟩
    go_wp2
    go_ret2
    exact ⟨rfl, hb0 _⟩

/-- Where the loop stands behind k letters: what is still to come of the fields, and what has been written. -/
structure St (w : World) (B : Nat) (l : List UInt8) (res : Option (List UInt8)) (k : Nat) (out : List UInt8) (N : List Nat) (S : List ByteArray) (L : List (List Nat)) (vs : List Value)
    (aN aS aL : Option Addr) (cN cS cL : Nat) : Prop where
  rN : Rd w B aN (uv .u64 N)
  rS : Rd w B aS (sv S)
  rL : Rd w B aL vs
  ls : Lss w B vs L
  lN : N.length ≤ cN
  lS : S.length ≤ cS
  lL : L.length ≤ cL
  bN : ∀ n ∈ N, n < 18446744073709551616
  ok : okM (l.drop k) N.length S.length L.length = true
  en : res = (enc (l.drop k) N S L).map (out ++ ·)

theorem St.text {w : World} {B : Nat} {l : List UInt8} {res : Option (List UInt8)} {k : Nat} {out : List UInt8} {N : List Nat} {S : List ByteArray} {L : List (List Nat)} {vs : List Value}
    {aN aS aL : Option Addr} {cN cS cL : Nat} (h : St w B l res k out N S L vs aN aS aL cN cS cL) (hk : k < l.length) (hc : l[k].toNat = 115) :
    ∃ t S' b o, S = t :: S' ∧ aS = some ⟨b, o, none⟩ ∧ b < B ∧ w.cell? ⟨b, o, none⟩ = some (.string t) ∧ 1 ≤ cS ∧
      (255 < t.size → res = none) ∧
      (t.size ≤ 255 → St w B l res (k + 1) (out ++ (be 1 t.size ++ t.data.toList)) N S' L vs aN (if cS = 1 then some ⟨b, o, none⟩ else some ⟨b, o + 1, none⟩) aL cN (cS - 1) cL) := by
  have hd : l.drop k = l[k] :: l.drop (k + 1) := List.drop_eq_getElem_cons hk
  have hc' : l[k] = 115 := UInt8.toNat_inj.1 (by simpa using hc)
  have hok := h.ok
  have hen := h.en
  rw [hd] at hok hen
  simp only [okM, decide_eq_true_eq, List.count_cons, hc', List.length_cons] at hok
  have h108 : ((115 : UInt8) == 108) = false := rfl
  rw [h108] at hok
  simp at hok
  match S, h with
  | [], h => simp at hok
  | t :: S', h =>
    obtain ⟨b, o, hA, hlt, hcell⟩ := h.rS (by simp [sv])
    have hl := h.lS
    simp only [List.length_cons] at hl hok
    refine ⟨t, S', b, o, rfl, hA, hlt, by simpa [sv] using hcell 0 _ rfl, by omega, fun hbig => ?_, fun hsm => ?_⟩
    · rw [hen]
      unfold enc
      rw [if_pos hc]
      simp only
      rw [if_neg (by omega)]
      rfl
    · refine ⟨h.rN, ?_, h.rL, h.ls, h.lN, by omega, h.lL, h.bN, ?_, ?_⟩
      · have hS := h.rS
        rw [hA] at hS
        exact Rd.tail hS (by simpa [sv] using hl)
      · simp only [okM, decide_eq_true_eq, List.length_drop]
        omega
      · rw [hen]
        conv => lhs; unfold enc
        rw [if_pos hc]
        simp only
        rw [if_pos hsm]
        cases enc (l.drop (k + 1)) N S' L <;> simp

theorem St.list {w : World} {B : Nat} {l : List UInt8} {res : Option (List UInt8)} {k : Nat} {out : List UInt8} {N : List Nat} {S : List ByteArray} {L : List (List Nat)} {vs : List Value}
    {aN aS aL : Option Addr} {cN cS cL : Nat} (h : St w B l res k out N S L vs aN aS aL cN cS cL) (hk : k < l.length) (hc : l[k].toNat = 108) :
    ∃ u L' vs' b o a c, L = u :: L' ∧ aL = some ⟨b, o, none⟩ ∧ b < B ∧ w.cell? ⟨b, o, none⟩ = some (.slice a u.length c) ∧ Rd w B a (uv .u32 u) ∧ (∀ n ∈ u, n < 4294967296) ∧ 1 ≤ cL ∧
      (255 < u.length → res = none) ∧
      (u.length ≤ 255 → St w B l res (k + 1) (out ++ (be 1 u.length ++ u.flatMap (be 4))) N S L' vs' aN aS (if cL = 1 then some ⟨b, o, none⟩ else some ⟨b, o + 1, none⟩) cN cS (cL - 1)) := by
  have hd : l.drop k = l[k] :: l.drop (k + 1) := List.drop_eq_getElem_cons hk
  have hc' : l[k] = 108 := UInt8.toNat_inj.1 (by simpa using hc)
  have hok := h.ok
  have hen := h.en
  rw [hd] at hok hen
  simp only [okM, decide_eq_true_eq, List.count_cons, hc', List.length_cons] at hok
  have h108 : ((108 : UInt8) == 115) = false := rfl
  rw [h108] at hok
  simp at hok
  match L, vs, h with
  | [], _, h => simp at hok
  | u :: L', [], h => exact absurd h.ls (by simp [Lss])
  | u :: L', v :: vs', h =>
    obtain ⟨b, o, hA, hlt, hcell⟩ := h.rL (by simp)
    obtain ⟨⟨a, c, hv, hr, hn⟩, hls⟩ := h.ls
    subst hv
    have hl := h.lL
    have hvl := Lss.length hls
    simp only [List.length_cons] at hl hok
    refine ⟨u, L', vs', b, o, a, c, rfl, hA, hlt, by simpa using hcell 0 _ rfl, hr, hn, by omega, fun hbig => ?_, fun hsm => ?_⟩
    · rw [hen]
      unfold enc
      rw [if_neg (by omega), if_pos hc]
      simp only
      rw [if_neg (by omega)]
      rfl
    · refine ⟨h.rN, h.rS, ?_, hls, h.lN, h.lS, by omega, h.bN, ?_, ?_⟩
      · have hL := h.rL
        rw [hA] at hL
        exact Rd.tail hL (by omega)
      · simp only [okM, decide_eq_true_eq, List.length_drop]
        omega
      · rw [hen]
        conv => lhs; unfold enc
        rw [if_neg (by omega), if_pos hc]
        simp only
        rw [if_pos hsm]
        cases enc (l.drop (k + 1)) N S L' <;> simp

theorem St.number {w : World} {B : Nat} {l : List UInt8} {res : Option (List UInt8)} {k : Nat} {out : List UInt8} {N : List Nat} {S : List ByteArray} {L : List (List Nat)} {vs : List Value}
    {aN aS aL : Option Addr} {cN cS cL : Nat} (h : St w B l res k out N S L vs aN aS aL cN cS cL) (hk : k < l.length) (hc : l[k].toNat ≠ 115) (hc2 : l[k].toNat ≠ 108) :
    ∃ n N' b o, N = n :: N' ∧ aN = some ⟨b, o, none⟩ ∧ b < B ∧ w.cell? ⟨b, o, none⟩ = some (.int .u64 (n : Int)) ∧ n < 18446744073709551616 ∧ 1 ≤ cN ∧
      (2 ^ (8 * wid l[k]) ≤ n → res = none) ∧
      (n < 2 ^ (8 * wid l[k]) → St w B l res (k + 1) (out ++ be (wid l[k]) n) N' S L vs (if cN = 1 then some ⟨b, o, none⟩ else some ⟨b, o + 1, none⟩) aS aL (cN - 1) cS cL) := by
  have hd : l.drop k = l[k] :: l.drop (k + 1) := List.drop_eq_getElem_cons hk
  have hok := h.ok
  have hen := h.en
  rw [hd] at hok hen
  have e1 : (l[k] == 115) = false := by rw [beq_eq_false_iff_ne]; intro e; exact hc (by rw [e]; rfl)
  have e2 : (l[k] == 108) = false := by rw [beq_eq_false_iff_ne]; intro e; exact hc2 (by rw [e]; rfl)
  simp only [okM, decide_eq_true_eq, List.count_cons, e1, e2, List.length_cons] at hok
  simp at hok
  have hct := count_two (l.drop (k + 1))
  match N, h with
  | [], h => simp at hok hct; omega
  | n :: N', h =>
    obtain ⟨b, o, hA, hlt, hcell⟩ := h.rN (by simp [uv])
    have hl := h.lN
    simp only [List.length_cons] at hl hok
    refine ⟨n, N', b, o, rfl, hA, hlt, by simpa [uv] using hcell 0 _ rfl, h.bN n (by simp), by omega, fun hbig => ?_, fun hsm => ?_⟩
    · rw [hen]
      unfold enc
      rw [if_neg hc, if_neg hc2]
      simp only
      rw [if_neg (by omega)]
      rfl
    · refine ⟨?_, h.rS, h.rL, h.ls, by omega, h.lS, h.lL, fun m hm => h.bN m (by simp [hm]), ?_, ?_⟩
      · have hN := h.rN
        rw [hA] at hN
        exact Rd.tail hN (by simpa [uv] using hl)
      · simp only [okM, decide_eq_true_eq]
        simp at hok ⊢
        omega
      · rw [hen]
        conv => lhs; unfold enc
        rw [if_neg hc, if_neg hc2]
        simp only
        rw [if_pos hsm]
        cases enc (l.drop (k + 1)) N' S L <;> simp

theorem rel_close {w w2 : World} {F i n : Nat} {cs : Array Value} {u v2 : Value} {bs : List UInt8} (hF2 : w2.heap[F]? = some (.cells cs 86 (0, 0)))
    (hown : w2.ownsRow (F + 1) 5 1 v2 n (bv bs)) (hn : n = bs.length) (hb : Below w.heap.size w w2) (hF : w.heap.size ≤ F) :
    (w2.setCell ⟨F, i, none⟩ u).ownsRow (F + 1) 5 1 v2 bs.length (bv bs) ∧ (w2.setCell ⟨F, i, none⟩ u).heap[F]? = some (.cells (cs.setIfInBounds i u) 86 (0, 0)) ∧
      Below w.heap.size w (w2.setCell ⟨F, i, none⟩ u) ∧ F + 1 ≤ (w2.setCell ⟨F, i, none⟩ u).heap.size := by
  have hlt : F < w2.heap.size := by
    rcases Nat.lt_or_ge F w2.heap.size with h | h
    · exact h
    · rw [Array.getElem?_eq_none h] at hF2
      cases hF2
  subst hn
  exact ⟨ownsRow_setCell_below hown (by simp) _, heap_setCell_same w2 F i cs 86 u hF2, hb.setCell (by simpa using hF) _, by simp [World.setCell]; omega⟩

theorem own_mono {w : World} {base base' e size n : Nat} {v : Value} {xs : List Value} (h : w.ownsRow base e size v n xs) (hb : base' ≤ base) : w.ownsRow base' e size v n xs := by
  obtain ⟨h1, h2 | ⟨g, cap, cur, hv, hg, r⟩⟩ := h
  · exact ⟨h1, .inl h2⟩
  · exact ⟨h1, .inr ⟨g, cap, cur, hv, by omega, r⟩⟩

theorem list_len (out : List UInt8) (u : List Nat) : out.length + (1 + 4 * u.length) = (out ++ (be 1 u.length ++ u.flatMap (be 4))).length := by
  rw [List.length_append, List.length_append, be_length, flat_len]

set_option maxHeartbeats 2000000 in
theorem write_walk (s : ByteArray) (N : List Nat) (S : List ByteArray) (L : List (List Nat)) (vs : List Value) (aN aS aL : Option Addr) (cN cS cL : Nat) (w : World)
    (h0 : 0 ≤ least s.data.toList) (hk0 : okM s.data.toList N.length S.length L.length = true)
    (hst : St w w.heap.size s.data.toList (enc s.data.toList N S L) 0 [] N S L vs aN aS aL cN cS cL) :
    Calls Tryd.prog 35 #[.string s, .agg #[.slice aN N.length cN, .slice aS S.length cS, .slice aL L.length cL]] w fun e w' =>
      (∃ v' out, enc s.data.toList N S L = some out ∧ e = .returned (.tuple #[v', .int .i64 0]) ∧ w'.ownsRow w.heap.size 5 1 v' out.length (bv out) ∧ out.length ≤ 8800 ∧ Below w.heap.size w w') ∨
      (enc s.data.toList N S L = none ∧ e = .returned (.tuple #[.slice none 0 0, .int .i64 2]) ∧ Below w.heap.size w w') := by
  have hb0 := (Below.refl w.heap.size w).alloc (Nat.le_refl _)
  have h8 : s.size ≤ 8 := by
    unfold least at h0
    split at h0
    · omega
    · simp at *; omega
  have hz : s.data.toList.length = s.size := by simp
  have hr := fun W => right_any s W
  have hm := fun W => matches_any s aN aS aL N.length S.length L.length cN cS cL W h8
  rw [hk0] at hm
  rw [decide_eq_true h0] at hr
  have HR := Lib.hid hr
  have HM := Lib.hid hm
  have HS := Lib.hid hst
  have HZ := Lib.hid hz
  obtain ⟨res, hres⟩ : ∃ res, res = enc s.data.toList N S L := ⟨_, rfl⟩
  rw [← hres] at HS ⊢
  clear hr hm h0 hst hz hk0 hres
  go_enter Tryd.func35, Tryd.ntmps35
  go_wp2_with fail
  refine (HR.out _).mono ?_
  rintro e w' ⟨rfl, rfl⟩
  go_wp2_with fail
  refine (HM.out _).mono ?_
  rintro e w1 ⟨rfl, hb1⟩
  have hbx := (hb0 _).trans (hb1.mono (by simp))
  have hF := (hb1.block w.heap.size (by simp)).trans (heap_alloc_new w _)
  have hsz := hb1.size
  go_wp2
  go_loopw [6, 21] (fun u i wr => ∃ (k : Nat) (out : List UInt8) (N' : List Nat) (S' : List ByteArray) (L' : List (List Nat)) (vs' : List Value) (aN' aS' aL' : Option Addr) (cN' cS' cL' : Nat),
      k ≤ s.size ∧ i = .int .i64 k ∧ wr.ownsRow (w.heap.size + 1) 5 1 u out.length (bv out) ∧ out.length ≤ 1100 * k ∧
      wr.heap[w.heap.size]? = some (.cells #[.slice aN' N'.length cN', .slice aS' S'.length cS', .slice aL' L'.length cL'] 86 (0, 0)) ∧ Below w.heap.size w wr ∧
      w.heap.size + 1 ≤ wr.heap.size ∧ Hid (St w w.heap.size s.data.toList res k out N' S' L' vs' aN' aS' aL' cN' cS' cL')) (fun _ i _ => s.size - (intOf i).toNat)
  case atStart => exact ⟨0, [], N, S, L, vs, aN, aS, aL, cN, cS, cL, by omega, rfl, World.ownsRow_nil _ _ _ _, by simp, hF, hbx, by simpa using hsz, HS⟩
  case round =>
    clear hF hbx hb1 hsz hb0 HS
    obtain ⟨k, out, N', S', L', vs', aN', aS', aL', cN', cS', cL', hk, rfl, hown, hol, hF, hb, hsz, hs⟩ := hrel
    have f0 : ∀ i, wr.frozen? ⟨w.heap.size, i, none⟩ = false := fun i => frozen_of_row wr _ i _ _ hF
    have g0 := cell_of_row wr w.heap.size 0 _ _ _ hF
    have g1 := cell_of_row wr w.heap.size 1 _ _ _ hF
    have g2 := cell_of_row wr w.heap.size 2 _ _ _ hF
    simp at g0 g1 g2
    have HF := Lib.hid hF
    clear hF
    by_cases hlt : k < s.size
    · by_cases hc : s[k].toNat = 115
      · obtain ⟨t, S'', b, o, rfl, rfl, hbB, hcell, hc1, hbig, hsm⟩ := hs.out.text (by rw [HZ.out]; exact hlt) hc
        have hcw := (hb.cell (p := ⟨b, o, none⟩) hbB).trans hcell
        have t1 : ((s[k].toNat : Int) == 115) = true := by rw [beq_iff_eq]; omega
        by_cases ht : t.size ≤ 255
        · have hp := putText_ok (w.heap.size + 1) _ out t wr hsz hown (by omega) ht
          have HP := Lib.hid hp
          have HSM := Lib.hid (hsm ht)
          clear hc hbig hsm hp hcell
          go_wp2_with fail
          refine HP.out.mono ?_
          rintro e w2 ⟨v2, rfl, hown2, hb2⟩
          have hF2 := (hb2.block w.heap.size (by omega)).trans HF.out
          have f2 : ∀ i, w2.frozen? ⟨w.heap.size, i, none⟩ = false := fun i => frozen_of_row w2 _ i _ _ hF2
          have k0 := cell_of_row w2 w.heap.size 0 _ _ _ hF2
          have k1 := cell_of_row w2 w.heap.size 1 _ _ _ hF2
          have k2 := cell_of_row w2 w.heap.size 2 _ _ _ hF2
          simp at k0 k1 k2
          have HF2 := Lib.hid hF2
          clear hF2 g0 g1 g2 f0
          go_wp2
          have R := rel_close (i := 1) (u := .slice (if cS' = 1 then some ⟨b, o, none⟩ else some ⟨b, o + 1, none⟩) S''.length (cS' - 1)) HF2.out hown2 (by simp [be_length]) (hb.trans (hb2.mono (by omega))) (Nat.le_refl _)
          have hol2 : (out ++ (be 1 t.size ++ t.data.toList)).length ≤ 1100 * (k + 1) := by simp [be_length]; omega
          go_roundw
          case rel => exact ⟨k + 1, _, N', S'', L', vs', aN', _, aL', cN', _, cL', by omega, by go_num, R.1, hol2, R.2.1, R.2.2.1, R.2.2.2, HSM⟩
          case measure => simp [intOf] <;> omega
        · have hp := putText_no u6 t wr (by omega)
          have HP := Lib.hid hp
          have HN := Lib.hid (hbig (by omega))
          clear hc hbig hsm hp hcell
          go_wp2_with fail
          refine HP.out.mono ?_
          rintro e w2 ⟨rfl, rfl⟩
          go_wp2
          all_goals
            go_ret2
            exact .inr ⟨HN.out, rfl, hb.setCell (by simp) _⟩
      · have t1 : ((s[k].toNat : Int) == 115) = false := by rw [beq_eq_false_iff_ne]; omega
        by_cases hc2 : s[k].toNat = 108
        · obtain ⟨uu, L'', vs'', b, o, a, c, rfl, rfl, hbB, hcell, hru, hnu, hc1, hbig, hsm⟩ := hs.out.list (by rw [HZ.out]; exact hlt) hc2
          have hcw := (hb.cell (p := ⟨b, o, none⟩) hbB).trans hcell
          have t2 : ((s[k].toNat : Int) == 108) = true := by rw [beq_iff_eq]; omega
          by_cases ht : uu.length ≤ 255
          · have hp := putList_ok (w.heap.size + 1) u6 out uu a c wr hsz hown (by omega) ht hnu ((hru.below hb (Nat.le_refl _)).mono (by omega))
            have HP := Lib.hid hp
            have HSM := Lib.hid (hsm ht)
            clear hc hc2 hbig hsm hp hcell hru hnu
            go_wp2_with fail
            refine HP.out.mono ?_
            rintro e w2 ⟨v2, rfl, hown2, hb2⟩
            have hF2 := (hb2.block w.heap.size (by omega)).trans HF.out
            have f2 : ∀ i, w2.frozen? ⟨w.heap.size, i, none⟩ = false := fun i => frozen_of_row w2 _ i _ _ hF2
            have k0 := cell_of_row w2 w.heap.size 0 _ _ _ hF2
            have k1 := cell_of_row w2 w.heap.size 1 _ _ _ hF2
            have k2 := cell_of_row w2 w.heap.size 2 _ _ _ hF2
            simp at k0 k1 k2
            have HF2 := Lib.hid hF2
            clear hF2 g0 g1 g2 f0
            go_wp2
            have R := rel_close (i := 2) (u := .slice (if cL' = 1 then some ⟨b, o, none⟩ else some ⟨b, o + 1, none⟩) L''.length (cL' - 1)) HF2.out hown2 (list_len _ _) (hb.trans (hb2.mono (by omega))) (Nat.le_refl _)
            have hol2 : (out ++ (be 1 uu.length ++ uu.flatMap (be 4))).length ≤ 1100 * (k + 1) := by rw [← list_len]; omega
            go_roundw
            case rel => exact ⟨k + 1, _, N', S', L'', vs'', aN', aS', _, cN', cS', _, by omega, by go_num, R.1, hol2, R.2.1, R.2.2.1, R.2.2.2, HSM⟩
            case measure => simp [intOf] <;> omega
          · have hp := putList_no u6 a uu.length c wr (by omega)
            have HP := Lib.hid hp
            have HN := Lib.hid (hbig (by omega))
            clear hc hc2 hbig hsm hp hcell
            go_wp2_with fail
            refine HP.out.mono ?_
            rintro e w2 ⟨rfl, rfl⟩
            go_wp2
            all_goals
              go_ret2
              exact .inr ⟨HN.out, rfl, hb.setCell (by simp) _⟩
        · have t2 : ((s[k].toNat : Int) == 108) = false := by rw [beq_eq_false_iff_ne]; omega
          obtain ⟨n, N'', b, o, rfl, rfl, hbB, hcell, hn64, hc1, hbig, hsm⟩ := hs.out.number (by rw [HZ.out]; exact hlt) hc hc2
          have hcw := (hb.cell (p := ⟨b, o, none⟩) hbB).trans hcell
          have hw8 := wid_le s[k]
          have hwd := fun W => width_any s[k] W
          have HW := Lib.hid hwd
          by_cases ht : n < 2 ^ (8 * wid s[k])
          · have hp := fun W (hW : w.heap.size + 1 ≤ W.heap.size) ho => putNumber_ok (w.heap.size + 1) u6 out n (wid s[k]) W hW ho (by omega) hw8 ht
            have HP := Lib.hid hp
            have HSM := Lib.hid (hsm ht)
            clear hc hc2 hbig hsm hp hcell hwd ht
            go_wp2_with fail
            have hown' : wr.drew.ownsRow (w.heap.size + 1) 5 1 u6 out.length (bv out) := hown
            have hcF : wr.drew.cell? ⟨w.heap.size, 0, none⟩ = some (.slice (some ⟨b, o, none⟩) (N''.length + 1) cN') := g0
            have hcb : wr.drew.cell? ⟨b, o, none⟩ = some (.int .u64 (n : Int)) := hcw
            go_region_held3 (fun w' => w'.cell? ⟨w.heap.size, 0, none⟩ = some (.slice (some ⟨b, o, none⟩) (N''.length + 1) cN') ∧ w'.cell? ⟨b, o, none⟩ = some (.int .u64 (n : Int)))
              (first | go_keep | exact ⟨(hb2.cell (p := ⟨w.heap.size, 0, none⟩) (by simp)).trans hcF, (hb2.cell (p := ⟨b, o, none⟩) (by simp; omega)).trans hcb⟩)
              (first | (go_at_call 49; refine (HW.out _).mono ?_; rintro e w' ⟨rfl, rfl⟩) | (go_at_call 48; refine (HP.out wr.drew hsz hown').mono ?_; rintro e w2 ⟨v2, rfl, hown2, hb2⟩))
            have hF2 := (hb2.block w.heap.size (by omega)).trans HF.out
            have f2 : ∀ i, w2.frozen? ⟨w.heap.size, i, none⟩ = false := fun i => frozen_of_row w2 _ i _ _ hF2
            have k0 := cell_of_row w2 w.heap.size 0 _ _ _ hF2
            simp at k0
            have HF2 := Lib.hid hF2
            have hb3 : Below (w.heap.size + 1) wr w2 := (Below.refl _ _).drew.trans hb2
            clear hF2 g0 g1 g2 f0 hown' hcF hcb hb2
            go_wp2
            have R := rel_close (i := 0) (u := .slice (if cN' = 1 then some ⟨b, o, none⟩ else some ⟨b, o + 1, none⟩) N''.length (cN' - 1)) HF2.out hown2 (by simp [be_length]) (hb.trans (hb3.mono (by omega))) (Nat.le_refl _)
            have hol2 : (out ++ be (wid s[k]) n).length ≤ 1100 * (k + 1) := by simp [be_length]; omega
            go_roundw
            case rel => exact ⟨k + 1, _, N'', S', L', vs', _, aS', aL', _, cS', cL', by omega, by go_num, R.1, hol2, R.2.1, R.2.2.1, R.2.2.2, HSM⟩
            case measure => simp [intOf] <;> omega
          · have hp := fun W => putNumber_no u6 n (wid s[k]) W hw8 (Nat.le_of_not_lt ht)
            have HP := Lib.hid hp
            have HN := Lib.hid (hbig (Nat.le_of_not_lt ht))
            clear hc hc2 hbig hsm hp hcell hwd ht
            go_wp2_with fail
            have hcF : wr.drew.cell? ⟨w.heap.size, 0, none⟩ = some (.slice (some ⟨b, o, none⟩) (N''.length + 1) cN') := g0
            have hcb : wr.drew.cell? ⟨b, o, none⟩ = some (.int .u64 (n : Int)) := hcw
            go_region_held3 (fun w' => w'.cell? ⟨w.heap.size, 0, none⟩ = some (.slice (some ⟨b, o, none⟩) (N''.length + 1) cN') ∧ w'.cell? ⟨b, o, none⟩ = some (.int .u64 (n : Int)))
              (first | go_keep | exact ⟨hcF, hcb⟩)
              (first | (go_at_call 49; refine (HW.out _).mono ?_; rintro e w' ⟨rfl, rfl⟩) | (go_at_call 48; refine (HP.out wr.drew).mono ?_; rintro e w2 ⟨rfl, rfl⟩))
            go_wp2
            all_goals
              go_ret2
              exact .inr ⟨HN.out, rfl, hb.drew.setCell (by simp) _⟩
    · have he : s.size ≤ k := by omega
      have hen := hs.out.en
      rw [List.drop_eq_nil_of_le (by rw [HZ.out]; exact he)] at hen
      have he2 : res = some out := by rw [hen]; simp [enc]
      have HE := Lib.hid he2
      clear hen he2
      go_wp2
      go_ret2
      exact .inl ⟨u6, out, HE.out, rfl, own_mono hown (by omega), by omega, hb⟩
/-- What field.Write hands back, and what it leaves. -/
def WritePost (w : World) (r : List UInt8 × Nat) (e : Ending) (w' : World) : Prop :=
  ∃ v', e = .returned (.tuple #[v', .int .i64 (r.2 : Int)]) ∧ w'.ownsRow w.heap.size 5 1 v' r.1.length (bv r.1) ∧ r.1.length ≤ 8800 ∧ Below w.heap.size w w'

theorem write_any (s : ByteArray) (N : List Nat) (S : List ByteArray) (L : List (List Nat)) (vs : List Value) (aN aS aL : Option Addr) (cN cS cL : Nat) (w : World)
    (rN : Rd w w.heap.size aN (uv .u64 N)) (rS : Rd w w.heap.size aS (sv S)) (rL : Rd w w.heap.size aL vs) (ls : Lss w w.heap.size vs L)
    (lN : N.length ≤ cN) (lS : S.length ≤ cS) (lL : L.length ≤ cL) (bN : ∀ n ∈ N, n < 18446744073709551616) :
    Calls Tryd.prog 35 #[.string s, .agg #[.slice aN N.length cN, .slice aS S.length cS, .slice aL L.length cL]] w (WritePost w (writeR s.data.toList N S L)) := by
  by_cases h : 0 ≤ least s.data.toList ∧ okM s.data.toList N.length S.length L.length = true
  · refine (write_walk s N S L vs aN aS aL cN cS cL w h.1 h.2 ⟨rN, rS, rL, ls, lN, lS, lL, bN, by simpa using h.2, by simp⟩).mono fun e w' hp => ?_
    rcases hp with ⟨v', out, he, rfl, ho, hl, hb⟩ | ⟨he, rfl, hb⟩
    · unfold writeR
      rw [if_pos h, he]
      exact ⟨v', rfl, ho, hl, hb⟩
    · unfold writeR
      rw [if_pos h, he]
      exact ⟨_, rfl, World.ownsRow_nil _ _ _ _, by simp, hb⟩
  · refine (write_shape s aN aS aL N.length S.length L.length cN cS cL w h).mono fun e w' ⟨he, hb⟩ => ?_
    subst he
    unfold writeR
    rw [if_neg h]
    exact ⟨_, rfl, World.ownsRow_nil _ _ _ _, by simp, hb⟩
end Go.Proofs.YtaefgieodehceaaDoor
