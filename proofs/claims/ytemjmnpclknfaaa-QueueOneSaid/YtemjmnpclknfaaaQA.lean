/- Ready: Open. -/
import Derived.Test.YtemjmnpclknfaaaQ9
namespace Go.Proofs.Ytemjmnpclknfaaa.P
open Go.RowKit
set_option maxRecDepth 20000
set_option linter.unusedVariables false
set_option linter.unusedSimpArgs false

abbrev okN (x : Nat) : Prop := 1 ≤ x ∧ x ≤ 2147483647
theorem right1_any (x : Nat) (w : World) : Calls Try.prog 46 #[.int .u32 (x : Int)] w fun r w' => r = .returned (.bool (decide (¬ okN x))) ∧ w' = w := by
  obtain ⟨t, ht⟩ : ∃ t, t = decide (1 ≤ x ∧ x ≤ 2147483647) := ⟨_, rfl⟩
  have HR := Lib.hid (right_any x w)
  rw [← ht] at HR
  have e : decide (¬ okN x) = !t := by rw [ht]; exact decide_not
  rw [e]
  clear ht e
  go_enter Try.func46, Try.ntmps46
  go_wp2_with fail
  refine HR.out.mono ?_
  rintro r w1 ⟨rfl, rfl⟩
  cases t
  · go_wp2
    go_ret
    exact ⟨rfl, rfl⟩
  · go_wp2
    go_ret
    exact ⟨rfl, rfl⟩
set_option maxHeartbeats 4000000 in
theorem idxR_any (A : Option Addr) (n c : Nat) (l : List Nat) (w : World) (hn : n = l.length) (hE : Rn w A l) (hl : n ≤ 1000) :
    Calls Try.prog 80 #[.slice A n c, .func (.func 46) #[] #[]] w fun r w' => (∃ i : Int, r = .returned (.int .i64 i) ∧ ((i = -1 ∧ ∀ x ∈ l, okN x) ∨ (0 ≤ i ∧ ∃ x ∈ l, ¬ okN x))) ∧ Below w.heap.size w w' := by
  have HE := Lib.hid hE
  have HN := Lib.hid hn
  have HBr : Hid (Below w.heap.size w w) := Below.refl _ _
  clear hE hn
  go_enter Try.func80, Try.ntmps80
  go_wp2_with fail
  go_loopw [8] (fun u wr => ∃ k : Nat, k ≤ n ∧ u = .int .i64 (k : Int) ∧ Hid ((∀ x ∈ l.take k, okN x) ∧ Below w.heap.size w wr)) (fun u _ => n - (intOf u).toNat)
  case atStart => exact ⟨0, by omega, rfl, (by intro x hx; simp at hx), HBr.out⟩
  case round =>
    obtain ⟨k, hk, rfl, HV⟩ := hrel
    by_cases hlt : k < n
    · obtain ⟨e, hy⟩ : ∃ e, l[k]? = some e := ⟨l[k]'(by rw [← HN.out]; exact hlt), List.getElem?_eq_getElem _⟩
      obtain ⟨b1, o1, rfl, hb1, ha1⟩ := (HE.out) (by have := HN.out; omega)
      have d0 := (HV.out.2.cell (p := ⟨b1, _, none⟩) hb1).trans (ha1 k _ hy)
      have HY := Lib.hid hy
      have HC := Lib.hid (right1_any e wr)
      obtain ⟨t, ht⟩ : ∃ t, t = decide (¬ okN e) := ⟨_, rfl⟩
      rw [← ht] at HC
      have HT := Lib.hid ht
      clear ha1 hy hb1 ht
      go_wp2_with fail
      refine HC.out.mono ?_
      rintro r w1 ⟨rfl, rfl⟩
      cases t
      · have hok : okN e := by have := HT.out.symm; simpa using this
        have HNM : Hid (∀ x ∈ l.take (k + 1), okN x) := by
          intro x hx
          rw [List.take_add_one, HY.out] at hx
          rcases List.mem_append.1 hx with h | h
          · exact HV.out.1 x h
          · simp at h
            subst h
            exact hok
        clear hok
        go_wp2
        go_roundw
        case rel => exact ⟨k + 1, by omega, by go_num, HNM.out, HV.out.2⟩
        case measure => simp [intOf] <;> omega
      · have HX : Hid (∃ x ∈ l, ¬ okN x) := ⟨e, List.mem_of_getElem? HY.out, of_decide_eq_true HT.out.symm⟩
        go_wp2
        go_ret
        exact ⟨⟨(k : Int), rfl, .inr ⟨by omega, HX.out⟩⟩, HV.out.2⟩
    · have hkn : k = n := by omega
      subst hkn
      have HA : Hid (∀ x ∈ l, okN x) := by
        have h := HV.out.1
        rw [List.take_of_length_le (by rw [← HN.out]; omega)] at h
        exact h
      go_wp2
      go_ret
      exact ⟨⟨-1, rfl, .inl ⟨rfl, HA.out⟩⟩, HV.out.2⟩
set_option maxHeartbeats 2000000 in
theorem bad_any (A : Option Addr) (n c : Nat) (l : List Nat) (w : World) (hn : n = l.length) (hE : Rn w A l) (hl : n ≤ 1000) :
    Calls Try.prog 45 #[.slice A n c, .func (.func 46) #[] #[]] w fun r w' => r = .returned (.bool (decide (¬ ∀ x ∈ l, okN x))) ∧ Below w.heap.size w w' := by
  obtain ⟨t, ht⟩ : ∃ t, t = decide (¬ ∀ x ∈ l, okN x) := ⟨_, rfl⟩
  have HC := Lib.hid (idxR_any A n c l w hn hE hl)
  have HT := Lib.hid ht
  rw [← ht]
  clear ht hE hn
  go_enter Try.func45, Try.ntmps45
  go_wp2_with fail
  refine HC.out.mono ?_
  rintro r w1 ⟨⟨i, rfl, hi⟩, hb⟩
  have HB := Lib.hid hb
  clear hb
  rcases hi with ⟨rfl, hm⟩ | ⟨h0, hm⟩
  · have e : t = false := by rw [HT.out, decide_eq_false_iff_not]; exact fun h => h hm
    subst e
    clear hm
    go_wp2
    go_ret
    exact ⟨rfl, HB.out⟩
  · have e : t = true := by
      rw [HT.out, decide_eq_true_iff]
      obtain ⟨x, hx, hn⟩ := hm
      exact fun h => hn (h x hx)
    subst e
    clear hm
    go_wp2
    go_ret
    exact ⟨by simp <;> omega, HB.out⟩
def clashB (L : List Pt) (l : List Nat) : Bool := decide (¬ (l.Nodup ∧ ∀ x ∈ l, ofP L x = 0))
theorem rn_take {w : World} {A : Option Addr} {l : List Nat} (h : Rn w A l) (k : Nat) : Rn w A (l.take k) := fun hl => by
  obtain ⟨b, o, e, hb, ha⟩ := h (by rw [List.length_take] at hl; omega)
  refine ⟨b, o, e, hb, fun j x hj => ha j x ?_⟩
  rw [List.getElem?_take] at hj
  split at hj
  · exact hj
  · cases hj
set_option maxHeartbeats 4000000 in
theorem clash_any (B R : Nat) (most : Int) (vi : Value) (L : List Pt) (A : Option Addr) (n c : Nat) (l : List Nat) (w : World) (h : Bk w B R most vi L) (hl : L.length ≤ 100) (hm : ∀ e ∈ L, e.mem.length ≤ 100) (hn : n = l.length) (hE : Rn w A l) (hnl : n ≤ 100) (hc : n ≤ c) :
    Calls Try.prog 47 #[bp B, .slice A n c] w fun r w' => r = .returned (.bool (clashB L l)) ∧ Below w.heap.size w w' := by
  obtain ⟨res, hres⟩ : ∃ res, res = clashB L l := ⟨_, rfl⟩
  rw [← hres]
  have HRES := Lib.hid hres
  have HE := Lib.hid hE
  have HN := Lib.hid hn
  have HOF : Hid (∀ W (p : Nat), Below w.heap.size w W → Calls Try.prog 13 #[bp B, .int .u32 (p : Int)] W fun r w' => r = .returned (.int .u32 (ofP L p : Int)) ∧ Below W.heap.size W w') := fun W p hW => of_any B R most vi L p W (h.after hW) hl hm
  have HBr : Hid (Below w.heap.size w w) := Below.refl _ _
  clear hE hn hres h hl hm
  go_enter Try.func47, Try.ntmps47
  go_wp2_with fail
  go_loopw [9] (fun u wr => ∃ k : Nat, k ≤ n ∧ u = .int .i64 (k : Int) ∧ Hid (((l.take k).Nodup ∧ ∀ x ∈ l.take k, ofP L x = 0) ∧ Below w.heap.size w wr)) (fun u _ => n - (intOf u).toNat)
  case atStart => exact ⟨0, by omega, rfl, by simp, HBr.out⟩
  case round =>
    obtain ⟨k, hk, rfl, HV⟩ := hrel
    by_cases hlt : k < n
    · obtain ⟨e, hy⟩ : ∃ e, l[k]? = some e := ⟨l[k]'(by rw [← HN.out]; exact hlt), List.getElem?_eq_getElem _⟩
      have hE := HE.out
      obtain ⟨b1, o1, rfl, hb1, ha1⟩ := hE (by have := HN.out; omega)
      have d0 := (HV.out.2.cell (p := ⟨b1, _, none⟩) hb1).trans (ha1 k _ hy)
      have HY := Lib.hid hy
      have HC := Lib.hid (HOF.out wr e HV.out.2)
      obtain ⟨z, hz⟩ : ∃ z, z = ofP L e := ⟨_, rfl⟩
      rw [← hz] at HC
      have HZ := Lib.hid hz
      have htk : l.take (k + 1) = l.take k ++ [e] := by rw [List.take_add_one, hy]; rfl
      have HTK := Lib.hid htk
      have hlk : k = (l.take k).length := by rw [List.length_take]; have := HN.out; omega
      have HCC : Hid (∀ W, Below w.heap.size w W → Calls Try.prog 41 #[.slice (some ⟨b1, o1, none⟩) k c, .int .u32 (e : Int)] W fun r w' => r = .returned (.bool (decide (e ∈ l.take k))) ∧ Below W.heap.size W w') := fun W hW => contains_any _ k c (l.take k) e W hlk (rn_take (HE.out.after hW) k) (by omega)
      have hmem : e ∈ l := List.mem_of_getElem? hy
      have HME := Lib.hid hmem
      clear ha1 hy hb1 hz hE htk hlk hmem
      by_cases hz0 : z = 0
      · subst hz0
        go_wp2_with fail
        refine HC.out.mono ?_
        rintro r w1 ⟨rfl, hb⟩
        have HB1 := Lib.hid (HV.out.2.trans (hb.mono HV.out.2.size))
        have HC2 := Lib.hid (HCC.out w1 HB1.out)
        obtain ⟨t, ht⟩ : ∃ t, t = decide (e ∈ l.take k) := ⟨_, rfl⟩
        rw [← ht] at HC2
        have HT := Lib.hid ht
        clear hb ht
        go_wp2_with fail
        refine HC2.out.mono ?_
        rintro r w2 ⟨rfl, hb⟩
        have HB2 := Lib.hid (HB1.out.trans (hb.mono HB1.out.size))
        clear hb
        cases t
        · have HNM : Hid ((l.take (k + 1)).Nodup ∧ ∀ x ∈ l.take (k + 1), ofP L x = 0) := by
            rw [Hid, HTK.out]
            have hne : e ∉ l.take k := by have := HT.out.symm; simpa using this
            refine ⟨List.nodup_append.2 ⟨HV.out.1.1, by simp, fun a ha b hb => ?_⟩, fun x hx => ?_⟩
            · simp at hb
              subst hb
              exact fun e => hne (e ▸ ha)
            · rcases List.mem_append.1 hx with h | h
              · exact HV.out.1.2 x h
              · simp at h
                subst h
                exact HZ.out.symm
          go_wp2
          go_roundw
          case rel => exact ⟨k + 1, by omega, by go_num, HNM.out, HB2.out⟩
          case measure => simp [intOf] <;> omega
        · have HF : Hid (res = true) := by
            rw [Hid, HRES.out]
            unfold clashB
            rw [decide_eq_true_iff]
            rintro ⟨hnd, _⟩
            have hin : e ∈ l.take k := by have := HT.out.symm; simpa using this
            have h1 : (l.take k ++ [e]).Nodup := by rw [← HTK.out]; exact hnd.sublist (List.take_sublist _ _)
            rw [List.nodup_append] at h1
            exact h1.2.2 e hin e (by simp) rfl
          go_wp2
          go_ret
          exact ⟨by rw [HF.out]; rfl, HB2.out⟩
      · have HF : Hid (res = true) := by
          rw [Hid, HRES.out]
          unfold clashB
          rw [decide_eq_true_iff]
          rintro ⟨_, h0⟩
          exact hz0 (HZ.out.trans (h0 e HME.out))
        go_wp2_with fail
        refine HC.out.mono ?_
        rintro r w1 ⟨rfl, hb⟩
        have HB1 := Lib.hid (HV.out.2.trans (hb.mono HV.out.2.size))
        clear hb
        go_wp2
        go_ret
        exact ⟨by rw [HF.out]; rfl, HB1.out⟩
    · have hkn : k = n := by omega
      subst hkn
      have HF : Hid (res = false) := by
        rw [Hid, HRES.out]
        unfold clashB
        rw [decide_eq_false_iff_not]
        intro h
        apply h
        have h1 := HV.out.1
        rw [List.take_of_length_le (by rw [← HN.out]; omega)] at h1
        exact h1
      go_wp2
      go_ret
      exact ⟨by rw [HF.out]; rfl, HV.out.2⟩
def badB (id : Nat) (l : List Nat) : Bool := decide (¬ (okN id ∧ ∀ x ∈ l, okN x))
def openE (most : Int) (L : List Pt) (id : Nat) (l : List Nat) : Int :=
  if badB id l = true then 14 else if l.length < 1 ∨ 8 < l.length then 21 else if clashB L l = true then 11 else if (∃ e ∈ L, e.id = id) then 11 else if min most 2147483647 ≤ (L.length : Int) then 10 else 0
def openL (most : Int) (L : List Pt) (id : Nat) (t : Int) (l : List Nat) : List Pt := if openE most L id l = 0 then insL L ⟨id, t, l, []⟩ else L
/-- What a call answers that leaves checks L'. -/
def OpnP (B R : Nat) (most : Int) (vi : Value) (L' : List Pt) (e : Int) (w : World) (r : Ending) (w' : World) : Prop := r = .returned (.int .i64 e) ∧ PutP B R most vi L' w w'
set_option maxHeartbeats 8000000 in
theorem open_any (B R : Nat) (most : Int) (vi : Value) (L : List Pt) (id : Nat) (t : Int) (A : Option Addr) (n c : Nat) (l : List Nat) (w : World) (h : Bk w B R most vi L) (hl : L.length ≤ 99) (hm : ∀ e ∈ L, e.mem.length ≤ 100) (hn : n = l.length) (hE : Rn w A l) (hnl : n ≤ 100) (hc : n ≤ c) :
    Calls Try.prog 19 #[bp B, .int .u32 (id : Int), .int .i64 t, .slice A n c] w fun r w' => OpnP B R most vi (openL most L id t l) (openE most L id l) w r w' := by
  have HCX := Lib.hid h.ctx
  have HBK := Lib.hid h
  have HN := Lib.hid hn
  have HE := Lib.hid hE
  have HRI := Lib.hid (right_any id w)
  have HBA := Lib.hid (bad_any A n c l w hn hE (by omega))
  have HCL : Hid (∀ W, Below w.heap.size w W → Calls Try.prog 47 #[bp B, .slice A n c] W fun r w' => r = .returned (.bool (clashB L l)) ∧ Below W.heap.size W w') := fun W hW => clash_any B R most vi L A n c l W (h.after hW) (by omega) hm hn (hE.after hW) hnl hc
  have HC1 : Hid (∀ W, Below w.heap.size w W → Calls Try.prog 49 #[.slice A n c] W fun r w' => ∃ A' c', r = .returned (.slice A' n c') ∧ w'.ownsRow W.heap.size 26 1 (.slice A' n c') n (un l) ∧ Below W.heap.size W w') := fun W hW => clone_rn A n c l W hn (hE.after hW) (by omega)
  have HCE0 : Hid (∀ W, Below w.heap.size w W → (fun W : World => W.cell? ⟨B, 0, none⟩ = some (bp R)) W) := fun W hW => by
    have := cell_of_row W B 0 _ _ _ ((hW.block _ (lt_of_block h.blk)).trans h.blk)
    simpa using this
  obtain ⟨ee, hee⟩ : ∃ ee, ee = openE most L id l := ⟨_, rfl⟩
  obtain ⟨LL, hLL⟩ : ∃ LL, LL = openL most L id t l := ⟨_, rfl⟩
  rw [← hee, ← hLL]
  unfold openL at hLL
  rw [← hee] at hLL
  unfold openE at hee
  have hHL := Lib.hid hl
  clear h hn hE hm
  by_cases hid : okN id
  case neg =>
    have hb : badB id l = true := by unfold badB; rw [decide_eq_true_iff]; exact fun h => hid h.1
    rw [if_pos hb] at hee
    rw [hee, if_neg (by decide)] at hLL
    subst hee hLL
    have HF := Lib.hid (PutP.of_below HBK.out (Below.refl _ _))
    rw [decide_eq_false hid] at HRI
    clear hb hid hl
    go_enter Try.func19, Try.ntmps19
    go_wp2_with fail
    refine HRI.out.mono ?_
    rintro r w1 ⟨rfl, rfl⟩
    go_wp2
    go_ret
    exact ⟨rfl, HF.out⟩
  rw [decide_eq_true hid] at HRI
  by_cases hal : ∀ x ∈ l, okN x
  case neg =>
    have hb : badB id l = true := by unfold badB; rw [decide_eq_true_iff]; exact fun h => hal h.2
    rw [if_pos hb] at hee
    rw [hee, if_neg (by decide)] at hLL
    subst hee hLL
    rw [decide_eq_true hal] at HBA
    clear hb hid hal hl
    go_enter Try.func19, Try.ntmps19
    go_wp2_with fail
    refine HRI.out.mono ?_
    rintro r w1 ⟨rfl, rfl⟩
    go_wp2_with fail
    refine HBA.out.mono ?_
    rintro r w2 ⟨rfl, hb2⟩
    have HF := Lib.hid (PutP.of_below HBK.out hb2)
    clear hb2
    go_wp2
    go_ret
    exact ⟨rfl, HF.out⟩
  have hb : badB id l = false := by unfold badB; rw [decide_eq_false_iff_not]; exact fun h => h ⟨hid, hal⟩
  rw [if_neg (by rw [hb]; decide)] at hee
  rw [decide_eq_false (fun h => h hal)] at HBA
  by_cases hsz : l.length < 1 ∨ 8 < l.length
  case pos =>
    rw [if_pos hsz] at hee
    rw [hee, if_neg (by decide)] at hLL
    subst hee hLL
    have hor : n < 1 ∨ 8 < n := by rw [HN.out]; exact hsz
    clear hb hid hal hl hsz
    rcases hor with hor | hor
    · go_enter Try.func19, Try.ntmps19
      go_wp2_with fail
      refine HRI.out.mono ?_
      rintro r w1 ⟨rfl, rfl⟩
      go_wp2_with fail
      refine HBA.out.mono ?_
      rintro r w2 ⟨rfl, hb2⟩
      have HF := Lib.hid (PutP.of_below HBK.out hb2)
      clear hb2
      go_wp2
      go_ret
      exact ⟨rfl, HF.out⟩
    · go_enter Try.func19, Try.ntmps19
      go_wp2_with fail
      refine HRI.out.mono ?_
      rintro r w1 ⟨rfl, rfl⟩
      go_wp2_with fail
      refine HBA.out.mono ?_
      rintro r w2 ⟨rfl, hb2⟩
      have HF := Lib.hid (PutP.of_below HBK.out hb2)
      clear hb2
      go_wp2
      go_ret
      exact ⟨rfl, HF.out⟩
  rw [if_neg hsz] at hee
  have h1n : 1 ≤ n ∧ n ≤ 8 := by have := HN.out; omega
  obtain ⟨cb, hcb⟩ : ∃ cb, cb = clashB L l := ⟨_, rfl⟩
  rw [← hcb] at hee HCL
  cases cb with
  | true =>
    rw [if_pos rfl] at hee
    rw [hee, if_neg (by decide)] at hLL
    subst hee hLL
    clear hb hid hal hl hsz hcb
    go_enter Try.func19, Try.ntmps19
    go_wp2_with fail
    refine HRI.out.mono ?_
    rintro r w1 ⟨rfl, rfl⟩
    go_wp2_with fail
    refine HBA.out.mono ?_
    rintro r w2 ⟨rfl, hb2⟩
    have HB2 := Lib.hid hb2
    clear hb2
    go_wp2_with fail
    refine (HCL.out w2 HB2.out).mono ?_
    rintro r w3 ⟨rfl, hb3⟩
    have HF := Lib.hid (PutP.of_below HBK.out (HB2.out.trans (hb3.mono HB2.out.size)))
    clear hb3
    go_wp2
    go_ret
    exact ⟨rfl, HF.out⟩
  | false =>
    rw [if_neg (by decide)] at hee
    have HQAdd : Hid (∀ W, Below w.heap.size w W → ∀ A' c', W.ownsRow w.heap.size 26 1 (.slice A' n c') n (un l) → Calls Try.prog 48 #[bp R, .int .u32 (id : Int), mV ⟨A', n, c'⟩ ⟨none, 0, 0⟩ t] W fun r w' => r = .returned (.int .i64 ee) ∧ PutP B R most vi LL W w') := fun W hW A' c' hO => by
      have hbk := HBK.out.after hW
      obtain ⟨vt, ths, k1, k2⟩ := hbk.ex
      by_cases hex : ∃ e ∈ L, e.id = id
      · rw [if_pos hex] at hee
        rw [hee, if_neg (by decide)] at hLL
        subst hee hLL
        obtain ⟨e, he, hi⟩ := hex
        exact (add_there R most vi vt _ ths id _ _ _ W k1 (by simp; omega) (List.mem_map.2 ⟨e, he, hi⟩)).mono fun r w' ⟨a1, a2⟩ => ⟨a1, PutP.of_below hbk a2⟩
      · rw [if_neg hex] at hee
        by_cases hfu : min most 2147483647 ≤ (L.length : Int)
        · rw [if_pos hfu] at hee
          rw [hee, if_neg (by decide)] at hLL
          subst hee hLL
          exact (add_full R most vi vt _ ths id _ _ _ W k1 (by simp; omega) (fun hx => by obtain ⟨e, he, hi⟩ := List.mem_map.1 hx; exact hex ⟨e, he, hi⟩) hid (by simpa using hfu)).mono fun r w' ⟨a1, a2⟩ => ⟨a1, PutP.of_below hbk a2⟩
        · rw [if_neg hfu] at hee
          rw [hee, if_pos rfl] at hLL
          subst hee hLL
          have hfl : Fl W R vi ⟨A', n, c'⟩ l := Fl.fresh HCX.out (Nat.le_refl _) hO
          exact badd_new B R most vi L ⟨A', n, c'⟩ ⟨none, 0, 0⟩ t ⟨id, t, l, []⟩ W hbk (by omega) (fun e he hi => hex ⟨e, he, hi⟩) hid (by omega) ⟨rfl, hfl, ⟨rfl, fun hx => absurd hx (by simp)⟩⟩
    clear hb hid hal hl hsz hcb hee hLL
    go_enter Try.func19, Try.ntmps19
    go_wp2_with fail
    refine HRI.out.mono ?_
    rintro r w1 ⟨rfl, rfl⟩
    go_wp2_with fail
    refine HBA.out.mono ?_
    rintro r w2 ⟨rfl, hb2⟩
    have HB2 := Lib.hid hb2
    clear hb2
    go_wp2_with fail
    refine (HCL.out w2 HB2.out).mono ?_
    rintro r w3 ⟨rfl, hb3⟩
    have HBW := Lib.hid (HB2.out.trans (hb3.mono HB2.out.size))
    have HBS : Hid (Below w3.heap.size w3 w3) := Below.refl _ _
    have HCE : Hid (∀ W, Below w3.heap.size w3 W → (fun W : World => W.cell? ⟨B, 0, none⟩ = some (bp R)) W) := fun W hW => HCE0.out W (HBW.out.trans (hW.mono HBW.out.size))
    clear hb3
    go_upto_region 9 with (fail)
    have HDo : Hid (Below w3.heap.size w3 w3.drew) := HBS.out.drew
    refine wp_region_held_drew (S := fun W : World => W.cell? ⟨B, 0, none⟩ = some (bp R)) (by kernel_rfl) (HCE.out _ (HDo.out)) (fun hHeld => ?_)
    obtain ⟨Wo0, hW0⟩ : ∃ W0, W0 = w3.drew := ⟨_, rfl⟩
    rw [← hW0] at hHeld HDo ⊢
    clear hW0
    refine wpAnyH_take (i := 0) (oi := ?oi0o) (v := ?v0o) ?hi0o ?hs0o ?hf0o ?hr0o ?hQ0o ?hy0o ?hS0o ?h0o
    case hi0o => exact (by simp only [List.getElem?_toArray, List.getElem?_cons_zero]; rfl)
    case hs0o => kernel_rfl
    case hf0o => kernel_rfl
    case hr0o => kernel_rfl
    case hQ0o => exact fun _ _ _ h => h
    case hy0o =>
      refine Or.inl ⟨rfl, ?_⟩
      intro W hSw
      go_simp
      try with_reducible rfl
    case hS0o => assumption
    try simp only [Act.put, List.setIfInBounds_toArray, List.set_cons_zero, List.set_cons_succ]
    refine wpAnyH_take (i := 1) (oi := ?oi1o) (v := ?v1o) ?hi1o ?hs1o ?hf1o ?hr1o ?hQ1o ?hy1o ?hS1o ?h1o
    case hi1o => exact (by simp only [List.getElem?_toArray, List.getElem?_cons_succ, List.getElem?_cons_zero]; rfl)
    case hs1o => kernel_rfl
    case hf1o => kernel_rfl
    case hr1o => kernel_rfl
    case hQ1o => exact fun _ _ _ h => h
    case hy1o =>
      refine Or.inl ⟨rfl, ?_⟩
      intro W hSw
      go_simp
      try with_reducible rfl
    case hS1o => assumption
    try simp only [Act.put, List.setIfInBounds_toArray, List.set_cons_zero, List.set_cons_succ]
    refine wpAnyH_take (i := 2) (oi := ?oi2o) (v := ?v2o) ?hi2o ?hs2o ?hf2o ?hr2o ?hQ2o ?hy2o ?hS2o ?h2o
    case hi2o => exact (by simp only [List.getElem?_toArray, List.getElem?_cons_succ, List.getElem?_cons_zero]; rfl)
    case hs2o => kernel_rfl
    case hf2o => kernel_rfl
    case hr2o => kernel_rfl
    case hQ2o => exact fun _ _ _ h => h
    case hy2o =>
      refine Or.inl ⟨rfl, ?_⟩
      intro W hSw
      go_simp
      try with_reducible rfl
    case hS2o => assumption
    try simp only [Act.put, List.setIfInBounds_toArray, List.set_cons_zero, List.set_cons_succ]
    refine wpAnyH_take (i := 3) (oi := ?oi3o) (v := ?v3o) ?hi3o ?hs3o ?hf3o ?hr3o ?hQ3o ?hy3o ?hS3o ?h3o
    case hi3o => exact (by simp only [List.getElem?_toArray, List.getElem?_cons_succ, List.getElem?_cons_zero]; rfl)
    case hs3o => kernel_rfl
    case hf3o => kernel_rfl
    case hr3o => kernel_rfl
    case hQ3o => exact fun _ _ _ h => h
    case hy3o =>
      refine Or.inl ⟨rfl, ?_⟩
      intro W hSw
      go_simp
      try with_reducible rfl
    case hS3o => assumption
    try simp only [Act.put, List.setIfInBounds_toArray, List.set_cons_zero, List.set_cons_succ]
    refine wpAnyH_take (i := 4) (oi := ?oi4o) (v := ?v4o) ?hi4o ?hs4o ?hf4o ?hr4o ?hQ4o ?hy4o ?hS4o ?h4o
    case hi4o => exact (by simp only [List.getElem?_toArray, List.getElem?_cons_succ, List.getElem?_cons_zero]; rfl)
    case hs4o => kernel_rfl
    case hf4o => kernel_rfl
    case hr4o => kernel_rfl
    case hQ4o => exact fun _ _ _ h => h
    case hy4o =>
      refine Or.inl ⟨rfl, ?_⟩
      intro W hSw
      go_simp
      try with_reducible rfl
    case hS4o => assumption
    try simp only [Act.put, List.setIfInBounds_toArray, List.set_cons_zero, List.set_cons_succ]
    refine wpAnyH_take (i := 5) (oi := ?oi5o) (v := ?v5o) ?hi5o ?hs5o ?hf5o ?hr5o ?hQ5o ?hy5o ?hS5o ?h5o
    case hi5o => exact (by simp only [List.getElem?_toArray, List.getElem?_cons_succ, List.getElem?_cons_zero]; rfl)
    case hs5o => kernel_rfl
    case hf5o => kernel_rfl
    case hr5o => kernel_rfl
    case hQ5o => exact fun _ _ _ h => h
    case hy5o =>
      refine Or.inl ⟨rfl, ?_⟩
      intro W hSw
      go_simp
      try with_reducible rfl
    case hS5o => assumption
    try simp only [Act.put, List.setIfInBounds_toArray, List.set_cons_zero, List.set_cons_succ]
    refine wpAnyH_take (i := 7) (oi := ?oi7o) (v := ?v7o) ?hi7o ?hs7o ?hf7o ?hr7o ?hQ7o ?hy7o ?hS7o ?h7o
    case hi7o => exact (by simp only [List.getElem?_toArray, List.getElem?_cons_succ, List.getElem?_cons_zero]; rfl)
    case hs7o => kernel_rfl
    case hf7o => kernel_rfl
    case hr7o => kernel_rfl
    case hQ7o => exact fun _ _ _ h => h
    case hy7o =>
      refine Or.inl ⟨rfl, ?_⟩
      intro W hSw
      go_simp
      try with_reducible rfl
    case hS7o => assumption
    try simp only [Act.put, List.setIfInBounds_toArray, List.set_cons_zero, List.set_cons_succ]
    refine wpAnyH_ready (rs := [6]) (by kernel_rfl) (by simp) ?_
    refine AllReadyH.cons (o := _) rfl (fun K hK => ?_) AllReadyH.nil
    go_simp
    refine (HC1.out Wo0 (HBW.out.trans (HDo.out.mono HBW.out.size))).mono ?_
    rintro r Wo1 ⟨A1, c1, rfl, ho1, hbq⟩
    have HBo1 := Lib.hid (HDo.out.trans (hbq.mono HDo.out.size))
    have HO1 := Lib.hid ho1
    clear ho1
    clear hbq
    refine hK.out _ _ (HCE.out _ (HBo1.out)) (fun hHeld => ?_)
    clear hK K
    try simp only [Act.put, List.setIfInBounds_toArray, List.set_cons_zero, List.set_cons_succ]
    refine wpAnyH_take (i := 8) (oi := ?oi8o) (v := ?v8o) ?hi8o ?hs8o ?hf8o ?hr8o ?hQ8o ?hy8o ?hS8o ?h8o
    case hi8o => exact (by simp only [List.getElem?_toArray, List.getElem?_cons_succ, List.getElem?_cons_zero]; rfl)
    case hs8o => kernel_rfl
    case hf8o => kernel_rfl
    case hr8o => kernel_rfl
    case hQ8o => exact fun _ _ _ h => h
    case hy8o =>
      refine Or.inl ⟨rfl, ?_⟩
      intro W hSw
      go_simp
      try with_reducible rfl
    case hS8o => assumption
    try simp only [Act.put, List.setIfInBounds_toArray, List.set_cons_zero, List.set_cons_succ]
    refine wpAnyH_ready (rs := [9]) (by kernel_rfl) (by simp) ?_
    refine AllReadyH.cons (o := _) rfl (fun K hK => ?_) AllReadyH.nil
    have hq8 := HQAdd.out Wo1 (HBW.out.trans (HBo1.out.mono HBW.out.size)) A1 c1 (own_base' HO1.out (Nat.le_trans HBW.out.size HDo.out.size))
    go_simp
    refine hq8.mono ?_
    rintro r W9 ⟨rfl, hp⟩
    have HPF := Lib.hid (hp.from (Nat.le_of_lt HCX.out.1) (HBW.out.trans (HBo1.out.mono HBW.out.size)))
    have hcb : W9.cell? ⟨B, 0, none⟩ = some (bp R) := by
      obtain ⟨vi', h1, _⟩ := hp
      have := cell_of_row W9 B 0 _ _ _ h1.blk
      simpa using this
    clear hq8 hp
    refine hK.out _ _ (hcb) (fun hHeld => ?_)
    clear hK K
    try simp only [Act.put, List.setIfInBounds_toArray, List.set_cons_zero, List.set_cons_succ]
    refine wpAnyH_take (i := 10) (oi := ?oi10o) (v := ?v10o) ?hi10o ?hs10o ?hf10o ?hr10o ?hQ10o ?hy10o ?hS10o ?h10o
    case hi10o => exact (by simp only [List.getElem?_toArray, List.getElem?_cons_succ, List.getElem?_cons_zero]; rfl)
    case hs10o => kernel_rfl
    case hf10o => kernel_rfl
    case hr10o => kernel_rfl
    case hQ10o => exact fun _ _ _ h => h
    case hy10o =>
      refine Or.inl ⟨rfl, ?_⟩
      intro W hSw
      go_simp
      try with_reducible rfl
    case hS10o => assumption
    try simp only [Act.put, List.setIfInBounds_toArray, List.set_cons_zero, List.set_cons_succ]
    refine wpAnyH_done (by kernel_rfl) ?_ _
    go_wp2
    go_ret
    exact ⟨rfl, HPF.out⟩
end Go.Proofs.Ytemjmnpclknfaaa.P
