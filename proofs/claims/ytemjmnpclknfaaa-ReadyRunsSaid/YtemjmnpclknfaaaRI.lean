/- Ready: what each act keeps; do of any act. -/
import Derived.Test.YtemjmnpclknfaaaRG
import Derived.Test.YtemjmnpclknfaaaRH
import Derived.Test.YtemjmnpclknfaaaQC
import Derived.Test.YtemjmnpclknfaaaQF
namespace Go.Proofs.Ytemjmnpclknfaaa.P
open Go.RowKit
set_option maxRecDepth 20000
set_option linter.unusedVariables false
set_option linter.unusedSimpArgs false

theorem half (i : Nat) : ∀ l : List Pt, (l.filter fun e => decide (e.id < i)).length + (l.filter fun e => decide (i < e.id)).length ≤ l.length
  | [] => by simp
  | x :: l => by
    have ih := half i l
    rw [List.filter_cons, List.filter_cons]
    by_cases a : x.id < i
    · rw [if_pos (by simpa using a), if_neg (by simp; omega)]
      simp only [List.length_cons]
      omega
    · rw [if_neg (by simpa using a)]
      split <;> simp only [List.length_cons] <;> omega
theorem pins_len (L : List Pt) (g : Pt) : (insL L g).length ≤ L.length + 1 := by
  have := half g.id L
  unfold insL
  rw [List.length_append, List.length_cons]
  omega
theorem ins_there {L : List Pt} (h : Ris L) {e g : Pt} (he : e ∈ L) (hi : e.id = g.id) : (insL L g).length = L.length := by
  obtain ⟨p, hp⟩ := List.mem_iff_getElem?.1 he
  rw [← set_insL h hp hi, List.length_set]
theorem pdel_len (L : List Pt) (x : Nat) : (delL L x).length ≤ L.length := List.length_filter_le _ _
def accL (L : List Pt) (p : Nat) : List Pt := match getP L (ofP L p) with
  | none => L
  | some g => if p ∈ g.inv then L else if miss g.mem (g.inv ++ [p]) = [] then delL L (ofP L p) else insL L (yesP g p)
def actL (mo : Int) (d : Int) (L : List Pt) (id p : Nat) (ps : List Nat) (t : Int) : List Pt :=
  if d = 0 then openL mo L id t ps else if d = 1 then accL L p else if d = 2 then delL L (ofP L p) else if d = 3 then delL L id else L
theorem ofP_zero {L : List Pt} (h : Inv L) {x : Nat} (h0 : ofP L x = 0) : ∀ e ∈ L, x ∉ e.mem := fun e he hx => by
  have h1 := of_mem h he hx
  have h2 := (h.each e he).id.1
  omega
theorem nx_open {L : List Pt} {mo : Int} {id : Nat} {ps : List Nat} {t : Int} (h : Inv L) (hm : 0 ≤ mo ∧ mo ≤ 20) (hl : (L.length : Int) ≤ mo) : Inv (openL mo L id t ps) ∧ ((openL mo L id t ps).length : Int) ≤ mo := by
  unfold openL
  by_cases h0 : openE mo L id ps = 0
  · rw [if_pos h0]
    unfold openE at h0
    by_cases hb : badB id ps = true
    · rw [if_pos hb] at h0; cases h0
    rw [if_neg hb] at h0
    by_cases hs : ps.length < 1 ∨ 8 < ps.length
    · rw [if_pos hs] at h0; cases h0
    rw [if_neg hs] at h0
    by_cases hc : clashB L ps = true
    · rw [if_pos hc] at h0; cases h0
    rw [if_neg hc] at h0
    by_cases he : ∃ e ∈ L, e.id = id
    · rw [if_pos he] at h0; cases h0
    rw [if_neg he] at h0
    by_cases hf : min mo 2147483647 ≤ (L.length : Int)
    · rw [if_pos hf] at h0; cases h0
    have hb' : okN id ∧ ∀ x ∈ ps, okN x := by
      unfold badB at hb
      rw [decide_eq_true_iff, Classical.not_not] at hb
      exact hb
    have hc' : ps.Nodup ∧ ∀ x ∈ ps, ofP L x = 0 := by
      unfold clashB at hc
      rw [decide_eq_true_iff, Classical.not_not] at hc
      exact hc
    refine ⟨h.ins ⟨hb'.1, by show 1 ≤ ps.length; omega, by show ps.length ≤ 8; omega, (fun x hx => by cases hx), hc'.1, List.nodup_nil, by show 0 < ps.length; omega, hb'.2⟩ (fun e he' _ x hx hy => ofP_zero h (hc'.2 x hy) e he' hx), ?_⟩
    have := pins_len L ⟨id, t, ps, []⟩
    omega
  · rw [if_neg h0]
    exact ⟨h, hl⟩
theorem acc_mem {L : List Pt} (h : Inv L) {p : Nat} {g : Pt} (hg : getP L (ofP L p) = some g) : p ∈ g.mem := by
  rcases of_cases h.ris (fun e he => (h.each e he).id.1) p with ⟨h1, _, h3⟩ | ⟨g', h1, h2, h3, h4, _⟩
  · rw [h1, h3] at hg; cases hg
  · rw [h3, h4] at hg
    rw [← Option.some.inj hg]
    exact h2
theorem les_of {L : List Pt} (h : Inv L) {p : Nat} {g : Pt} (hg : getP L (ofP L p) = some g) (hp : p ∉ g.inv) (hm : miss g.mem (g.inv ++ [p]) ≠ []) : g.inv.length + 1 < g.mem.length := by
  have hgm := (get_some hg).1
  have k := h.each g hgm
  have hn : (g.inv ++ [p]).Nodup := by
    rw [List.nodup_append]
    refine ⟨k.nodI, by simp, fun a ha b hb => ?_⟩
    simp at hb
    subst hb
    intro e
    exact hp (e ▸ ha)
  have hs : ∀ x ∈ g.inv ++ [p], x ∈ g.mem := fun x hx => by
    rcases List.mem_append.1 hx with hx | hx
    · exact k.sub x hx
    · simp at hx
      subst hx
      exact acc_mem h hg
  have h1 := miss_count k.nod hn hs
  have h2 := sub_len hn hs
  have h3 : (g.inv ++ [p]).length ≠ g.mem.length := fun e => hm (h1.2 e)
  rw [List.length_append] at h2 h3
  simp at h2 h3
  omega
theorem nx_acc {L : List Pt} {mo : Int} {p : Nat} (h : Inv L) (hl : (L.length : Int) ≤ mo) : Inv (accL L p) ∧ ((accL L p).length : Int) ≤ mo := by
  unfold accL
  cases hg : getP L (ofP L p) with
  | none => exact ⟨h, hl⟩
  | some g =>
    simp only
    by_cases hp : p ∈ g.inv
    · rw [if_pos hp]; exact ⟨h, hl⟩
    · rw [if_neg hp]
      have hgm := (get_some hg).1
      by_cases hm : miss g.mem (g.inv ++ [p]) = []
      · rw [if_pos hm]
        have := pdel_len L (ofP L p)
        exact ⟨h.del _, by omega⟩
      · rw [if_neg hm]
        have := ins_there h.ris hgm (g := yesP g p) rfl
        exact ⟨h.yes hgm (acc_mem h hg) hp (les_of h hg hp hm), by omega⟩
theorem nx_act {L : List Pt} {mo : Int} (h : Inv L) (hm : 0 ≤ mo ∧ mo ≤ 20) (hl : (L.length : Int) ≤ mo) (d : Int) (id p : Nat) (ps : List Nat) (t : Int) : Inv (actL mo d L id p ps t) ∧ ((actL mo d L id p ps t).length : Int) ≤ mo := by
  unfold actL
  have h1 := pdel_len L (ofP L p)
  have h2 := pdel_len L id
  split
  · exact nx_open h hm hl
  · split
    · exact nx_acc h hl
    · split
      · exact ⟨h.del _, by omega⟩
      · split
        · exact ⟨h.del _, by omega⟩
        · exact ⟨h, hl⟩
theorem del_no {L : List Pt} {x : Nat} (h : getP L x = none) : delL L x = L := by
  unfold delL
  exact filt_all fun e he => by simpa using getP_none h e he
abbrev sN : Sl := ⟨none, 0, 0⟩
theorem s32_nil (w : World) : S32 w (.slice none 0 0) [] := ⟨none, 0, rfl, fun h => absurd h (by simp)⟩
theorem fl_nil (w : World) (R : Nat) (vi : Value) : Fl w R vi sN [] := ⟨rfl, fun h => absurd h (by simp)⟩
theorem gp_nil {B R : Nat} {mo : Int} {vi : Value} {L : List Pt} {f : Value → Value} {w w' : World} {r : Ending} (h : Bk w B R mo vi L) (hr : r = .returned (f cZ)) (hb : Below w.heap.size w w') : GP B R mo vi L 0 0 [] [] f w r w' := ⟨sN, sN, hr, s32_nil w', s32_nil w', PutP.of_below h hb⟩
theorem gp_cls {B R : Nat} {mo : Int} {vi : Value} {L : List Pt} {f : Value → Value} {w w' : World} {r : Ending} {x : Nat} {l : Int} {M1 M2 : List Nat} {v : Value} (hr : r = .returned (f v)) (ht : Tl w.heap.size x M1 M2 l v w') (hp : PutP B R mo vi L w w') : GP B R mo vi L x l M1 M2 f w r w' := by
  obtain ⟨A1, A2, c1, c2, rfl, o1, o2⟩ := ht
  exact ⟨⟨A1, M1.length, c1⟩, ⟨A2, M2.length, c2⟩, hr, .of_own o1, .of_own o2, hp⟩
theorem do_any (B R : Nat) (mo : Int) (vi : Value) (L : List Pt) (A : Option Addr) (n c : Nat) (d : Int) (id p : Nat) (PA : Option Addr) (pc : Nat) (ps : List Nat) (t : Int) (w : World) (h : Bk w B R mo vi L) (hD : Dd w R vi A n L) (hI : Inv L) (hl : (L.length : Int) ≤ mo) (hmo : 0 ≤ mo ∧ mo ≤ 20) (hps : ps.length ≤ 12 ∧ ps.length ≤ pc) (hP : ∀ W, Below R w W → Rn W PA ps) :
    Calls Try.prog 9 #[bp B, .slice A n c, .int .i64 mo, .agg #[.int .u8 d, .int .u32 (id : Int), .int .u32 (p : Int), .slice PA ps.length pc, .int .i64 t]] w fun r w' => DoP B R mo vi (actL mo d L id p ps t) w r w' := by
  have hl100 : L.length ≤ 20 := by omega
  have hn : n ≤ 100 := by have := hD.n; omega
  have hms : ∀ e ∈ L, e.mem.length ≤ 100 := fun e he => by have := (hI.each e he).eight; omega
  have hR := Nat.le_of_lt h.ctx.1
  have hle : ∀ g ∈ L, g.mem.length ≤ 8 ∧ g.inv.length ≤ 8 ∧ g.inv.Nodup := fun g hg => by
    have k := hI.each g hg
    have := k.les
    have := k.eight
    exact ⟨k.eight, by omega, k.nodI⟩
  by_cases h0 : d = 0
  · subst h0
    rw [show actL mo 0 L id p ps t = openL mo L id t ps from rfl]
    exact do_0 B R mo vi L _ A n c id p PA ps.length pc t w h hD (openE mo L id ps)
      (fun W hW => open_any B R mo vi L id t PA ps.length pc ps W (h.after hW) (by omega) hms rfl (hP W (hW.mono hR)) (by omega) hps.2)
      (fun W vi1 hW hd => dopen_any R vi1 A n c L mo id t PA ps.length pc ps W hd hI.ris hn hms ⟨hmo.1, by omega⟩ rfl (hP W hW) (by omega) hps.2)
  by_cases h1 : d = 1
  · subst h1
    rw [show actL mo 1 L id p ps t = accL L p from rfl]
    unfold accL
    cases hg : getP L (ofP L p) with
    | none =>
      exact do_1 B R mo vi L _ A n c id p PA ps.length pc t w h hD 0 0 [] [] false 12 (by simp) (by simp) List.nodup_nil
        (fun W hW => (acc_none B R mo vi L p W (h.after hW) (by omega) hms hg).mono fun r w' ⟨e, hb⟩ => gp_nil (h.after hW) e hb)
        (fun W vi1 hd => (daccept_none R vi1 A n c L p W hd hn hms hg).mono fun r w' ⟨e, hb⟩ => ⟨A, n, c, sN, sN, e, fl_nil _ _ _, fl_nil _ _ _, hd.after hb, hb⟩)
    | some g =>
      have hk := hle g (get_some hg).1
      simp only
      by_cases hp : p ∈ g.inv
      · rw [if_pos hp]
        exact do_1 B R mo vi L _ A n c id p PA ps.length pc t w h hD 0 0 [] [] false 11 (by simp) (by simp) List.nodup_nil
          (fun W hW => (acc_again B R mo vi L p g W (h.after hW) (by omega) hms hg (by omega) hp).mono fun r w' ⟨e, hb⟩ => gp_nil (h.after hW) e hb)
          (fun W vi1 hd => (daccept_again R vi1 A n c L p g W hd hn hms hg (by omega) hp).mono fun r w' ⟨e, hb⟩ => ⟨A, n, c, sN, sN, e, fl_nil _ _ _, fl_nil _ _ _, hd.after hb, hb⟩)
      · rw [if_neg hp]
        exact do_1 B R mo vi L _ A n c id p PA ps.length pc t w h hD (ofP L p) g.ld g.mem (g.inv ++ [p]) (decide (miss g.mem (g.inv ++ [p]) = [])) 0 (by omega) (by rw [List.length_append]; simp; omega) (List.nodup_append.2 ⟨hk.2.2, by simp, fun a ha b hb => by
            simp at hb
            subst hb
            exact fun e => hp (e ▸ ha)⟩)
          (fun W hW => (acc_some B R mo vi L p g W (h.after hW) (by omega) hms hg (by omega) (by omega) hp hk.2.2).mono fun r w' ⟨v, e, ht, hpp⟩ => gp_cls (f := fun v => .tuple #[v, .bool _, .int .i64 0]) e ht hpp)
          (fun W vi1 hd => daccept_some R vi1 A n c L p g W hd hn hms hI.ris hg (by omega) (by omega) hp)
  by_cases h2 : d = 2
  · subst h2
    rw [show actL mo 2 L id p ps t = delL L (ofP L p) from rfl]
    have hof : ∀ W, Below w.heap.size w W → Calls Try.prog 14 #[.slice A n c, .int .u32 (p : Int)] W fun r w' => r = .returned (.int .u32 (ofP L p : Int)) ∧ w' = W := fun W hW => dof_any R vi A n c L p W hD.n (hD.dr.after hW) hn hms
    have hcl : ∀ W vi1, Dd W R vi1 A n L → Calls Try.prog 36 #[.slice A n c, .int .u32 (ofP L p : Int)] W fun r w' => DPutP R vi1 (delL L (ofP L p)) W r w' := fun W vi1 hd => dclose_any R vi1 A n c L (ofP L p) W hd.n hd.dr hn
    cases hg : getP L (ofP L p) with
    | none =>
      exact do_2 B R mo vi L _ A n c id p PA ps.length pc t w h hD (ofP L p) 0 0 [] [] false 12 (.inr ⟨rfl, rfl⟩) (by simp) (by simp) List.nodup_nil hof
        (fun W hW => (dget_none R vi A n c L (ofP L p) W hD.n (hD.dr.after hW) hn hg).mono fun r w' ⟨e, hb⟩ => ⟨sN, sN, e, fl_nil _ _ _, fl_nil _ _ _, hb⟩)
        (fun W hW => (decline_none B R mo vi L p W (h.after hW) (by omega) hms hg).mono fun r w' ⟨e, hb⟩ => by rw [del_no hg]; exact gp_nil (f := fun v => .tuple #[v, .int .i64 12]) (h.after hW) e hb)
        hcl
    | some g =>
      have hk := hle g (get_some hg).1
      exact do_2 B R mo vi L _ A n c id p PA ps.length pc t w h hD (ofP L p) g.id g.ld g.mem g.inv true 0 (.inl ⟨rfl, rfl⟩) (by omega) (by omega) hk.2.2 hof
        (fun W hW => dget_some R vi A n c L (ofP L p) g W hD.n (hD.dr.after hW) hn hg)
        (fun W hW => (decline_some B R mo vi L p g W (h.after hW) (by omega) hms hg (by omega) (by omega)).mono fun r w' ⟨v, e, ht, hpp⟩ => gp_cls (f := fun v => .tuple #[v, .int .i64 0]) e (by rw [(get_some hg).2]; exact ht) hpp)
        hcl
  by_cases h3 : d = 3
  · subst h3
    rw [show actL mo 3 L id p ps t = delL L id from rfl]
    have hcl : ∀ W vi1, Dd W R vi1 A n L → Calls Try.prog 36 #[.slice A n c, .int .u32 (id : Int)] W fun r w' => DPutP R vi1 (delL L id) W r w' := fun W vi1 hd => dclose_any R vi1 A n c L id W hd.n hd.dr hn
    cases hg : getP L id with
    | none =>
      exact do_3 B R mo vi L _ A n c id p PA ps.length pc t w h hD 0 0 [] [] false (by simp) (by simp) List.nodup_nil
        (fun W hW => (dget_none R vi A n c L id W hD.n (hD.dr.after hW) hn hg).mono fun r w' ⟨e, hb⟩ => ⟨sN, sN, e, fl_nil _ _ _, fl_nil _ _ _, hb⟩)
        (fun W hW => (close_none B R mo vi L id W (h.after hW) (by omega) hg).mono fun r w' ⟨e, hb⟩ => by rw [del_no hg]; exact gp_nil (f := fun v => .tuple #[v, .bool false]) (h.after hW) e hb)
        hcl
    | some g =>
      have hk := hle g (get_some hg).1
      exact do_3 B R mo vi L _ A n c id p PA ps.length pc t w h hD g.id g.ld g.mem g.inv true (by omega) (by omega) hk.2.2
        (fun W hW => dget_some R vi A n c L id g W hD.n (hD.dr.after hW) hn hg)
        (fun W hW => (close_some B R mo vi L id g W (h.after hW) (by omega) hg (by omega) (by omega)).mono fun r w' ⟨v, e, ht, hpp⟩ => gp_cls (f := fun v => .tuple #[v, .bool true]) e (by rw [(get_some hg).2]; exact ht) hpp)
        hcl
  have e : actL mo d L id p ps t = L := by unfold actL; rw [if_neg h0, if_neg h1, if_neg h2, if_neg h3]
  rw [e]
  exact do_4 B R mo vi L A n c id p PA ps.length pc t w h hD d h0 h1 h2 h3
end Go.Proofs.Ytemjmnpclknfaaa.P
