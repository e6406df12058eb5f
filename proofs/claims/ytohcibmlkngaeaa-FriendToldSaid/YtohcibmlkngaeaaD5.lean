/- Friend: the document's Friends, To, Asked, full. -/
import Derived.Test.YtohcibmlkngaeaaD4
namespace Go.Proofs.Ytohcibmlkngaeaa
open Go.RowKit Go.Maps
set_option maxRecDepth 20000
set_option linter.unusedVariables false
set_option linter.unusedSimpArgs false

theorem fr_snoc (l : List Rw) (a : Nat) (r : Rw) : fr (l ++ [r]) a = fr l a ++ frF a r := by simp [fr]
theorem whom_snoc' (l : List Rw) (t a : Nat) (r : Rw) : whom (l ++ [r]) t a = whom l t a ++ toF t a r := by simp [whom]
theorem askd_snoc (l : List Rw) (a : Nat) (r : Rw) : askd (l ++ [r]) a = askd l a ++ asF a r := by simp [askd]
/-- What the document tells of a player. -/
def RL (xs : List Nat) (w : World) (r : Ending) (w' : World) : Prop := ∃ v zs, r = .returned v ∧ Ow w.heap.size v zs w' ∧ zs.Pairwise (· < ·) ∧ (∀ x, x ∈ zs ↔ x ∈ xs) ∧ Below w.heap.size w w'
theorem bfr (l : List Rw) (a : Nat) : (fr l a).length ≤ 2 * l.length := by
  induction l with
  | nil => simp [fr]
  | cons r l ih =>
    unfold fr at ih ⊢
    rw [List.flatMap_cons, List.length_append, List.length_cons]
    have : (frF a r).length ≤ 2 := by unfold frF; rw [List.length_append]; split <;> split <;> simp
    omega
theorem bwh (l : List Rw) (t a : Nat) : (whom l t a).length ≤ 1 * l.length := by
  induction l with
  | nil => simp [whom]
  | cons r l ih =>
    unfold whom at ih ⊢
    rw [List.flatMap_cons, List.length_append, List.length_cons]
    have : (toF t a r).length ≤ 1 := by unfold toF; split <;> simp
    omega
theorem bas (l : List Rw) (a : Nat) : (askd l a).length ≤ 1 * l.length := by
  induction l with
  | nil => simp [askd]
  | cons r l ih =>
    unfold askd at ih ⊢
    rw [List.flatMap_cons, List.length_append, List.length_cons]
    have : (asF a r).length ≤ 1 := by unfold asF; split <;> simp
    omega
theorem okfr {l : List Rw} (h : Inv l) {a : Nat} : ∀ x ∈ fr l a, okN x := fun x hx => by
  rcases mem_fr.1 hx with hx | hx
  · exact (h.ok _ hx).2.2.1
  · exact (h.ok _ hx).2.1
theorem okwh {l : List Rw} (h : Inv l) {t a : Nat} : ∀ x ∈ whom l t a, okN x := fun x hx => (h.ok _ (mem_whom.1 hx)).2.2.1
theorem okas {l : List Rw} (h : Inv l) {a : Nat} : ∀ x ∈ askd l a, okN x := fun x hx => (h.ok _ (mem_askd.1 hx)).2.1

set_option maxHeartbeats 8000000 in
theorem rfriends_any (A : Option Addr) (n c a : Nat) (l : List Rw) (w : World) (hn : n = l.length) (hR : Rr w A l) (hl : n ≤ 200) (hI : Inv l) :
    Calls Try.prog 28 #[.slice A n c, u a] w (RL (fr l a) w) := by
  have HR := Lib.hid hR
  have HN := Lib.hid hn
  have HB0 : Hid (Below w.heap.size w w) := Below.refl _ _
  have HIN := Lib.hid hI
  clear hR hn hI
  go_enter Try.func28, Try.ntmps28
  go_wp2_with fail
  go_loopw [5, 6] (fun o x wr => ∃ (k m : Nat) (B : Option Addr) (c2 : Nat), k ≤ n ∧ x = .int .i64 (k : Int) ∧ o = .slice B m c2 ∧ Hid (m = (fr (l.take k) a).length ∧ wr.ownsRow w.heap.size 26 1 (.slice B m c2) m (un (fr (l.take k) a)) ∧ Below w.heap.size w wr)) (fun _ x _ => n - (intOf x).toNat)
  case atStart => exact ⟨0, 0, none, 0, by omega, rfl, rfl, rfl, World.ownsRow_nil w _ 26 1, HB0.out⟩
  case round =>
    obtain ⟨k, m, B, c2, hk, rfl, rfl, HV⟩ := hrel
    by_cases hlt : k < n
    · obtain ⟨⟨s, p, q⟩, hy⟩ : ∃ e, l[k]? = some e := ⟨l[k]'(by rw [← HN.out]; exact hlt), List.getElem?_eq_getElem _⟩
      have hpq : p ≠ q := (HIN.out.ok _ (List.mem_of_getElem? hy)).2.2.2
      obtain ⟨b1, o1, cc, rfl, hb1, ha1⟩ := HR.out (by have := HN.out; omega)
      have HCELL : Hid (∀ W, Below w.heap.size w W → W.cell? ⟨b1, o1 + k * 3, none⟩ = some (.int .i64 (s : Int)) ∧ W.cell? ⟨b1, o1 + k * 3 + 1, none⟩ = some (u p) ∧ W.cell? ⟨b1, o1 + k * 3 + 2, none⟩ = some (u q)) := fun W hW => by
        obtain ⟨q1, q2, q3⟩ := ha1 k _ hy
        have e := hW.block b1 (lt_of_block hb1)
        exact ⟨(World.cell?_of_block e).trans q1, (World.cell?_of_block e).trans q2, (World.cell?_of_block e).trans q3⟩
      obtain ⟨d0, d1, d2⟩ := HCELL.out wr HV.out.2.2
      have HTK : Hid (l.take (k + 1) = l.take k ++ [(s, p, q)]) := by simp only [Hid]; rw [List.take_add_one, hy]; rfl
      have HM : Hid (m ≤ 400) := by
        have h1 := HV.out.1
        have h2 : (fr (l.take k) a).length ≤ 2 * (l.take k).length := bfr _ _
        rw [List.length_take] at h2
        simp only [Hid]
        omega
      have HS1 : Hid (w.heap.size ≤ wr.heap.size) := HV.out.2.2.size
      clear hy ha1 hb1
      by_cases hs : s = 2
      · by_cases hp : p = a
        · have HH : Hid (s = 2 ∧ p = a ∧ ¬ q = a) := by simp only [Hid]; omega
          clear hs hp hpq
          have HNX : Hid (fr (l.take (k + 1)) a = fr (l.take k) a ++ [q]) := by
            have hh := HH.out
            simp only [Hid]
            rw [HTK.out, fr_snoc]
            simp [frF, toF, asF, hh]
          have e0 : ((s : Int) == (2 : Int)) = true := by have hh := HH.out; simp; omega
          have e1 : ((p : Int) == (a : Int)) = true := by have hh := HH.out; simp; omega
          go_upto_region 6 with (fail)
          clear e0 e1
          go_upto_region 7 with (at_builtin; refine wpList_append_u32 rfl _ _ rfl w.heap.size wr.heap.size (.slice B m c2) m (un (fr (l.take k) a)) q rfl rfl (HV.out.2.1.alloc _) (heap_alloc_new _ _) (by have := HM.out; omega) (by have := HS1.out; simp; omega) ?_; intro v4 w4 hown4 hg4; obtain ⟨B4, c4, rfl⟩ := own_form1 hown4; have HB4 : Hid (Below w.heap.size w w4) := (HV.out.2.2.alloc HS1.out _).grown hg4 (by have := HS1.out; simp; omega) (fun g h => (ownlt HV.out.2.1 g h).1); obtain ⟨f0, f1, f2⟩ := HCELL.out w4 HB4.out; rw [← un_snoc, ← HNX.out] at hown4; have HO4 := Lib.hid hown4; clear hown4 hg4)
          have e0 : ((s : Int) == (2 : Int)) = true := by have hh := HH.out; simp; omega
          have e1 : ((q : Int) == (a : Int)) = false := by have hh := HH.out; simp; omega
          go_wp2
          go_roundw
          case rel => exact ⟨k + 1, m + 1, B4, c4, by omega, by go_num, rfl, by rw [HNX.out, List.length_append, HV.out.1]; rfl, HO4.out, HB4.out⟩
          case measure => simp [intOf] <;> omega
        · by_cases hq : q = a
          · have HH : Hid (s = 2 ∧ ¬ p = a ∧ q = a) := by simp only [Hid]; omega
            clear hs hp hq hpq
            have HNX : Hid (fr (l.take (k + 1)) a = fr (l.take k) a ++ [p]) := by
              have hh := HH.out
              simp only [Hid]
              rw [HTK.out, fr_snoc]
              simp [frF, toF, asF, hh]
            have e0 : ((s : Int) == (2 : Int)) = true := by have hh := HH.out; simp; omega
            have e1 : ((p : Int) == (a : Int)) = false := by have hh := HH.out; simp; omega
            have e2 : ((q : Int) == (a : Int)) = true := by have hh := HH.out; simp; omega
            go_upto_region 8 with (fail)
            clear e0 e1 e2
            go_wp2_with (at_builtin; refine wpList_append_u32 rfl _ _ rfl w.heap.size wr.heap.size (.slice B m c2) m (un (fr (l.take k) a)) p rfl rfl (HV.out.2.1.alloc _) (heap_alloc_new _ _) (by have := HM.out; omega) (by have := HS1.out; simp; omega) ?_; intro v4 w4 hown4 hg4; obtain ⟨B4, c4, rfl⟩ := own_form1 hown4; have HB4 : Hid (Below w.heap.size w w4) := (HV.out.2.2.alloc HS1.out _).grown hg4 (by have := HS1.out; simp; omega) (fun g h => (ownlt HV.out.2.1 g h).1); obtain ⟨f0, f1, f2⟩ := HCELL.out w4 HB4.out; rw [← un_snoc, ← HNX.out] at hown4; have HO4 := Lib.hid hown4; clear hown4 hg4)
            go_roundw
            case rel => exact ⟨k + 1, m + 1, B4, c4, by omega, by go_num, rfl, by rw [HNX.out, List.length_append, HV.out.1]; rfl, HO4.out, HB4.out⟩
            case measure => simp [intOf] <;> omega
          · have HH : Hid (s = 2 ∧ ¬ p = a ∧ ¬ q = a) := by simp only [Hid]; omega
            clear hs hp hq hpq
            have HNX : Hid (fr (l.take (k + 1)) a = fr (l.take k) a) := by
              have hh := HH.out
              simp only [Hid]
              rw [HTK.out, fr_snoc]
              simp [frF, toF, asF, hh]
            have e0 : ((s : Int) == (2 : Int)) = true := by have hh := HH.out; simp; omega
            have e1 : ((p : Int) == (a : Int)) = false := by have hh := HH.out; simp; omega
            have e2 : ((q : Int) == (a : Int)) = false := by have hh := HH.out; simp; omega
            go_wp2
            go_roundw
            case rel => exact ⟨k + 1, m, B, c2, by omega, by go_num, rfl, by rw [HNX.out]; exact HV.out.1, by rw [HNX.out]; exact HV.out.2.1, HV.out.2.2⟩
            case measure => simp [intOf] <;> omega
      · have HH : Hid (¬ s = 2) := by simp only [Hid]; omega
        clear hs hpq
        have HNX : Hid (fr (l.take (k + 1)) a = fr (l.take k) a) := by
          have hh := HH.out
          simp only [Hid]
          rw [HTK.out, fr_snoc]
          simp [frF, toF, asF, hh]
        have e0 : ((s : Int) == (2 : Int)) = false := by have hh := HH.out; simp; omega
        go_wp2
        go_roundw
        case rel => exact ⟨k + 1, m, B, c2, by omega, by go_num, rfl, by rw [HNX.out]; exact HV.out.1, by rw [HNX.out]; exact HV.out.2.1, HV.out.2.2⟩
        case measure => simp [intOf] <;> omega
    · obtain rfl : k = n := by omega
      have HM1 : Hid ((fr l a).length ≤ 500) := by have h1 := bfr l a; have h2 := HN.out; simp only [Hid]; omega
      have hf : (fr (l.take k) a) = fr l a := by rw [List.take_of_length_le (by rw [← HN.out]; exact Nat.le_refl _)]
      have hv := HV.out
      rw [hf] at hv
      have HOW : Hid (Ow w.heap.size (.slice B m c2) (fr l a) wr) := by
        simp only [Hid, Ow]
        rw [← hv.1]
        exact hv.2.1
      have HC := Lib.hid (rising_any w.heap.size _ _ wr HOW.out (okfr HIN.out) (by have := HM1.out; omega))
      have HB := Lib.hid hv.2.2
      clear hf hv
      go_wp2_with fail
      refine HC.out.mono ?_
      rintro r w5 ⟨v', zs, rfl, ho, hz, hm, hb⟩
      have HRES : Hid (Ow w.heap.size v' zs w5 ∧ zs.Pairwise (· < ·) ∧ (∀ x, x ∈ zs ↔ x ∈ fr l a) ∧ Below w.heap.size w w5) := ⟨ho.base HB.out.size, hz, hm, HB.out.trans (hb.mono HB.out.size)⟩
      clear ho hz hm hb
      go_wp2
      go_ret
      exact ⟨v', zs, rfl, HRES.out⟩
set_option maxHeartbeats 8000000 in
theorem rto_any (A : Option Addr) (n c t a : Nat) (l : List Rw) (w : World) (hn : n = l.length) (hR : Rr w A l) (hl : n ≤ 200) (hI : Inv l) :
    Calls Try.prog 29 #[.slice A n c, .int .i64 (t : Int), u a] w (RL (whom l t a) w) := by
  have HR := Lib.hid hR
  have HN := Lib.hid hn
  have HB0 : Hid (Below w.heap.size w w) := Below.refl _ _
  have HIN := Lib.hid hI
  clear hR hn hI
  go_enter Try.func29, Try.ntmps29
  go_wp2_with fail
  go_loopw [7, 8] (fun o x wr => ∃ (k m : Nat) (B : Option Addr) (c2 : Nat), k ≤ n ∧ x = .int .i64 (k : Int) ∧ o = .slice B m c2 ∧ Hid (m = (whom (l.take k) t a).length ∧ wr.ownsRow w.heap.size 26 1 (.slice B m c2) m (un (whom (l.take k) t a)) ∧ Below w.heap.size w wr)) (fun _ x _ => n - (intOf x).toNat)
  case atStart => exact ⟨0, 0, none, 0, by omega, rfl, rfl, rfl, World.ownsRow_nil w _ 26 1, HB0.out⟩
  case round =>
    obtain ⟨k, m, B, c2, hk, rfl, rfl, HV⟩ := hrel
    by_cases hlt : k < n
    · obtain ⟨⟨s, p, q⟩, hy⟩ : ∃ e, l[k]? = some e := ⟨l[k]'(by rw [← HN.out]; exact hlt), List.getElem?_eq_getElem _⟩
      have hpq : p ≠ q := (HIN.out.ok _ (List.mem_of_getElem? hy)).2.2.2
      obtain ⟨b1, o1, cc, rfl, hb1, ha1⟩ := HR.out (by have := HN.out; omega)
      have HCELL : Hid (∀ W, Below w.heap.size w W → W.cell? ⟨b1, o1 + k * 3, none⟩ = some (.int .i64 (s : Int)) ∧ W.cell? ⟨b1, o1 + k * 3 + 1, none⟩ = some (u p) ∧ W.cell? ⟨b1, o1 + k * 3 + 2, none⟩ = some (u q)) := fun W hW => by
        obtain ⟨q1, q2, q3⟩ := ha1 k _ hy
        have e := hW.block b1 (lt_of_block hb1)
        exact ⟨(World.cell?_of_block e).trans q1, (World.cell?_of_block e).trans q2, (World.cell?_of_block e).trans q3⟩
      obtain ⟨d0, d1, d2⟩ := HCELL.out wr HV.out.2.2
      have HTK : Hid (l.take (k + 1) = l.take k ++ [(s, p, q)]) := by simp only [Hid]; rw [List.take_add_one, hy]; rfl
      have HM : Hid (m ≤ 400) := by
        have h1 := HV.out.1
        have h2 : (whom (l.take k) t a).length ≤ 1 * (l.take k).length := bwh _ _ _
        rw [List.length_take] at h2
        simp only [Hid]
        omega
      have HS1 : Hid (w.heap.size ≤ wr.heap.size) := HV.out.2.2.size
      clear hy ha1 hb1
      by_cases hs : s = t
      · by_cases hp : p = a
        · have HH : Hid (s = t ∧ p = a) := by simp only [Hid]; omega
          clear hs hp hpq
          have HNX : Hid (whom (l.take (k + 1)) t a = whom (l.take k) t a ++ [q]) := by
            have hh := HH.out
            simp only [Hid]
            rw [HTK.out, whom_snoc']
            simp [frF, toF, asF, hh]
          have e0 : ((s : Int) == (t : Int)) = true := by have hh := HH.out; simp; omega
          have e1 : ((p : Int) == (a : Int)) = true := by have hh := HH.out; simp; omega
          go_upto_region 6 with (fail)
          clear e0 e1
          go_wp2_with (at_builtin; refine wpList_append_u32 rfl _ _ rfl w.heap.size wr.heap.size (.slice B m c2) m (un (whom (l.take k) t a)) q rfl rfl (HV.out.2.1.alloc _) (heap_alloc_new _ _) (by have := HM.out; omega) (by have := HS1.out; simp; omega) ?_; intro v4 w4 hown4 hg4; obtain ⟨B4, c4, rfl⟩ := own_form1 hown4; have HB4 : Hid (Below w.heap.size w w4) := (HV.out.2.2.alloc HS1.out _).grown hg4 (by have := HS1.out; simp; omega) (fun g h => (ownlt HV.out.2.1 g h).1); obtain ⟨f0, f1, f2⟩ := HCELL.out w4 HB4.out; rw [← un_snoc, ← HNX.out] at hown4; have HO4 := Lib.hid hown4; clear hown4 hg4)
          go_roundw
          case rel => exact ⟨k + 1, m + 1, B4, c4, by omega, by go_num, rfl, by rw [HNX.out, List.length_append, HV.out.1]; rfl, HO4.out, HB4.out⟩
          case measure => simp [intOf] <;> omega
        · have HH : Hid (s = t ∧ ¬ p = a) := by simp only [Hid]; omega
          clear hs hp hpq
          have HNX : Hid (whom (l.take (k + 1)) t a = whom (l.take k) t a) := by
            have hh := HH.out
            simp only [Hid]
            rw [HTK.out, whom_snoc']
            simp [frF, toF, asF, hh]
          have e0 : ((s : Int) == (t : Int)) = true := by have hh := HH.out; simp; omega
          have e1 : ((p : Int) == (a : Int)) = false := by have hh := HH.out; simp; omega
          go_wp2
          go_roundw
          case rel => exact ⟨k + 1, m, B, c2, by omega, by go_num, rfl, by rw [HNX.out]; exact HV.out.1, by rw [HNX.out]; exact HV.out.2.1, HV.out.2.2⟩
          case measure => simp [intOf] <;> omega
      · have HH : Hid (¬ s = t) := by simp only [Hid]; omega
        clear hs hpq
        have HNX : Hid (whom (l.take (k + 1)) t a = whom (l.take k) t a) := by
          have hh := HH.out
          simp only [Hid]
          rw [HTK.out, whom_snoc']
          simp [frF, toF, asF, hh]
        have e0 : ((s : Int) == (t : Int)) = false := by have hh := HH.out; simp; omega
        go_wp2
        go_roundw
        case rel => exact ⟨k + 1, m, B, c2, by omega, by go_num, rfl, by rw [HNX.out]; exact HV.out.1, by rw [HNX.out]; exact HV.out.2.1, HV.out.2.2⟩
        case measure => simp [intOf] <;> omega
    · obtain rfl : k = n := by omega
      have HM1 : Hid ((whom l t a).length ≤ 500) := by have h1 := bwh l t a; have h2 := HN.out; simp only [Hid]; omega
      have hf : (whom (l.take k) t a) = whom l t a := by rw [List.take_of_length_le (by rw [← HN.out]; exact Nat.le_refl _)]
      have hv := HV.out
      rw [hf] at hv
      have HOW : Hid (Ow w.heap.size (.slice B m c2) (whom l t a) wr) := by
        simp only [Hid, Ow]
        rw [← hv.1]
        exact hv.2.1
      have HC := Lib.hid (rising_any w.heap.size _ _ wr HOW.out (okwh HIN.out) (by have := HM1.out; omega))
      have HB := Lib.hid hv.2.2
      clear hf hv
      go_wp2_with fail
      refine HC.out.mono ?_
      rintro r w5 ⟨v', zs, rfl, ho, hz, hm, hb⟩
      have HRES : Hid (Ow w.heap.size v' zs w5 ∧ zs.Pairwise (· < ·) ∧ (∀ x, x ∈ zs ↔ x ∈ whom l t a) ∧ Below w.heap.size w w5) := ⟨ho.base HB.out.size, hz, hm, HB.out.trans (hb.mono HB.out.size)⟩
      clear ho hz hm hb
      go_wp2
      go_ret
      exact ⟨v', zs, rfl, HRES.out⟩
set_option maxHeartbeats 8000000 in
theorem rasked_any (A : Option Addr) (n c a : Nat) (l : List Rw) (w : World) (hn : n = l.length) (hR : Rr w A l) (hl : n ≤ 200) (hI : Inv l) :
    Calls Try.prog 30 #[.slice A n c, u a] w (RL (askd l a) w) := by
  have HR := Lib.hid hR
  have HN := Lib.hid hn
  have HB0 : Hid (Below w.heap.size w w) := Below.refl _ _
  have HIN := Lib.hid hI
  clear hR hn hI
  go_enter Try.func30, Try.ntmps30
  go_wp2_with fail
  go_loopw [5, 6] (fun o x wr => ∃ (k m : Nat) (B : Option Addr) (c2 : Nat), k ≤ n ∧ x = .int .i64 (k : Int) ∧ o = .slice B m c2 ∧ Hid (m = (askd (l.take k) a).length ∧ wr.ownsRow w.heap.size 26 1 (.slice B m c2) m (un (askd (l.take k) a)) ∧ Below w.heap.size w wr)) (fun _ x _ => n - (intOf x).toNat)
  case atStart => exact ⟨0, 0, none, 0, by omega, rfl, rfl, rfl, World.ownsRow_nil w _ 26 1, HB0.out⟩
  case round =>
    obtain ⟨k, m, B, c2, hk, rfl, rfl, HV⟩ := hrel
    by_cases hlt : k < n
    · obtain ⟨⟨s, p, q⟩, hy⟩ : ∃ e, l[k]? = some e := ⟨l[k]'(by rw [← HN.out]; exact hlt), List.getElem?_eq_getElem _⟩
      have hpq : p ≠ q := (HIN.out.ok _ (List.mem_of_getElem? hy)).2.2.2
      obtain ⟨b1, o1, cc, rfl, hb1, ha1⟩ := HR.out (by have := HN.out; omega)
      have HCELL : Hid (∀ W, Below w.heap.size w W → W.cell? ⟨b1, o1 + k * 3, none⟩ = some (.int .i64 (s : Int)) ∧ W.cell? ⟨b1, o1 + k * 3 + 1, none⟩ = some (u p) ∧ W.cell? ⟨b1, o1 + k * 3 + 2, none⟩ = some (u q)) := fun W hW => by
        obtain ⟨q1, q2, q3⟩ := ha1 k _ hy
        have e := hW.block b1 (lt_of_block hb1)
        exact ⟨(World.cell?_of_block e).trans q1, (World.cell?_of_block e).trans q2, (World.cell?_of_block e).trans q3⟩
      obtain ⟨d0, d1, d2⟩ := HCELL.out wr HV.out.2.2
      have HTK : Hid (l.take (k + 1) = l.take k ++ [(s, p, q)]) := by simp only [Hid]; rw [List.take_add_one, hy]; rfl
      have HM : Hid (m ≤ 400) := by
        have h1 := HV.out.1
        have h2 : (askd (l.take k) a).length ≤ 1 * (l.take k).length := bas _ _
        rw [List.length_take] at h2
        simp only [Hid]
        omega
      have HS1 : Hid (w.heap.size ≤ wr.heap.size) := HV.out.2.2.size
      clear hy ha1 hb1
      by_cases hs : s = 1
      · by_cases hq : q = a
        · have HH : Hid (s = 1 ∧ q = a) := by simp only [Hid]; omega
          clear hs hq hpq
          have HNX : Hid (askd (l.take (k + 1)) a = askd (l.take k) a ++ [p]) := by
            have hh := HH.out
            simp only [Hid]
            rw [HTK.out, askd_snoc]
            simp [frF, toF, asF, hh]
          have e0 : ((s : Int) == (1 : Int)) = true := by have hh := HH.out; simp; omega
          have e1 : ((q : Int) == (a : Int)) = true := by have hh := HH.out; simp; omega
          go_upto_region 6 with (fail)
          clear e0 e1
          go_wp2_with (at_builtin; refine wpList_append_u32 rfl _ _ rfl w.heap.size wr.heap.size (.slice B m c2) m (un (askd (l.take k) a)) p rfl rfl (HV.out.2.1.alloc _) (heap_alloc_new _ _) (by have := HM.out; omega) (by have := HS1.out; simp; omega) ?_; intro v4 w4 hown4 hg4; obtain ⟨B4, c4, rfl⟩ := own_form1 hown4; have HB4 : Hid (Below w.heap.size w w4) := (HV.out.2.2.alloc HS1.out _).grown hg4 (by have := HS1.out; simp; omega) (fun g h => (ownlt HV.out.2.1 g h).1); obtain ⟨f0, f1, f2⟩ := HCELL.out w4 HB4.out; rw [← un_snoc, ← HNX.out] at hown4; have HO4 := Lib.hid hown4; clear hown4 hg4)
          go_roundw
          case rel => exact ⟨k + 1, m + 1, B4, c4, by omega, by go_num, rfl, by rw [HNX.out, List.length_append, HV.out.1]; rfl, HO4.out, HB4.out⟩
          case measure => simp [intOf] <;> omega
        · have HH : Hid (s = 1 ∧ ¬ q = a) := by simp only [Hid]; omega
          clear hs hq hpq
          have HNX : Hid (askd (l.take (k + 1)) a = askd (l.take k) a) := by
            have hh := HH.out
            simp only [Hid]
            rw [HTK.out, askd_snoc]
            simp [frF, toF, asF, hh]
          have e0 : ((s : Int) == (1 : Int)) = true := by have hh := HH.out; simp; omega
          have e1 : ((q : Int) == (a : Int)) = false := by have hh := HH.out; simp; omega
          go_wp2
          go_roundw
          case rel => exact ⟨k + 1, m, B, c2, by omega, by go_num, rfl, by rw [HNX.out]; exact HV.out.1, by rw [HNX.out]; exact HV.out.2.1, HV.out.2.2⟩
          case measure => simp [intOf] <;> omega
      · have HH : Hid (¬ s = 1) := by simp only [Hid]; omega
        clear hs hpq
        have HNX : Hid (askd (l.take (k + 1)) a = askd (l.take k) a) := by
          have hh := HH.out
          simp only [Hid]
          rw [HTK.out, askd_snoc]
          simp [frF, toF, asF, hh]
        have e0 : ((s : Int) == (1 : Int)) = false := by have hh := HH.out; simp; omega
        go_wp2
        go_roundw
        case rel => exact ⟨k + 1, m, B, c2, by omega, by go_num, rfl, by rw [HNX.out]; exact HV.out.1, by rw [HNX.out]; exact HV.out.2.1, HV.out.2.2⟩
        case measure => simp [intOf] <;> omega
    · obtain rfl : k = n := by omega
      have HM1 : Hid ((askd l a).length ≤ 500) := by have h1 := bas l a; have h2 := HN.out; simp only [Hid]; omega
      have hf : (askd (l.take k) a) = askd l a := by rw [List.take_of_length_le (by rw [← HN.out]; exact Nat.le_refl _)]
      have hv := HV.out
      rw [hf] at hv
      have HOW : Hid (Ow w.heap.size (.slice B m c2) (askd l a) wr) := by
        simp only [Hid, Ow]
        rw [← hv.1]
        exact hv.2.1
      have HC := Lib.hid (rising_any w.heap.size _ _ wr HOW.out (okas HIN.out) (by have := HM1.out; omega))
      have HB := Lib.hid hv.2.2
      clear hf hv
      go_wp2_with fail
      refine HC.out.mono ?_
      rintro r w5 ⟨v', zs, rfl, ho, hz, hm, hb⟩
      have HRES : Hid (Ow w.heap.size v' zs w5 ∧ zs.Pairwise (· < ·) ∧ (∀ x, x ∈ zs ↔ x ∈ askd l a) ∧ Below w.heap.size w w5) := ⟨ho.base HB.out.size, hz, hm, HB.out.trans (hb.mono HB.out.size)⟩
      clear ho hz hm hb
      go_wp2
      go_ret
      exact ⟨v', zs, rfl, HRES.out⟩
theorem RL.len {xs : List Nat} {w w' : World} {r : Ending} (h : RL xs w r w') (hx : xs.Nodup) : ∃ A c, r = .returned (.slice A xs.length c) ∧ Below w.heap.size w w' := by
  obtain ⟨v, zs, rfl, h1, h2, h3, h4⟩ := h
  obtain ⟨A, c, rfl⟩ := own_form1 h1
  exact ⟨A, c, by rw [len_of (nd_of_lt h2) hx h3], h4⟩
set_option maxHeartbeats 4000000 in
theorem rfull_any (A : Option Addr) (n c a : Nat) (l : List Rw) (w : World) (hn : n = l.length) (hR : Rr w A l) (hl : n ≤ 200) (hI : Inv l) :
    Calls Try.prog 44 #[.slice A n c, u a] w fun r w' => r = .returned (.bool (decide (16 ≤ cw l a))) ∧ Below w.heap.size w w' := by
  obtain ⟨m1, hm1⟩ : ∃ m, m = (fr l a).length := ⟨_, rfl⟩
  obtain ⟨m2, hm2⟩ : ∃ m, m = (whom l 1 a).length := ⟨_, rfl⟩
  obtain ⟨m3, hm3⟩ : ∃ m, m = (askd l a).length := ⟨_, rfl⟩
  have hcw : cw l a = m1 + m2 + m3 := by rw [cw_eq, hm1, hm2, hm3]
  rw [hcw]
  have hb1 := bfr l a
  have hb2 := bwh l 1 a
  have hb3 := bas l a
  have HBD : Hid (m1 ≤ 400 ∧ m2 ≤ 200 ∧ m3 ≤ 200) := ⟨by omega, by omega, by omega⟩
  have H1 : Hid (∀ W, Below w.heap.size w W → Calls Try.prog 28 #[.slice A n c, u a] W fun r w' => ∃ A c, r = .returned (.slice A m1 c) ∧ Below W.heap.size W w') := fun W hW => (rfriends_any A n c a l W hn (hR.below hW) hl hI).mono fun r w' h => by rw [hm1]; exact RL.len h (hI.nd_fr a)
  have H2 : Hid (∀ W, Below w.heap.size w W → Calls Try.prog 29 #[.slice A n c, .int .i64 1, u a] W fun r w' => ∃ A c, r = .returned (.slice A m2 c) ∧ Below W.heap.size W w') := fun W hW => (rto_any A n c 1 a l W hn (hR.below hW) hl hI).mono fun r w' h => by rw [hm2]; exact RL.len h (hI.nd_whom 1 a)
  have H3 : Hid (∀ W, Below w.heap.size w W → Calls Try.prog 30 #[.slice A n c, u a] W fun r w' => ∃ A c, r = .returned (.slice A m3 c) ∧ Below W.heap.size W w') := fun W hW => (rasked_any A n c a l W hn (hR.below hW) hl hI).mono fun r w' h => by rw [hm3]; exact RL.len h (hI.nd_askd a)
  have HB0 : Hid (Below w.heap.size w w) := Below.refl _ _
  clear hcw hm1 hm2 hm3 hb1 hb2 hb3 hn hR hI
  by_cases e : 16 ≤ m1 + m2 + m3
  · have e1 : decide (16 ≤ m1 + m2 + m3) = true := by simp [e]; try omega
    rw [e1]
    have HE := Lib.hid e
    clear e e1
    go_enter Try.func44, Try.ntmps44
    go_wp2_with fail
    refine (H1.out w HB0.out).mono ?_
    rintro r w1 ⟨A1, c1, rfl, g1⟩
    have HB1 := Lib.hid g1
    clear g1
    go_wp2_with fail
    refine (H2.out w1 HB1.out).mono ?_
    rintro r w2 ⟨A2, c2, rfl, g2⟩
    have HB2 : Hid (Below w.heap.size w w2) := HB1.out.trans (g2.mono HB1.out.size)
    clear g2
    go_wp2_with fail
    refine (H3.out w2 HB2.out).mono ?_
    rintro r w3 ⟨A3, c3, rfl, g3⟩
    have HB3 : Hid (Below w.heap.size w w3) := HB2.out.trans (g3.mono HB2.out.size)
    clear g3
    have b1 := HBD.out.1
    have b2 := HBD.out.2.1
    have b3 := HBD.out.2.2
    have n1 : wrap64 ((m1 : Int) + (m2 : Int)) = (m1 : Int) + m2 := IntWalk.wrap64_in _ (by omega)
    have n2 : wrap64 ((m1 : Int) + m2 + (m3 : Int)) = (m1 : Int) + m2 + m3 := IntWalk.wrap64_in _ (by omega)
    have e2 :  (16 : Int) ≤ (m1 : Int) + m2 + m3 := by have := HE.out; omega
    go_wp2
    go_ret
    refine ⟨?_, HB3.out⟩
    first | rfl | (simp; omega)
  · have e1 : decide (16 ≤ m1 + m2 + m3) = false := by simp [e]; try omega
    rw [e1]
    have HE := Lib.hid e
    clear e e1
    go_enter Try.func44, Try.ntmps44
    go_wp2_with fail
    refine (H1.out w HB0.out).mono ?_
    rintro r w1 ⟨A1, c1, rfl, g1⟩
    have HB1 := Lib.hid g1
    clear g1
    go_wp2_with fail
    refine (H2.out w1 HB1.out).mono ?_
    rintro r w2 ⟨A2, c2, rfl, g2⟩
    have HB2 : Hid (Below w.heap.size w w2) := HB1.out.trans (g2.mono HB1.out.size)
    clear g2
    go_wp2_with fail
    refine (H3.out w2 HB2.out).mono ?_
    rintro r w3 ⟨A3, c3, rfl, g3⟩
    have HB3 : Hid (Below w.heap.size w w3) := HB2.out.trans (g3.mono HB2.out.size)
    clear g3
    have b1 := HBD.out.1
    have b2 := HBD.out.2.1
    have b3 := HBD.out.2.2
    have n1 : wrap64 ((m1 : Int) + (m2 : Int)) = (m1 : Int) + m2 := IntWalk.wrap64_in _ (by omega)
    have n2 : wrap64 ((m1 : Int) + m2 + (m3 : Int)) = (m1 : Int) + m2 + m3 := IntWalk.wrap64_in _ (by omega)
    have e2 : ¬ (16 : Int) ≤ (m1 : Int) + m2 + m3 := by have := HE.out; omega
    go_wp2
    go_ret
    refine ⟨?_, HB3.out⟩
    first | rfl | (simp; omega)
end Go.Proofs.Ytohcibmlkngaeaa
