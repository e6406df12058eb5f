/- Ready: the document's Open. -/
import Derived.Test.YtemjmnpclknfaaaRB
import Derived.Test.YtemjmnpclknfaaaQA
namespace Go.Proofs.Ytemjmnpclknfaaa.P
open Go.RowKit
set_option maxRecDepth 20000
set_option linter.unusedVariables false
set_option linter.unusedSimpArgs false

/-- Where the document's rows are. -/
structure Dd (w : World) (R : Nat) (vi : Value) (A : Option Addr) (n : Nat) (L : List Pt) : Prop where
  n : n = L.length
  dr : Dr w R vi A L
  ctx : Ctx w R vi
theorem Dd.after {w w' : World} {R : Nat} {vi : Value} {A : Option Addr} {n : Nat} {L : List Pt} (h : Dd w R vi A n L) (hb : Below w.heap.size w w') : Dd w' R vi A n L := ⟨h.n, h.dr.after hb, h.ctx.size hb.size⟩
def rb (id : Nat) (l : List Nat) (k : Nat) : Bool := decide (okN id ∧ ∀ x ∈ l.take k, okN x)
def tb (L : List Pt) (l : List Nat) : Nat → Bool
  | 0 => false
  | k + 1 => tb L l k || match l[k]? with
    | some x => decide (ofP L x ≠ 0) || decide (x ∈ l.drop (k + 1))
    | none => false
theorem rb_succ {id : Nat} {l : List Nat} {k x : Nat} (h : l[k]? = some x) : rb id l (k + 1) = (rb id l k && decide (okN x)) := by
  unfold rb
  rw [← Bool.decide_and, List.take_add_one, h]
  congr 1
  simp only [Option.toList_some, List.mem_append, List.mem_singleton, eq_iff_iff]
  constructor
  · rintro ⟨a, b⟩
    exact ⟨⟨a, fun y hy => b y (.inl hy)⟩, b x (.inr rfl)⟩
  · rintro ⟨⟨a, b⟩, c⟩
    exact ⟨a, fun y hy => hy.elim (b y) (fun e => e ▸ c)⟩
theorem tb_succ {L : List Pt} {l : List Nat} {k x : Nat} (h : l[k]? = some x) : tb L l (k + 1) = (tb L l k || (decide (ofP L x ≠ 0) || decide (x ∈ l.drop (k + 1)))) := by
  rw [tb, h]
theorem tb_iff {L : List Pt} {l : List Nat} : ∀ k, tb L l k = false ↔ ∀ i, i < k → ∀ x, l[i]? = some x → ofP L x = 0 ∧ x ∉ l.drop (i + 1)
  | 0 => by simp [tb]
  | k + 1 => by
    have ih := tb_iff (L := L) (l := l) k
    cases h : l[k]? with
    | none =>
      rw [tb, h, Bool.or_false, ih]
      constructor
      · intro a i hi x hx
        by_cases e : i = k
        · subst e; rw [h] at hx; cases hx
        · exact a i (by omega) x hx
      · intro a i hi x hx
        exact a i (by omega) x hx
    | some y =>
      rw [tb_succ h, Bool.or_eq_false_iff, ih, Bool.or_eq_false_iff, decide_eq_false_iff_not, decide_eq_false_iff_not]
      constructor
      · rintro ⟨a, b, c⟩ i hi x hx
        by_cases e : i = k
        · subst e
          rw [h] at hx
          obtain rfl := Option.some.inj hx
          exact ⟨by omega, c⟩
        · exact a i (by omega) x hx
      · intro a
        have b := a k (by omega) y h
        exact ⟨fun i hi x hx => a i (by omega) x hx, by omega, b.2⟩
theorem nodup_iff : ∀ (l : List Nat), l.Nodup ↔ ∀ i x, l[i]? = some x → x ∉ l.drop (i + 1)
  | [] => by simp
  | y :: l => by
    rw [List.nodup_cons, nodup_iff l]
    constructor
    · rintro ⟨a, b⟩ i x hx
      cases i with
      | zero =>
        simp at hx
        subst hx
        simpa using a
      | succ i => simpa using b i x (by simpa using hx)
    · intro a
      exact ⟨by simpa using a 0 y (by simp), fun i x hx => by simpa using a (i + 1) x (by simpa using hx)⟩
theorem tb_clash (L : List Pt) (l : List Nat) : tb L l l.length = clashB L l := by
  have h : tb L l l.length = false ↔ clashB L l = false := by
    rw [tb_iff]
    unfold clashB
    rw [decide_eq_false_iff_not, Classical.not_not, nodup_iff]
    constructor
    · intro a
      refine ⟨fun i x hx => (a i (List.getElem?_eq_some_iff.1 hx).1 x hx).2, fun x hx => ?_⟩
      obtain ⟨i, hi⟩ := List.mem_iff_getElem?.1 hx
      exact (a i (List.getElem?_eq_some_iff.1 hi).1 x hi).1
    · rintro ⟨a, b⟩ i _ x hx
      exact ⟨b x (List.mem_of_getElem? hx), a i x hx⟩
  cases h1 : tb L l l.length <;> cases h2 : clashB L l <;> simp_all
theorem rb_bad (id : Nat) (l : List Nat) : rb id l l.length = !badB id l := by
  unfold rb badB
  rw [List.take_of_length_le (Nat.le_refl _)]
  by_cases h : okN id ∧ ∀ x ∈ l, okN x
  · rw [decide_eq_true h, decide_eq_false (Classical.not_not.2 h)]; rfl
  · rw [decide_eq_false h, decide_eq_true h]; rfl
theorem dright_any (x : Nat) (w : World) : Calls Try.prog 71 #[.int .u32 (x : Int)] w fun r w' => r = .returned (.bool (decide (okN x))) ∧ w' = w := by
  by_cases h0 : x = 0
  · subst h0
    go_enter Try.func71, Try.ntmps71
    go_wp2
    go_ret
    exact ⟨rfl, by first | rfl | trivial⟩
  · have h0' : ¬ ((x : Int) = 0) := by omega
    by_cases h1 : x ≤ 2147483647
    · have h1' : (x : Int) ≤ 2147483647 := by omega
      have e : decide (okN x) = true := decide_eq_true ⟨by omega, h1⟩
      rw [e]
      clear e
      go_enter Try.func71, Try.ntmps71
      go_wp2
      go_ret
      exact ⟨by simp <;> omega, by first | rfl | trivial⟩
    · have h1' : ¬ ((x : Int) ≤ 2147483647) := by omega
      have e : decide (okN x) = false := decide_eq_false (fun h => h1 h.2)
      rw [e]
      clear e
      go_enter Try.func71, Try.ntmps71
      go_wp2
      go_ret
      exact ⟨by simp <;> omega, by first | rfl | trivial⟩
def DOpP (R : Nat) (vi : Value) (L' : List Pt) (e : Int) (w : World) (r : Ending) (w' : World) : Prop := ∃ A n c, r = .returned (.tuple #[.slice A n c, .int .i64 e]) ∧ Dd w' R vi A n L' ∧ Below w.heap.size w w'
set_option maxHeartbeats 16000000 in
theorem dopen_any (R : Nat) (vi : Value) (A : Option Addr) (n0 c0 : Nat) (L : List Pt) (most : Int) (id : Nat) (t : Int) (PA : Option Addr) (n c : Nat) (l : List Nat) (w : World) (h : Dd w R vi A n0 L) (hr : Ris L) (hl : n0 ≤ 100) (hms : ∀ e ∈ L, e.mem.length ≤ 100) (hmo : 0 ≤ most ∧ most ≤ 1000) (hn : n = l.length) (hE : Rn w PA l) (hnl : n ≤ 100) (hc : n ≤ c) :
    Calls Try.prog 34 #[.slice A n0 c0, .int .i64 most, .int .u32 (id : Int), .int .i64 t, .slice PA n c] w fun r w' => DOpP R vi (openL most L id t l) (openE most L id l) w r w' := by
  have HD := Lib.hid h
  have HR := Lib.hid hr
  have HL0 : Hid (n0 = L.length ∧ n0 ≤ 100) := ⟨h.n, hl⟩
  have HN := Lib.hid hn
  have HE := Lib.hid hE
  have HMO := Lib.hid hmo
  have HR0 : Hid (Calls Try.prog 71 #[.int .u32 (id : Int)] w fun r w' => r = .returned (.bool (rb id l 0)) ∧ w' = w) := (dright_any id w).mono fun r w' ⟨h1, h2⟩ => ⟨by rw [h1]; unfold rb; simp, h2⟩
  have HOFA : Hid (∀ (x : Nat) (W : World), Below w.heap.size w W → Calls Try.prog 14 #[.slice A n0 c0, .int .u32 (x : Int)] W fun r w' => r = .returned (.int .u32 (ofP L x : Int)) ∧ w' = W) := fun x W hW => dof_any R vi A n0 c0 L x W h.n (h.dr.after hW) hl hms
  have HBr : Hid (Below w.heap.size w w) := Below.refl _ _
  have HGN : Hid (getP L id = none → ∀ W, Below w.heap.size w W → Calls Try.prog 11 #[.slice A n0 c0, .int .u32 (id : Int)] W fun r w' => r = .returned (.tuple #[.agg dZ, .bool false]) ∧ Below W.heap.size W w') := fun hg W hW => dget_none R vi A n0 c0 L id W h.n (h.dr.after hW) hl hg
  have HGS : Hid (∀ g, getP L id = some g → ∀ W, Below w.heap.size w W → Calls Try.prog 11 #[.slice A n0 c0, .int .u32 (id : Int)] W fun r w' => DGetP R vi g W r w') := fun g hg W hW => dget_some R vi A n0 c0 L id g W h.n (h.dr.after hW) hl hg
  clear h hr hl hms hmo hn hE
  go_enter Try.func34, Try.ntmps34
  go_wp2_with fail
  refine HR0.out.mono ?_
  rintro r wq ⟨rfl, hw⟩
  have hw := hw.symm
  subst hw
  go_wp2_with fail
  go_loopw [12, 13, 14] (fun r12 t13 u wr => ∃ k : Nat, k ≤ n ∧ r12 = .bool (rb id l k) ∧ t13 = .bool (tb L l k) ∧ u = .int .i64 (k : Int) ∧ Hid (Below w.heap.size w wr)) (fun _ _ u _ => n - (intOf u).toNat)
  case atStart => exact ⟨0, by omega, rfl, rfl, rfl, HBr.out⟩
  case round =>
    obtain ⟨k, hk, rfl, rfl, rfl, HV⟩ := hrel
    by_cases hlt : k < n
    · obtain ⟨x, hx⟩ : ∃ x, l[k]? = some x := ⟨l[k]'(by rw [← HN.out]; exact hlt), List.getElem?_eq_getElem _⟩
      obtain ⟨b, o, rfl, hb, hcc⟩ := HE.out (by have := HN.out; omega)
      have d0 := (HV.out.cell (p := ⟨b, _, none⟩) hb).trans (hcc k x hx)
      have HRX := Lib.hid (dright_any x wr)
      have HRS := Lib.hid (rb_succ (id := id) hx)
      have HTS := Lib.hid (tb_succ (L := L) hx)
      have HCE : Hid (∀ W, Below wr.heap.size wr W → (fun W : World => W.cell? ⟨b, o + k, none⟩ = some (.int .u32 (x : Int))) W) := fun W hW => ((HV.out.trans (hW.mono HV.out.size)).cell (p := ⟨b, _, none⟩) hb).trans (hcc k x hx)
      have HRF : Hid (Below wr.heap.size wr wr) := Below.refl _ _
      have HWR : Hid (IntKind.i64.wrap ((k : Int) + 1) = ((k + 1 : Nat) : Int)) := by simp only [Hid]; rw [IntKind.wrap_i64]; omega
      have HHA0 : Hid (∀ W, Below wr.heap.size wr W → Calls Try.prog 42 #[.slice (if c = k + 1 then some ⟨b, o, none⟩ else some ⟨b, o + (k + 1), none⟩) (n - (k + 1)) (c - (k + 1)), .int .u32 (x : Int)] W fun r w' => r = .returned (.bool (decide (x ∈ l.drop (k + 1)))) ∧ Below W.heap.size W w') := fun W hW => (has_any (if c = k + 1 then some ⟨b, o, none⟩ else some ⟨b, o + (k + 1), none⟩) (n - (k + 1)) (c - (k + 1)) (l.drop (k + 1)) x W (by rw [List.length_drop, ← HN.out]) (fun hdl => ⟨b, o + (k + 1), by rw [if_neg (by rw [List.length_drop, ← HN.out] at hdl; omega)], Nat.lt_of_lt_of_le hb (HV.out.trans (hW.mono HV.out.size)).size, fun j y hj => by
        rw [List.getElem?_drop] at hj
        have := ((HV.out.trans (hW.mono HV.out.size)).cell (p := ⟨b, o + (k + 1 + j), none⟩) hb).trans (hcc (k + 1 + j) y hj)
        rw [show o + (k + 1) + j = o + (k + 1 + j) by omega]
        exact this⟩) (by omega)).mono fun r w' ⟨h1, h2⟩ => ⟨h1, by rw [h2]; exact Below.refl _ _⟩
      have HOF0 : Hid (∀ W, Below wr.heap.size wr W → Calls Try.prog 14 #[.slice A n0 c0, .int .u32 (x : Int)] W fun r w' => r = .returned (.int .u32 (ofP L x : Int)) ∧ Below W.heap.size W w') := fun W hW => (HOFA.out x W (HV.out.trans (hW.mono HV.out.size))).mono fun r w' ⟨h1, h2⟩ => ⟨h1, by rw [h2]; exact Below.refl _ _⟩
      obtain ⟨rr, hrr⟩ : ∃ b, b = rb id l k := ⟨_, rfl⟩
      obtain ⟨r2, hr2⟩ : ∃ b, b = rb id l (k + 1) := ⟨_, rfl⟩
      obtain ⟨tt, htt⟩ : ∃ b, b = tb L l k := ⟨_, rfl⟩
      rw [← hrr, ← htt]
      rw [← hrr, ← hr2] at HRS
      rw [← htt] at HTS
      have HRK := Lib.hid hr2.symm
      have HTT := Lib.hid htt
      clear hrr hr2 htt hx hcc hb
      go_upto_region 5 with (fail)
      go_cut [12] (fun v wx => v = .bool r2 ∧ wx = wr)
      case first =>
        cases rr
        · have e : r2 = false := by rw [HRS.out]; rfl
          subst e
          go_wp2_with fail
          go_meet
          case rel => exact ⟨rfl, rfl⟩
        · obtain ⟨q, hq⟩ : ∃ q, q = decide (okN x) := ⟨_, rfl⟩
          have hh := HRX.out
          rw [← hq] at hh
          have e : r2 = q := by rw [HRS.out, hq]; rfl
          subst e
          have HX := Lib.hid hh
          clear hh hq
          go_wp2_with fail
          refine HX.out.mono ?_
          rintro r wq ⟨rfl, hw⟩
          have hw := hw.symm
          subst hw
          go_wp2_with fail
          go_meet
          case rel => exact ⟨by rfl, rfl⟩
      case rest =>
        obtain ⟨rfl, rfl⟩ := hcut
        rename World => wr
        clear d0
        go_upto_region 6 with (fail)
        cases tt
        · by_cases ho : ofP L x = 0
          · obtain ⟨q, hq⟩ : ∃ q, q = decide (x ∈ l.drop (k + 1)) := ⟨_, rfl⟩
            have HTK : Hid (tb L l (k + 1) = q) := by simp only [Hid]; rw [HTS.out, hq]; simp [ho]
            have HHA := HHA0
            rw [← hq] at HHA
            have HOF := HOF0
            rw [ho] at HOF
            clear ho hq
            have HDc : Hid (Below wr.heap.size wr wr.drew) := HRF.out.drew
            refine wp_region_held_drew (S := fun W : World => W.cell? ⟨b, o + k, none⟩ = some (.int .u32 (x : Int))) (by kernel_rfl) (HCE.out _ (HDc.out)) (fun hHeld => ?_)
            obtain ⟨Wc0, hW0⟩ : ∃ W0, W0 = wr.drew := ⟨_, rfl⟩
            rw [← hW0] at hHeld HDc ⊢
            clear hW0
            refine wpAnyH_take (i := 0) (oi := ?oi0c) (v := ?v0c) ?hi0c ?hs0c ?hf0c ?hr0c ?hQ0c ?hy0c ?hS0c ?h0c
            case hi0c => exact (by simp only [List.getElem?_toArray, List.getElem?_cons_zero]; rfl)
            case hs0c => kernel_rfl
            case hf0c => kernel_rfl
            case hr0c => kernel_rfl
            case hQ0c => exact fun _ _ _ h => h
            case hy0c =>
              refine Or.inl ⟨rfl, ?_⟩
              intro W hSw
              go_simp
              try with_reducible rfl
            case hS0c => assumption
            try simp only [Act.put, List.setIfInBounds_toArray, List.set_cons_zero, List.set_cons_succ]
            refine wpAnyH_take (i := 1) (oi := ?oi1c) (v := ?v1c) ?hi1c ?hs1c ?hf1c ?hr1c ?hQ1c ?hy1c ?hS1c ?h1c
            case hi1c => exact (by simp only [List.getElem?_toArray, List.getElem?_cons_succ, List.getElem?_cons_zero]; rfl)
            case hs1c => kernel_rfl
            case hf1c => kernel_rfl
            case hr1c => kernel_rfl
            case hQ1c => exact fun _ _ _ h => h
            case hy1c =>
              refine Or.inl ⟨rfl, ?_⟩
              intro W hSw
              go_simp
              try with_reducible rfl
            case hS1c => assumption
            try simp only [Act.put, List.setIfInBounds_toArray, List.set_cons_zero, List.set_cons_succ]
            refine wpAnyH_take (i := 2) (oi := ?oi2c) (v := ?v2c) ?hi2c ?hs2c ?hf2c ?hr2c ?hQ2c ?hy2c ?hS2c ?h2c
            case hi2c => exact (by simp only [List.getElem?_toArray, List.getElem?_cons_succ, List.getElem?_cons_zero]; rfl)
            case hs2c => kernel_rfl
            case hf2c => kernel_rfl
            case hr2c => kernel_rfl
            case hQ2c => exact fun _ _ _ h => h
            case hy2c =>
              refine Or.inl ⟨rfl, ?_⟩
              intro W hSw
              go_simp
              try with_reducible rfl
            case hS2c => assumption
            try simp only [Act.put, List.setIfInBounds_toArray, List.set_cons_zero, List.set_cons_succ]
            refine wpAnyH_take (i := 3) (oi := ?oi3c) (v := ?v3c) ?hi3c ?hs3c ?hf3c ?hr3c ?hQ3c ?hy3c ?hS3c ?h3c
            case hi3c => exact (by simp only [List.getElem?_toArray, List.getElem?_cons_succ, List.getElem?_cons_zero]; rfl)
            case hs3c => kernel_rfl
            case hf3c => kernel_rfl
            case hr3c => kernel_rfl
            case hQ3c => exact fun _ _ _ h => h
            case hy3c =>
              refine Or.inl ⟨rfl, ?_⟩
              intro W hSw
              go_simp
              try with_reducible rfl
            case hS3c => assumption
            try simp only [Act.put, List.setIfInBounds_toArray, List.set_cons_zero, List.set_cons_succ]
            refine wpAnyH_take (i := 4) (oi := ?oi4c) (v := ?v4c) ?hi4c ?hs4c ?hf4c ?hr4c ?hQ4c ?hy4c ?hS4c ?h4c
            case hi4c => exact (by simp only [List.getElem?_toArray, List.getElem?_cons_succ, List.getElem?_cons_zero]; rfl)
            case hs4c => kernel_rfl
            case hf4c => kernel_rfl
            case hr4c => kernel_rfl
            case hQ4c => exact fun _ _ _ h => h
            case hy4c =>
              refine Or.inl ⟨rfl, ?_⟩
              intro W hSw
              go_simp
              try with_reducible rfl
            case hS4c => assumption
            try simp only [Act.put, List.setIfInBounds_toArray, List.set_cons_zero, List.set_cons_succ]
            refine wpAnyH_take (i := 5) (oi := ?oi5c) (v := ?v5c) ?hi5c ?hs5c ?hf5c ?hr5c ?hQ5c ?hy5c ?hS5c ?h5c
            case hi5c => exact (by simp only [List.getElem?_toArray, List.getElem?_cons_succ, List.getElem?_cons_zero]; rfl)
            case hs5c => kernel_rfl
            case hf5c => kernel_rfl
            case hr5c => kernel_rfl
            case hQ5c => exact fun _ _ _ h => h
            case hy5c =>
              refine Or.inl ⟨rfl, ?_⟩
              intro W hSw
              go_simp
              try with_reducible rfl
            case hS5c => assumption
            try simp only [Act.put, List.setIfInBounds_toArray, List.set_cons_zero, List.set_cons_succ]
            refine wpAnyH_take (i := 6) (oi := ?oi6c) (v := ?v6c) ?hi6c ?hs6c ?hf6c ?hr6c ?hQ6c ?hy6c ?hS6c ?h6c
            case hi6c => exact (by simp only [List.getElem?_toArray, List.getElem?_cons_succ, List.getElem?_cons_zero]; rfl)
            case hs6c => kernel_rfl
            case hf6c => kernel_rfl
            case hr6c => kernel_rfl
            case hQ6c => exact fun _ _ _ h => h
            case hy6c =>
              refine Or.inl ⟨rfl, ?_⟩
              intro W hSw
              go_simp
              try with_reducible rfl
            case hS6c => assumption
            try simp only [Act.put, List.setIfInBounds_toArray, List.set_cons_zero, List.set_cons_succ]
            refine wpAnyH_ready (rs := [7]) (by kernel_rfl) (by simp) ?_
            refine AllReadyH.cons (o := _) rfl (fun K hK => ?_) AllReadyH.nil
            go_simp
            refine ((HOF.out Wc0 HDc.out)).mono ?_
            rintro r Wc1 ⟨rfl, hbq⟩
            have HBc1 := Lib.hid (HDc.out.trans (hbq.mono HDc.out.size))
            clear hbq
            refine hK.out _ _ (HCE.out _ (HBc1.out)) (fun hHeld => ?_)
            clear hK K
            try simp only [Act.put, List.setIfInBounds_toArray, List.set_cons_zero, List.set_cons_succ]
            refine wpAnyH_take (i := 8) (oi := ?oi8c) (v := (.bool false)) ?hi8c ?hs8c ?hf8c ?hr8c ?hQ8c ?hy8c ?hS8c ?h8c
            case hi8c => exact (by simp only [List.getElem?_toArray, List.getElem?_cons_succ, List.getElem?_cons_zero]; rfl)
            case hs8c => kernel_rfl
            case hf8c => kernel_rfl
            case hr8c => kernel_rfl
            case hQ8c => exact fun _ _ _ h => h
            case hy8c =>
              refine Or.inl ⟨rfl, ?_⟩
              intro W hSw
              go_simp
              try simp
            case hS8c => assumption
            try simp only [Act.put, List.setIfInBounds_toArray, List.set_cons_zero, List.set_cons_succ]
            refine wpAnyH_take (i := 9) (oi := ?oi9c) (v := ?v9c) ?hi9c ?hs9c ?hf9c ?hr9c ?hQ9c ?hy9c ?hS9c ?h9c
            case hi9c => exact (by simp only [List.getElem?_toArray, List.getElem?_cons_succ, List.getElem?_cons_zero]; rfl)
            case hs9c => kernel_rfl
            case hf9c => kernel_rfl
            case hr9c => kernel_rfl
            case hQ9c => exact fun _ _ _ h => h
            case hy9c =>
              refine Or.inl ⟨rfl, ?_⟩
              intro W hSw
              go_simp
              try with_reducible rfl
            case hS9c => assumption
            try simp only [Act.put, List.setIfInBounds_toArray, List.set_cons_zero, List.set_cons_succ]
            refine wpAnyH_take (i := 10) (oi := ?oi10c) (v := ?v10c) ?hi10c ?hs10c ?hf10c ?hr10c ?hQ10c ?hy10c ?hS10c ?h10c
            case hi10c => exact (by simp only [List.getElem?_toArray, List.getElem?_cons_succ, List.getElem?_cons_zero]; rfl)
            case hs10c => kernel_rfl
            case hf10c => kernel_rfl
            case hr10c => kernel_rfl
            case hQ10c => exact fun _ _ _ h => h
            case hy10c =>
              refine Or.inl ⟨rfl, ?_⟩
              intro W hSw
              go_simp
              try with_reducible rfl
            case hS10c => assumption
            try simp only [Act.put, List.setIfInBounds_toArray, List.set_cons_zero, List.set_cons_succ]
            refine wpAnyH_take (i := 11) (oi := ?oi11c) (v := ?v11c) ?hi11c ?hs11c ?hf11c ?hr11c ?hQ11c ?hy11c ?hS11c ?h11c
            case hi11c => exact (by simp only [List.getElem?_toArray, List.getElem?_cons_succ, List.getElem?_cons_zero]; rfl)
            case hs11c => kernel_rfl
            case hf11c => kernel_rfl
            case hr11c => kernel_rfl
            case hQ11c => exact fun _ _ _ h => h
            case hy11c =>
              refine Or.inl ⟨rfl, ?_⟩
              intro W hSw
              go_simp
              try with_reducible rfl
            case hS11c => assumption
            try simp only [Act.put, List.setIfInBounds_toArray, List.set_cons_zero, List.set_cons_succ]
            refine wpAnyH_take (i := 12) (oi := ?oi12c) (v := ?v12c) ?hi12c ?hs12c ?hf12c ?hr12c ?hQ12c ?hy12c ?hS12c ?h12c
            case hi12c => exact (by simp only [List.getElem?_toArray, List.getElem?_cons_succ, List.getElem?_cons_zero]; rfl)
            case hs12c => kernel_rfl
            case hf12c => kernel_rfl
            case hr12c => kernel_rfl
            case hQ12c => exact fun _ _ _ h => h
            case hy12c =>
              refine Or.inl ⟨rfl, ?_⟩
              intro W hSw
              go_simp
              try with_reducible rfl
            case hS12c => assumption
            try simp only [Act.put, List.setIfInBounds_toArray, List.set_cons_zero, List.set_cons_succ]
            refine wpAnyH_take (i := 13) (oi := ?oi13c) (v := ?v13c) ?hi13c ?hs13c ?hf13c ?hr13c ?hQ13c ?hy13c ?hS13c ?h13c
            case hi13c => exact (by simp only [List.getElem?_toArray, List.getElem?_cons_succ, List.getElem?_cons_zero]; rfl)
            case hs13c => kernel_rfl
            case hf13c => kernel_rfl
            case hr13c => kernel_rfl
            case hQ13c => exact fun _ _ _ h => h
            case hy13c =>
              refine Or.inl ⟨rfl, ?_⟩
              intro W hSw
              go_simp
              try with_reducible rfl
            case hS13c => assumption
            try simp only [Act.put, List.setIfInBounds_toArray, List.set_cons_zero, List.set_cons_succ]
            refine wpAnyH_take (i := 14) (oi := ?oi14c) (v := (.slice (if c = k + 1 then some ⟨b, o, none⟩ else some ⟨b, o + (k + 1), none⟩) (n - (k + 1)) (c - (k + 1)))) ?hi14c ?hs14c ?hf14c ?hr14c ?hQ14c ?hy14c ?hS14c ?h14c
            case hi14c => exact (by simp only [List.getElem?_toArray, List.getElem?_cons_succ, List.getElem?_cons_zero]; rfl)
            case hs14c => kernel_rfl
            case hf14c => kernel_rfl
            case hr14c => kernel_rfl
            case hQ14c => exact fun _ _ _ h => h
            case hy14c =>
              refine Or.inl ⟨rfl, ?_⟩
              intro W hSw
              go_simp
              rw [HWR.out, if_pos (by omega)]
              simp
            case hS14c => assumption
            try simp only [Act.put, List.setIfInBounds_toArray, List.set_cons_zero, List.set_cons_succ]
            refine wpAnyH_take (i := 15) (oi := ?oi15c) (v := ?v15c) ?hi15c ?hs15c ?hf15c ?hr15c ?hQ15c ?hy15c ?hS15c ?h15c
            case hi15c => exact (by simp only [List.getElem?_toArray, List.getElem?_cons_succ, List.getElem?_cons_zero]; rfl)
            case hs15c => kernel_rfl
            case hf15c => kernel_rfl
            case hr15c => kernel_rfl
            case hQ15c => exact fun _ _ _ h => h
            case hy15c =>
              refine Or.inl ⟨rfl, ?_⟩
              intro W hSw
              go_simp
              try with_reducible rfl
            case hS15c => assumption
            try simp only [Act.put, List.setIfInBounds_toArray, List.set_cons_zero, List.set_cons_succ]
            refine wpAnyH_take (i := 16) (oi := ?oi16c) (v := ?v16c) ?hi16c ?hs16c ?hf16c ?hr16c ?hQ16c ?hy16c ?hS16c ?h16c
            case hi16c => exact (by simp only [List.getElem?_toArray, List.getElem?_cons_succ, List.getElem?_cons_zero]; rfl)
            case hs16c => kernel_rfl
            case hf16c => kernel_rfl
            case hr16c => kernel_rfl
            case hQ16c => exact fun _ _ _ h => h
            case hy16c =>
              refine Or.inl ⟨rfl, ?_⟩
              intro W hSw
              go_simp
              try with_reducible rfl
            case hS16c => assumption
            try simp only [Act.put, List.setIfInBounds_toArray, List.set_cons_zero, List.set_cons_succ]
            refine wpAnyH_take (i := 17) (oi := ?oi17c) (v := ?v17c) ?hi17c ?hs17c ?hf17c ?hr17c ?hQ17c ?hy17c ?hS17c ?h17c
            case hi17c => exact (by simp only [List.getElem?_toArray, List.getElem?_cons_succ, List.getElem?_cons_zero]; rfl)
            case hs17c => kernel_rfl
            case hf17c => kernel_rfl
            case hr17c => kernel_rfl
            case hQ17c => exact fun _ _ _ h => h
            case hy17c =>
              refine Or.inl ⟨rfl, ?_⟩
              intro W hSw
              go_simp
              try with_reducible rfl
            case hS17c => assumption
            try simp only [Act.put, List.setIfInBounds_toArray, List.set_cons_zero, List.set_cons_succ]
            refine wpAnyH_take (i := 18) (oi := ?oi18c) (v := ?v18c) ?hi18c ?hs18c ?hf18c ?hr18c ?hQ18c ?hy18c ?hS18c ?h18c
            case hi18c => exact (by simp only [List.getElem?_toArray, List.getElem?_cons_succ, List.getElem?_cons_zero]; rfl)
            case hs18c => kernel_rfl
            case hf18c => kernel_rfl
            case hr18c => kernel_rfl
            case hQ18c => exact fun _ _ _ h => h
            case hy18c =>
              refine Or.inl ⟨rfl, ?_⟩
              intro W hSw
              go_simp
              try with_reducible rfl
            case hS18c => assumption
            try simp only [Act.put, List.setIfInBounds_toArray, List.set_cons_zero, List.set_cons_succ]
            refine wpAnyH_ready (rs := [19]) (by kernel_rfl) (by simp) ?_
            refine AllReadyH.cons (o := _) rfl (fun K hK => ?_) AllReadyH.nil
            go_simp
            refine ((HHA.out Wc1 HBc1.out)).mono ?_
            rintro r Wc2 ⟨rfl, hbq⟩
            have HBc2 := Lib.hid (HBc1.out.trans (hbq.mono HBc1.out.size))
            clear hbq
            refine hK.out _ _ (HCE.out _ (HBc2.out)) (fun hHeld => ?_)
            clear hK K
            try simp only [Act.put, List.setIfInBounds_toArray, List.set_cons_zero, List.set_cons_succ]
            refine wpAnyH_take (i := 20) (oi := ?oi20c) (v := ?v20c) ?hi20c ?hs20c ?hf20c ?hr20c ?hQ20c ?hy20c ?hS20c ?h20c
            case hi20c => exact (by simp only [List.getElem?_toArray, List.getElem?_cons_succ, List.getElem?_cons_zero]; rfl)
            case hs20c => kernel_rfl
            case hf20c => kernel_rfl
            case hr20c => kernel_rfl
            case hQ20c => exact fun _ _ _ h => h
            case hy20c =>
              refine Or.inl ⟨rfl, ?_⟩
              intro W hSw
              go_simp
              try with_reducible rfl
            case hS20c => assumption
            try simp only [Act.put, List.setIfInBounds_toArray, List.set_cons_zero, List.set_cons_succ]
            refine wpAnyH_take (i := 21) (oi := ?oi21c) (v := ?v21c) ?hi21c ?hs21c ?hf21c ?hr21c ?hQ21c ?hy21c ?hS21c ?h21c
            case hi21c => exact (by simp only [List.getElem?_toArray, List.getElem?_cons_succ, List.getElem?_cons_zero]; rfl)
            case hs21c => kernel_rfl
            case hf21c => kernel_rfl
            case hr21c => kernel_rfl
            case hQ21c => exact fun _ _ _ h => h
            case hy21c =>
              refine Or.inl ⟨rfl, ?_⟩
              intro W hSw
              go_simp
              try with_reducible rfl
            case hS21c => assumption
            try simp only [Act.put, List.setIfInBounds_toArray, List.set_cons_zero, List.set_cons_succ]
            refine wpAnyH_done (by kernel_rfl) ?_ _
            have HBW : Hid (Below w.heap.size w Wc2) := HV.out.trans (HBc2.out.mono HV.out.size)
            go_wp2_with fail
            go_roundw
            case rel => exact ⟨k + 1, by omega, by rw [HRK.out], by rw [HTK.out], by go_num, HBW.out⟩
            case measure => simp [intOf] <;> omega
          · have HTK : Hid (tb L l (k + 1) = true) := by simp only [Hid]; rw [HTS.out]; simp [ho]
            obtain ⟨z, hz⟩ : ∃ z, z = ofP L x := ⟨_, rfl⟩
            have HOF := HOF0
            rw [← hz] at HOF ho
            have hoz : ¬ (z = 0) := ho
            clear ho hz
            have HDb : Hid (Below wr.heap.size wr wr.drew) := HRF.out.drew
            refine wp_region_held_drew (S := fun W : World => W.cell? ⟨b, o + k, none⟩ = some (.int .u32 (x : Int))) (by kernel_rfl) (HCE.out _ (HDb.out)) (fun hHeld => ?_)
            obtain ⟨Wb0, hW0⟩ : ∃ W0, W0 = wr.drew := ⟨_, rfl⟩
            rw [← hW0] at hHeld HDb ⊢
            clear hW0
            refine wpAnyH_take (i := 0) (oi := ?oi0b) (v := ?v0b) ?hi0b ?hs0b ?hf0b ?hr0b ?hQ0b ?hy0b ?hS0b ?h0b
            case hi0b => exact (by simp only [List.getElem?_toArray, List.getElem?_cons_zero]; rfl)
            case hs0b => kernel_rfl
            case hf0b => kernel_rfl
            case hr0b => kernel_rfl
            case hQ0b => exact fun _ _ _ h => h
            case hy0b =>
              refine Or.inl ⟨rfl, ?_⟩
              intro W hSw
              go_simp
              try with_reducible rfl
            case hS0b => assumption
            try simp only [Act.put, List.setIfInBounds_toArray, List.set_cons_zero, List.set_cons_succ]
            refine wpAnyH_take (i := 1) (oi := ?oi1b) (v := ?v1b) ?hi1b ?hs1b ?hf1b ?hr1b ?hQ1b ?hy1b ?hS1b ?h1b
            case hi1b => exact (by simp only [List.getElem?_toArray, List.getElem?_cons_succ, List.getElem?_cons_zero]; rfl)
            case hs1b => kernel_rfl
            case hf1b => kernel_rfl
            case hr1b => kernel_rfl
            case hQ1b => exact fun _ _ _ h => h
            case hy1b =>
              refine Or.inl ⟨rfl, ?_⟩
              intro W hSw
              go_simp
              try with_reducible rfl
            case hS1b => assumption
            try simp only [Act.put, List.setIfInBounds_toArray, List.set_cons_zero, List.set_cons_succ]
            refine wpAnyH_take (i := 2) (oi := ?oi2b) (v := ?v2b) ?hi2b ?hs2b ?hf2b ?hr2b ?hQ2b ?hy2b ?hS2b ?h2b
            case hi2b => exact (by simp only [List.getElem?_toArray, List.getElem?_cons_succ, List.getElem?_cons_zero]; rfl)
            case hs2b => kernel_rfl
            case hf2b => kernel_rfl
            case hr2b => kernel_rfl
            case hQ2b => exact fun _ _ _ h => h
            case hy2b =>
              refine Or.inl ⟨rfl, ?_⟩
              intro W hSw
              go_simp
              try with_reducible rfl
            case hS2b => assumption
            try simp only [Act.put, List.setIfInBounds_toArray, List.set_cons_zero, List.set_cons_succ]
            refine wpAnyH_take (i := 3) (oi := ?oi3b) (v := ?v3b) ?hi3b ?hs3b ?hf3b ?hr3b ?hQ3b ?hy3b ?hS3b ?h3b
            case hi3b => exact (by simp only [List.getElem?_toArray, List.getElem?_cons_succ, List.getElem?_cons_zero]; rfl)
            case hs3b => kernel_rfl
            case hf3b => kernel_rfl
            case hr3b => kernel_rfl
            case hQ3b => exact fun _ _ _ h => h
            case hy3b =>
              refine Or.inl ⟨rfl, ?_⟩
              intro W hSw
              go_simp
              try with_reducible rfl
            case hS3b => assumption
            try simp only [Act.put, List.setIfInBounds_toArray, List.set_cons_zero, List.set_cons_succ]
            refine wpAnyH_take (i := 4) (oi := ?oi4b) (v := ?v4b) ?hi4b ?hs4b ?hf4b ?hr4b ?hQ4b ?hy4b ?hS4b ?h4b
            case hi4b => exact (by simp only [List.getElem?_toArray, List.getElem?_cons_succ, List.getElem?_cons_zero]; rfl)
            case hs4b => kernel_rfl
            case hf4b => kernel_rfl
            case hr4b => kernel_rfl
            case hQ4b => exact fun _ _ _ h => h
            case hy4b =>
              refine Or.inl ⟨rfl, ?_⟩
              intro W hSw
              go_simp
              try with_reducible rfl
            case hS4b => assumption
            try simp only [Act.put, List.setIfInBounds_toArray, List.set_cons_zero, List.set_cons_succ]
            refine wpAnyH_take (i := 5) (oi := ?oi5b) (v := ?v5b) ?hi5b ?hs5b ?hf5b ?hr5b ?hQ5b ?hy5b ?hS5b ?h5b
            case hi5b => exact (by simp only [List.getElem?_toArray, List.getElem?_cons_succ, List.getElem?_cons_zero]; rfl)
            case hs5b => kernel_rfl
            case hf5b => kernel_rfl
            case hr5b => kernel_rfl
            case hQ5b => exact fun _ _ _ h => h
            case hy5b =>
              refine Or.inl ⟨rfl, ?_⟩
              intro W hSw
              go_simp
              try with_reducible rfl
            case hS5b => assumption
            try simp only [Act.put, List.setIfInBounds_toArray, List.set_cons_zero, List.set_cons_succ]
            refine wpAnyH_take (i := 6) (oi := ?oi6b) (v := ?v6b) ?hi6b ?hs6b ?hf6b ?hr6b ?hQ6b ?hy6b ?hS6b ?h6b
            case hi6b => exact (by simp only [List.getElem?_toArray, List.getElem?_cons_succ, List.getElem?_cons_zero]; rfl)
            case hs6b => kernel_rfl
            case hf6b => kernel_rfl
            case hr6b => kernel_rfl
            case hQ6b => exact fun _ _ _ h => h
            case hy6b =>
              refine Or.inl ⟨rfl, ?_⟩
              intro W hSw
              go_simp
              try with_reducible rfl
            case hS6b => assumption
            try simp only [Act.put, List.setIfInBounds_toArray, List.set_cons_zero, List.set_cons_succ]
            refine wpAnyH_ready (rs := [7]) (by kernel_rfl) (by simp) ?_
            refine AllReadyH.cons (o := _) rfl (fun K hK => ?_) AllReadyH.nil
            go_simp
            refine ((HOF.out Wb0 HDb.out)).mono ?_
            rintro r Wb1 ⟨rfl, hbq⟩
            have HBb1 := Lib.hid (HDb.out.trans (hbq.mono HDb.out.size))
            clear hbq
            refine hK.out _ _ (HCE.out _ (HBb1.out)) (fun hHeld => ?_)
            clear hK K
            try simp only [Act.put, List.setIfInBounds_toArray, List.set_cons_zero, List.set_cons_succ]
            refine wpAnyH_take (i := 8) (oi := ?oi8b) (v := (.bool true)) ?hi8b ?hs8b ?hf8b ?hr8b ?hQ8b ?hy8b ?hS8b ?h8b
            case hi8b => exact (by simp only [List.getElem?_toArray, List.getElem?_cons_succ, List.getElem?_cons_zero]; rfl)
            case hs8b => kernel_rfl
            case hf8b => kernel_rfl
            case hr8b => kernel_rfl
            case hQ8b => exact fun _ _ _ h => h
            case hy8b =>
              refine Or.inl ⟨rfl, ?_⟩
              intro W hSw
              go_simp
              try simp [hoz]
            case hS8b => assumption
            try simp only [Act.put, List.setIfInBounds_toArray, List.set_cons_zero, List.set_cons_succ]
            refine wpAnyH_take (i := 9) (oi := ?oi9b) (v := ?v9b) ?hi9b ?hs9b ?hf9b ?hr9b ?hQ9b ?hy9b ?hS9b ?h9b
            case hi9b => exact (by simp only [List.getElem?_toArray, List.getElem?_cons_succ, List.getElem?_cons_zero]; rfl)
            case hs9b => kernel_rfl
            case hf9b => kernel_rfl
            case hr9b => kernel_rfl
            case hQ9b => exact fun _ _ _ h => h
            case hy9b =>
              refine Or.inl ⟨rfl, ?_⟩
              intro W hSw
              go_simp
              try with_reducible rfl
            case hS9b => assumption
            try simp only [Act.put, List.setIfInBounds_toArray, List.set_cons_zero, List.set_cons_succ]
            refine wpAnyH_take (i := 10) (oi := ?oi10b) (v := ?v10b) ?hi10b ?hs10b ?hf10b ?hr10b ?hQ10b ?hy10b ?hS10b ?h10b
            case hi10b => exact (by simp only [List.getElem?_toArray, List.getElem?_cons_succ, List.getElem?_cons_zero]; rfl)
            case hs10b => kernel_rfl
            case hf10b => kernel_rfl
            case hr10b => kernel_rfl
            case hQ10b => exact fun _ _ _ h => h
            case hy10b =>
              refine Or.inl ⟨rfl, ?_⟩
              intro W hSw
              go_simp
              try with_reducible rfl
            case hS10b => assumption
            try simp only [Act.put, List.setIfInBounds_toArray, List.set_cons_zero, List.set_cons_succ]
            refine wpAnyH_take (i := 11) (oi := ?oi11b) (v := undef) ?hi11b ?hs11b ?hf11b ?hr11b ?hQ11b ?hy11b ?hS11b ?h11b
            case hi11b => exact (by simp only [List.getElem?_toArray, List.getElem?_cons_succ, List.getElem?_cons_zero]; rfl)
            case hs11b => kernel_rfl
            case hf11b => kernel_rfl
            case hr11b => kernel_rfl
            case hQ11b => exact fun _ _ _ h => h
            case hy11b =>
              exact Or.inr ⟨rfl, rfl⟩
            case hS11b => assumption
            try simp only [Act.put, List.setIfInBounds_toArray, List.set_cons_zero, List.set_cons_succ]
            refine wpAnyH_take (i := 12) (oi := ?oi12b) (v := undef) ?hi12b ?hs12b ?hf12b ?hr12b ?hQ12b ?hy12b ?hS12b ?h12b
            case hi12b => exact (by simp only [List.getElem?_toArray, List.getElem?_cons_succ, List.getElem?_cons_zero]; rfl)
            case hs12b => kernel_rfl
            case hf12b => kernel_rfl
            case hr12b => kernel_rfl
            case hQ12b => exact fun _ _ _ h => h
            case hy12b =>
              exact Or.inr ⟨rfl, rfl⟩
            case hS12b => assumption
            try simp only [Act.put, List.setIfInBounds_toArray, List.set_cons_zero, List.set_cons_succ]
            refine wpAnyH_take (i := 13) (oi := ?oi13b) (v := undef) ?hi13b ?hs13b ?hf13b ?hr13b ?hQ13b ?hy13b ?hS13b ?h13b
            case hi13b => exact (by simp only [List.getElem?_toArray, List.getElem?_cons_succ, List.getElem?_cons_zero]; rfl)
            case hs13b => kernel_rfl
            case hf13b => kernel_rfl
            case hr13b => kernel_rfl
            case hQ13b => exact fun _ _ _ h => h
            case hy13b =>
              exact Or.inr ⟨rfl, rfl⟩
            case hS13b => assumption
            try simp only [Act.put, List.setIfInBounds_toArray, List.set_cons_zero, List.set_cons_succ]
            refine wpAnyH_take (i := 14) (oi := ?oi14b) (v := undef) ?hi14b ?hs14b ?hf14b ?hr14b ?hQ14b ?hy14b ?hS14b ?h14b
            case hi14b => exact (by simp only [List.getElem?_toArray, List.getElem?_cons_succ, List.getElem?_cons_zero]; rfl)
            case hs14b => kernel_rfl
            case hf14b => kernel_rfl
            case hr14b => kernel_rfl
            case hQ14b => exact fun _ _ _ h => h
            case hy14b =>
              exact Or.inr ⟨rfl, rfl⟩
            case hS14b => assumption
            try simp only [Act.put, List.setIfInBounds_toArray, List.set_cons_zero, List.set_cons_succ]
            refine wpAnyH_take (i := 15) (oi := ?oi15b) (v := undef) ?hi15b ?hs15b ?hf15b ?hr15b ?hQ15b ?hy15b ?hS15b ?h15b
            case hi15b => exact (by simp only [List.getElem?_toArray, List.getElem?_cons_succ, List.getElem?_cons_zero]; rfl)
            case hs15b => kernel_rfl
            case hf15b => kernel_rfl
            case hr15b => kernel_rfl
            case hQ15b => exact fun _ _ _ h => h
            case hy15b =>
              exact Or.inr ⟨rfl, rfl⟩
            case hS15b => assumption
            try simp only [Act.put, List.setIfInBounds_toArray, List.set_cons_zero, List.set_cons_succ]
            refine wpAnyH_take (i := 16) (oi := ?oi16b) (v := undef) ?hi16b ?hs16b ?hf16b ?hr16b ?hQ16b ?hy16b ?hS16b ?h16b
            case hi16b => exact (by simp only [List.getElem?_toArray, List.getElem?_cons_succ, List.getElem?_cons_zero]; rfl)
            case hs16b => kernel_rfl
            case hf16b => kernel_rfl
            case hr16b => kernel_rfl
            case hQ16b => exact fun _ _ _ h => h
            case hy16b =>
              exact Or.inr ⟨rfl, rfl⟩
            case hS16b => assumption
            try simp only [Act.put, List.setIfInBounds_toArray, List.set_cons_zero, List.set_cons_succ]
            refine wpAnyH_take (i := 17) (oi := ?oi17b) (v := undef) ?hi17b ?hs17b ?hf17b ?hr17b ?hQ17b ?hy17b ?hS17b ?h17b
            case hi17b => exact (by simp only [List.getElem?_toArray, List.getElem?_cons_succ, List.getElem?_cons_zero]; rfl)
            case hs17b => kernel_rfl
            case hf17b => kernel_rfl
            case hr17b => kernel_rfl
            case hQ17b => exact fun _ _ _ h => h
            case hy17b =>
              exact Or.inr ⟨rfl, rfl⟩
            case hS17b => assumption
            try simp only [Act.put, List.setIfInBounds_toArray, List.set_cons_zero, List.set_cons_succ]
            refine wpAnyH_take (i := 18) (oi := ?oi18b) (v := undef) ?hi18b ?hs18b ?hf18b ?hr18b ?hQ18b ?hy18b ?hS18b ?h18b
            case hi18b => exact (by simp only [List.getElem?_toArray, List.getElem?_cons_succ, List.getElem?_cons_zero]; rfl)
            case hs18b => kernel_rfl
            case hf18b => kernel_rfl
            case hr18b => kernel_rfl
            case hQ18b => exact fun _ _ _ h => h
            case hy18b =>
              exact Or.inr ⟨rfl, rfl⟩
            case hS18b => assumption
            try simp only [Act.put, List.setIfInBounds_toArray, List.set_cons_zero, List.set_cons_succ]
            refine wpAnyH_take (i := 19) (oi := ?oi19b) (v := undef) ?hi19b ?hs19b ?hf19b ?hr19b ?hQ19b ?hy19b ?hS19b ?h19b
            case hi19b => exact (by simp only [List.getElem?_toArray, List.getElem?_cons_succ, List.getElem?_cons_zero]; rfl)
            case hs19b => kernel_rfl
            case hf19b => kernel_rfl
            case hr19b => kernel_rfl
            case hQ19b => exact fun _ _ _ h => h
            case hy19b =>
              exact Or.inr ⟨rfl, rfl⟩
            case hS19b => assumption
            try simp only [Act.put, List.setIfInBounds_toArray, List.set_cons_zero, List.set_cons_succ]
            refine wpAnyH_take (i := 20) (oi := ?oi20b) (v := ?v20b) ?hi20b ?hs20b ?hf20b ?hr20b ?hQ20b ?hy20b ?hS20b ?h20b
            case hi20b => exact (by simp only [List.getElem?_toArray, List.getElem?_cons_succ, List.getElem?_cons_zero]; rfl)
            case hs20b => kernel_rfl
            case hf20b => kernel_rfl
            case hr20b => kernel_rfl
            case hQ20b => exact fun _ _ _ h => h
            case hy20b =>
              refine Or.inl ⟨rfl, ?_⟩
              intro W hSw
              go_simp
              try with_reducible rfl
            case hS20b => assumption
            try simp only [Act.put, List.setIfInBounds_toArray, List.set_cons_zero, List.set_cons_succ]
            refine wpAnyH_take (i := 21) (oi := ?oi21b) (v := ?v21b) ?hi21b ?hs21b ?hf21b ?hr21b ?hQ21b ?hy21b ?hS21b ?h21b
            case hi21b => exact (by simp only [List.getElem?_toArray, List.getElem?_cons_succ, List.getElem?_cons_zero]; rfl)
            case hs21b => kernel_rfl
            case hf21b => kernel_rfl
            case hr21b => kernel_rfl
            case hQ21b => exact fun _ _ _ h => h
            case hy21b =>
              refine Or.inl ⟨rfl, ?_⟩
              intro W hSw
              go_simp
              try with_reducible rfl
            case hS21b => assumption
            try simp only [Act.put, List.setIfInBounds_toArray, List.set_cons_zero, List.set_cons_succ]
            refine wpAnyH_done (by kernel_rfl) ?_ _
            have HBW : Hid (Below w.heap.size w Wb1) := HV.out.trans (HBb1.out.mono HV.out.size)
            go_wp2_with fail
            go_roundw
            case rel => exact ⟨k + 1, by omega, by rw [HRK.out], by rw [HTK.out], by go_num, HBW.out⟩
            case measure => simp [intOf] <;> omega
        · have HTK : Hid (tb L l (k + 1) = true) := by simp only [Hid]; rw [HTS.out]; rfl
          have HDa : Hid (Below wr.heap.size wr wr.drew) := HRF.out.drew
          refine wp_region_held_drew (S := fun W : World => W.cell? ⟨b, o + k, none⟩ = some (.int .u32 (x : Int))) (by kernel_rfl) (HCE.out _ (HDa.out)) (fun hHeld => ?_)
          obtain ⟨Wa0, hW0⟩ : ∃ W0, W0 = wr.drew := ⟨_, rfl⟩
          rw [← hW0] at hHeld HDa ⊢
          clear hW0
          refine wpAnyH_take (i := 0) (oi := ?oi0a) (v := ?v0a) ?hi0a ?hs0a ?hf0a ?hr0a ?hQ0a ?hy0a ?hS0a ?h0a
          case hi0a => exact (by simp only [List.getElem?_toArray, List.getElem?_cons_zero]; rfl)
          case hs0a => kernel_rfl
          case hf0a => kernel_rfl
          case hr0a => kernel_rfl
          case hQ0a => exact fun _ _ _ h => h
          case hy0a =>
            refine Or.inl ⟨rfl, ?_⟩
            intro W hSw
            go_simp
            try with_reducible rfl
          case hS0a => assumption
          try simp only [Act.put, List.setIfInBounds_toArray, List.set_cons_zero, List.set_cons_succ]
          refine wpAnyH_take (i := 1) (oi := ?oi1a) (v := ?v1a) ?hi1a ?hs1a ?hf1a ?hr1a ?hQ1a ?hy1a ?hS1a ?h1a
          case hi1a => exact (by simp only [List.getElem?_toArray, List.getElem?_cons_succ, List.getElem?_cons_zero]; rfl)
          case hs1a => kernel_rfl
          case hf1a => kernel_rfl
          case hr1a => kernel_rfl
          case hQ1a => exact fun _ _ _ h => h
          case hy1a =>
            refine Or.inl ⟨rfl, ?_⟩
            intro W hSw
            go_simp
            try with_reducible rfl
          case hS1a => assumption
          try simp only [Act.put, List.setIfInBounds_toArray, List.set_cons_zero, List.set_cons_succ]
          refine wpAnyH_take (i := 2) (oi := ?oi2a) (v := undef) ?hi2a ?hs2a ?hf2a ?hr2a ?hQ2a ?hy2a ?hS2a ?h2a
          case hi2a => exact (by simp only [List.getElem?_toArray, List.getElem?_cons_succ, List.getElem?_cons_zero]; rfl)
          case hs2a => kernel_rfl
          case hf2a => kernel_rfl
          case hr2a => kernel_rfl
          case hQ2a => exact fun _ _ _ h => h
          case hy2a =>
            exact Or.inr ⟨rfl, rfl⟩
          case hS2a => assumption
          try simp only [Act.put, List.setIfInBounds_toArray, List.set_cons_zero, List.set_cons_succ]
          refine wpAnyH_take (i := 3) (oi := ?oi3a) (v := undef) ?hi3a ?hs3a ?hf3a ?hr3a ?hQ3a ?hy3a ?hS3a ?h3a
          case hi3a => exact (by simp only [List.getElem?_toArray, List.getElem?_cons_succ, List.getElem?_cons_zero]; rfl)
          case hs3a => kernel_rfl
          case hf3a => kernel_rfl
          case hr3a => kernel_rfl
          case hQ3a => exact fun _ _ _ h => h
          case hy3a =>
            exact Or.inr ⟨rfl, rfl⟩
          case hS3a => assumption
          try simp only [Act.put, List.setIfInBounds_toArray, List.set_cons_zero, List.set_cons_succ]
          refine wpAnyH_take (i := 4) (oi := ?oi4a) (v := undef) ?hi4a ?hs4a ?hf4a ?hr4a ?hQ4a ?hy4a ?hS4a ?h4a
          case hi4a => exact (by simp only [List.getElem?_toArray, List.getElem?_cons_succ, List.getElem?_cons_zero]; rfl)
          case hs4a => kernel_rfl
          case hf4a => kernel_rfl
          case hr4a => kernel_rfl
          case hQ4a => exact fun _ _ _ h => h
          case hy4a =>
            exact Or.inr ⟨rfl, rfl⟩
          case hS4a => assumption
          try simp only [Act.put, List.setIfInBounds_toArray, List.set_cons_zero, List.set_cons_succ]
          refine wpAnyH_take (i := 5) (oi := ?oi5a) (v := undef) ?hi5a ?hs5a ?hf5a ?hr5a ?hQ5a ?hy5a ?hS5a ?h5a
          case hi5a => exact (by simp only [List.getElem?_toArray, List.getElem?_cons_succ, List.getElem?_cons_zero]; rfl)
          case hs5a => kernel_rfl
          case hf5a => kernel_rfl
          case hr5a => kernel_rfl
          case hQ5a => exact fun _ _ _ h => h
          case hy5a =>
            exact Or.inr ⟨rfl, rfl⟩
          case hS5a => assumption
          try simp only [Act.put, List.setIfInBounds_toArray, List.set_cons_zero, List.set_cons_succ]
          refine wpAnyH_take (i := 6) (oi := ?oi6a) (v := undef) ?hi6a ?hs6a ?hf6a ?hr6a ?hQ6a ?hy6a ?hS6a ?h6a
          case hi6a => exact (by simp only [List.getElem?_toArray, List.getElem?_cons_succ, List.getElem?_cons_zero]; rfl)
          case hs6a => kernel_rfl
          case hf6a => kernel_rfl
          case hr6a => kernel_rfl
          case hQ6a => exact fun _ _ _ h => h
          case hy6a =>
            exact Or.inr ⟨rfl, rfl⟩
          case hS6a => assumption
          try simp only [Act.put, List.setIfInBounds_toArray, List.set_cons_zero, List.set_cons_succ]
          refine wpAnyH_take (i := 7) (oi := ?oi7a) (v := undef) ?hi7a ?hs7a ?hf7a ?hr7a ?hQ7a ?hy7a ?hS7a ?h7a
          case hi7a => exact (by simp only [List.getElem?_toArray, List.getElem?_cons_succ, List.getElem?_cons_zero]; rfl)
          case hs7a => kernel_rfl
          case hf7a => kernel_rfl
          case hr7a => kernel_rfl
          case hQ7a => exact fun _ _ _ h => h
          case hy7a =>
            exact Or.inr ⟨rfl, rfl⟩
          case hS7a => assumption
          try simp only [Act.put, List.setIfInBounds_toArray, List.set_cons_zero, List.set_cons_succ]
          refine wpAnyH_take (i := 8) (oi := ?oi8a) (v := undef) ?hi8a ?hs8a ?hf8a ?hr8a ?hQ8a ?hy8a ?hS8a ?h8a
          case hi8a => exact (by simp only [List.getElem?_toArray, List.getElem?_cons_succ, List.getElem?_cons_zero]; rfl)
          case hs8a => kernel_rfl
          case hf8a => kernel_rfl
          case hr8a => kernel_rfl
          case hQ8a => exact fun _ _ _ h => h
          case hy8a =>
            exact Or.inr ⟨rfl, rfl⟩
          case hS8a => assumption
          try simp only [Act.put, List.setIfInBounds_toArray, List.set_cons_zero, List.set_cons_succ]
          refine wpAnyH_take (i := 9) (oi := ?oi9a) (v := ?v9a) ?hi9a ?hs9a ?hf9a ?hr9a ?hQ9a ?hy9a ?hS9a ?h9a
          case hi9a => exact (by simp only [List.getElem?_toArray, List.getElem?_cons_succ, List.getElem?_cons_zero]; rfl)
          case hs9a => kernel_rfl
          case hf9a => kernel_rfl
          case hr9a => kernel_rfl
          case hQ9a => exact fun _ _ _ h => h
          case hy9a =>
            refine Or.inl ⟨rfl, ?_⟩
            intro W hSw
            go_simp
            try with_reducible rfl
          case hS9a => assumption
          try simp only [Act.put, List.setIfInBounds_toArray, List.set_cons_zero, List.set_cons_succ]
          refine wpAnyH_take (i := 10) (oi := ?oi10a) (v := ?v10a) ?hi10a ?hs10a ?hf10a ?hr10a ?hQ10a ?hy10a ?hS10a ?h10a
          case hi10a => exact (by simp only [List.getElem?_toArray, List.getElem?_cons_succ, List.getElem?_cons_zero]; rfl)
          case hs10a => kernel_rfl
          case hf10a => kernel_rfl
          case hr10a => kernel_rfl
          case hQ10a => exact fun _ _ _ h => h
          case hy10a =>
            refine Or.inl ⟨rfl, ?_⟩
            intro W hSw
            go_simp
            try with_reducible rfl
          case hS10a => assumption
          try simp only [Act.put, List.setIfInBounds_toArray, List.set_cons_zero, List.set_cons_succ]
          refine wpAnyH_take (i := 11) (oi := ?oi11a) (v := undef) ?hi11a ?hs11a ?hf11a ?hr11a ?hQ11a ?hy11a ?hS11a ?h11a
          case hi11a => exact (by simp only [List.getElem?_toArray, List.getElem?_cons_succ, List.getElem?_cons_zero]; rfl)
          case hs11a => kernel_rfl
          case hf11a => kernel_rfl
          case hr11a => kernel_rfl
          case hQ11a => exact fun _ _ _ h => h
          case hy11a =>
            exact Or.inr ⟨rfl, rfl⟩
          case hS11a => assumption
          try simp only [Act.put, List.setIfInBounds_toArray, List.set_cons_zero, List.set_cons_succ]
          refine wpAnyH_take (i := 12) (oi := ?oi12a) (v := undef) ?hi12a ?hs12a ?hf12a ?hr12a ?hQ12a ?hy12a ?hS12a ?h12a
          case hi12a => exact (by simp only [List.getElem?_toArray, List.getElem?_cons_succ, List.getElem?_cons_zero]; rfl)
          case hs12a => kernel_rfl
          case hf12a => kernel_rfl
          case hr12a => kernel_rfl
          case hQ12a => exact fun _ _ _ h => h
          case hy12a =>
            exact Or.inr ⟨rfl, rfl⟩
          case hS12a => assumption
          try simp only [Act.put, List.setIfInBounds_toArray, List.set_cons_zero, List.set_cons_succ]
          refine wpAnyH_take (i := 13) (oi := ?oi13a) (v := undef) ?hi13a ?hs13a ?hf13a ?hr13a ?hQ13a ?hy13a ?hS13a ?h13a
          case hi13a => exact (by simp only [List.getElem?_toArray, List.getElem?_cons_succ, List.getElem?_cons_zero]; rfl)
          case hs13a => kernel_rfl
          case hf13a => kernel_rfl
          case hr13a => kernel_rfl
          case hQ13a => exact fun _ _ _ h => h
          case hy13a =>
            exact Or.inr ⟨rfl, rfl⟩
          case hS13a => assumption
          try simp only [Act.put, List.setIfInBounds_toArray, List.set_cons_zero, List.set_cons_succ]
          refine wpAnyH_take (i := 14) (oi := ?oi14a) (v := undef) ?hi14a ?hs14a ?hf14a ?hr14a ?hQ14a ?hy14a ?hS14a ?h14a
          case hi14a => exact (by simp only [List.getElem?_toArray, List.getElem?_cons_succ, List.getElem?_cons_zero]; rfl)
          case hs14a => kernel_rfl
          case hf14a => kernel_rfl
          case hr14a => kernel_rfl
          case hQ14a => exact fun _ _ _ h => h
          case hy14a =>
            exact Or.inr ⟨rfl, rfl⟩
          case hS14a => assumption
          try simp only [Act.put, List.setIfInBounds_toArray, List.set_cons_zero, List.set_cons_succ]
          refine wpAnyH_take (i := 15) (oi := ?oi15a) (v := undef) ?hi15a ?hs15a ?hf15a ?hr15a ?hQ15a ?hy15a ?hS15a ?h15a
          case hi15a => exact (by simp only [List.getElem?_toArray, List.getElem?_cons_succ, List.getElem?_cons_zero]; rfl)
          case hs15a => kernel_rfl
          case hf15a => kernel_rfl
          case hr15a => kernel_rfl
          case hQ15a => exact fun _ _ _ h => h
          case hy15a =>
            exact Or.inr ⟨rfl, rfl⟩
          case hS15a => assumption
          try simp only [Act.put, List.setIfInBounds_toArray, List.set_cons_zero, List.set_cons_succ]
          refine wpAnyH_take (i := 16) (oi := ?oi16a) (v := undef) ?hi16a ?hs16a ?hf16a ?hr16a ?hQ16a ?hy16a ?hS16a ?h16a
          case hi16a => exact (by simp only [List.getElem?_toArray, List.getElem?_cons_succ, List.getElem?_cons_zero]; rfl)
          case hs16a => kernel_rfl
          case hf16a => kernel_rfl
          case hr16a => kernel_rfl
          case hQ16a => exact fun _ _ _ h => h
          case hy16a =>
            exact Or.inr ⟨rfl, rfl⟩
          case hS16a => assumption
          try simp only [Act.put, List.setIfInBounds_toArray, List.set_cons_zero, List.set_cons_succ]
          refine wpAnyH_take (i := 17) (oi := ?oi17a) (v := undef) ?hi17a ?hs17a ?hf17a ?hr17a ?hQ17a ?hy17a ?hS17a ?h17a
          case hi17a => exact (by simp only [List.getElem?_toArray, List.getElem?_cons_succ, List.getElem?_cons_zero]; rfl)
          case hs17a => kernel_rfl
          case hf17a => kernel_rfl
          case hr17a => kernel_rfl
          case hQ17a => exact fun _ _ _ h => h
          case hy17a =>
            exact Or.inr ⟨rfl, rfl⟩
          case hS17a => assumption
          try simp only [Act.put, List.setIfInBounds_toArray, List.set_cons_zero, List.set_cons_succ]
          refine wpAnyH_take (i := 18) (oi := ?oi18a) (v := undef) ?hi18a ?hs18a ?hf18a ?hr18a ?hQ18a ?hy18a ?hS18a ?h18a
          case hi18a => exact (by simp only [List.getElem?_toArray, List.getElem?_cons_succ, List.getElem?_cons_zero]; rfl)
          case hs18a => kernel_rfl
          case hf18a => kernel_rfl
          case hr18a => kernel_rfl
          case hQ18a => exact fun _ _ _ h => h
          case hy18a =>
            exact Or.inr ⟨rfl, rfl⟩
          case hS18a => assumption
          try simp only [Act.put, List.setIfInBounds_toArray, List.set_cons_zero, List.set_cons_succ]
          refine wpAnyH_take (i := 19) (oi := ?oi19a) (v := undef) ?hi19a ?hs19a ?hf19a ?hr19a ?hQ19a ?hy19a ?hS19a ?h19a
          case hi19a => exact (by simp only [List.getElem?_toArray, List.getElem?_cons_succ, List.getElem?_cons_zero]; rfl)
          case hs19a => kernel_rfl
          case hf19a => kernel_rfl
          case hr19a => kernel_rfl
          case hQ19a => exact fun _ _ _ h => h
          case hy19a =>
            exact Or.inr ⟨rfl, rfl⟩
          case hS19a => assumption
          try simp only [Act.put, List.setIfInBounds_toArray, List.set_cons_zero, List.set_cons_succ]
          refine wpAnyH_take (i := 20) (oi := ?oi20a) (v := ?v20a) ?hi20a ?hs20a ?hf20a ?hr20a ?hQ20a ?hy20a ?hS20a ?h20a
          case hi20a => exact (by simp only [List.getElem?_toArray, List.getElem?_cons_succ, List.getElem?_cons_zero]; rfl)
          case hs20a => kernel_rfl
          case hf20a => kernel_rfl
          case hr20a => kernel_rfl
          case hQ20a => exact fun _ _ _ h => h
          case hy20a =>
            refine Or.inl ⟨rfl, ?_⟩
            intro W hSw
            go_simp
            try with_reducible rfl
          case hS20a => assumption
          try simp only [Act.put, List.setIfInBounds_toArray, List.set_cons_zero, List.set_cons_succ]
          refine wpAnyH_take (i := 21) (oi := ?oi21a) (v := ?v21a) ?hi21a ?hs21a ?hf21a ?hr21a ?hQ21a ?hy21a ?hS21a ?h21a
          case hi21a => exact (by simp only [List.getElem?_toArray, List.getElem?_cons_succ, List.getElem?_cons_zero]; rfl)
          case hs21a => kernel_rfl
          case hf21a => kernel_rfl
          case hr21a => kernel_rfl
          case hQ21a => exact fun _ _ _ h => h
          case hy21a =>
            refine Or.inl ⟨rfl, ?_⟩
            intro W hSw
            go_simp
            try with_reducible rfl
          case hS21a => assumption
          try simp only [Act.put, List.setIfInBounds_toArray, List.set_cons_zero, List.set_cons_succ]
          refine wpAnyH_done (by kernel_rfl) ?_ _
          have HBW : Hid (Below w.heap.size w Wa0) := HV.out.trans (HDa.out.mono HV.out.size)
          go_wp2_with fail
          go_roundw
          case rel => exact ⟨k + 1, by omega, by rw [HRK.out], by rw [HTK.out], by go_num, HBW.out⟩
          case measure => simp [intOf] <;> omega
    · obtain rfl : k = n := by omega
      have HRB : Hid (rb id l k = !badB id l) := by simp only [Hid]; rw [HN.out]; exact rb_bad id l
      have HTB : Hid (tb L l k = clashB L l) := by simp only [Hid]; rw [HN.out]; exact tb_clash L l
      rw [HRB.out, HTB.out]
      have HBV := HV.out
      obtain ⟨bb, hbb⟩ : ∃ b, b = badB id l := ⟨_, rfl⟩
      obtain ⟨cb, hcb⟩ : ∃ b, b = clashB L l := ⟨_, rfl⟩
      rw [← hbb, ← hcb]
      cases bb
      · by_cases hsz : k < 1 ∨ 8 < k
        · have HSP : Hid (openL most L id t l = L ∧ openE most L id l = 21) := by
            have e : openE most L id l = 21 := by unfold openE; rw [if_neg (by rw [← hbb]; simp), if_pos (by rw [← HN.out]; exact hsz)]
            exact ⟨by unfold openL; rw [e]; rfl, e⟩
          clear hbb hcb HBV
          by_cases hs1 : k < 1
          · have hs1' : (k : Int) < 1 := by omega
            have HFIN : Hid (DOpP R vi (openL most L id t l) (openE most L id l) w (.returned (.tuple #[.slice A n0 c0, .int .i64 21])) wr) := by simp only [Hid]; rw [HSP.out.1, HSP.out.2]; exact ⟨_, _, _, rfl, HD.out.after (HV.out), HV.out⟩
            go_wp2
            go_ret2
            exact HFIN.out
          · have hs1' : ¬ ((k : Int) < 1) := by omega
            have hs2' : (8 : Int) < (k : Int) := by omega
            have HFIN : Hid (DOpP R vi (openL most L id t l) (openE most L id l) w (.returned (.tuple #[.slice A n0 c0, .int .i64 21])) wr) := by simp only [Hid]; rw [HSP.out.1, HSP.out.2]; exact ⟨_, _, _, rfl, HD.out.after (HV.out), HV.out⟩
            go_wp2
            go_ret2
            exact HFIN.out
        · have hs1' : ¬ ((k : Int) < 1) := by omega
          have hs2' : ¬ ((8 : Int) < (k : Int)) := by omega
          have HE0 : Hid (openE most L id l = if cb = true then 11 else if (∃ e ∈ L, e.id = id) then 11 else if min most 2147483647 ≤ (L.length : Int) then 10 else 0) := by
            simp only [Hid]
            unfold openE
            rw [if_neg (by rw [← hbb]; simp), if_neg (by rw [← HN.out]; exact hsz), ← hcb]
          clear hbb hcb HBV hsz
          cases hg : getP L id with
          | some g =>
            have HSP : Hid (openL most L id t l = L ∧ openE most L id l = 11) := by
              have e : openE most L id l = 11 := by rw [HE0.out]; cases cb <;> simp; exact fun hh => absurd (get_some hg).2 (hh g (get_some hg).1)
              exact ⟨by unfold openL; rw [e]; rfl, e⟩
            have HG := Lib.hid (HGS.out g hg wr HV.out)
            obtain ⟨gi, hgi⟩ : ∃ z, z = g.id := ⟨_, rfl⟩
            obtain ⟨gl, hgl⟩ : ∃ z, z = g.ld := ⟨_, rfl⟩
            have HGI : Hid (gi = g.id ∧ gl = g.ld) := ⟨hgi, hgl⟩
            clear hg hgi hgl
            go_wp2_with fail
            refine HG.out.mono ?_
            rintro r w1 ⟨m, v, rfl, f1, f2, hb⟩
            rw [← HGI.out.1, ← HGI.out.2]
            clear f1 f2
            have HF : Hid (∀ w', Below w1.heap.size w1 w' → DOpP R vi (openL most L id t l) (openE most L id l) w (.returned (.tuple #[.slice A n0 c0, .int .i64 11])) w') := fun w' hb' => by
              rw [HSP.out.1, HSP.out.2]
              exact ⟨_, _, _, rfl, HD.out.after ((HV.out.trans (hb.mono HV.out.size)).trans (hb'.mono (HV.out.trans (hb.mono HV.out.size)).size)), (HV.out.trans (hb.mono HV.out.size)).trans (hb'.mono (HV.out.trans (hb.mono HV.out.size)).size)⟩
            clear hb
            go_wp2
            go_ret2
            exact HF.out _ ((Below.refl _ _).alloc (Nat.le_refl _) _)
          | none =>
            have HG := Lib.hid (HGN.out hg wr HV.out)
            have hne : ¬ ∃ e ∈ L, e.id = id := fun ⟨e, he, h⟩ => getP_none hg e he h
            cases cb
            · have hmin : min most 2147483647 = most := by have := HMO.out; omega
              by_cases hfu : most ≤ (n0 : Int)
              · have HSP : Hid (openL most L id t l = L ∧ openE most L id l = 10) := by
                  have e : openE most L id l = 10 := by rw [HE0.out, if_neg Bool.false_ne_true, if_neg hne, hmin, if_pos (by rw [← HL0.out.1]; exact hfu)]
                  exact ⟨by unfold openL; rw [e]; rfl, e⟩
                clear hg hne hmin
                go_wp2_with fail
                refine HG.out.mono ?_
                rintro r w1 ⟨rfl, hb⟩
                have HF : Hid (∀ w', Below w1.heap.size w1 w' → DOpP R vi (openL most L id t l) (openE most L id l) w (.returned (.tuple #[.slice A n0 c0, .int .i64 10])) w') := fun w' hb' => by
                  rw [HSP.out.1, HSP.out.2]
                  exact ⟨_, _, _, rfl, HD.out.after ((HV.out.trans (hb.mono HV.out.size)).trans (hb'.mono (HV.out.trans (hb.mono HV.out.size)).size)), (HV.out.trans (hb.mono HV.out.size)).trans (hb'.mono (HV.out.trans (hb.mono HV.out.size)).size)⟩
                clear hb
                go_wp2
                go_ret2
                exact HF.out _ ((Below.refl _ _).alloc (Nat.le_refl _) _)
              · have HSP : Hid (openL most L id t l = insL L ⟨id, t, l, []⟩ ∧ openE most L id l = 0) := by
                  have e : openE most L id l = 0 := by rw [HE0.out, if_neg Bool.false_ne_true, if_neg hne, hmin, if_neg (by rw [← HL0.out.1]; exact hfu)]
                  exact ⟨by unfold openL; rw [if_pos e], e⟩
                clear hg hne hmin
                go_wp2_with fail
                refine HG.out.mono ?_
                rintro r w1 ⟨rfl, hb⟩
                obtain ⟨w3, hw3⟩ : ∃ W, W = w1.alloc (.cells dZ 36) := ⟨_, rfl⟩
                have hb3 : Below w.heap.size w w3 := by rw [hw3]; exact (HV.out.trans (hb.mono HV.out.size)).alloc (HV.out.trans (hb.mono HV.out.size)).size _
                obtain ⟨we, hwe⟩ : ∃ we, we = w3.alloc (.cells #[] 26) := ⟨_, rfl⟩
                have hbe : Below w3.heap.size w3 we := by rw [hwe]; exact (Below.refl _ _).alloc (Nat.le_refl _) _
                have hoe : we.ownsRow w3.heap.size 26 1 (.slice (some ⟨w3.heap.size, 0, none⟩) 0 0) 0 [] := ⟨rfl, .inr ⟨w3.heap.size, 0, #[], rfl, Nat.le_refl _, by rw [hwe]; exact heap_alloc_new w3 _, Nat.le_refl _, Nat.zero_le _, rfl, rfl⟩⟩
                obtain ⟨v1, w1e, hr1, ho1, hg1⟩ := app_rn we w3.heap.size 27 0 _ [] hoe PA k c l HN.out ((HE.out.after hb3).after hbe) (by omega) hbe.size
                rw [Nat.zero_add, List.nil_append] at ho1
                obtain ⟨A1e, c1e, rfl⟩ := own_form1 ho1
                have hB1e : Below w3.heap.size w3 w1e := hbe.grown hg1 hbe.size (fun k hk => by have e : w3.heap.size = k := Option.some.inj hk; omega)
                have HBW : Hid (Below w.heap.size w w1e) := hb3.trans (hB1e.mono hb3.size)
                have HPT := Lib.hid (dput_any R vi A n0 c0 L ⟨id, t, l, []⟩ ⟨A1e, k, c1e⟩ ⟨none, 0, 0⟩ w1e HL0.out.1 (HD.out.dr.after HBW.out) HL0.out.2 HR.out (Fl.fresh (HD.out.ctx.size hb3.size) (Nat.le_refl _) ho1) ⟨rfl, fun h => absurd h (by simp)⟩)
                have H3 := Lib.hid hw3
                rw [hwe] at hr1
                clear hw3 hb3 hwe hbe hoe ho1 hg1 hB1e hb
                go_upto_region 12 with (fail)
                rw [← H3.out]
                go_wp2_with (at_builtin; refine Lib.wpList_append_run _ rfl _ _ _ _ rfl _ _ rfl rfl _ _ hr1 ?_)
                refine HPT.out.mono ?_
                rintro r w9 ⟨A9, n9, c9, rfl, hn9, hd9, hb9, _⟩
                have HFIN : Hid (DOpP R vi (openL most L id t l) (openE most L id l) w (.returned (.tuple #[.slice A9 n9 c9, .int .i64 0])) w9) := by simp only [Hid]; rw [HSP.out.1, HSP.out.2]; exact ⟨_, _, _, rfl, ⟨hn9, hd9, (HD.out.ctx.size HBW.out.size).size hb9.size⟩, HBW.out.trans (hb9.mono HBW.out.size)⟩
                clear hn9 hd9 hb9
                go_wp2
                go_ret2
                exact HFIN.out
            · have HSP : Hid (openL most L id t l = L ∧ openE most L id l = 11) := by
                have e : openE most L id l = 11 := by rw [HE0.out]; rfl
                exact ⟨by unfold openL; rw [e]; rfl, e⟩
              clear hg hne
              go_wp2_with fail
              refine HG.out.mono ?_
              rintro r w1 ⟨rfl, hb⟩
              have HF : Hid (∀ w', Below w1.heap.size w1 w' → DOpP R vi (openL most L id t l) (openE most L id l) w (.returned (.tuple #[.slice A n0 c0, .int .i64 11])) w') := fun w' hb' => by
                rw [HSP.out.1, HSP.out.2]
                exact ⟨_, _, _, rfl, HD.out.after ((HV.out.trans (hb.mono HV.out.size)).trans (hb'.mono (HV.out.trans (hb.mono HV.out.size)).size)), (HV.out.trans (hb.mono HV.out.size)).trans (hb'.mono (HV.out.trans (hb.mono HV.out.size)).size)⟩
              clear hb
              go_wp2
              go_ret2
              exact HF.out _ ((Below.refl _ _).alloc (Nat.le_refl _) _)
      · have HSP : Hid (openL most L id t l = L ∧ openE most L id l = 14) := by
          have e : openE most L id l = 14 := by unfold openE; rw [if_pos hbb.symm]
          exact ⟨by unfold openL; rw [e]; rfl, e⟩
        clear hbb hcb HBV
        have HFIN : Hid (DOpP R vi (openL most L id t l) (openE most L id l) w (.returned (.tuple #[.slice A n0 c0, .int .i64 14])) wr) := by simp only [Hid]; rw [HSP.out.1, HSP.out.2]; exact ⟨_, _, _, rfl, HD.out.after (HV.out), HV.out⟩
        go_wp2
        go_ret2
        exact HFIN.out
end Go.Proofs.Ytemjmnpclknfaaa.P
