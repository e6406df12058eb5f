/- Ledger: the document's rows in memory; its Get, Without, Sweep. -/
import Derived.Test.YticegnbdpihdpaaLI
import Derived.Laws.AppendOwn
namespace Go.Proofs.Yticegnbdpihdpaa
open Go.RowKit Go.Maps
set_option maxRecDepth 20000
set_option linter.unusedVariables false
set_option linter.unusedSimpArgs false

abbrev eC (e : Ent) : Array Value := #[.int .u64 (e.1 : Int), .int .u32 (e.2.1 : Int), .int .u32 (e.2.2.1 : Int), .int .i64 e.2.2.2]
/-- The rows l are read from A on. -/
def Ds (w : World) (A : Option Addr) (l : List Ent) : Prop :=
  0 < l.length → ∃ b o cc, A = some ⟨b, o, none⟩ ∧ w.heap[b]? = some (.cells cc 29 (0, 0)) ∧ ∀ i e, l[i]? = some e → At w b (o + i * 4) e
theorem Ds.keep {w W : World} {A : Option Addr} {l : List Ent} (h : Ds w A l) (hb : ∀ (b : Nat) (cc : Array Value), w.heap[b]? = some (Obj.cells cc 29 (0, 0)) → W.heap[b]? = w.heap[b]?) : Ds W A l := fun hl => by
  obtain ⟨b, o, cc, h1, h2, h3⟩ := h hl
  have e := hb b cc h2
  refine ⟨b, o, cc, h1, e.trans h2, fun i x hx => ?_⟩
  obtain ⟨q1, q2, q3, q4⟩ := h3 i x hx
  exact ⟨(World.cell?_of_block e).trans q1, (World.cell?_of_block e).trans q2, (World.cell?_of_block e).trans q3, (World.cell?_of_block e).trans q4⟩
theorem Ds.below {w W : World} {A : Option Addr} {l : List Ent} (h : Ds w A l) (hb : Below w.heap.size w W) : Ds W A l := h.keep fun b cc hc => hb.block b (lt_of_block hc)
theorem Ds.chm {w W : World} {M : Nat} {A : Option Addr} {l : List Ent} (h : Ds w A l) (hM : ∃ (es : Array MapEntry) (cl : Nat), w.heap[M]? = some (Obj.map es cl)) (hb : ChM M w W) : Ds W A l := h.keep fun b cc hc => hb.2.1 b (lt_of_block hc) (fun e => by
  obtain ⟨es, cl, hm⟩ := hM
  rw [e, hm] at hc
  cases hc)
theorem Ds.nil (w : World) : Ds w none [] := fun h => by simp at h
theorem own4_form {w : World} {base m : Nat} {v : Value} {xs : List Value} (h : w.ownsRow base 29 4 v m xs) : ∃ A c, v = .slice A m c := by
  rcases h.2 with ⟨rfl, rfl⟩ | ⟨g, cap, cur, rfl, _⟩
  · exact ⟨none, 0, rfl⟩
  · exact ⟨_, cap, rfl⟩
theorem Ds.of_own {w : World} {base m c : Nat} {A : Option Addr} {l : List Ent} (h : w.ownsRow base 29 4 (.slice A m c) m (er l)) : Ds w A l := fun hl => by
  have hcells := fun g => h.cells (g := g)
  have hlen := h.1
  rw [er_len] at hlen
  rcases h.2 with ⟨_, h0⟩ | ⟨g, cap, cur, e1, hg, hb, _, _, _⟩
  · omega
  · injection e1 with e1 _ _
    subst e1
    refine ⟨g, 0, cur, rfl, hb, fun i e he => ?_⟩
    have hc : ∀ j, j < 4 → w.cell? ⟨g, 0 + i * 4 + j, none⟩ = (ec e)[j]? := fun j hj => by
      obtain ⟨x, hx⟩ : ∃ x, (ec e)[j]? = some x := ⟨(ec e)[j]'(by simpa [ec] using hj), List.getElem?_eq_getElem _⟩
      have := hcells g rfl (i * 4 + j) x (by rw [er_get l i e j he hj, hx])
      rw [Go.WideShapes.add_plain, ← Nat.add_assoc] at this
      rw [hx, ← this]
    exact ⟨by simpa [ec] using hc 0 (by omega), by simpa [ec] using hc 1 (by omega), by simpa [ec] using hc 2 (by omega), by simpa [ec] using hc 3 (by omega)⟩
theorem own4_len {w : World} {base m : Nat} {v : Value} {l : List Ent} (h : w.ownsRow base 29 4 v m (er l)) : m = l.length := by
  have := h.1
  rw [er_len] at this
  omega
theorem own4_lt {w : World} {base T m : Nat} {v : Value} {xs : List Value} (h : w.ownsRow base T 4 v m xs) (g : Nat) (hg : v.ownBlock = some g) : base ≤ g ∧ g < w.heap.size := h.lt g hg
theorem info29 : (Try.prog.info? 29).map (fun i => (i.zero, i.size, i.bytes)) = some (some (eV 0 0 0 0), 4, 24) := by kernel_rfl
theorem wpList_append_de {w : World} {ops : Array Oper} {rest : List Oper} {op : Oper} {a : Act} {Q : Exit → Act → World → Prop} (hgd : op.guard = none) (s x : Operand)
    (ho : op.op = .call { callee := .builtin .append, args := #[s, x], argTypes := #[25, 25] }) (base G : Nat) (v : Value) (m : Nat) (l : List Ent) (e : Ent) (hs : a.eval s = v) (hx : a.eval x = .slice (some ⟨G, 0, none⟩) 1 1)
    (hown : w.ownsRow base 29 4 v m (er l)) (hG : w.heap[G]? = some (.cells (eC e) 29 (0, 0))) (hm : m ≤ 1000) (hbase : base ≤ w.heap.size)
    (h : ∀ v' w', w'.ownsRow base 29 4 v' (m + 1) (er (l ++ [e])) → w.grownBy w' v.ownBlock → wpList Try.prog ops Q rest (a.put op.dst v') w') : wpList Try.prog ops Q (op :: rest) a w := by
  refine wpList_plain hgd fun K hK => ?_
  obtain ⟨i0, hi, hz0, hz1, hz2⟩ := info_parts info29
  obtain ⟨v', w', hr, h2, h3, _⟩ := run_append_own (P := Try.prog) w base 25 op.type 29 i0 _ 4 _ Try.underlying25 hi hz0 hz1 hz2 rfl (by decide) v m (er l) hown ⟨G, 0, none⟩ 1 1 (ec e) rfl (fun j y hy => by
    have := cell_of_row w G j _ _ _ hG
    rw [show eC e = (ec e).toArray from rfl, List.getElem?_toArray, hy] at this
    rw [← this, Go.WideShapes.add_plain, Nat.zero_add]) (by
    intro y hy
    simp only [ec, List.mem_cons, List.not_mem_nil, or_false] at hy
    rcases hy with rfl | rfl | rfl | rfl <;> rfl) (by unfold maxLen; omega) (by omega) hbase
  unfold Oper.wp execOp
  simp only [ho, resolve, invoke, builtin, Sem.run_bind, Sem.run_pure, Result.andThen_ok, List.map_toArray, List.map_cons, List.map_nil, hs, hx, hr]
  exact hK _ _ (h v' w' (by rw [er_snoc]; exact h2) h3)
abbrev eset (W : World) (T : Nat) (e : Ent) : World := (((W.setCell ⟨T, 0, none⟩ (.int .u64 (e.1 : Int))).setCell ⟨T, 1, none⟩ (.int .u32 (e.2.1 : Int))).setCell ⟨T, 2, none⟩ (.int .u32 (e.2.2.1 : Int))).setCell ⟨T, 3, none⟩ (.int .i64 e.2.2.2)
theorem eset_row {W : World} {T : Nat} {c : Array Value} {t : Nat} (hc : c.size = 4) (e : Ent) (h : W.heap[T]? = some (.cells c t (0, 0))) : (eset W T e).heap[T]? = some (.cells (eC e) t (0, 0)) := by
  have h1 := heap_setCell_same W T 0 _ t (.int .u64 (e.1 : Int)) h
  have h2 := heap_setCell_same _ T 1 _ t (.int .u32 (e.2.1 : Int)) h1
  have h3 := heap_setCell_same _ T 2 _ t (.int .u32 (e.2.2.1 : Int)) h2
  have h4 := heap_setCell_same _ T 3 _ t (.int .i64 e.2.2.2) h3
  obtain ⟨l⟩ := c
  match l, hc with
  | [a, b, c, d], _ => simpa using h4
theorem eset_below {w W : World} {T : Nat} (e : Ent) (h : Below w.heap.size w W) (hT : w.heap.size ≤ T) : Below w.heap.size w (eset W T e) := (((h.setCell hT _).setCell hT _).setCell hT _).setCell hT _
set_option maxHeartbeats 4000000 in
theorem rget_any (A : Option Addr) (m c n : Nat) (l : List Ent) (w : World) (hm : m = l.length) (hR : Ds w A l) (hs : Srt l) (hl : m ≤ 500) :
    Calls Try.prog 13 #[.slice A m c, .int .u64 (n : Int)] w fun r w' => r = .returned (.tuple #[eVe (getE l n), .bool (anyN l n)]) ∧ Below w.heap.size w w' := by
  obtain ⟨T, hT⟩ : ∃ T, T = w.heap.size := ⟨_, rfl⟩
  obtain ⟨w0, hw0⟩ : ∃ w0, w0 = w.alloc (.cells #[.int .u64 0, .int .u32 0, .int .u32 0, .int .i64 0] 29) := ⟨_, rfl⟩
  have hb0 : Below w.heap.size w w0 := by rw [hw0]; exact (Below.refl _ _).alloc (Nat.le_refl _) _
  have hq0 : w0.heap[T]? = some (.cells #[.int .u64 0, .int .u32 0, .int .u32 0, .int .i64 0] 29 (0, 0)) := by rw [hw0, hT]; exact heap_alloc_new w _
  obtain ⟨re, hre⟩ : ∃ re, re = getE l n := ⟨_, rfl⟩
  obtain ⟨rq, hrq⟩ : ∃ rq, rq = anyN l n := ⟨_, rfl⟩
  rw [← hre, ← hrq]
  have HRE := Lib.hid (And.intro hre hrq)
  have HR : Hid (Ds w0 A l) := hR.below hb0
  have HM := Lib.hid hm
  have HS := Lib.hid hs
  have H0 := Lib.hid hw0
  have HTT := Lib.hid hT
  have HQ0 := Lib.hid hq0
  have HB0 := Lib.hid hb0
  have t0 := cell_of_row w0 T 0 _ _ _ hq0
  have t1 := cell_of_row w0 T 1 _ _ _ hq0
  have t2 := cell_of_row w0 T 2 _ _ _ hq0
  have t3 := cell_of_row w0 T 3 _ _ _ hq0
  have fz : ∀ i, w0.frozen? ⟨T, i, none⟩ = false := fun i => frozen_of_row w0 _ i _ _ hq0
  simp at t0 t1 t2 t3
  have HFIN : Hid (∀ e : Ent, (eset w0 T e).cell? ⟨T, 0, none⟩ = some (.int .u64 (e.1 : Int)) ∧ (eset w0 T e).cell? ⟨T, 1, none⟩ = some (.int .u32 (e.2.1 : Int)) ∧ (eset w0 T e).cell? ⟨T, 2, none⟩ = some (.int .u32 (e.2.2.1 : Int)) ∧ (eset w0 T e).cell? ⟨T, 3, none⟩ = some (.int .i64 e.2.2.2) ∧ Below w.heap.size w (eset w0 T e)) := fun e => by
    have h := eset_row rfl e hq0
    exact ⟨cell_of_row _ T 0 _ _ _ h, cell_of_row _ T 1 _ _ _ h, cell_of_row _ T 2 _ _ _ h, cell_of_row _ T 3 _ _ _ h, eset_below e hb0 (by omega)⟩
  clear hw0 hb0 hq0 hre hrq hm hR hs hT
  go_enter Try.func13, Try.ntmps13
  go_upto_region 1 with (fail)
  rw [← H0.out, ← HTT.out]
  go_wp2_with fail
  go_loopw [6] (fun x wr => ∃ k : Nat, k ≤ m ∧ x = .int .i64 (k : Int) ∧ Hid (∀ (j : Nat) e, j < k → l[j]? = some e → e.1 ≠ n) ∧ wr = w0) (fun x _ => m - (intOf x).toNat)
  case atStart => exact ⟨0, by omega, rfl, fun j e hj => absurd hj (Nat.not_lt_zero j), by first | rfl | trivial⟩
  case round =>
    obtain ⟨k, hk, rfl, HK, rfl⟩ := hrel
    by_cases hlt : k < m
    · obtain ⟨⟨y, o, a, x⟩, hy⟩ : ∃ e, l[k]? = some e := ⟨l[k]'(by rw [← HM.out]; exact hlt), List.getElem?_eq_getElem _⟩
      obtain ⟨b1, o1, cc, rfl, hb1, ha1⟩ := HR.out (by have := HM.out; omega)
      obtain ⟨d0, d1, d2, d3⟩ := ha1 k _ hy
      simp only at d0 d1 d2 d3
      have HY := Lib.hid hy
      clear hy ha1 hb1
      by_cases hyn : y = n
      · have hres : re = (y, o, a, x) ∧ rq = true := by
          have hmem := List.mem_of_getElem? HY.out
          refine ⟨?_, ?_⟩
          · rw [HRE.out.1, ← hyn]; exact getE_there HS.out hmem
          · rw [HRE.out.2]; exact anyN_iff.2 ⟨_, hmem, hyn⟩
        obtain ⟨rfl, rfl⟩ := hres
        subst hyn
        obtain ⟨f0, f1, f2, f3, fb⟩ := HFIN.out (y, o, a, x)
        simp only at f0 f1 f2 f3
        have FB := Lib.hid fb
        clear fb HRE
        go_wp2
        exact bodyPost_ret (v := .tuple #[eV y o a x, .bool true]) (by simp [results, Try.results13, go_sem, f0, f1, f2, f3]) rfl ⟨rfl, FB.out⟩
      · have hyz : ¬ (y : Int) = (n : Int) := by omega
        go_wp2
        go_roundw
        case rel =>
          refine ⟨k + 1, by omega, by go_num, fun j e hj hje => ?_, by first | rfl | trivial⟩
          by_cases hjk : j < k
          · exact HK.out j e hjk hje
          · have : j = k := by omega
            subst this
            rw [HY.out] at hje
            injection hje with hje
            rw [← hje]
            exact hyn
        case measure => simp [intOf] <;> omega
    · obtain rfl : k = m := by omega
      have hno : anyN l n = false := by
        rw [Bool.eq_false_iff]
        intro h
        obtain ⟨e, he, h2⟩ := anyN_iff.1 h
        obtain ⟨j, hj⟩ := List.getElem?_of_mem he
        exact HK.out j e (by have := (List.getElem?_eq_some_iff.1 hj).1; have := HM.out; omega) hj h2
      have hres : re = zeroE ∧ rq = false := ⟨by rw [HRE.out.1]; exact getE_not hno, by rw [HRE.out.2, hno]⟩
      obtain ⟨rfl, rfl⟩ := hres
      obtain ⟨f0, f1, f2, f3, fb⟩ := HFIN.out zeroE
      simp [zeroE, eset] at f0 f1 f2 f3
      have FB := Lib.hid fb
      clear fb HRE hno
      go_wp2
      exact bodyPost_ret (v := .tuple #[eV 0 0 0 0, .bool false]) (by simp [results, Try.results13, go_sem, f0, f1, f2, f3]) rfl ⟨rfl, FB.out⟩
set_option maxHeartbeats 8000000 in
theorem rwithout_any (A : Option Addr) (n c : Nat) (p : Nat) (l : List Ent) (w : World) (hn : n = l.length) (hR : Ds w A l) (hl : n ≤ 500) :
    Calls Try.prog 20 #[.slice A n c, .int .u64 (p : Int)] w fun r w' => ∃ B m c', r = .returned (.slice B m c') ∧ m = (delE p l).length ∧ Ds w' B (delE p l) ∧ Below w.heap.size w w' := by
  have HR := Lib.hid hR
  have HN := Lib.hid hn
  have HB0 : Hid (Below w.heap.size w w) := Below.refl _ _
  clear hR hn
  go_enter Try.func20, Try.ntmps20
  go_wp2_with fail
  go_loopw [5, 6] (fun v x wr => ∃ (k m : Nat) (B : Option Addr) (c2 : Nat), k ≤ n ∧ x = .int .i64 (k : Int) ∧ v = .slice B m c2 ∧ Hid (wr.ownsRow w.heap.size 29 4 (.slice B m c2) m (er (delE p (l.take k))) ∧ Below w.heap.size w wr)) (fun _ x _ => n - (intOf x).toNat)
  case atStart => exact ⟨0, 0, none, 0, by omega, rfl, rfl, World.ownsRow_nil w _ 29 4, HB0.out⟩
  case round =>
    obtain ⟨k, m, B, c2, hk, rfl, rfl, HV⟩ := hrel
    by_cases hlt : k < n
    · obtain ⟨⟨y, o, a, x⟩, hy⟩ : ∃ e, l[k]? = some e := ⟨l[k]'(by rw [← HN.out]; exact hlt), List.getElem?_eq_getElem _⟩
      obtain ⟨b1, o1, cc, rfl, hb1, ha1⟩ := HR.out (by have := HN.out; omega)
      obtain ⟨d0, d1, d2, d3⟩ := ha1 k _ hy
      have hbe : wr.heap[b1]? = w.heap[b1]? := HV.out.2.block b1 (lt_of_block hb1)
      rw [← World.cell?_of_block hbe] at d0 d1 d2 d3
      simp only at d0 d1 d2 d3
      have HTK : Hid (l.take (k + 1) = l.take k ++ [(y, o, a, x)]) := by simp only [Hid]; rw [List.take_add_one, hy]; rfl
      have HS1 : Hid (w.heap.size ≤ wr.heap.size) := HV.out.2.size
      have HMM : Hid (m ≤ 500) := by
        have h1 := own4_len HV.out.1
        have h2 : (delE p (l.take k)).length ≤ (l.take k).length := List.length_filter_le _ _
        rw [List.length_take] at h2
        simp only [Hid]
        omega
      clear hy ha1 hb1 hbe
      by_cases hc : y ≠ p
      · have HNX : Hid (delE p (l.take (k + 1)) = delE p (l.take k) ++ [(y, o, a, x)]) := by
          simp only [Hid]
          rw [HTK.out]
          simp [delE, List.filter_append, hc]
        have HC := Lib.hid hc
        clear hc
        have f1 : ((y : Int) != (p : Int)) = true := by have := HC.out; simp; omega
        go_upto_region 6 with (fail)
        clear f1
        go_wp2_with (at_builtin; refine wpList_append_de rfl _ _ rfl w.heap.size wr.heap.size (.slice B m c2) m (delE p (l.take k)) (y, o, a, x) rfl rfl (HV.out.1.alloc _) (heap_alloc_new _ _) (by have := HMM.out; omega) (by have := HS1.out; simp; omega) ?_; intro v4 w4 hown4 hg4; obtain ⟨B4, c4, rfl⟩ := own4_form hown4; have HB4 : Hid (Below w.heap.size w w4) := (HV.out.2.alloc HS1.out _).grown hg4 (by have := HS1.out; simp; omega) (fun g h => (own4_lt HV.out.1 g h).1); rw [← HNX.out] at hown4; have HO4 := Lib.hid hown4; clear hown4 hg4)
        go_roundw
        case rel => exact ⟨k + 1, m + 1, B4, c4, by omega, by go_num, rfl, HO4.out, HB4.out⟩
        case measure => simp [intOf] <;> omega
      · have HNX : Hid (delE p (l.take (k + 1)) = delE p (l.take k)) := by
          simp only [Hid]
          rw [HTK.out]
          simp [delE, List.filter_append, hc]
        have HC := Lib.hid hc
        clear hc
        have f1 : ((y : Int) != (p : Int)) = false := by have := HC.out; simp; omega
        go_wp2
        go_roundw
        case rel => exact ⟨k + 1, m, B, c2, by omega, by go_num, rfl, by rw [HNX.out]; exact HV.out.1, HV.out.2⟩
        case measure => simp [intOf] <;> omega
    · obtain rfl : k = n := by omega
      have HRES : Hid (m = (delE p l).length ∧ Ds wr B (delE p l) ∧ Below w.heap.size w wr) := by
        have h1 := HV.out
        rw [List.take_of_length_le (by rw [← HN.out]; exact Nat.le_refl _)] at h1
        exact ⟨own4_len h1.1, Ds.of_own h1.1, h1.2⟩
      go_wp2
      go_ret
      exact ⟨_, _, _, rfl, HRES.out⟩
set_option maxHeartbeats 8000000 in
theorem rsweep_any (A : Option Addr) (n c : Nat) (now : Int) (l : List Ent) (w : World) (hn : n = l.length) (hR : Ds w A l) (hl : n ≤ 500) :
    Calls Try.prog 22 #[.slice A n c, .int .i64 now] w fun r w' => ∃ B m c', r = .returned (.slice B m c') ∧ m = (swE now l).length ∧ Ds w' B (swE now l) ∧ Below w.heap.size w w' := by
  have HR := Lib.hid hR
  have HN := Lib.hid hn
  have HB0 : Hid (Below w.heap.size w w) := Below.refl _ _
  clear hR hn
  go_enter Try.func22, Try.ntmps22
  go_wp2_with fail
  go_loopw [5, 6] (fun v x wr => ∃ (k m : Nat) (B : Option Addr) (c2 : Nat), k ≤ n ∧ x = .int .i64 (k : Int) ∧ v = .slice B m c2 ∧ Hid (wr.ownsRow w.heap.size 29 4 (.slice B m c2) m (er (swE now (l.take k))) ∧ Below w.heap.size w wr)) (fun _ x _ => n - (intOf x).toNat)
  case atStart => exact ⟨0, 0, none, 0, by omega, rfl, rfl, World.ownsRow_nil w _ 29 4, HB0.out⟩
  case round =>
    obtain ⟨k, m, B, c2, hk, rfl, rfl, HV⟩ := hrel
    by_cases hlt : k < n
    · obtain ⟨⟨y, o, a, x⟩, hy⟩ : ∃ e, l[k]? = some e := ⟨l[k]'(by rw [← HN.out]; exact hlt), List.getElem?_eq_getElem _⟩
      obtain ⟨b1, o1, cc, rfl, hb1, ha1⟩ := HR.out (by have := HN.out; omega)
      obtain ⟨d0, d1, d2, d3⟩ := ha1 k _ hy
      have hbe : wr.heap[b1]? = w.heap[b1]? := HV.out.2.block b1 (lt_of_block hb1)
      rw [← World.cell?_of_block hbe] at d0 d1 d2 d3
      simp only at d0 d1 d2 d3
      have HTK : Hid (l.take (k + 1) = l.take k ++ [(y, o, a, x)]) := by simp only [Hid]; rw [List.take_add_one, hy]; rfl
      have HS1 : Hid (w.heap.size ≤ wr.heap.size) := HV.out.2.size
      have HMM : Hid (m ≤ 500) := by
        have h1 := own4_len HV.out.1
        have h2 : (swE now (l.take k)).length ≤ (l.take k).length := List.length_filter_le _ _
        rw [List.length_take] at h2
        simp only [Hid]
        omega
      clear hy ha1 hb1 hbe
      by_cases hc : now ≤ x
      · have HNX : Hid (swE now (l.take (k + 1)) = swE now (l.take k) ++ [(y, o, a, x)]) := by
          simp only [Hid]
          rw [HTK.out]
          simp [swE, List.filter_append, hc]
        have HC := Lib.hid hc
        clear hc
        have f1 : now ≤ x := HC.out
        go_upto_region 6 with (fail)
        clear f1
        go_wp2_with (at_builtin; refine wpList_append_de rfl _ _ rfl w.heap.size wr.heap.size (.slice B m c2) m (swE now (l.take k)) (y, o, a, x) rfl rfl (HV.out.1.alloc _) (heap_alloc_new _ _) (by have := HMM.out; omega) (by have := HS1.out; simp; omega) ?_; intro v4 w4 hown4 hg4; obtain ⟨B4, c4, rfl⟩ := own4_form hown4; have HB4 : Hid (Below w.heap.size w w4) := (HV.out.2.alloc HS1.out _).grown hg4 (by have := HS1.out; simp; omega) (fun g h => (own4_lt HV.out.1 g h).1); rw [← HNX.out] at hown4; have HO4 := Lib.hid hown4; clear hown4 hg4)
        go_roundw
        case rel => exact ⟨k + 1, m + 1, B4, c4, by omega, by go_num, rfl, HO4.out, HB4.out⟩
        case measure => simp [intOf] <;> omega
      · have HNX : Hid (swE now (l.take (k + 1)) = swE now (l.take k)) := by
          simp only [Hid]
          rw [HTK.out]
          simp [swE, List.filter_append, hc]
        have HC := Lib.hid hc
        clear hc
        have f1 : ¬ now ≤ x := HC.out
        go_wp2
        go_roundw
        case rel => exact ⟨k + 1, m, B, c2, by omega, by go_num, rfl, by rw [HNX.out]; exact HV.out.1, HV.out.2⟩
        case measure => simp [intOf] <;> omega
    · obtain rfl : k = n := by omega
      have HRES : Hid (m = (swE now l).length ∧ Ds wr B (swE now l) ∧ Below w.heap.size w wr) := by
        have h1 := HV.out
        rw [List.take_of_length_le (by rw [← HN.out]; exact Nat.le_refl _)] at h1
        exact ⟨own4_len h1.1, Ds.of_own h1.1, h1.2⟩
      go_wp2
      go_ret
      exact ⟨_, _, _, rfl, HRES.out⟩
end Go.Proofs.Yticegnbdpihdpaa
