/- Ready: the document's put, Close. -/
import Derived.Test.YtemjmnpclknfaaaRA
import Derived.Test.YtemjmnpclknfaaaQ8
import Derived.Deep.CutBlock
namespace Go.Proofs.Ytemjmnpclknfaaa.P
open Go.RowKit
set_option maxRecDepth 20000
set_option linter.unusedVariables false
set_option linter.unusedSimpArgs false

/-- A party's four cells. -/
structure FP where
  p : Pt
  m : Sl
  v : Sl
def pc (e : FP) : List Value := [.int .u32 (e.p.id : Int), .slice e.m.a e.m.n e.m.c, .slice e.v.a e.v.n e.v.c, .int .i64 e.p.ld]
def pr (l : List FP) : List Value := l.flatMap pc
theorem pr_len (l : List FP) : (pr l).length = l.length * 4 := by
  induction l with
  | nil => rfl
  | cons e l ih =>
    unfold pr at ih ⊢
    rw [List.flatMap_cons, List.length_append, ih, List.length_cons]
    simp [pc]
    omega
theorem pr_get : ∀ (l : List FP) (i : Nat) (e : FP) (j : Nat), l[i]? = some e → j < 4 → (pr l)[i * 4 + j]? = (pc e)[j]?
  | [], i, e, j, h, _ => by simp at h
  | x :: l, 0, e, j, h, hj => by
    simp at h
    subst h
    unfold pr
    rw [List.flatMap_cons, List.getElem?_append_left (by simp [pc]; omega)]
    simp
  | x :: l, i + 1, e, j, h, hj => by
    have ih := pr_get l i e j (by simpa using h) hj
    unfold pr at ih ⊢
    rw [List.flatMap_cons, List.getElem?_append_right (by simp [pc]; omega)]
    simp only [show (pc x).length = 4 from rfl, show (i + 1) * 4 + j - 4 = i * 4 + j by omega]
    exact ih
theorem pr_snoc (l : List FP) (e : FP) : pr (l ++ [e]) = pr l ++ pc e := by simp [pr]
/-- Parties in a row of one's own. -/
def Po (w : World) (R : Nat) (vi : Value) (base : Nat) (B : Option Addr) (m c : Nat) (L : List Pt) : Prop := ∃ lf : List FP, lf.map (·.p) = L ∧ w.ownsRow base 36 4 (.slice B m c) m (pr lf) ∧ ∀ e ∈ lf, Fl w R vi e.m e.p.mem ∧ Fl w R vi e.v e.p.inv
theorem Po.len {w : World} {R : Nat} {vi : Value} {base m c : Nat} {B : Option Addr} {L : List Pt} (h : Po w R vi base B m c L) : m = L.length := by
  obtain ⟨lf, rfl, h2, _⟩ := h
  have := h2.1
  rw [pr_len] at this
  rw [List.length_map]
  omega
theorem Po.dr {w : World} {R : Nat} {vi : Value} {base m c : Nat} {B : Option Addr} {L : List Pt} (h : Po w R vi base B m c L) : Dr w R vi B L := fun hl => by
  have hm := h.len
  obtain ⟨lf, rfl, h2, h3⟩ := h
  rcases h2.2 with ⟨_, h0⟩ | ⟨g, cap, cur, e1, _, hh, _, _, _, ht⟩
  · omega
  · injection e1 with e1 _ _
    subst e1
    refine ⟨g, 0, rfl, ⟨cur, hh⟩, fun i t he => ?_⟩
    rw [List.getElem?_map] at he
    obtain ⟨e, hel, rfl⟩ := Option.map_eq_some_iff.1 he
    have hil := (List.getElem?_eq_some_iff.1 hel).1
    rw [List.length_map] at hm
    have hc : ∀ j u, j < 4 → (pc e)[j]? = some u → w.cell? ⟨g, 0 + i * 4 + j, none⟩ = some u := fun j u hj hu => by
      rw [cell_of_row w g _ _ _ _ hh, ← Array.getElem?_toList, Nat.zero_add, ← hu, ← pr_get lf i e j hel hj, ← ht, List.getElem?_take, if_pos (by omega)]
    exact ⟨e.m, e.v, ⟨hc 0 _ (by decide) rfl, hc 1 _ (by decide) rfl, hc 2 _ (by decide) rfl, hc 3 _ (by decide) rfl⟩, h3 e (List.mem_of_getElem? hel)⟩
theorem Po.nil {w : World} {R : Nat} {vi : Value} {base : Nat} : Po w R vi base none 0 0 [] := ⟨[], rfl, World.ownsRow_nil w _ 36 4, fun _ h => by cases h⟩
theorem own_blk {w w' : World} {base T s m : Nat} {v : Value} {xs : List Value} (h : w.ownsRow base T s v m xs) (hb : Below w.heap.size w w') : w'.ownsRow base T s v m xs := ⟨h.1, h.2.imp id fun ⟨g, cap, cur, e, h1, h2, h3⟩ => ⟨g, cap, cur, e, h1, (hb.block g (lt_of_block h2)).trans h2, h3⟩⟩
theorem Po.after {w w' : World} {R : Nat} {vi : Value} {base m c : Nat} {B : Option Addr} {L : List Pt} (h : Po w R vi base B m c L) (hb : Below w.heap.size w w') : Po w' R vi base B m c L := by
  obtain ⟨lf, h1, h2, h3⟩ := h
  exact ⟨lf, h1, own_blk h2 hb, fun e he => ⟨(h3 e he).1.after hb, (h3 e he).2.after hb⟩⟩
theorem info36 : (Try.prog.info? 36).map (fun i => (i.zero, i.size, i.bytes)) = some (some (.agg #[.int .u32 0, .slice none 0 0, .slice none 0 0, .int .i64 0]), 4, 64) := by kernel_rfl
theorem Fl.grown {w w' : World} {R : Nat} {vi : Value} {s : Sl} {l : List Nat} {row : Option Nat} (h : Fl w R vi s l) (hg : w.grownBy w' row) (hr : ∀ g, row = some g → ∀ cur, w.heap[g]? ≠ some (.cells cur 26 (0, 0))) : Fl w' R vi s l := ⟨h.1, fun hl => by
  obtain ⟨b, o, e1, e2, e3, ⟨cur, e4⟩, e5⟩ := h.2 hl
  have k := hg.block b (lt_of_block e4) (fun e => hr b e.symm cur e4)
  exact ⟨b, o, e1, e2, e3, ⟨cur, k.trans e4⟩, fun j x hj => (World.cell?_of_block k).trans (e5 j x hj)⟩⟩
theorem wpList_append_pt {w : World} {ops : Array Oper} {rest : List Oper} {op : Oper} {a : Act} {Q : Exit → Act → World → Prop} (hgd : op.guard = none) (s x : Operand)
    (ho : op.op = .call { callee := .builtin .append, args := #[s, x], argTypes := #[25, 25] }) (R : Nat) (vi : Value) (base G : Nat) (B : Option Addr) (m c : Nat) (L : List Pt) (p : Pt) (ms vs : Sl) (hs : a.eval s = .slice B m c) (hx : a.eval x = .slice (some ⟨G, 0, none⟩) 1 1)
    (hP : Po w R vi base B m c L) (hG : w.heap[G]? = some (.cells #[.int .u32 (p.id : Int), .slice ms.a ms.n ms.c, .slice vs.a vs.n vs.c, .int .i64 p.ld] 36 (0, 0))) (hm : m ≤ 1000) (hbase : base ≤ w.heap.size) (f1 : Fl w R vi ms p.mem) (f2 : Fl w R vi vs p.inv)
    (h : ∀ B' c' w', Po w' R vi base B' (m + 1) c' (L ++ [p]) → w.grownBy w' (Value.slice B m c).ownBlock → (∀ g, (Value.slice B m c).ownBlock = some g → base ≤ g) → wpList Try.prog ops Q rest (a.put op.dst (.slice B' (m + 1) c')) w') : wpList Try.prog ops Q (op :: rest) a w := by
  refine wpList_plain hgd fun K hK => ?_
  obtain ⟨lf, rfl, hown, hfl⟩ := hP
  obtain ⟨i0, hi, hz0, hz1, hz2⟩ := info_parts info36
  obtain ⟨v', w', hr, h2, h3, _⟩ := run_append_own (P := Try.prog) w base 25 op.type 36 i0 _ 4 _ Try.underlying25 hi hz0 hz1 hz2 rfl (by decide) (.slice B m c) m (pr lf) hown ⟨G, 0, none⟩ 1 1 (pc ⟨p, ms, vs⟩) rfl (fun j x hx => by
    have := cell_of_row w G j _ _ _ hG
    rw [show (#[.int .u32 (p.id : Int), .slice ms.a ms.n ms.c, .slice vs.a vs.n vs.c, .int .i64 p.ld] : Array Value) = (pc ⟨p, ms, vs⟩).toArray from rfl, List.getElem?_toArray, hx] at this
    rw [← this, Go.WideShapes.add_plain, Nat.zero_add]) (by
    intro x hx
    simp only [pc, List.mem_cons, List.not_mem_nil, or_false] at hx
    rcases hx with rfl | rfl | rfl | rfl <;> rfl) (by unfold maxLen; omega) (by omega) hbase
  obtain ⟨B', c', rfl⟩ := own_form1 h2
  have hnn : ∀ g, (Value.slice B m c).ownBlock = some g → ∀ cur, w.heap[g]? ≠ some (.cells cur 26 (0, 0)) := fun g hg cur e => by
    obtain ⟨cur', e'⟩ := own_type hown hg
    rw [e] at e'
    injection e' with e'
    injection e' with _ e'
    exact absurd e' (by decide)
  unfold Oper.wp execOp
  simp only [ho, resolve, invoke, builtin, Sem.run_bind, Sem.run_pure, Result.andThen_ok, List.map_toArray, List.map_cons, List.map_nil, hs, hx, hr]
  refine hK _ _ (h B' c' w' ⟨lf ++ [⟨p, ms, vs⟩], by simp, by rw [pr_snoc]; exact h2, fun e he => ?_⟩ h3 (fun g hg => (ownlt hown g hg).1))
  rcases List.mem_append.1 he with he | he
  · exact ⟨(hfl e he).1.grown h3 hnn, (hfl e he).2.grown h3 hnn⟩
  · simp at he
    subst he
    exact ⟨f1.grown h3 hnn, f2.grown h3 hnn⟩
/-- What the loop has come to. -/
def goL (ov : Bool) (g : Pt) (T : List Pt) : List Pt := if ov = true then delL T g.id else if (∀ e ∈ T, e.id < g.id) then T else insL T g
def goD (ov : Bool) (g : Pt) (T : List Pt) : Bool := ov || !decide (∀ e ∈ T, e.id < g.id)
theorem goL_len (ov : Bool) (g : Pt) (T : List Pt) : (goL ov g T).length ≤ T.length + 1 := by
  unfold goL
  split
  · exact Nat.le_trans (List.length_filter_le _ _) (Nat.le_succ _)
  · split
    · omega
    · unfold insL
      have h1 : ∀ l : List Pt, (l.filter fun e => decide (e.id < g.id)).length + (l.filter fun e => decide (g.id < e.id)).length ≤ l.length := by
        intro l
        induction l with
        | nil => simp
        | cons x l ih =>
          rw [List.filter_cons, List.filter_cons]
          by_cases a : x.id < g.id
          · rw [if_pos (by simpa using a), if_neg (by simp; omega)]
            simp only [List.length_cons]
            omega
          · rw [if_neg (by simpa using a)]
            split <;> simp only [List.length_cons] <;> omega
      have := h1 T
      rw [List.length_append, List.length_cons]
      omega
theorem goL_t {g : Pt} {T : List Pt} : goL true g T = delL T g.id := by unfold goL; rw [if_pos rfl]
theorem goL_lt {g : Pt} {T : List Pt} (h : ∀ e ∈ T, e.id < g.id) : goL false g T = T := by unfold goL; rw [if_neg Bool.false_ne_true, if_pos h]
theorem goL_ge {g : Pt} {T : List Pt} (h : ¬ ∀ e ∈ T, e.id < g.id) : goL false g T = insL T g := by unfold goL; rw [if_neg Bool.false_ne_true, if_neg h]
theorem goD_t {g : Pt} {T : List Pt} : goD true g T = true := rfl
theorem goD_lt {g : Pt} {T : List Pt} (h : ∀ e ∈ T, e.id < g.id) : goD false g T = false := by unfold goD; rw [decide_eq_true h]; rfl
theorem goD_ge {g : Pt} {T : List Pt} (h : ¬ ∀ e ∈ T, e.id < g.id) : goD false g T = true := by unfold goD; rw [decide_eq_false h]; rfl
theorem lt_snoc {g e : Pt} {T : List Pt} : (∀ x ∈ T ++ [e], x.id < g.id) ↔ (∀ x ∈ T, x.id < g.id) ∧ e.id < g.id := by
  constructor
  · intro h
    exact ⟨fun x hx => h x (List.mem_append_left _ hx), h e (List.mem_append_right _ (List.mem_singleton.2 rfl))⟩
  · rintro ⟨h, he⟩ x hx
    rcases List.mem_append.1 hx with hx | hx
    · exact h x hx
    · rw [List.mem_singleton.1 hx]; exact he
theorem go_over {g e : Pt} {T : List Pt} : goL true g (T ++ [e]) = goL true g T ++ (if e.id = g.id then [] else [e]) := by
  rw [goL_t, goL_t]
  unfold delL
  rw [List.filter_append]
  congr 1
  by_cases h : e.id = g.id
  · rw [if_pos h]; simp [h]
  · rw [if_neg h]; simp [h]
theorem go_lt {g e : Pt} {T : List Pt} (h : ∀ x ∈ T, x.id < g.id) (he : e.id < g.id) : goL false g (T ++ [e]) = goL false g T ++ [e] ∧ goD false g (T ++ [e]) = false ∧ goD false g T = false := by
  have h2 := lt_snoc.2 ⟨h, he⟩
  rw [goL_lt h2, goL_lt h, goD_lt h2, goD_lt h]
  exact ⟨rfl, rfl, rfl⟩
theorem go_ge {g e : Pt} {T : List Pt} (h : ∀ x ∈ T, x.id < g.id) (he : ¬ e.id < g.id) : goL false g (T ++ [e]) = goL false g T ++ [g] ++ (if e.id = g.id then [] else [e]) ∧ goD false g (T ++ [e]) = true ∧ goD false g T = false := by
  have h2 : ¬ ∀ x ∈ T ++ [e], x.id < g.id := fun hh => he (lt_snoc.1 hh).2
  rw [goL_ge h2, goL_lt h, goD_ge h2, goD_lt h]
  refine ⟨?_, rfl, rfl⟩
  unfold insL
  have t1 : T.filter (fun e => decide (e.id < g.id)) = T := filt_all (fun x hx => by simpa using h x hx)
  have t2 : T.filter (fun e => decide (g.id < e.id)) = [] := filt_no (fun x hx => by have := h x hx; simp; omega)
  rw [List.filter_append, List.filter_append, t1, t2]
  by_cases e1 : e.id = g.id
  · rw [if_pos e1]; simp [e1]
  · rw [if_neg e1]
    have a1 : ¬ (e.id < g.id) := he
    have a2 : g.id < e.id := by omega
    simp [a1, a2]
theorem go_done {g e : Pt} {T : List Pt} (hr : Ris (T ++ [e])) (h : ¬ ∀ x ∈ T, x.id < g.id) : goL false g (T ++ [e]) = goL false g T ++ [e] ∧ goD false g (T ++ [e]) = true ∧ goD false g T = true ∧ e.id ≠ g.id := by
  have h2 : ¬ ∀ x ∈ T ++ [e], x.id < g.id := fun hh => h (lt_snoc.1 hh).1
  have hge : g.id < e.id := by
    have ⟨y, hy, hy2⟩ : ∃ y ∈ T, ¬ y.id < g.id := by
      refine Classical.byContradiction fun hn => h fun x hx => Classical.byContradiction fun hc => hn ⟨x, hx, hc⟩
    have := (List.pairwise_append.1 hr).2.2 y hy e (List.mem_singleton.2 rfl)
    omega
  rw [goL_ge h2, goL_ge h, goD_ge h2, goD_ge h]
  refine ⟨?_, rfl, rfl, by omega⟩
  unfold insL
  rw [List.filter_append, List.filter_append]
  have a1 : ¬ (e.id < g.id) := by omega
  simp [a1, hge]
theorem go_end {ov : Bool} {g : Pt} {T : List Pt} : (goD ov g T = true → goL ov g T = if ov = true then delL T g.id else insL T g) ∧ (goD ov g T = false → ov = false ∧ goL ov g T ++ [g] = insL T g) := by
  cases ov
  · by_cases h : ∀ e ∈ T, e.id < g.id
    · rw [goL_lt h, goD_lt h]
      refine ⟨(fun h => by cases h), fun _ => ⟨rfl, ?_⟩⟩
      unfold insL
      rw [filt_all (fun x hx => by simpa using h x hx), filt_no (fun x hx => by have := h x hx; simp; omega)]
    · rw [goL_ge h, goD_ge h]
      exact ⟨(fun _ => by rw [if_neg Bool.false_ne_true]), (fun h => by cases h)⟩
  · rw [goL_t, goD_t]
    exact ⟨(fun _ => by rw [if_pos rfl]), (fun h => by cases h)⟩
def DPutP (R : Nat) (vi : Value) (L : List Pt) (w : World) (r : Ending) (w' : World) : Prop := ∃ A n c, r = .returned (.slice A n c) ∧ n = L.length ∧ Dr w' R vi A L ∧ Below w.heap.size w w' ∧ ∀ a, A = some a → w.heap.size ≤ a.block
theorem Po.fresh {w : World} {R : Nat} {vi : Value} {base k m c : Nat} {B : Option Addr} {L : List Pt} (h : Po w R vi base B m c L) (hk : k ≤ base) : ∀ a, B = some a → k ≤ a.block := fun a e => by
  obtain ⟨lf, _, h2, _⟩ := h
  rcases h2.2 with ⟨h0, _⟩ | ⟨g, cap, cur, e1, hg, _⟩
  · injection h0 with h0 _ _
    rw [h0] at e
    cases e
  · injection e1 with e1 _ _
    rw [e1] at e
    injection e with e
    rw [← e]
    exact Nat.le_trans hk hg
set_option maxHeartbeats 8000000 in
theorem dclose_any (R : Nat) (vi : Value) (A : Option Addr) (n c : Nat) (L : List Pt) (x : Nat) (w : World) (hn : n = L.length) (hE : Dr w R vi A L) (hl : n ≤ 100) :
    Calls Try.prog 36 #[.slice A n c, .int .u32 (x : Int)] w fun r w' => DPutP R vi (delL L x) w r w' := by
  have HE := Lib.hid hE
  have HN := Lib.hid hn
  have HP0 : Hid (Po w R vi w.heap.size none 0 0 (delL (L.take 0) x)) := by simp only [Hid]; rw [List.take_zero]; exact Po.nil
  have HB0 : Hid (Below w.heap.size w w) := Below.refl _ _
  clear hE hn
  go_enter Try.func36, Try.ntmps36
  go_wp2_with fail
  go_loopw [5, 6] (fun ot u wr => ∃ (k m : Nat) (B2 : Option Addr) (c2 : Nat), k ≤ n ∧ u = .int .i64 (k : Int) ∧ ot = .slice B2 m c2 ∧ Hid (Po wr R vi w.heap.size B2 m c2 (delL (L.take k) x) ∧ Below w.heap.size w wr)) (fun _ u _ => n - (intOf u).toNat)
  case atStart => exact ⟨0, 0, none, 0, by omega, rfl, rfl, HP0.out, HB0.out⟩
  case round =>
    obtain ⟨k, m, B2, c2, hk, rfl, rfl, HV⟩ := hrel
    have HBV : Hid (Below w.heap.size w wr) := HV.out.2
    have HMK : Hid (m ≤ 100) := by have h1 := HV.out.1.len; have h2 : (delL (L.take k) x).length ≤ (L.take k).length := List.length_filter_le _ _; rw [List.length_take] at h2; simp only [Hid]; omega
    by_cases hlt : k < n
    · obtain ⟨e, hy⟩ : ∃ e, L[k]? = some e := ⟨L[k]'(by rw [← HN.out]; exact hlt), List.getElem?_eq_getElem _⟩
      obtain ⟨b, o, rfl, ⟨cur, hb⟩, hcc⟩ := HE.out (by have := HN.out; omega)
      obtain ⟨me, ve, ⟨q0, q1, q2, q3⟩, g1, g2⟩ := hcc k e hy
      have hb' := lt_of_block hb
      have HTK0 : Hid (delL (L.take (k + 1)) x = delL (L.take k) x ++ if e.id = x then [] else [e]) := by
        simp only [Hid]
        rw [List.take_add_one, hy]
        unfold delL
        rw [List.filter_append]
        congr 1
        by_cases h : e.id = x
        · rw [if_pos h]; simp [h]
        · rw [if_neg h]; simp [h]
      have x0 := (HV.out.2.cell (p := ⟨b, _, none⟩) hb').trans q0
      have x1 := (HV.out.2.cell (p := ⟨b, _, none⟩) hb').trans q1
      have x2 := (HV.out.2.cell (p := ⟨b, _, none⟩) hb').trans q2
      have x3 := (HV.out.2.cell (p := ⟨b, _, none⟩) hb').trans q3
      have HFE : Hid (Fl wr R vi me e.mem ∧ Fl wr R vi ve e.inv) := ⟨g1.after HV.out.2, g2.after HV.out.2⟩
      obtain ⟨z, hz⟩ : ∃ z, z = e.id := ⟨_, rfl⟩
      obtain ⟨t, ht⟩ : ∃ t, t = e.ld := ⟨_, rfl⟩
      by_cases hx : e.id = x
      · rw [if_pos hx, List.append_nil] at HTK0
        have hx' : (z : Int) = (x : Int) := by omega
        rw [← hz] at x0
        clear hcc hb q0 q1 q2 q3 g1 g2 hb' hy hx hz ht x1 x2 x3
        go_wp2_with fail
        go_roundw
        case rel => exact ⟨k + 1, m, B2, c2, by omega, by go_num, rfl, by rw [HTK0.out]; exact HV.out.1, HV.out.2⟩
        case measure => simp [intOf] <;> omega
      · rw [if_neg hx] at HTK0
        have hx' : ¬ ((z : Int) = (x : Int)) := by omega
        obtain ⟨e', he'⟩ : ∃ e' : Pt, e' = ⟨z, t, e.mem, e.inv⟩ := ⟨_, rfl⟩
        have hee : e' = e := by rw [he', hz, ht]
        rw [← hee] at HTK0 HFE
        have HE' := Lib.hid he'
        rw [← hz] at x0
        rw [← ht] at x3
        clear hcc hb q0 q1 q2 q3 g1 g2 hb' hy hx hz ht hee he'
        go_wp2_with (at_builtin; refine wpList_append_pt rfl _ _ rfl R vi w.heap.size wr.heap.size B2 m c2 (delL (L.take k) x) e' me ve rfl rfl (HV.out.1.after ((Below.refl _ _).alloc (Nat.le_refl _) _)) (by exact (by rw [HE'.out]; exact heap_alloc_new _ _)) (by have := HMK.out; omega) (by have := HBV.out.size; simp; omega) (HFE.out.1.after ((Below.refl _ _).alloc (Nat.le_refl _) _)) (HFE.out.2.after ((Below.refl _ _).alloc (Nat.le_refl _) _)) ?_; intro B8 c8 w8 hpo hgr hbs; have HP8 := Lib.hid hpo; have HB8 : Hid (Below w.heap.size w w8) := (HBV.out.alloc HBV.out.size _).grown hgr (by have := HBV.out.size; simp; omega) hbs; clear hpo hgr hbs)
        go_roundw
        case rel => exact ⟨k + 1, _, B8, c8, by omega, by go_num, rfl, by rw [HTK0.out]; exact HP8.out, HB8.out⟩
        case measure => simp [intOf] <;> omega
    · obtain rfl : k = n := by omega
      have hF : L.take k = L := List.take_of_length_le (by rw [← HN.out]; exact Nat.le_refl _)
      have HPE : Hid (Po wr R vi w.heap.size B2 m c2 (delL L x)) := by have h := HV.out.1; rw [hF] at h; exact h
      clear hF
      go_wp2_with fail
      go_ret
      exact ⟨_, _, _, rfl, HPE.out.len, HPE.out.dr, HV.out.2, HPE.out.fresh (Nat.le_refl _)⟩
set_option maxHeartbeats 32000000 in
theorem dput_any (R : Nat) (vi : Value) (A : Option Addr) (n c : Nat) (L : List Pt) (g : Pt) (ms vs : Sl) (w : World) (hn : n = L.length) (hE : Dr w R vi A L) (hl : n ≤ 100) (hr : Ris L) (f1 : Fl w R vi ms g.mem) (f2 : Fl w R vi vs g.inv) :
    Calls Try.prog 77 #[.slice A n c, .agg (dC g.id g.ld ms vs)] w fun r w' => DPutP R vi (insL L g) w r w' := by
  obtain ⟨w0, hw0⟩ : ∃ w0, w0 = w.alloc (.cells (dC g.id g.ld ms vs) 36) := ⟨_, rfl⟩
  obtain ⟨G, hG⟩ : ∃ G, G = w.heap.size := ⟨_, rfl⟩
  have hb0 : Below w.heap.size w w0 := by rw [hw0]; exact (Below.refl _ _).alloc (Nat.le_refl _) _
  have hq0 : w0.heap[G]? = some (.cells (dC g.id g.ld ms vs) 36 (0, 0)) := by rw [hw0, hG]; exact heap_alloc_new w _
  obtain ⟨gi, hgi⟩ : ∃ z, z = g.id := ⟨_, rfl⟩
  obtain ⟨gl, hgl⟩ : ∃ z, z = g.ld := ⟨_, rfl⟩
  obtain ⟨ma, mn, mc⟩ := ms
  obtain ⟨va, vn, vc⟩ := vs
  have HFL : Hid (Fl w0 R vi ⟨ma, mn, mc⟩ g.mem ∧ Fl w0 R vi ⟨va, vn, vc⟩ g.inv) := ⟨f1.after hb0, f2.after hb0⟩
  have HE0 := Lib.hid (hE.after hb0)
  have HB0 := Lib.hid hb0
  rw [← hgi, ← hgl] at hw0 hq0
  have HA := Lib.hid hw0
  have HQ0 : Hid (w0.heap[G]? = some (.cells #[.int .u32 (gi : Int), .slice ma mn mc, .slice va vn vc, .int .i64 gl] 36 (0, 0))) := hq0
  have HGR : Hid (∀ W, Below w0.heap.size w0 W → W.heap[G]? = some (.cells #[.int .u32 (gi : Int), .slice ma mn mc, .slice va vn vc, .int .i64 gl] 36 (0, 0))) := fun W hW => (hW.block _ (lt_of_block HQ0.out)).trans HQ0.out
  have HGG := Lib.hid hG
  have HN := Lib.hid hn
  have HR := Lib.hid hr
  have HBr : Hid (Below w0.heap.size w0 w0) := Below.refl _ _
  obtain ⟨g', hg'⟩ : ∃ g' : Pt, g' = ⟨gi, gl, g.mem, g.inv⟩ := ⟨_, rfl⟩
  have HG' := Lib.hid hg'
  have HGG' : Hid (g' = g) := by simp only [Hid]; rw [hg', hgi, hgl]
  have HD0 : Hid (.bool false = (Value.bool (goD false g' (L.take 0)))) := by simp only [Hid]; rw [List.take_zero]; simp [goD]
  have HP0 : Hid (Po w0 R vi w0.heap.size none 0 0 (goL false g' (L.take 0))) := by
    simp only [Hid]
    rw [List.take_zero]
    have e : goL false g' [] = [] := by simp [goL]
    rw [e]
    exact Po.nil
  rw [← hgi, ← hgl]
  have c0 := cell_of_row _ G 0 _ _ _ HQ0.out
  have c1 := cell_of_row _ G 1 _ _ _ HQ0.out
  have c2 := cell_of_row _ G 2 _ _ _ HQ0.out
  have c3 := cell_of_row _ G 3 _ _ _ HQ0.out
  simp at c0 c1 c2 c3
  clear hw0 hG hb0 hq0 hgi hgl hg' hE hn hr f1 f2
  go_enter Try.func77, Try.ntmps77
  go_upto_region 1 with (fail)
  rw [← HA.out, ← HGG.out]
  go_wp2_with fail
  go_loopw [5, 6, 7] (fun ot dn u wr => ∃ (k m : Nat) (B2 : Option Addr) (c2 : Nat), k ≤ n ∧ u = .int .i64 (k : Int) ∧ ot = .slice B2 m c2 ∧ dn = .bool (goD false g' (L.take k)) ∧ Hid (Po wr R vi w0.heap.size B2 m c2 (goL false g' (L.take k)) ∧ Below w0.heap.size w0 wr)) (fun _ _ u _ => n - (intOf u).toNat)
  case atStart => exact ⟨0, 0, none, 0, by omega, rfl, rfl, HD0.out, HP0.out, HBr.out⟩
  case round =>
    obtain ⟨k, m, B2, c2, hk, rfl, rfl, rfl, HV⟩ := hrel
    obtain ⟨dn, hdn⟩ : ∃ b, b = goD false g' (L.take k) := ⟨_, rfl⟩
    rw [← hdn]
    have HDK := Lib.hid hdn
    clear hdn
    have HMK : Hid (m ≤ 102) := by have h1 := HV.out.1.len; have h2 := goL_len false g' (L.take k); rw [List.length_take] at h2; simp only [Hid]; omega
    by_cases hlt : k < n
    · obtain ⟨e, hy⟩ : ∃ e, L[k]? = some e := ⟨L[k]'(by rw [← HN.out]; exact hlt), List.getElem?_eq_getElem _⟩
      obtain ⟨b, o, rfl, ⟨cur, hb⟩, hcc⟩ := HE0.out (by have := HN.out; omega)
      obtain ⟨me, ve, ⟨q0, q1, q2, q3⟩, g1, g2⟩ := hcc k e hy
      have HTK0 : Hid (L.take (k + 1) = L.take k ++ [e]) := by simp only [Hid]; rw [List.take_add_one, hy]; rfl
      obtain ⟨ei, hei⟩ : ∃ z, z = e.id := ⟨_, rfl⟩
      obtain ⟨el, hel⟩ : ∃ z, z = e.ld := ⟨_, rfl⟩
      have HEE : Hid (∀ W, Below w0.heap.size w0 W → W.cell? ⟨b, o + k * 4, none⟩ = some (.int .u32 (ei : Int)) ∧ W.cell? ⟨b, o + k * 4 + 1, none⟩ = some (.slice me.a me.n me.c) ∧ W.cell? ⟨b, o + k * 4 + 2, none⟩ = some (.slice ve.a ve.n ve.c) ∧ W.cell? ⟨b, o + k * 4 + 3, none⟩ = some (.int .i64 el) ∧ Fl W R vi me e.mem ∧ Fl W R vi ve e.inv) := fun W hW => by
        have hb' := lt_of_block hb
        rw [hei, hel]
        exact ⟨(hW.cell (p := ⟨b, _, none⟩) hb').trans q0, (hW.cell (p := ⟨b, _, none⟩) hb').trans q1, (hW.cell (p := ⟨b, _, none⟩) hb').trans q2, (hW.cell (p := ⟨b, _, none⟩) hb').trans q3, g1.after hW, g2.after hW⟩
      have HCE : Hid (∀ W, Below w0.heap.size w0 W → (fun W : World => W.cell? ⟨b, o + k * 4, none⟩ = some (.int .u32 (ei : Int)) ∧ W.cell? ⟨G, 0, none⟩ = some (.int .u32 (gi : Int))) W) := fun W hW => ⟨(HEE.out W hW).1, cell_of_row W G 0 _ _ _ (HGR.out W hW)⟩
      have HRF : Hid (Below wr.heap.size wr wr) := Below.refl _ _
      have HRIS : Hid (Ris (L.take k ++ [e])) := by simp only [Hid]; rw [← HTK0.out]; exact HR.out.take
      have d0 := (HEE.out wr HV.out.2).1
      obtain ⟨e', he'⟩ : ∃ e' : Pt, e' = ⟨ei, el, e.mem, e.inv⟩ := ⟨_, rfl⟩
      have hee : e' = e := by rw [he', hei, hel]
      have HEE2 : Hid (∀ W, Below w0.heap.size w0 W → Fl W R vi me e'.mem ∧ Fl W R vi ve e'.inv) := fun W hW => by rw [hee]; exact (HEE.out W hW).2.2.2.2
      have HTK1 : Hid (L.take (k + 1) = L.take k ++ [e']) := by simp only [Hid]; rw [hee]; exact HTK0.out
      have HRIS1 : Hid (Ris (L.take k ++ [e'])) := by simp only [Hid]; rw [hee]; exact HRIS.out
      have HE' := Lib.hid he'
      have HEI : Hid (e'.id = ei ∧ g'.id = gi) := ⟨by rw [he'], by rw [HG'.out]⟩
      clear hy hcc hb q0 q1 q2 q3 g1 g2 hei hel hee he' d0
      by_cases hall : ∀ x ∈ L.take k, x.id < g'.id
      · by_cases hge0 : ei < gi
        · obtain ⟨t1, t2, t3⟩ := go_lt hall (e := e') (by have := HEI.out; omega)
          have edn : dn = false := by rw [HDK.out]; exact t3
          subst edn
          have HTK : Hid (goL false g' (L.take (k + 1)) = goL false g' (L.take k) ++ [e']) := by simp only [Hid]; rw [HTK1.out]; exact t1
          have HDN : Hid (goD false g' (L.take (k + 1)) = false) := by simp only [Hid]; rw [HTK1.out]; exact t2
          have hge : (ei : Int) < (gi : Int) := by omega
          have hne : ¬ ((ei : Int) = (gi : Int)) := by omega
          clear hall t1 t2 t3
          go_upto_region 6 with (fail)
          have HDl3a : Hid (Below wr.heap.size wr wr.drew) := HRF.out.drew
          refine wp_region_held_drew (S := fun W : World => W.cell? ⟨b, o + k * 4, none⟩ = some (.int .u32 (ei : Int)) ∧ W.cell? ⟨G, 0, none⟩ = some (.int .u32 (gi : Int))) (by kernel_rfl) (HCE.out _ (HV.out.2.trans ((HDl3a.out).mono HV.out.2.size))) (fun hHeld => ?_)
          obtain ⟨Wl3a0, hW0⟩ : ∃ W0, W0 = wr.drew := ⟨_, rfl⟩
          rw [← hW0] at hHeld HDl3a ⊢
          clear hW0
          refine wpAnyH_take (i := 0) (oi := ?oi0l3a) (v := ?v0l3a) ?hi0l3a ?hs0l3a ?hf0l3a ?hr0l3a ?hQ0l3a ?hy0l3a ?hS0l3a ?h0l3a
          case hi0l3a => exact (by simp only [List.getElem?_toArray, List.getElem?_cons_zero]; rfl)
          case hs0l3a => kernel_rfl
          case hf0l3a => kernel_rfl
          case hr0l3a => kernel_rfl
          case hQ0l3a => exact fun _ _ _ h => h
          case hy0l3a =>
            refine Or.inl ⟨rfl, ?_⟩
            intro W hSw
            obtain ⟨q0, q1⟩ := hSw
            go_simp
            try with_reducible rfl
          case hS0l3a => assumption
          try simp only [Act.put, List.setIfInBounds_toArray, List.set_cons_zero, List.set_cons_succ]
          refine wpAnyH_take (i := 1) (oi := ?oi1l3a) (v := ?v1l3a) ?hi1l3a ?hs1l3a ?hf1l3a ?hr1l3a ?hQ1l3a ?hy1l3a ?hS1l3a ?h1l3a
          case hi1l3a => exact (by simp only [List.getElem?_toArray, List.getElem?_cons_succ, List.getElem?_cons_zero]; rfl)
          case hs1l3a => kernel_rfl
          case hf1l3a => kernel_rfl
          case hr1l3a => kernel_rfl
          case hQ1l3a => exact fun _ _ _ h => h
          case hy1l3a =>
            refine Or.inl ⟨rfl, ?_⟩
            intro W hSw
            obtain ⟨q0, q1⟩ := hSw
            go_simp
            try with_reducible rfl
          case hS1l3a => assumption
          try simp only [Act.put, List.setIfInBounds_toArray, List.set_cons_zero, List.set_cons_succ]
          refine wpAnyH_take (i := 2) (oi := ?oi2l3a) (v := ?v2l3a) ?hi2l3a ?hs2l3a ?hf2l3a ?hr2l3a ?hQ2l3a ?hy2l3a ?hS2l3a ?h2l3a
          case hi2l3a => exact (by simp only [List.getElem?_toArray, List.getElem?_cons_succ, List.getElem?_cons_zero]; rfl)
          case hs2l3a => kernel_rfl
          case hf2l3a => kernel_rfl
          case hr2l3a => kernel_rfl
          case hQ2l3a => exact fun _ _ _ h => h
          case hy2l3a =>
            refine Or.inl ⟨rfl, ?_⟩
            intro W hSw
            obtain ⟨q0, q1⟩ := hSw
            go_simp
            try with_reducible rfl
          case hS2l3a => assumption
          try simp only [Act.put, List.setIfInBounds_toArray, List.set_cons_zero, List.set_cons_succ]
          refine wpAnyH_take (i := 3) (oi := ?oi3l3a) (v := ?v3l3a) ?hi3l3a ?hs3l3a ?hf3l3a ?hr3l3a ?hQ3l3a ?hy3l3a ?hS3l3a ?h3l3a
          case hi3l3a => exact (by simp only [List.getElem?_toArray, List.getElem?_cons_succ, List.getElem?_cons_zero]; rfl)
          case hs3l3a => kernel_rfl
          case hf3l3a => kernel_rfl
          case hr3l3a => kernel_rfl
          case hQ3l3a => exact fun _ _ _ h => h
          case hy3l3a =>
            refine Or.inl ⟨rfl, ?_⟩
            intro W hSw
            obtain ⟨q0, q1⟩ := hSw
            go_simp
            try with_reducible rfl
          case hS3l3a => assumption
          try simp only [Act.put, List.setIfInBounds_toArray, List.set_cons_zero, List.set_cons_succ]
          refine wpAnyH_take (i := 4) (oi := ?oi4l3a) (v := ?v4l3a) ?hi4l3a ?hs4l3a ?hf4l3a ?hr4l3a ?hQ4l3a ?hy4l3a ?hS4l3a ?h4l3a
          case hi4l3a => exact (by simp only [List.getElem?_toArray, List.getElem?_cons_succ, List.getElem?_cons_zero]; rfl)
          case hs4l3a => kernel_rfl
          case hf4l3a => kernel_rfl
          case hr4l3a => kernel_rfl
          case hQ4l3a => exact fun _ _ _ h => h
          case hy4l3a =>
            refine Or.inl ⟨rfl, ?_⟩
            intro W hSw
            obtain ⟨q0, q1⟩ := hSw
            go_simp
            try with_reducible rfl
          case hS4l3a => assumption
          try simp only [Act.put, List.setIfInBounds_toArray, List.set_cons_zero, List.set_cons_succ]
          refine wpAnyH_take (i := 5) (oi := ?oi5l3a) (v := ?v5l3a) ?hi5l3a ?hs5l3a ?hf5l3a ?hr5l3a ?hQ5l3a ?hy5l3a ?hS5l3a ?h5l3a
          case hi5l3a => exact (by simp only [List.getElem?_toArray, List.getElem?_cons_succ, List.getElem?_cons_zero]; rfl)
          case hs5l3a => kernel_rfl
          case hf5l3a => kernel_rfl
          case hr5l3a => kernel_rfl
          case hQ5l3a => exact fun _ _ _ h => h
          case hy5l3a =>
            refine Or.inl ⟨rfl, ?_⟩
            intro W hSw
            obtain ⟨q0, q1⟩ := hSw
            go_simp
            try with_reducible rfl
          case hS5l3a => assumption
          try simp only [Act.put, List.setIfInBounds_toArray, List.set_cons_zero, List.set_cons_succ]
          refine wpAnyH_take (i := 6) (oi := ?oi6l3a) (v := ?v6l3a) ?hi6l3a ?hs6l3a ?hf6l3a ?hr6l3a ?hQ6l3a ?hy6l3a ?hS6l3a ?h6l3a
          case hi6l3a => exact (by simp only [List.getElem?_toArray, List.getElem?_cons_succ, List.getElem?_cons_zero]; rfl)
          case hs6l3a => kernel_rfl
          case hf6l3a => kernel_rfl
          case hr6l3a => kernel_rfl
          case hQ6l3a => exact fun _ _ _ h => h
          case hy6l3a =>
            refine Or.inl ⟨rfl, ?_⟩
            intro W hSw
            obtain ⟨q0, q1⟩ := hSw
            go_simp
            try with_reducible rfl
          case hS6l3a => assumption
          try simp only [Act.put, List.setIfInBounds_toArray, List.set_cons_zero, List.set_cons_succ]
          refine wpAnyH_take (i := 7) (oi := ?oi7l3a) (v := ?v7l3a) ?hi7l3a ?hs7l3a ?hf7l3a ?hr7l3a ?hQ7l3a ?hy7l3a ?hS7l3a ?h7l3a
          case hi7l3a => exact (by simp only [List.getElem?_toArray, List.getElem?_cons_succ, List.getElem?_cons_zero]; rfl)
          case hs7l3a => kernel_rfl
          case hf7l3a => kernel_rfl
          case hr7l3a => kernel_rfl
          case hQ7l3a => exact fun _ _ _ h => h
          case hy7l3a =>
            refine Or.inl ⟨rfl, ?_⟩
            intro W hSw
            obtain ⟨q0, q1⟩ := hSw
            go_simp
            try with_reducible rfl
          case hS7l3a => assumption
          try simp only [Act.put, List.setIfInBounds_toArray, List.set_cons_zero, List.set_cons_succ]
          refine wpAnyH_take (i := 8) (oi := ?oi8l3a) (v := ?v8l3a) ?hi8l3a ?hs8l3a ?hf8l3a ?hr8l3a ?hQ8l3a ?hy8l3a ?hS8l3a ?h8l3a
          case hi8l3a => exact (by simp only [List.getElem?_toArray, List.getElem?_cons_succ, List.getElem?_cons_zero]; rfl)
          case hs8l3a => kernel_rfl
          case hf8l3a => kernel_rfl
          case hr8l3a => kernel_rfl
          case hQ8l3a => exact fun _ _ _ h => h
          case hy8l3a =>
            refine Or.inl ⟨rfl, ?_⟩
            intro W hSw
            obtain ⟨q0, q1⟩ := hSw
            go_simp
            try with_reducible rfl
          case hS8l3a => assumption
          try simp only [Act.put, List.setIfInBounds_toArray, List.set_cons_zero, List.set_cons_succ]
          refine wpAnyH_take (i := 9) (oi := ?oi9l3a) (v := ?v9l3a) ?hi9l3a ?hs9l3a ?hf9l3a ?hr9l3a ?hQ9l3a ?hy9l3a ?hS9l3a ?h9l3a
          case hi9l3a => exact (by simp only [List.getElem?_toArray, List.getElem?_cons_succ, List.getElem?_cons_zero]; rfl)
          case hs9l3a => kernel_rfl
          case hf9l3a => kernel_rfl
          case hr9l3a => kernel_rfl
          case hQ9l3a => exact fun _ _ _ h => h
          case hy9l3a =>
            refine Or.inl ⟨rfl, ?_⟩
            intro W hSw
            obtain ⟨q0, q1⟩ := hSw
            go_simp
            try with_reducible rfl
          case hS9l3a => assumption
          try simp only [Act.put, List.setIfInBounds_toArray, List.set_cons_zero, List.set_cons_succ]
          refine wpAnyH_take (i := 10) (oi := ?oi10l3a) (v := (.bool false)) ?hi10l3a ?hs10l3a ?hf10l3a ?hr10l3a ?hQ10l3a ?hy10l3a ?hS10l3a ?h10l3a
          case hi10l3a => exact (by simp only [List.getElem?_toArray, List.getElem?_cons_succ, List.getElem?_cons_zero]; rfl)
          case hs10l3a => kernel_rfl
          case hf10l3a => kernel_rfl
          case hr10l3a => kernel_rfl
          case hQ10l3a => exact fun _ _ _ h => h
          case hy10l3a =>
            refine Or.inl ⟨rfl, ?_⟩
            intro W hSw
            obtain ⟨q0, q1⟩ := hSw
            go_simp
            first | done | omega | (simp [hge]; done) | (simp; done) | (simp; omega)
          case hS10l3a => assumption
          try simp only [Act.put, List.setIfInBounds_toArray, List.set_cons_zero, List.set_cons_succ]
          refine wpAnyH_take (i := 11) (oi := ?oi11l3a) (v := ?v11l3a) ?hi11l3a ?hs11l3a ?hf11l3a ?hr11l3a ?hQ11l3a ?hy11l3a ?hS11l3a ?h11l3a
          case hi11l3a => exact (by simp only [List.getElem?_toArray, List.getElem?_cons_succ, List.getElem?_cons_zero]; rfl)
          case hs11l3a => kernel_rfl
          case hf11l3a => kernel_rfl
          case hr11l3a => kernel_rfl
          case hQ11l3a => exact fun _ _ _ h => h
          case hy11l3a =>
            refine Or.inl ⟨rfl, ?_⟩
            intro W hSw
            obtain ⟨q0, q1⟩ := hSw
            go_simp
            try with_reducible rfl
          case hS11l3a => assumption
          try simp only [Act.put, List.setIfInBounds_toArray, List.set_cons_zero, List.set_cons_succ]
          refine wpAnyH_done (by kernel_rfl) ?_ _
          have HBWl3a0 : Hid (Below w0.heap.size w0 Wl3a0) := HV.out.2.trans (HDl3a.out.mono HV.out.2.size)
          have HPWl3a0 := Lib.hid (HV.out.1.after HDl3a.out)
          go_upto_region 9 with (fail)
          have HRF2 : Hid (Below Wl3a0.heap.size Wl3a0 Wl3a0) := Below.refl _ _
          have HDl3b : Hid (Below Wl3a0.heap.size Wl3a0 Wl3a0.drew) := HRF2.out.drew
          refine wp_region_held_drew (S := fun W : World => W.cell? ⟨b, o + k * 4, none⟩ = some (.int .u32 (ei : Int)) ∧ W.cell? ⟨G, 0, none⟩ = some (.int .u32 (gi : Int))) (by kernel_rfl) (HCE.out _ (HBWl3a0.out.trans ((HDl3b.out).mono HBWl3a0.out.size))) (fun hHeld => ?_)
          obtain ⟨Wl3b0, hW0⟩ : ∃ W0, W0 = Wl3a0.drew := ⟨_, rfl⟩
          rw [← hW0] at hHeld HDl3b ⊢
          clear hW0
          refine wpAnyH_take (i := 0) (oi := ?oi0l3b) (v := ?v0l3b) ?hi0l3b ?hs0l3b ?hf0l3b ?hr0l3b ?hQ0l3b ?hy0l3b ?hS0l3b ?h0l3b
          case hi0l3b => exact (by simp only [List.getElem?_toArray, List.getElem?_cons_zero]; rfl)
          case hs0l3b => kernel_rfl
          case hf0l3b => kernel_rfl
          case hr0l3b => kernel_rfl
          case hQ0l3b => exact fun _ _ _ h => h
          case hy0l3b =>
            refine Or.inl ⟨rfl, ?_⟩
            intro W hSw
            obtain ⟨q0, q1⟩ := hSw
            go_simp
            try with_reducible rfl
          case hS0l3b => assumption
          try simp only [Act.put, List.setIfInBounds_toArray, List.set_cons_zero, List.set_cons_succ]
          refine wpAnyH_take (i := 1) (oi := ?oi1l3b) (v := ?v1l3b) ?hi1l3b ?hs1l3b ?hf1l3b ?hr1l3b ?hQ1l3b ?hy1l3b ?hS1l3b ?h1l3b
          case hi1l3b => exact (by simp only [List.getElem?_toArray, List.getElem?_cons_succ, List.getElem?_cons_zero]; rfl)
          case hs1l3b => kernel_rfl
          case hf1l3b => kernel_rfl
          case hr1l3b => kernel_rfl
          case hQ1l3b => exact fun _ _ _ h => h
          case hy1l3b =>
            refine Or.inl ⟨rfl, ?_⟩
            intro W hSw
            obtain ⟨q0, q1⟩ := hSw
            go_simp
            try with_reducible rfl
          case hS1l3b => assumption
          try simp only [Act.put, List.setIfInBounds_toArray, List.set_cons_zero, List.set_cons_succ]
          refine wpAnyH_take (i := 2) (oi := ?oi2l3b) (v := ?v2l3b) ?hi2l3b ?hs2l3b ?hf2l3b ?hr2l3b ?hQ2l3b ?hy2l3b ?hS2l3b ?h2l3b
          case hi2l3b => exact (by simp only [List.getElem?_toArray, List.getElem?_cons_succ, List.getElem?_cons_zero]; rfl)
          case hs2l3b => kernel_rfl
          case hf2l3b => kernel_rfl
          case hr2l3b => kernel_rfl
          case hQ2l3b => exact fun _ _ _ h => h
          case hy2l3b =>
            refine Or.inl ⟨rfl, ?_⟩
            intro W hSw
            obtain ⟨q0, q1⟩ := hSw
            go_simp
            try with_reducible rfl
          case hS2l3b => assumption
          try simp only [Act.put, List.setIfInBounds_toArray, List.set_cons_zero, List.set_cons_succ]
          refine wpAnyH_take (i := 3) (oi := ?oi3l3b) (v := ?v3l3b) ?hi3l3b ?hs3l3b ?hf3l3b ?hr3l3b ?hQ3l3b ?hy3l3b ?hS3l3b ?h3l3b
          case hi3l3b => exact (by simp only [List.getElem?_toArray, List.getElem?_cons_succ, List.getElem?_cons_zero]; rfl)
          case hs3l3b => kernel_rfl
          case hf3l3b => kernel_rfl
          case hr3l3b => kernel_rfl
          case hQ3l3b => exact fun _ _ _ h => h
          case hy3l3b =>
            refine Or.inl ⟨rfl, ?_⟩
            intro W hSw
            obtain ⟨q0, q1⟩ := hSw
            go_simp
            try with_reducible rfl
          case hS3l3b => assumption
          try simp only [Act.put, List.setIfInBounds_toArray, List.set_cons_zero, List.set_cons_succ]
          refine wpAnyH_take (i := 4) (oi := ?oi4l3b) (v := ?v4l3b) ?hi4l3b ?hs4l3b ?hf4l3b ?hr4l3b ?hQ4l3b ?hy4l3b ?hS4l3b ?h4l3b
          case hi4l3b => exact (by simp only [List.getElem?_toArray, List.getElem?_cons_succ, List.getElem?_cons_zero]; rfl)
          case hs4l3b => kernel_rfl
          case hf4l3b => kernel_rfl
          case hr4l3b => kernel_rfl
          case hQ4l3b => exact fun _ _ _ h => h
          case hy4l3b =>
            refine Or.inl ⟨rfl, ?_⟩
            intro W hSw
            obtain ⟨q0, q1⟩ := hSw
            go_simp
            try with_reducible rfl
          case hS4l3b => assumption
          try simp only [Act.put, List.setIfInBounds_toArray, List.set_cons_zero, List.set_cons_succ]
          refine wpAnyH_take (i := 5) (oi := ?oi5l3b) (v := ?v5l3b) ?hi5l3b ?hs5l3b ?hf5l3b ?hr5l3b ?hQ5l3b ?hy5l3b ?hS5l3b ?h5l3b
          case hi5l3b => exact (by simp only [List.getElem?_toArray, List.getElem?_cons_succ, List.getElem?_cons_zero]; rfl)
          case hs5l3b => kernel_rfl
          case hf5l3b => kernel_rfl
          case hr5l3b => kernel_rfl
          case hQ5l3b => exact fun _ _ _ h => h
          case hy5l3b =>
            refine Or.inl ⟨rfl, ?_⟩
            intro W hSw
            obtain ⟨q0, q1⟩ := hSw
            go_simp
            try with_reducible rfl
          case hS5l3b => assumption
          try simp only [Act.put, List.setIfInBounds_toArray, List.set_cons_zero, List.set_cons_succ]
          refine wpAnyH_take (i := 6) (oi := ?oi6l3b) (v := ?v6l3b) ?hi6l3b ?hs6l3b ?hf6l3b ?hr6l3b ?hQ6l3b ?hy6l3b ?hS6l3b ?h6l3b
          case hi6l3b => exact (by simp only [List.getElem?_toArray, List.getElem?_cons_succ, List.getElem?_cons_zero]; rfl)
          case hs6l3b => kernel_rfl
          case hf6l3b => kernel_rfl
          case hr6l3b => kernel_rfl
          case hQ6l3b => exact fun _ _ _ h => h
          case hy6l3b =>
            refine Or.inl ⟨rfl, ?_⟩
            intro W hSw
            obtain ⟨q0, q1⟩ := hSw
            go_simp
            try with_reducible rfl
          case hS6l3b => assumption
          try simp only [Act.put, List.setIfInBounds_toArray, List.set_cons_zero, List.set_cons_succ]
          refine wpAnyH_take (i := 7) (oi := ?oi7l3b) (v := (.bool true)) ?hi7l3b ?hs7l3b ?hf7l3b ?hr7l3b ?hQ7l3b ?hy7l3b ?hS7l3b ?h7l3b
          case hi7l3b => exact (by simp only [List.getElem?_toArray, List.getElem?_cons_succ, List.getElem?_cons_zero]; rfl)
          case hs7l3b => kernel_rfl
          case hf7l3b => kernel_rfl
          case hr7l3b => kernel_rfl
          case hQ7l3b => exact fun _ _ _ h => h
          case hy7l3b =>
            refine Or.inl ⟨rfl, ?_⟩
            intro W hSw
            obtain ⟨q0, q1⟩ := hSw
            go_simp
            try simp [hne]
          case hS7l3b => assumption
          try simp only [Act.put, List.setIfInBounds_toArray, List.set_cons_zero, List.set_cons_succ]
          refine wpAnyH_done (by kernel_rfl) ?_ _
          have HBWl3b0 : Hid (Below w0.heap.size w0 Wl3b0) := HBWl3a0.out.trans (HDl3b.out.mono HBWl3a0.out.size)
          have HPWl3b0 := Lib.hid (HPWl3a0.out.after HDl3b.out)
          have hqe := HEE.out Wl3b0 HBWl3b0.out
          obtain ⟨x0, x1, x2, x3, _, _⟩ := hqe
          have HFE := Lib.hid (HEE2.out Wl3b0 HBWl3b0.out)
          go_wp2_with (at_builtin; refine wpList_append_pt rfl _ _ rfl R vi w0.heap.size Wl3b0.heap.size B2 m c2 (goL false g' (L.take k)) e' me ve rfl rfl (HPWl3b0.out.after ((Below.refl _ _).alloc (Nat.le_refl _) _)) (by exact (by rw [HE'.out]; exact heap_alloc_new _ _)) (by have := HMK.out; omega) (by have := HBWl3b0.out.size; simp; omega) (HFE.out.1.after ((Below.refl _ _).alloc (Nat.le_refl _) _)) (HFE.out.2.after ((Below.refl _ _).alloc (Nat.le_refl _) _)) ?_; intro B8 c8 w8 hpo hgr hbs; have HP8 := Lib.hid hpo; have HB8 : Hid (Below w0.heap.size w0 w8) := (HBWl3b0.out.alloc HBWl3b0.out.size _).grown hgr (by have := HBWl3b0.out.size; simp; omega) hbs; clear hpo hgr hbs)
          go_roundw
          case rel => exact ⟨k + 1, _, B8, c8, by omega, by go_num, rfl, by rw [HDN.out], ⟨by rw [HTK.out]; exact HP8.out, HB8.out⟩⟩
          case measure => simp [intOf] <;> omega
        · obtain ⟨t1, t2, t3⟩ := go_ge hall (e := e') (by have := HEI.out; omega)
          have edn : dn = false := by rw [HDK.out]; exact t3
          subst edn
          have HDN : Hid (goD false g' (L.take (k + 1)) = true) := by simp only [Hid]; rw [HTK1.out]; exact t2
          have hge : ¬ ((ei : Int) < (gi : Int)) := by omega
          by_cases hne0 : ei = gi
          · have hne : (ei : Int) = (gi : Int) := by omega
            have HTK : Hid (goL false g' (L.take (k + 1)) = goL false g' (L.take k) ++ [g']) := by simp only [Hid]; rw [HTK1.out, t1, if_pos (by have := HEI.out; omega), List.append_nil]
            clear hall t1 t2 t3
            go_upto_region 6 with (fail)
            have HDl4a : Hid (Below wr.heap.size wr wr.drew) := HRF.out.drew
            refine wp_region_held_drew (S := fun W : World => W.cell? ⟨b, o + k * 4, none⟩ = some (.int .u32 (ei : Int)) ∧ W.cell? ⟨G, 0, none⟩ = some (.int .u32 (gi : Int))) (by kernel_rfl) (HCE.out _ (HV.out.2.trans ((HDl4a.out).mono HV.out.2.size))) (fun hHeld => ?_)
            obtain ⟨Wl4a0, hW0⟩ : ∃ W0, W0 = wr.drew := ⟨_, rfl⟩
            rw [← hW0] at hHeld HDl4a ⊢
            clear hW0
            refine wpAnyH_take (i := 0) (oi := ?oi0l4a) (v := ?v0l4a) ?hi0l4a ?hs0l4a ?hf0l4a ?hr0l4a ?hQ0l4a ?hy0l4a ?hS0l4a ?h0l4a
            case hi0l4a => exact (by simp only [List.getElem?_toArray, List.getElem?_cons_zero]; rfl)
            case hs0l4a => kernel_rfl
            case hf0l4a => kernel_rfl
            case hr0l4a => kernel_rfl
            case hQ0l4a => exact fun _ _ _ h => h
            case hy0l4a =>
              refine Or.inl ⟨rfl, ?_⟩
              intro W hSw
              obtain ⟨q0, q1⟩ := hSw
              go_simp
              try with_reducible rfl
            case hS0l4a => assumption
            try simp only [Act.put, List.setIfInBounds_toArray, List.set_cons_zero, List.set_cons_succ]
            refine wpAnyH_take (i := 1) (oi := ?oi1l4a) (v := ?v1l4a) ?hi1l4a ?hs1l4a ?hf1l4a ?hr1l4a ?hQ1l4a ?hy1l4a ?hS1l4a ?h1l4a
            case hi1l4a => exact (by simp only [List.getElem?_toArray, List.getElem?_cons_succ, List.getElem?_cons_zero]; rfl)
            case hs1l4a => kernel_rfl
            case hf1l4a => kernel_rfl
            case hr1l4a => kernel_rfl
            case hQ1l4a => exact fun _ _ _ h => h
            case hy1l4a =>
              refine Or.inl ⟨rfl, ?_⟩
              intro W hSw
              obtain ⟨q0, q1⟩ := hSw
              go_simp
              try with_reducible rfl
            case hS1l4a => assumption
            try simp only [Act.put, List.setIfInBounds_toArray, List.set_cons_zero, List.set_cons_succ]
            refine wpAnyH_take (i := 2) (oi := ?oi2l4a) (v := ?v2l4a) ?hi2l4a ?hs2l4a ?hf2l4a ?hr2l4a ?hQ2l4a ?hy2l4a ?hS2l4a ?h2l4a
            case hi2l4a => exact (by simp only [List.getElem?_toArray, List.getElem?_cons_succ, List.getElem?_cons_zero]; rfl)
            case hs2l4a => kernel_rfl
            case hf2l4a => kernel_rfl
            case hr2l4a => kernel_rfl
            case hQ2l4a => exact fun _ _ _ h => h
            case hy2l4a =>
              refine Or.inl ⟨rfl, ?_⟩
              intro W hSw
              obtain ⟨q0, q1⟩ := hSw
              go_simp
              try with_reducible rfl
            case hS2l4a => assumption
            try simp only [Act.put, List.setIfInBounds_toArray, List.set_cons_zero, List.set_cons_succ]
            refine wpAnyH_take (i := 3) (oi := ?oi3l4a) (v := ?v3l4a) ?hi3l4a ?hs3l4a ?hf3l4a ?hr3l4a ?hQ3l4a ?hy3l4a ?hS3l4a ?h3l4a
            case hi3l4a => exact (by simp only [List.getElem?_toArray, List.getElem?_cons_succ, List.getElem?_cons_zero]; rfl)
            case hs3l4a => kernel_rfl
            case hf3l4a => kernel_rfl
            case hr3l4a => kernel_rfl
            case hQ3l4a => exact fun _ _ _ h => h
            case hy3l4a =>
              refine Or.inl ⟨rfl, ?_⟩
              intro W hSw
              obtain ⟨q0, q1⟩ := hSw
              go_simp
              try with_reducible rfl
            case hS3l4a => assumption
            try simp only [Act.put, List.setIfInBounds_toArray, List.set_cons_zero, List.set_cons_succ]
            refine wpAnyH_take (i := 4) (oi := ?oi4l4a) (v := ?v4l4a) ?hi4l4a ?hs4l4a ?hf4l4a ?hr4l4a ?hQ4l4a ?hy4l4a ?hS4l4a ?h4l4a
            case hi4l4a => exact (by simp only [List.getElem?_toArray, List.getElem?_cons_succ, List.getElem?_cons_zero]; rfl)
            case hs4l4a => kernel_rfl
            case hf4l4a => kernel_rfl
            case hr4l4a => kernel_rfl
            case hQ4l4a => exact fun _ _ _ h => h
            case hy4l4a =>
              refine Or.inl ⟨rfl, ?_⟩
              intro W hSw
              obtain ⟨q0, q1⟩ := hSw
              go_simp
              try with_reducible rfl
            case hS4l4a => assumption
            try simp only [Act.put, List.setIfInBounds_toArray, List.set_cons_zero, List.set_cons_succ]
            refine wpAnyH_take (i := 5) (oi := ?oi5l4a) (v := ?v5l4a) ?hi5l4a ?hs5l4a ?hf5l4a ?hr5l4a ?hQ5l4a ?hy5l4a ?hS5l4a ?h5l4a
            case hi5l4a => exact (by simp only [List.getElem?_toArray, List.getElem?_cons_succ, List.getElem?_cons_zero]; rfl)
            case hs5l4a => kernel_rfl
            case hf5l4a => kernel_rfl
            case hr5l4a => kernel_rfl
            case hQ5l4a => exact fun _ _ _ h => h
            case hy5l4a =>
              refine Or.inl ⟨rfl, ?_⟩
              intro W hSw
              obtain ⟨q0, q1⟩ := hSw
              go_simp
              try with_reducible rfl
            case hS5l4a => assumption
            try simp only [Act.put, List.setIfInBounds_toArray, List.set_cons_zero, List.set_cons_succ]
            refine wpAnyH_take (i := 6) (oi := ?oi6l4a) (v := ?v6l4a) ?hi6l4a ?hs6l4a ?hf6l4a ?hr6l4a ?hQ6l4a ?hy6l4a ?hS6l4a ?h6l4a
            case hi6l4a => exact (by simp only [List.getElem?_toArray, List.getElem?_cons_succ, List.getElem?_cons_zero]; rfl)
            case hs6l4a => kernel_rfl
            case hf6l4a => kernel_rfl
            case hr6l4a => kernel_rfl
            case hQ6l4a => exact fun _ _ _ h => h
            case hy6l4a =>
              refine Or.inl ⟨rfl, ?_⟩
              intro W hSw
              obtain ⟨q0, q1⟩ := hSw
              go_simp
              try with_reducible rfl
            case hS6l4a => assumption
            try simp only [Act.put, List.setIfInBounds_toArray, List.set_cons_zero, List.set_cons_succ]
            refine wpAnyH_take (i := 7) (oi := ?oi7l4a) (v := ?v7l4a) ?hi7l4a ?hs7l4a ?hf7l4a ?hr7l4a ?hQ7l4a ?hy7l4a ?hS7l4a ?h7l4a
            case hi7l4a => exact (by simp only [List.getElem?_toArray, List.getElem?_cons_succ, List.getElem?_cons_zero]; rfl)
            case hs7l4a => kernel_rfl
            case hf7l4a => kernel_rfl
            case hr7l4a => kernel_rfl
            case hQ7l4a => exact fun _ _ _ h => h
            case hy7l4a =>
              refine Or.inl ⟨rfl, ?_⟩
              intro W hSw
              obtain ⟨q0, q1⟩ := hSw
              go_simp
              try with_reducible rfl
            case hS7l4a => assumption
            try simp only [Act.put, List.setIfInBounds_toArray, List.set_cons_zero, List.set_cons_succ]
            refine wpAnyH_take (i := 8) (oi := ?oi8l4a) (v := ?v8l4a) ?hi8l4a ?hs8l4a ?hf8l4a ?hr8l4a ?hQ8l4a ?hy8l4a ?hS8l4a ?h8l4a
            case hi8l4a => exact (by simp only [List.getElem?_toArray, List.getElem?_cons_succ, List.getElem?_cons_zero]; rfl)
            case hs8l4a => kernel_rfl
            case hf8l4a => kernel_rfl
            case hr8l4a => kernel_rfl
            case hQ8l4a => exact fun _ _ _ h => h
            case hy8l4a =>
              refine Or.inl ⟨rfl, ?_⟩
              intro W hSw
              obtain ⟨q0, q1⟩ := hSw
              go_simp
              try with_reducible rfl
            case hS8l4a => assumption
            try simp only [Act.put, List.setIfInBounds_toArray, List.set_cons_zero, List.set_cons_succ]
            refine wpAnyH_take (i := 9) (oi := ?oi9l4a) (v := ?v9l4a) ?hi9l4a ?hs9l4a ?hf9l4a ?hr9l4a ?hQ9l4a ?hy9l4a ?hS9l4a ?h9l4a
            case hi9l4a => exact (by simp only [List.getElem?_toArray, List.getElem?_cons_succ, List.getElem?_cons_zero]; rfl)
            case hs9l4a => kernel_rfl
            case hf9l4a => kernel_rfl
            case hr9l4a => kernel_rfl
            case hQ9l4a => exact fun _ _ _ h => h
            case hy9l4a =>
              refine Or.inl ⟨rfl, ?_⟩
              intro W hSw
              obtain ⟨q0, q1⟩ := hSw
              go_simp
              try with_reducible rfl
            case hS9l4a => assumption
            try simp only [Act.put, List.setIfInBounds_toArray, List.set_cons_zero, List.set_cons_succ]
            refine wpAnyH_take (i := 10) (oi := ?oi10l4a) (v := (.bool true)) ?hi10l4a ?hs10l4a ?hf10l4a ?hr10l4a ?hQ10l4a ?hy10l4a ?hS10l4a ?h10l4a
            case hi10l4a => exact (by simp only [List.getElem?_toArray, List.getElem?_cons_succ, List.getElem?_cons_zero]; rfl)
            case hs10l4a => kernel_rfl
            case hf10l4a => kernel_rfl
            case hr10l4a => kernel_rfl
            case hQ10l4a => exact fun _ _ _ h => h
            case hy10l4a =>
              refine Or.inl ⟨rfl, ?_⟩
              intro W hSw
              obtain ⟨q0, q1⟩ := hSw
              go_simp
              first | done | omega | (simp [hge]; done) | (simp; done) | (simp; omega)
            case hS10l4a => assumption
            try simp only [Act.put, List.setIfInBounds_toArray, List.set_cons_zero, List.set_cons_succ]
            refine wpAnyH_take (i := 11) (oi := ?oi11l4a) (v := ?v11l4a) ?hi11l4a ?hs11l4a ?hf11l4a ?hr11l4a ?hQ11l4a ?hy11l4a ?hS11l4a ?h11l4a
            case hi11l4a => exact (by simp only [List.getElem?_toArray, List.getElem?_cons_succ, List.getElem?_cons_zero]; rfl)
            case hs11l4a => kernel_rfl
            case hf11l4a => kernel_rfl
            case hr11l4a => kernel_rfl
            case hQ11l4a => exact fun _ _ _ h => h
            case hy11l4a =>
              refine Or.inl ⟨rfl, ?_⟩
              intro W hSw
              obtain ⟨q0, q1⟩ := hSw
              go_simp
              try with_reducible rfl
            case hS11l4a => assumption
            try simp only [Act.put, List.setIfInBounds_toArray, List.set_cons_zero, List.set_cons_succ]
            refine wpAnyH_done (by kernel_rfl) ?_ _
            have HBWl4a0 : Hid (Below w0.heap.size w0 Wl4a0) := HV.out.2.trans (HDl4a.out.mono HV.out.2.size)
            have HPWl4a0 := Lib.hid (HV.out.1.after HDl4a.out)
            have hqg := HGR.out Wl4a0 HBWl4a0.out
            have x0 := cell_of_row _ G 0 _ _ _ hqg
            have x1 := cell_of_row _ G 1 _ _ _ hqg
            have x2 := cell_of_row _ G 2 _ _ _ hqg
            have x3 := cell_of_row _ G 3 _ _ _ hqg
            simp at x0 x1 x2 x3
            clear hqg
            have HFG : Hid (Fl Wl4a0 R vi ⟨ma, mn, mc⟩ g'.mem ∧ Fl Wl4a0 R vi ⟨va, vn, vc⟩ g'.inv) := by simp only [Hid]; rw [HG'.out]; exact ⟨HFL.out.1.after HBWl4a0.out, HFL.out.2.after HBWl4a0.out⟩
            go_upto_region 9 with (at_builtin; refine wpList_append_pt rfl _ _ rfl R vi w0.heap.size Wl4a0.heap.size B2 m c2 (goL false g' (L.take k)) g' ⟨ma, mn, mc⟩ ⟨va, vn, vc⟩ rfl rfl (HPWl4a0.out.after ((Below.refl _ _).alloc (Nat.le_refl _) _)) (by exact (by rw [HG'.out]; exact heap_alloc_new _ _)) (by have := HMK.out; omega) (by have := HBWl4a0.out.size; simp; omega) (HFG.out.1.after ((Below.refl _ _).alloc (Nat.le_refl _) _)) (HFG.out.2.after ((Below.refl _ _).alloc (Nat.le_refl _) _)) ?_; intro B6 c6 w6 hpo hgr hbs; have HP6 := Lib.hid hpo; have HB6 : Hid (Below w0.heap.size w0 w6) := (HBWl4a0.out.alloc HBWl4a0.out.size _).grown hgr (by have := HBWl4a0.out.size; simp; omega) hbs; clear hpo hgr hbs)
            clear x0 x1 x2 x3
            have HRF2 : Hid (Below w6.heap.size w6 w6) := Below.refl _ _
            have HDl4b : Hid (Below w6.heap.size w6 w6.drew) := HRF2.out.drew
            refine wp_region_held_drew (S := fun W : World => W.cell? ⟨b, o + k * 4, none⟩ = some (.int .u32 (ei : Int)) ∧ W.cell? ⟨G, 0, none⟩ = some (.int .u32 (gi : Int))) (by kernel_rfl) (HCE.out _ (HB6.out.trans ((HDl4b.out).mono HB6.out.size))) (fun hHeld => ?_)
            obtain ⟨Wl4b0, hW0⟩ : ∃ W0, W0 = w6.drew := ⟨_, rfl⟩
            rw [← hW0] at hHeld HDl4b ⊢
            clear hW0
            refine wpAnyH_take (i := 0) (oi := ?oi0l4b) (v := ?v0l4b) ?hi0l4b ?hs0l4b ?hf0l4b ?hr0l4b ?hQ0l4b ?hy0l4b ?hS0l4b ?h0l4b
            case hi0l4b => exact (by simp only [List.getElem?_toArray, List.getElem?_cons_zero]; rfl)
            case hs0l4b => kernel_rfl
            case hf0l4b => kernel_rfl
            case hr0l4b => kernel_rfl
            case hQ0l4b => exact fun _ _ _ h => h
            case hy0l4b =>
              refine Or.inl ⟨rfl, ?_⟩
              intro W hSw
              obtain ⟨q0, q1⟩ := hSw
              go_simp
              try with_reducible rfl
            case hS0l4b => assumption
            try simp only [Act.put, List.setIfInBounds_toArray, List.set_cons_zero, List.set_cons_succ]
            refine wpAnyH_take (i := 1) (oi := ?oi1l4b) (v := ?v1l4b) ?hi1l4b ?hs1l4b ?hf1l4b ?hr1l4b ?hQ1l4b ?hy1l4b ?hS1l4b ?h1l4b
            case hi1l4b => exact (by simp only [List.getElem?_toArray, List.getElem?_cons_succ, List.getElem?_cons_zero]; rfl)
            case hs1l4b => kernel_rfl
            case hf1l4b => kernel_rfl
            case hr1l4b => kernel_rfl
            case hQ1l4b => exact fun _ _ _ h => h
            case hy1l4b =>
              refine Or.inl ⟨rfl, ?_⟩
              intro W hSw
              obtain ⟨q0, q1⟩ := hSw
              go_simp
              try with_reducible rfl
            case hS1l4b => assumption
            try simp only [Act.put, List.setIfInBounds_toArray, List.set_cons_zero, List.set_cons_succ]
            refine wpAnyH_take (i := 2) (oi := ?oi2l4b) (v := ?v2l4b) ?hi2l4b ?hs2l4b ?hf2l4b ?hr2l4b ?hQ2l4b ?hy2l4b ?hS2l4b ?h2l4b
            case hi2l4b => exact (by simp only [List.getElem?_toArray, List.getElem?_cons_succ, List.getElem?_cons_zero]; rfl)
            case hs2l4b => kernel_rfl
            case hf2l4b => kernel_rfl
            case hr2l4b => kernel_rfl
            case hQ2l4b => exact fun _ _ _ h => h
            case hy2l4b =>
              refine Or.inl ⟨rfl, ?_⟩
              intro W hSw
              obtain ⟨q0, q1⟩ := hSw
              go_simp
              try with_reducible rfl
            case hS2l4b => assumption
            try simp only [Act.put, List.setIfInBounds_toArray, List.set_cons_zero, List.set_cons_succ]
            refine wpAnyH_take (i := 3) (oi := ?oi3l4b) (v := ?v3l4b) ?hi3l4b ?hs3l4b ?hf3l4b ?hr3l4b ?hQ3l4b ?hy3l4b ?hS3l4b ?h3l4b
            case hi3l4b => exact (by simp only [List.getElem?_toArray, List.getElem?_cons_succ, List.getElem?_cons_zero]; rfl)
            case hs3l4b => kernel_rfl
            case hf3l4b => kernel_rfl
            case hr3l4b => kernel_rfl
            case hQ3l4b => exact fun _ _ _ h => h
            case hy3l4b =>
              refine Or.inl ⟨rfl, ?_⟩
              intro W hSw
              obtain ⟨q0, q1⟩ := hSw
              go_simp
              try with_reducible rfl
            case hS3l4b => assumption
            try simp only [Act.put, List.setIfInBounds_toArray, List.set_cons_zero, List.set_cons_succ]
            refine wpAnyH_take (i := 4) (oi := ?oi4l4b) (v := ?v4l4b) ?hi4l4b ?hs4l4b ?hf4l4b ?hr4l4b ?hQ4l4b ?hy4l4b ?hS4l4b ?h4l4b
            case hi4l4b => exact (by simp only [List.getElem?_toArray, List.getElem?_cons_succ, List.getElem?_cons_zero]; rfl)
            case hs4l4b => kernel_rfl
            case hf4l4b => kernel_rfl
            case hr4l4b => kernel_rfl
            case hQ4l4b => exact fun _ _ _ h => h
            case hy4l4b =>
              refine Or.inl ⟨rfl, ?_⟩
              intro W hSw
              obtain ⟨q0, q1⟩ := hSw
              go_simp
              try with_reducible rfl
            case hS4l4b => assumption
            try simp only [Act.put, List.setIfInBounds_toArray, List.set_cons_zero, List.set_cons_succ]
            refine wpAnyH_take (i := 5) (oi := ?oi5l4b) (v := ?v5l4b) ?hi5l4b ?hs5l4b ?hf5l4b ?hr5l4b ?hQ5l4b ?hy5l4b ?hS5l4b ?h5l4b
            case hi5l4b => exact (by simp only [List.getElem?_toArray, List.getElem?_cons_succ, List.getElem?_cons_zero]; rfl)
            case hs5l4b => kernel_rfl
            case hf5l4b => kernel_rfl
            case hr5l4b => kernel_rfl
            case hQ5l4b => exact fun _ _ _ h => h
            case hy5l4b =>
              refine Or.inl ⟨rfl, ?_⟩
              intro W hSw
              obtain ⟨q0, q1⟩ := hSw
              go_simp
              try with_reducible rfl
            case hS5l4b => assumption
            try simp only [Act.put, List.setIfInBounds_toArray, List.set_cons_zero, List.set_cons_succ]
            refine wpAnyH_take (i := 6) (oi := ?oi6l4b) (v := ?v6l4b) ?hi6l4b ?hs6l4b ?hf6l4b ?hr6l4b ?hQ6l4b ?hy6l4b ?hS6l4b ?h6l4b
            case hi6l4b => exact (by simp only [List.getElem?_toArray, List.getElem?_cons_succ, List.getElem?_cons_zero]; rfl)
            case hs6l4b => kernel_rfl
            case hf6l4b => kernel_rfl
            case hr6l4b => kernel_rfl
            case hQ6l4b => exact fun _ _ _ h => h
            case hy6l4b =>
              refine Or.inl ⟨rfl, ?_⟩
              intro W hSw
              obtain ⟨q0, q1⟩ := hSw
              go_simp
              try with_reducible rfl
            case hS6l4b => assumption
            try simp only [Act.put, List.setIfInBounds_toArray, List.set_cons_zero, List.set_cons_succ]
            refine wpAnyH_take (i := 7) (oi := ?oi7l4b) (v := (.bool false)) ?hi7l4b ?hs7l4b ?hf7l4b ?hr7l4b ?hQ7l4b ?hy7l4b ?hS7l4b ?h7l4b
            case hi7l4b => exact (by simp only [List.getElem?_toArray, List.getElem?_cons_succ, List.getElem?_cons_zero]; rfl)
            case hs7l4b => kernel_rfl
            case hf7l4b => kernel_rfl
            case hr7l4b => kernel_rfl
            case hQ7l4b => exact fun _ _ _ h => h
            case hy7l4b =>
              refine Or.inl ⟨rfl, ?_⟩
              intro W hSw
              obtain ⟨q0, q1⟩ := hSw
              go_simp
              try simp [hne]
            case hS7l4b => assumption
            try simp only [Act.put, List.setIfInBounds_toArray, List.set_cons_zero, List.set_cons_succ]
            refine wpAnyH_done (by kernel_rfl) ?_ _
            have HBWl4b0 : Hid (Below w0.heap.size w0 Wl4b0) := HB6.out.trans (HDl4b.out.mono HB6.out.size)
            have HPWl4b0 := Lib.hid (HP6.out.after HDl4b.out)
            go_wp2_with fail
            go_roundw
            case rel => exact ⟨k + 1, _, B6, c6, by omega, by go_num, rfl, by rw [HDN.out], ⟨by rw [HTK.out]; exact HPWl4b0.out, HBWl4b0.out⟩⟩
            case measure => simp [intOf] <;> omega
          · have hne : ¬ ((ei : Int) = (gi : Int)) := by omega
            have HTK : Hid (goL false g' (L.take (k + 1)) = goL false g' (L.take k) ++ [g'] ++ [e']) := by simp only [Hid]; rw [HTK1.out, t1, if_neg (by have := HEI.out; omega)]
            clear hall t1 t2 t3
            go_upto_region 6 with (fail)
            have HDl5a : Hid (Below wr.heap.size wr wr.drew) := HRF.out.drew
            refine wp_region_held_drew (S := fun W : World => W.cell? ⟨b, o + k * 4, none⟩ = some (.int .u32 (ei : Int)) ∧ W.cell? ⟨G, 0, none⟩ = some (.int .u32 (gi : Int))) (by kernel_rfl) (HCE.out _ (HV.out.2.trans ((HDl5a.out).mono HV.out.2.size))) (fun hHeld => ?_)
            obtain ⟨Wl5a0, hW0⟩ : ∃ W0, W0 = wr.drew := ⟨_, rfl⟩
            rw [← hW0] at hHeld HDl5a ⊢
            clear hW0
            refine wpAnyH_take (i := 0) (oi := ?oi0l5a) (v := ?v0l5a) ?hi0l5a ?hs0l5a ?hf0l5a ?hr0l5a ?hQ0l5a ?hy0l5a ?hS0l5a ?h0l5a
            case hi0l5a => exact (by simp only [List.getElem?_toArray, List.getElem?_cons_zero]; rfl)
            case hs0l5a => kernel_rfl
            case hf0l5a => kernel_rfl
            case hr0l5a => kernel_rfl
            case hQ0l5a => exact fun _ _ _ h => h
            case hy0l5a =>
              refine Or.inl ⟨rfl, ?_⟩
              intro W hSw
              obtain ⟨q0, q1⟩ := hSw
              go_simp
              try with_reducible rfl
            case hS0l5a => assumption
            try simp only [Act.put, List.setIfInBounds_toArray, List.set_cons_zero, List.set_cons_succ]
            refine wpAnyH_take (i := 1) (oi := ?oi1l5a) (v := ?v1l5a) ?hi1l5a ?hs1l5a ?hf1l5a ?hr1l5a ?hQ1l5a ?hy1l5a ?hS1l5a ?h1l5a
            case hi1l5a => exact (by simp only [List.getElem?_toArray, List.getElem?_cons_succ, List.getElem?_cons_zero]; rfl)
            case hs1l5a => kernel_rfl
            case hf1l5a => kernel_rfl
            case hr1l5a => kernel_rfl
            case hQ1l5a => exact fun _ _ _ h => h
            case hy1l5a =>
              refine Or.inl ⟨rfl, ?_⟩
              intro W hSw
              obtain ⟨q0, q1⟩ := hSw
              go_simp
              try with_reducible rfl
            case hS1l5a => assumption
            try simp only [Act.put, List.setIfInBounds_toArray, List.set_cons_zero, List.set_cons_succ]
            refine wpAnyH_take (i := 2) (oi := ?oi2l5a) (v := ?v2l5a) ?hi2l5a ?hs2l5a ?hf2l5a ?hr2l5a ?hQ2l5a ?hy2l5a ?hS2l5a ?h2l5a
            case hi2l5a => exact (by simp only [List.getElem?_toArray, List.getElem?_cons_succ, List.getElem?_cons_zero]; rfl)
            case hs2l5a => kernel_rfl
            case hf2l5a => kernel_rfl
            case hr2l5a => kernel_rfl
            case hQ2l5a => exact fun _ _ _ h => h
            case hy2l5a =>
              refine Or.inl ⟨rfl, ?_⟩
              intro W hSw
              obtain ⟨q0, q1⟩ := hSw
              go_simp
              try with_reducible rfl
            case hS2l5a => assumption
            try simp only [Act.put, List.setIfInBounds_toArray, List.set_cons_zero, List.set_cons_succ]
            refine wpAnyH_take (i := 3) (oi := ?oi3l5a) (v := ?v3l5a) ?hi3l5a ?hs3l5a ?hf3l5a ?hr3l5a ?hQ3l5a ?hy3l5a ?hS3l5a ?h3l5a
            case hi3l5a => exact (by simp only [List.getElem?_toArray, List.getElem?_cons_succ, List.getElem?_cons_zero]; rfl)
            case hs3l5a => kernel_rfl
            case hf3l5a => kernel_rfl
            case hr3l5a => kernel_rfl
            case hQ3l5a => exact fun _ _ _ h => h
            case hy3l5a =>
              refine Or.inl ⟨rfl, ?_⟩
              intro W hSw
              obtain ⟨q0, q1⟩ := hSw
              go_simp
              try with_reducible rfl
            case hS3l5a => assumption
            try simp only [Act.put, List.setIfInBounds_toArray, List.set_cons_zero, List.set_cons_succ]
            refine wpAnyH_take (i := 4) (oi := ?oi4l5a) (v := ?v4l5a) ?hi4l5a ?hs4l5a ?hf4l5a ?hr4l5a ?hQ4l5a ?hy4l5a ?hS4l5a ?h4l5a
            case hi4l5a => exact (by simp only [List.getElem?_toArray, List.getElem?_cons_succ, List.getElem?_cons_zero]; rfl)
            case hs4l5a => kernel_rfl
            case hf4l5a => kernel_rfl
            case hr4l5a => kernel_rfl
            case hQ4l5a => exact fun _ _ _ h => h
            case hy4l5a =>
              refine Or.inl ⟨rfl, ?_⟩
              intro W hSw
              obtain ⟨q0, q1⟩ := hSw
              go_simp
              try with_reducible rfl
            case hS4l5a => assumption
            try simp only [Act.put, List.setIfInBounds_toArray, List.set_cons_zero, List.set_cons_succ]
            refine wpAnyH_take (i := 5) (oi := ?oi5l5a) (v := ?v5l5a) ?hi5l5a ?hs5l5a ?hf5l5a ?hr5l5a ?hQ5l5a ?hy5l5a ?hS5l5a ?h5l5a
            case hi5l5a => exact (by simp only [List.getElem?_toArray, List.getElem?_cons_succ, List.getElem?_cons_zero]; rfl)
            case hs5l5a => kernel_rfl
            case hf5l5a => kernel_rfl
            case hr5l5a => kernel_rfl
            case hQ5l5a => exact fun _ _ _ h => h
            case hy5l5a =>
              refine Or.inl ⟨rfl, ?_⟩
              intro W hSw
              obtain ⟨q0, q1⟩ := hSw
              go_simp
              try with_reducible rfl
            case hS5l5a => assumption
            try simp only [Act.put, List.setIfInBounds_toArray, List.set_cons_zero, List.set_cons_succ]
            refine wpAnyH_take (i := 6) (oi := ?oi6l5a) (v := ?v6l5a) ?hi6l5a ?hs6l5a ?hf6l5a ?hr6l5a ?hQ6l5a ?hy6l5a ?hS6l5a ?h6l5a
            case hi6l5a => exact (by simp only [List.getElem?_toArray, List.getElem?_cons_succ, List.getElem?_cons_zero]; rfl)
            case hs6l5a => kernel_rfl
            case hf6l5a => kernel_rfl
            case hr6l5a => kernel_rfl
            case hQ6l5a => exact fun _ _ _ h => h
            case hy6l5a =>
              refine Or.inl ⟨rfl, ?_⟩
              intro W hSw
              obtain ⟨q0, q1⟩ := hSw
              go_simp
              try with_reducible rfl
            case hS6l5a => assumption
            try simp only [Act.put, List.setIfInBounds_toArray, List.set_cons_zero, List.set_cons_succ]
            refine wpAnyH_take (i := 7) (oi := ?oi7l5a) (v := ?v7l5a) ?hi7l5a ?hs7l5a ?hf7l5a ?hr7l5a ?hQ7l5a ?hy7l5a ?hS7l5a ?h7l5a
            case hi7l5a => exact (by simp only [List.getElem?_toArray, List.getElem?_cons_succ, List.getElem?_cons_zero]; rfl)
            case hs7l5a => kernel_rfl
            case hf7l5a => kernel_rfl
            case hr7l5a => kernel_rfl
            case hQ7l5a => exact fun _ _ _ h => h
            case hy7l5a =>
              refine Or.inl ⟨rfl, ?_⟩
              intro W hSw
              obtain ⟨q0, q1⟩ := hSw
              go_simp
              try with_reducible rfl
            case hS7l5a => assumption
            try simp only [Act.put, List.setIfInBounds_toArray, List.set_cons_zero, List.set_cons_succ]
            refine wpAnyH_take (i := 8) (oi := ?oi8l5a) (v := ?v8l5a) ?hi8l5a ?hs8l5a ?hf8l5a ?hr8l5a ?hQ8l5a ?hy8l5a ?hS8l5a ?h8l5a
            case hi8l5a => exact (by simp only [List.getElem?_toArray, List.getElem?_cons_succ, List.getElem?_cons_zero]; rfl)
            case hs8l5a => kernel_rfl
            case hf8l5a => kernel_rfl
            case hr8l5a => kernel_rfl
            case hQ8l5a => exact fun _ _ _ h => h
            case hy8l5a =>
              refine Or.inl ⟨rfl, ?_⟩
              intro W hSw
              obtain ⟨q0, q1⟩ := hSw
              go_simp
              try with_reducible rfl
            case hS8l5a => assumption
            try simp only [Act.put, List.setIfInBounds_toArray, List.set_cons_zero, List.set_cons_succ]
            refine wpAnyH_take (i := 9) (oi := ?oi9l5a) (v := ?v9l5a) ?hi9l5a ?hs9l5a ?hf9l5a ?hr9l5a ?hQ9l5a ?hy9l5a ?hS9l5a ?h9l5a
            case hi9l5a => exact (by simp only [List.getElem?_toArray, List.getElem?_cons_succ, List.getElem?_cons_zero]; rfl)
            case hs9l5a => kernel_rfl
            case hf9l5a => kernel_rfl
            case hr9l5a => kernel_rfl
            case hQ9l5a => exact fun _ _ _ h => h
            case hy9l5a =>
              refine Or.inl ⟨rfl, ?_⟩
              intro W hSw
              obtain ⟨q0, q1⟩ := hSw
              go_simp
              try with_reducible rfl
            case hS9l5a => assumption
            try simp only [Act.put, List.setIfInBounds_toArray, List.set_cons_zero, List.set_cons_succ]
            refine wpAnyH_take (i := 10) (oi := ?oi10l5a) (v := (.bool true)) ?hi10l5a ?hs10l5a ?hf10l5a ?hr10l5a ?hQ10l5a ?hy10l5a ?hS10l5a ?h10l5a
            case hi10l5a => exact (by simp only [List.getElem?_toArray, List.getElem?_cons_succ, List.getElem?_cons_zero]; rfl)
            case hs10l5a => kernel_rfl
            case hf10l5a => kernel_rfl
            case hr10l5a => kernel_rfl
            case hQ10l5a => exact fun _ _ _ h => h
            case hy10l5a =>
              refine Or.inl ⟨rfl, ?_⟩
              intro W hSw
              obtain ⟨q0, q1⟩ := hSw
              go_simp
              first | done | omega | (simp [hge]; done) | (simp; done) | (simp; omega)
            case hS10l5a => assumption
            try simp only [Act.put, List.setIfInBounds_toArray, List.set_cons_zero, List.set_cons_succ]
            refine wpAnyH_take (i := 11) (oi := ?oi11l5a) (v := ?v11l5a) ?hi11l5a ?hs11l5a ?hf11l5a ?hr11l5a ?hQ11l5a ?hy11l5a ?hS11l5a ?h11l5a
            case hi11l5a => exact (by simp only [List.getElem?_toArray, List.getElem?_cons_succ, List.getElem?_cons_zero]; rfl)
            case hs11l5a => kernel_rfl
            case hf11l5a => kernel_rfl
            case hr11l5a => kernel_rfl
            case hQ11l5a => exact fun _ _ _ h => h
            case hy11l5a =>
              refine Or.inl ⟨rfl, ?_⟩
              intro W hSw
              obtain ⟨q0, q1⟩ := hSw
              go_simp
              try with_reducible rfl
            case hS11l5a => assumption
            try simp only [Act.put, List.setIfInBounds_toArray, List.set_cons_zero, List.set_cons_succ]
            refine wpAnyH_done (by kernel_rfl) ?_ _
            have HBWl5a0 : Hid (Below w0.heap.size w0 Wl5a0) := HV.out.2.trans (HDl5a.out.mono HV.out.2.size)
            have HPWl5a0 := Lib.hid (HV.out.1.after HDl5a.out)
            have hqg := HGR.out Wl5a0 HBWl5a0.out
            have x0 := cell_of_row _ G 0 _ _ _ hqg
            have x1 := cell_of_row _ G 1 _ _ _ hqg
            have x2 := cell_of_row _ G 2 _ _ _ hqg
            have x3 := cell_of_row _ G 3 _ _ _ hqg
            simp at x0 x1 x2 x3
            clear hqg
            have HFG : Hid (Fl Wl5a0 R vi ⟨ma, mn, mc⟩ g'.mem ∧ Fl Wl5a0 R vi ⟨va, vn, vc⟩ g'.inv) := by simp only [Hid]; rw [HG'.out]; exact ⟨HFL.out.1.after HBWl5a0.out, HFL.out.2.after HBWl5a0.out⟩
            go_upto_region 9 with (at_builtin; refine wpList_append_pt rfl _ _ rfl R vi w0.heap.size Wl5a0.heap.size B2 m c2 (goL false g' (L.take k)) g' ⟨ma, mn, mc⟩ ⟨va, vn, vc⟩ rfl rfl (HPWl5a0.out.after ((Below.refl _ _).alloc (Nat.le_refl _) _)) (by exact (by rw [HG'.out]; exact heap_alloc_new _ _)) (by have := HMK.out; omega) (by have := HBWl5a0.out.size; simp; omega) (HFG.out.1.after ((Below.refl _ _).alloc (Nat.le_refl _) _)) (HFG.out.2.after ((Below.refl _ _).alloc (Nat.le_refl _) _)) ?_; intro B6 c6 w6 hpo hgr hbs; have HP6 := Lib.hid hpo; have HB6 : Hid (Below w0.heap.size w0 w6) := (HBWl5a0.out.alloc HBWl5a0.out.size _).grown hgr (by have := HBWl5a0.out.size; simp; omega) hbs; clear hpo hgr hbs)
            clear x0 x1 x2 x3
            have HRF2 : Hid (Below w6.heap.size w6 w6) := Below.refl _ _
            have HDl5b : Hid (Below w6.heap.size w6 w6.drew) := HRF2.out.drew
            refine wp_region_held_drew (S := fun W : World => W.cell? ⟨b, o + k * 4, none⟩ = some (.int .u32 (ei : Int)) ∧ W.cell? ⟨G, 0, none⟩ = some (.int .u32 (gi : Int))) (by kernel_rfl) (HCE.out _ (HB6.out.trans ((HDl5b.out).mono HB6.out.size))) (fun hHeld => ?_)
            obtain ⟨Wl5b0, hW0⟩ : ∃ W0, W0 = w6.drew := ⟨_, rfl⟩
            rw [← hW0] at hHeld HDl5b ⊢
            clear hW0
            refine wpAnyH_take (i := 0) (oi := ?oi0l5b) (v := ?v0l5b) ?hi0l5b ?hs0l5b ?hf0l5b ?hr0l5b ?hQ0l5b ?hy0l5b ?hS0l5b ?h0l5b
            case hi0l5b => exact (by simp only [List.getElem?_toArray, List.getElem?_cons_zero]; rfl)
            case hs0l5b => kernel_rfl
            case hf0l5b => kernel_rfl
            case hr0l5b => kernel_rfl
            case hQ0l5b => exact fun _ _ _ h => h
            case hy0l5b =>
              refine Or.inl ⟨rfl, ?_⟩
              intro W hSw
              obtain ⟨q0, q1⟩ := hSw
              go_simp
              try with_reducible rfl
            case hS0l5b => assumption
            try simp only [Act.put, List.setIfInBounds_toArray, List.set_cons_zero, List.set_cons_succ]
            refine wpAnyH_take (i := 1) (oi := ?oi1l5b) (v := ?v1l5b) ?hi1l5b ?hs1l5b ?hf1l5b ?hr1l5b ?hQ1l5b ?hy1l5b ?hS1l5b ?h1l5b
            case hi1l5b => exact (by simp only [List.getElem?_toArray, List.getElem?_cons_succ, List.getElem?_cons_zero]; rfl)
            case hs1l5b => kernel_rfl
            case hf1l5b => kernel_rfl
            case hr1l5b => kernel_rfl
            case hQ1l5b => exact fun _ _ _ h => h
            case hy1l5b =>
              refine Or.inl ⟨rfl, ?_⟩
              intro W hSw
              obtain ⟨q0, q1⟩ := hSw
              go_simp
              try with_reducible rfl
            case hS1l5b => assumption
            try simp only [Act.put, List.setIfInBounds_toArray, List.set_cons_zero, List.set_cons_succ]
            refine wpAnyH_take (i := 2) (oi := ?oi2l5b) (v := ?v2l5b) ?hi2l5b ?hs2l5b ?hf2l5b ?hr2l5b ?hQ2l5b ?hy2l5b ?hS2l5b ?h2l5b
            case hi2l5b => exact (by simp only [List.getElem?_toArray, List.getElem?_cons_succ, List.getElem?_cons_zero]; rfl)
            case hs2l5b => kernel_rfl
            case hf2l5b => kernel_rfl
            case hr2l5b => kernel_rfl
            case hQ2l5b => exact fun _ _ _ h => h
            case hy2l5b =>
              refine Or.inl ⟨rfl, ?_⟩
              intro W hSw
              obtain ⟨q0, q1⟩ := hSw
              go_simp
              try with_reducible rfl
            case hS2l5b => assumption
            try simp only [Act.put, List.setIfInBounds_toArray, List.set_cons_zero, List.set_cons_succ]
            refine wpAnyH_take (i := 3) (oi := ?oi3l5b) (v := ?v3l5b) ?hi3l5b ?hs3l5b ?hf3l5b ?hr3l5b ?hQ3l5b ?hy3l5b ?hS3l5b ?h3l5b
            case hi3l5b => exact (by simp only [List.getElem?_toArray, List.getElem?_cons_succ, List.getElem?_cons_zero]; rfl)
            case hs3l5b => kernel_rfl
            case hf3l5b => kernel_rfl
            case hr3l5b => kernel_rfl
            case hQ3l5b => exact fun _ _ _ h => h
            case hy3l5b =>
              refine Or.inl ⟨rfl, ?_⟩
              intro W hSw
              obtain ⟨q0, q1⟩ := hSw
              go_simp
              try with_reducible rfl
            case hS3l5b => assumption
            try simp only [Act.put, List.setIfInBounds_toArray, List.set_cons_zero, List.set_cons_succ]
            refine wpAnyH_take (i := 4) (oi := ?oi4l5b) (v := ?v4l5b) ?hi4l5b ?hs4l5b ?hf4l5b ?hr4l5b ?hQ4l5b ?hy4l5b ?hS4l5b ?h4l5b
            case hi4l5b => exact (by simp only [List.getElem?_toArray, List.getElem?_cons_succ, List.getElem?_cons_zero]; rfl)
            case hs4l5b => kernel_rfl
            case hf4l5b => kernel_rfl
            case hr4l5b => kernel_rfl
            case hQ4l5b => exact fun _ _ _ h => h
            case hy4l5b =>
              refine Or.inl ⟨rfl, ?_⟩
              intro W hSw
              obtain ⟨q0, q1⟩ := hSw
              go_simp
              try with_reducible rfl
            case hS4l5b => assumption
            try simp only [Act.put, List.setIfInBounds_toArray, List.set_cons_zero, List.set_cons_succ]
            refine wpAnyH_take (i := 5) (oi := ?oi5l5b) (v := ?v5l5b) ?hi5l5b ?hs5l5b ?hf5l5b ?hr5l5b ?hQ5l5b ?hy5l5b ?hS5l5b ?h5l5b
            case hi5l5b => exact (by simp only [List.getElem?_toArray, List.getElem?_cons_succ, List.getElem?_cons_zero]; rfl)
            case hs5l5b => kernel_rfl
            case hf5l5b => kernel_rfl
            case hr5l5b => kernel_rfl
            case hQ5l5b => exact fun _ _ _ h => h
            case hy5l5b =>
              refine Or.inl ⟨rfl, ?_⟩
              intro W hSw
              obtain ⟨q0, q1⟩ := hSw
              go_simp
              try with_reducible rfl
            case hS5l5b => assumption
            try simp only [Act.put, List.setIfInBounds_toArray, List.set_cons_zero, List.set_cons_succ]
            refine wpAnyH_take (i := 6) (oi := ?oi6l5b) (v := ?v6l5b) ?hi6l5b ?hs6l5b ?hf6l5b ?hr6l5b ?hQ6l5b ?hy6l5b ?hS6l5b ?h6l5b
            case hi6l5b => exact (by simp only [List.getElem?_toArray, List.getElem?_cons_succ, List.getElem?_cons_zero]; rfl)
            case hs6l5b => kernel_rfl
            case hf6l5b => kernel_rfl
            case hr6l5b => kernel_rfl
            case hQ6l5b => exact fun _ _ _ h => h
            case hy6l5b =>
              refine Or.inl ⟨rfl, ?_⟩
              intro W hSw
              obtain ⟨q0, q1⟩ := hSw
              go_simp
              try with_reducible rfl
            case hS6l5b => assumption
            try simp only [Act.put, List.setIfInBounds_toArray, List.set_cons_zero, List.set_cons_succ]
            refine wpAnyH_take (i := 7) (oi := ?oi7l5b) (v := (.bool true)) ?hi7l5b ?hs7l5b ?hf7l5b ?hr7l5b ?hQ7l5b ?hy7l5b ?hS7l5b ?h7l5b
            case hi7l5b => exact (by simp only [List.getElem?_toArray, List.getElem?_cons_succ, List.getElem?_cons_zero]; rfl)
            case hs7l5b => kernel_rfl
            case hf7l5b => kernel_rfl
            case hr7l5b => kernel_rfl
            case hQ7l5b => exact fun _ _ _ h => h
            case hy7l5b =>
              refine Or.inl ⟨rfl, ?_⟩
              intro W hSw
              obtain ⟨q0, q1⟩ := hSw
              go_simp
              try simp [hne]
            case hS7l5b => assumption
            try simp only [Act.put, List.setIfInBounds_toArray, List.set_cons_zero, List.set_cons_succ]
            refine wpAnyH_done (by kernel_rfl) ?_ _
            have HBWl5b0 : Hid (Below w0.heap.size w0 Wl5b0) := HB6.out.trans (HDl5b.out.mono HB6.out.size)
            have HPWl5b0 := Lib.hid (HP6.out.after HDl5b.out)
            have hqe := HEE.out Wl5b0 HBWl5b0.out
            obtain ⟨x0, x1, x2, x3, _, _⟩ := hqe
            have HFE := Lib.hid (HEE2.out Wl5b0 HBWl5b0.out)
            go_wp2_with (at_builtin; refine wpList_append_pt rfl _ _ rfl R vi w0.heap.size Wl5b0.heap.size B6 (m + 1) c6 (goL false g' (L.take k) ++ [g']) e' me ve rfl rfl (HPWl5b0.out.after ((Below.refl _ _).alloc (Nat.le_refl _) _)) (by exact (by rw [HE'.out]; exact heap_alloc_new _ _)) (by have := HMK.out; omega) (by have := HBWl5b0.out.size; simp; omega) (HFE.out.1.after ((Below.refl _ _).alloc (Nat.le_refl _) _)) (HFE.out.2.after ((Below.refl _ _).alloc (Nat.le_refl _) _)) ?_; intro B8 c8 w8 hpo hgr hbs; have HP8 := Lib.hid hpo; have HB8 : Hid (Below w0.heap.size w0 w8) := (HBWl5b0.out.alloc HBWl5b0.out.size _).grown hgr (by have := HBWl5b0.out.size; simp; omega) hbs; clear hpo hgr hbs)
            go_roundw
            case rel => exact ⟨k + 1, _, B8, c8, by omega, by go_num, rfl, by rw [HDN.out], ⟨by rw [HTK.out]; exact HP8.out, HB8.out⟩⟩
            case measure => simp [intOf] <;> omega
      · obtain ⟨t1, t2, t3, t4⟩ := go_done (e := e') HRIS1.out hall
        have edn : dn = true := by rw [HDK.out]; exact t3
        subst edn
        have HTK : Hid (goL false g' (L.take (k + 1)) = goL false g' (L.take k) ++ [e']) := by simp only [Hid]; rw [HTK1.out]; exact t1
        have HDN : Hid (goD false g' (L.take (k + 1)) = true) := by simp only [Hid]; rw [HTK1.out]; exact t2
        have hne : ¬ ((ei : Int) = (gi : Int)) := by have := HEI.out; omega
        clear hall t1 t2 t3 t4
        go_upto_region 6 with (fail)
        have HDl6a : Hid (Below wr.heap.size wr wr.drew) := HRF.out.drew
        refine wp_region_held_drew (S := fun W : World => W.cell? ⟨b, o + k * 4, none⟩ = some (.int .u32 (ei : Int)) ∧ W.cell? ⟨G, 0, none⟩ = some (.int .u32 (gi : Int))) (by kernel_rfl) (HCE.out _ (HV.out.2.trans ((HDl6a.out).mono HV.out.2.size))) (fun hHeld => ?_)
        obtain ⟨Wl6a0, hW0⟩ : ∃ W0, W0 = wr.drew := ⟨_, rfl⟩
        rw [← hW0] at hHeld HDl6a ⊢
        clear hW0
        refine wpAnyH_take (i := 0) (oi := ?oi0l6a) (v := ?v0l6a) ?hi0l6a ?hs0l6a ?hf0l6a ?hr0l6a ?hQ0l6a ?hy0l6a ?hS0l6a ?h0l6a
        case hi0l6a => exact (by simp only [List.getElem?_toArray, List.getElem?_cons_zero]; rfl)
        case hs0l6a => kernel_rfl
        case hf0l6a => kernel_rfl
        case hr0l6a => kernel_rfl
        case hQ0l6a => exact fun _ _ _ h => h
        case hy0l6a =>
          refine Or.inl ⟨rfl, ?_⟩
          intro W hSw
          obtain ⟨q0, q1⟩ := hSw
          go_simp
          try with_reducible rfl
        case hS0l6a => assumption
        try simp only [Act.put, List.setIfInBounds_toArray, List.set_cons_zero, List.set_cons_succ]
        refine wpAnyH_take (i := 1) (oi := ?oi1l6a) (v := ?v1l6a) ?hi1l6a ?hs1l6a ?hf1l6a ?hr1l6a ?hQ1l6a ?hy1l6a ?hS1l6a ?h1l6a
        case hi1l6a => exact (by simp only [List.getElem?_toArray, List.getElem?_cons_succ, List.getElem?_cons_zero]; rfl)
        case hs1l6a => kernel_rfl
        case hf1l6a => kernel_rfl
        case hr1l6a => kernel_rfl
        case hQ1l6a => exact fun _ _ _ h => h
        case hy1l6a =>
          refine Or.inl ⟨rfl, ?_⟩
          intro W hSw
          obtain ⟨q0, q1⟩ := hSw
          go_simp
          try with_reducible rfl
        case hS1l6a => assumption
        try simp only [Act.put, List.setIfInBounds_toArray, List.set_cons_zero, List.set_cons_succ]
        refine wpAnyH_take (i := 2) (oi := ?oi2l6a) (v := ?v2l6a) ?hi2l6a ?hs2l6a ?hf2l6a ?hr2l6a ?hQ2l6a ?hy2l6a ?hS2l6a ?h2l6a
        case hi2l6a => exact (by simp only [List.getElem?_toArray, List.getElem?_cons_succ, List.getElem?_cons_zero]; rfl)
        case hs2l6a => kernel_rfl
        case hf2l6a => kernel_rfl
        case hr2l6a => kernel_rfl
        case hQ2l6a => exact fun _ _ _ h => h
        case hy2l6a =>
          refine Or.inl ⟨rfl, ?_⟩
          intro W hSw
          obtain ⟨q0, q1⟩ := hSw
          go_simp
          try with_reducible rfl
        case hS2l6a => assumption
        try simp only [Act.put, List.setIfInBounds_toArray, List.set_cons_zero, List.set_cons_succ]
        refine wpAnyH_take (i := 3) (oi := ?oi3l6a) (v := undef) ?hi3l6a ?hs3l6a ?hf3l6a ?hr3l6a ?hQ3l6a ?hy3l6a ?hS3l6a ?h3l6a
        case hi3l6a => exact (by simp only [List.getElem?_toArray, List.getElem?_cons_succ, List.getElem?_cons_zero]; rfl)
        case hs3l6a => kernel_rfl
        case hf3l6a => kernel_rfl
        case hr3l6a => kernel_rfl
        case hQ3l6a => exact fun _ _ _ h => h
        case hy3l6a =>
          exact Or.inr ⟨rfl, rfl⟩
        case hS3l6a => assumption
        try simp only [Act.put, List.setIfInBounds_toArray, List.set_cons_zero, List.set_cons_succ]
        refine wpAnyH_take (i := 4) (oi := ?oi4l6a) (v := undef) ?hi4l6a ?hs4l6a ?hf4l6a ?hr4l6a ?hQ4l6a ?hy4l6a ?hS4l6a ?h4l6a
        case hi4l6a => exact (by simp only [List.getElem?_toArray, List.getElem?_cons_succ, List.getElem?_cons_zero]; rfl)
        case hs4l6a => kernel_rfl
        case hf4l6a => kernel_rfl
        case hr4l6a => kernel_rfl
        case hQ4l6a => exact fun _ _ _ h => h
        case hy4l6a =>
          exact Or.inr ⟨rfl, rfl⟩
        case hS4l6a => assumption
        try simp only [Act.put, List.setIfInBounds_toArray, List.set_cons_zero, List.set_cons_succ]
        refine wpAnyH_take (i := 5) (oi := ?oi5l6a) (v := undef) ?hi5l6a ?hs5l6a ?hf5l6a ?hr5l6a ?hQ5l6a ?hy5l6a ?hS5l6a ?h5l6a
        case hi5l6a => exact (by simp only [List.getElem?_toArray, List.getElem?_cons_succ, List.getElem?_cons_zero]; rfl)
        case hs5l6a => kernel_rfl
        case hf5l6a => kernel_rfl
        case hr5l6a => kernel_rfl
        case hQ5l6a => exact fun _ _ _ h => h
        case hy5l6a =>
          exact Or.inr ⟨rfl, rfl⟩
        case hS5l6a => assumption
        try simp only [Act.put, List.setIfInBounds_toArray, List.set_cons_zero, List.set_cons_succ]
        refine wpAnyH_take (i := 6) (oi := ?oi6l6a) (v := undef) ?hi6l6a ?hs6l6a ?hf6l6a ?hr6l6a ?hQ6l6a ?hy6l6a ?hS6l6a ?h6l6a
        case hi6l6a => exact (by simp only [List.getElem?_toArray, List.getElem?_cons_succ, List.getElem?_cons_zero]; rfl)
        case hs6l6a => kernel_rfl
        case hf6l6a => kernel_rfl
        case hr6l6a => kernel_rfl
        case hQ6l6a => exact fun _ _ _ h => h
        case hy6l6a =>
          exact Or.inr ⟨rfl, rfl⟩
        case hS6l6a => assumption
        try simp only [Act.put, List.setIfInBounds_toArray, List.set_cons_zero, List.set_cons_succ]
        refine wpAnyH_take (i := 7) (oi := ?oi7l6a) (v := undef) ?hi7l6a ?hs7l6a ?hf7l6a ?hr7l6a ?hQ7l6a ?hy7l6a ?hS7l6a ?h7l6a
        case hi7l6a => exact (by simp only [List.getElem?_toArray, List.getElem?_cons_succ, List.getElem?_cons_zero]; rfl)
        case hs7l6a => kernel_rfl
        case hf7l6a => kernel_rfl
        case hr7l6a => kernel_rfl
        case hQ7l6a => exact fun _ _ _ h => h
        case hy7l6a =>
          exact Or.inr ⟨rfl, rfl⟩
        case hS7l6a => assumption
        try simp only [Act.put, List.setIfInBounds_toArray, List.set_cons_zero, List.set_cons_succ]
        refine wpAnyH_take (i := 8) (oi := ?oi8l6a) (v := undef) ?hi8l6a ?hs8l6a ?hf8l6a ?hr8l6a ?hQ8l6a ?hy8l6a ?hS8l6a ?h8l6a
        case hi8l6a => exact (by simp only [List.getElem?_toArray, List.getElem?_cons_succ, List.getElem?_cons_zero]; rfl)
        case hs8l6a => kernel_rfl
        case hf8l6a => kernel_rfl
        case hr8l6a => kernel_rfl
        case hQ8l6a => exact fun _ _ _ h => h
        case hy8l6a =>
          exact Or.inr ⟨rfl, rfl⟩
        case hS8l6a => assumption
        try simp only [Act.put, List.setIfInBounds_toArray, List.set_cons_zero, List.set_cons_succ]
        refine wpAnyH_take (i := 9) (oi := ?oi9l6a) (v := undef) ?hi9l6a ?hs9l6a ?hf9l6a ?hr9l6a ?hQ9l6a ?hy9l6a ?hS9l6a ?h9l6a
        case hi9l6a => exact (by simp only [List.getElem?_toArray, List.getElem?_cons_succ, List.getElem?_cons_zero]; rfl)
        case hs9l6a => kernel_rfl
        case hf9l6a => kernel_rfl
        case hr9l6a => kernel_rfl
        case hQ9l6a => exact fun _ _ _ h => h
        case hy9l6a =>
          exact Or.inr ⟨rfl, rfl⟩
        case hS9l6a => assumption
        try simp only [Act.put, List.setIfInBounds_toArray, List.set_cons_zero, List.set_cons_succ]
        refine wpAnyH_take (i := 10) (oi := ?oi10l6a) (v := undef) ?hi10l6a ?hs10l6a ?hf10l6a ?hr10l6a ?hQ10l6a ?hy10l6a ?hS10l6a ?h10l6a
        case hi10l6a => exact (by simp only [List.getElem?_toArray, List.getElem?_cons_succ, List.getElem?_cons_zero]; rfl)
        case hs10l6a => kernel_rfl
        case hf10l6a => kernel_rfl
        case hr10l6a => kernel_rfl
        case hQ10l6a => exact fun _ _ _ h => h
        case hy10l6a =>
          exact Or.inr ⟨rfl, rfl⟩
        case hS10l6a => assumption
        try simp only [Act.put, List.setIfInBounds_toArray, List.set_cons_zero, List.set_cons_succ]
        refine wpAnyH_take (i := 11) (oi := ?oi11l6a) (v := ?v11l6a) ?hi11l6a ?hs11l6a ?hf11l6a ?hr11l6a ?hQ11l6a ?hy11l6a ?hS11l6a ?h11l6a
        case hi11l6a => exact (by simp only [List.getElem?_toArray, List.getElem?_cons_succ, List.getElem?_cons_zero]; rfl)
        case hs11l6a => kernel_rfl
        case hf11l6a => kernel_rfl
        case hr11l6a => kernel_rfl
        case hQ11l6a => exact fun _ _ _ h => h
        case hy11l6a =>
          refine Or.inl ⟨rfl, ?_⟩
          intro W hSw
          obtain ⟨q0, q1⟩ := hSw
          go_simp
          try with_reducible rfl
        case hS11l6a => assumption
        try simp only [Act.put, List.setIfInBounds_toArray, List.set_cons_zero, List.set_cons_succ]
        refine wpAnyH_done (by kernel_rfl) ?_ _
        have HBWl6a0 : Hid (Below w0.heap.size w0 Wl6a0) := HV.out.2.trans (HDl6a.out.mono HV.out.2.size)
        have HPWl6a0 := Lib.hid (HV.out.1.after HDl6a.out)
        go_upto_region 9 with (fail)
        have HRF2 : Hid (Below Wl6a0.heap.size Wl6a0 Wl6a0) := Below.refl _ _
        have HDl6b : Hid (Below Wl6a0.heap.size Wl6a0 Wl6a0.drew) := HRF2.out.drew
        refine wp_region_held_drew (S := fun W : World => W.cell? ⟨b, o + k * 4, none⟩ = some (.int .u32 (ei : Int)) ∧ W.cell? ⟨G, 0, none⟩ = some (.int .u32 (gi : Int))) (by kernel_rfl) (HCE.out _ (HBWl6a0.out.trans ((HDl6b.out).mono HBWl6a0.out.size))) (fun hHeld => ?_)
        obtain ⟨Wl6b0, hW0⟩ : ∃ W0, W0 = Wl6a0.drew := ⟨_, rfl⟩
        rw [← hW0] at hHeld HDl6b ⊢
        clear hW0
        refine wpAnyH_take (i := 0) (oi := ?oi0l6b) (v := ?v0l6b) ?hi0l6b ?hs0l6b ?hf0l6b ?hr0l6b ?hQ0l6b ?hy0l6b ?hS0l6b ?h0l6b
        case hi0l6b => exact (by simp only [List.getElem?_toArray, List.getElem?_cons_zero]; rfl)
        case hs0l6b => kernel_rfl
        case hf0l6b => kernel_rfl
        case hr0l6b => kernel_rfl
        case hQ0l6b => exact fun _ _ _ h => h
        case hy0l6b =>
          refine Or.inl ⟨rfl, ?_⟩
          intro W hSw
          obtain ⟨q0, q1⟩ := hSw
          go_simp
          try with_reducible rfl
        case hS0l6b => assumption
        try simp only [Act.put, List.setIfInBounds_toArray, List.set_cons_zero, List.set_cons_succ]
        refine wpAnyH_take (i := 1) (oi := ?oi1l6b) (v := ?v1l6b) ?hi1l6b ?hs1l6b ?hf1l6b ?hr1l6b ?hQ1l6b ?hy1l6b ?hS1l6b ?h1l6b
        case hi1l6b => exact (by simp only [List.getElem?_toArray, List.getElem?_cons_succ, List.getElem?_cons_zero]; rfl)
        case hs1l6b => kernel_rfl
        case hf1l6b => kernel_rfl
        case hr1l6b => kernel_rfl
        case hQ1l6b => exact fun _ _ _ h => h
        case hy1l6b =>
          refine Or.inl ⟨rfl, ?_⟩
          intro W hSw
          obtain ⟨q0, q1⟩ := hSw
          go_simp
          try with_reducible rfl
        case hS1l6b => assumption
        try simp only [Act.put, List.setIfInBounds_toArray, List.set_cons_zero, List.set_cons_succ]
        refine wpAnyH_take (i := 2) (oi := ?oi2l6b) (v := ?v2l6b) ?hi2l6b ?hs2l6b ?hf2l6b ?hr2l6b ?hQ2l6b ?hy2l6b ?hS2l6b ?h2l6b
        case hi2l6b => exact (by simp only [List.getElem?_toArray, List.getElem?_cons_succ, List.getElem?_cons_zero]; rfl)
        case hs2l6b => kernel_rfl
        case hf2l6b => kernel_rfl
        case hr2l6b => kernel_rfl
        case hQ2l6b => exact fun _ _ _ h => h
        case hy2l6b =>
          refine Or.inl ⟨rfl, ?_⟩
          intro W hSw
          obtain ⟨q0, q1⟩ := hSw
          go_simp
          try with_reducible rfl
        case hS2l6b => assumption
        try simp only [Act.put, List.setIfInBounds_toArray, List.set_cons_zero, List.set_cons_succ]
        refine wpAnyH_take (i := 3) (oi := ?oi3l6b) (v := ?v3l6b) ?hi3l6b ?hs3l6b ?hf3l6b ?hr3l6b ?hQ3l6b ?hy3l6b ?hS3l6b ?h3l6b
        case hi3l6b => exact (by simp only [List.getElem?_toArray, List.getElem?_cons_succ, List.getElem?_cons_zero]; rfl)
        case hs3l6b => kernel_rfl
        case hf3l6b => kernel_rfl
        case hr3l6b => kernel_rfl
        case hQ3l6b => exact fun _ _ _ h => h
        case hy3l6b =>
          refine Or.inl ⟨rfl, ?_⟩
          intro W hSw
          obtain ⟨q0, q1⟩ := hSw
          go_simp
          try with_reducible rfl
        case hS3l6b => assumption
        try simp only [Act.put, List.setIfInBounds_toArray, List.set_cons_zero, List.set_cons_succ]
        refine wpAnyH_take (i := 4) (oi := ?oi4l6b) (v := ?v4l6b) ?hi4l6b ?hs4l6b ?hf4l6b ?hr4l6b ?hQ4l6b ?hy4l6b ?hS4l6b ?h4l6b
        case hi4l6b => exact (by simp only [List.getElem?_toArray, List.getElem?_cons_succ, List.getElem?_cons_zero]; rfl)
        case hs4l6b => kernel_rfl
        case hf4l6b => kernel_rfl
        case hr4l6b => kernel_rfl
        case hQ4l6b => exact fun _ _ _ h => h
        case hy4l6b =>
          refine Or.inl ⟨rfl, ?_⟩
          intro W hSw
          obtain ⟨q0, q1⟩ := hSw
          go_simp
          try with_reducible rfl
        case hS4l6b => assumption
        try simp only [Act.put, List.setIfInBounds_toArray, List.set_cons_zero, List.set_cons_succ]
        refine wpAnyH_take (i := 5) (oi := ?oi5l6b) (v := ?v5l6b) ?hi5l6b ?hs5l6b ?hf5l6b ?hr5l6b ?hQ5l6b ?hy5l6b ?hS5l6b ?h5l6b
        case hi5l6b => exact (by simp only [List.getElem?_toArray, List.getElem?_cons_succ, List.getElem?_cons_zero]; rfl)
        case hs5l6b => kernel_rfl
        case hf5l6b => kernel_rfl
        case hr5l6b => kernel_rfl
        case hQ5l6b => exact fun _ _ _ h => h
        case hy5l6b =>
          refine Or.inl ⟨rfl, ?_⟩
          intro W hSw
          obtain ⟨q0, q1⟩ := hSw
          go_simp
          try with_reducible rfl
        case hS5l6b => assumption
        try simp only [Act.put, List.setIfInBounds_toArray, List.set_cons_zero, List.set_cons_succ]
        refine wpAnyH_take (i := 6) (oi := ?oi6l6b) (v := ?v6l6b) ?hi6l6b ?hs6l6b ?hf6l6b ?hr6l6b ?hQ6l6b ?hy6l6b ?hS6l6b ?h6l6b
        case hi6l6b => exact (by simp only [List.getElem?_toArray, List.getElem?_cons_succ, List.getElem?_cons_zero]; rfl)
        case hs6l6b => kernel_rfl
        case hf6l6b => kernel_rfl
        case hr6l6b => kernel_rfl
        case hQ6l6b => exact fun _ _ _ h => h
        case hy6l6b =>
          refine Or.inl ⟨rfl, ?_⟩
          intro W hSw
          obtain ⟨q0, q1⟩ := hSw
          go_simp
          try with_reducible rfl
        case hS6l6b => assumption
        try simp only [Act.put, List.setIfInBounds_toArray, List.set_cons_zero, List.set_cons_succ]
        refine wpAnyH_take (i := 7) (oi := ?oi7l6b) (v := (.bool true)) ?hi7l6b ?hs7l6b ?hf7l6b ?hr7l6b ?hQ7l6b ?hy7l6b ?hS7l6b ?h7l6b
        case hi7l6b => exact (by simp only [List.getElem?_toArray, List.getElem?_cons_succ, List.getElem?_cons_zero]; rfl)
        case hs7l6b => kernel_rfl
        case hf7l6b => kernel_rfl
        case hr7l6b => kernel_rfl
        case hQ7l6b => exact fun _ _ _ h => h
        case hy7l6b =>
          refine Or.inl ⟨rfl, ?_⟩
          intro W hSw
          obtain ⟨q0, q1⟩ := hSw
          go_simp
          try simp [hne]
        case hS7l6b => assumption
        try simp only [Act.put, List.setIfInBounds_toArray, List.set_cons_zero, List.set_cons_succ]
        refine wpAnyH_done (by kernel_rfl) ?_ _
        have HBWl6b0 : Hid (Below w0.heap.size w0 Wl6b0) := HBWl6a0.out.trans (HDl6b.out.mono HBWl6a0.out.size)
        have HPWl6b0 := Lib.hid (HPWl6a0.out.after HDl6b.out)
        have hqe := HEE.out Wl6b0 HBWl6b0.out
        obtain ⟨x0, x1, x2, x3, _, _⟩ := hqe
        have HFE := Lib.hid (HEE2.out Wl6b0 HBWl6b0.out)
        go_wp2_with (at_builtin; refine wpList_append_pt rfl _ _ rfl R vi w0.heap.size Wl6b0.heap.size B2 m c2 (goL false g' (L.take k)) e' me ve rfl rfl (HPWl6b0.out.after ((Below.refl _ _).alloc (Nat.le_refl _) _)) (by exact (by rw [HE'.out]; exact heap_alloc_new _ _)) (by have := HMK.out; omega) (by have := HBWl6b0.out.size; simp; omega) (HFE.out.1.after ((Below.refl _ _).alloc (Nat.le_refl _) _)) (HFE.out.2.after ((Below.refl _ _).alloc (Nat.le_refl _) _)) ?_; intro B8 c8 w8 hpo hgr hbs; have HP8 := Lib.hid hpo; have HB8 : Hid (Below w0.heap.size w0 w8) := (HBWl6b0.out.alloc HBWl6b0.out.size _).grown hgr (by have := HBWl6b0.out.size; simp; omega) hbs; clear hpo hgr hbs)
        go_roundw
        case rel => exact ⟨k + 1, _, B8, c8, by omega, by go_num, rfl, by rw [HDN.out], ⟨by rw [HTK.out]; exact HP8.out, HB8.out⟩⟩
        case measure => simp [intOf] <;> omega
    · obtain rfl : k = n := by omega
      have HFULL : Hid (L.take k = L) := List.take_of_length_le (by rw [← HN.out]; exact Nat.le_refl _)
      have HEND := Lib.hid (go_end (ov := false) (g := g') (T := L))
      have HV9 : Hid (Below w0.heap.size w0 wr) := HV.out.2
      have HPE : Hid (Po wr R vi w0.heap.size B2 m c2 (goL false g' L)) := by have h := HV.out.1; rw [HFULL.out] at h; exact h
      have HDE : Hid (dn = goD false g' L) := by have h := HDK.out; rw [HFULL.out] at h; exact h
      cases dn
      · obtain ⟨_, hins⟩ := HEND.out.2 HDE.out.symm
        have hqg := HGR.out wr HV.out.2
        have x0 := cell_of_row _ G 0 _ _ _ hqg
        have x1 := cell_of_row _ G 1 _ _ _ hqg
        have x2 := cell_of_row _ G 2 _ _ _ hqg
        have x3 := cell_of_row _ G 3 _ _ _ hqg
        simp at x0 x1 x2 x3
        have HFG : Hid (Fl wr R vi ⟨ma, mn, mc⟩ g'.mem ∧ Fl wr R vi ⟨va, vn, vc⟩ g'.inv) := by simp only [Hid]; rw [HG'.out]; exact ⟨HFL.out.1.after HV.out.2, HFL.out.2.after HV.out.2⟩
        have HPI : Hid (insL L g = goL false g' L ++ [g']) := by simp only [Hid]; rw [hins, HGG'.out]
        clear hins hqg
        go_wp2_with (at_builtin; refine wpList_append_pt rfl _ _ rfl R vi w0.heap.size wr.heap.size B2 m c2 (goL false g' L) g' ⟨ma, mn, mc⟩ ⟨va, vn, vc⟩ rfl rfl (HPE.out.after ((Below.refl _ _).alloc (Nat.le_refl _) _)) (by exact (by rw [HG'.out]; exact heap_alloc_new _ _)) (by have := HMK.out; omega) (by have := HV9.out.size; simp; omega) (HFG.out.1.after ((Below.refl _ _).alloc (Nat.le_refl _) _)) (HFG.out.2.after ((Below.refl _ _).alloc (Nat.le_refl _) _)) ?_; intro B9 c9 w9 hpo hgr hbs; have HP9 := Lib.hid hpo; have HB9 : Hid (Below w0.heap.size w0 w9) := (HV9.out.alloc HV9.out.size _).grown hgr (by have := HV9.out.size; simp; omega) hbs; clear hpo hgr hbs)
        have HFIN : Hid (DPutP R vi (insL L g) w (.returned (.slice B9 (m + 1) c9)) w9) := ⟨_, _, _, rfl, by rw [HPI.out]; exact HP9.out.len, by rw [HPI.out]; exact HP9.out.dr, HB0.out.trans (HB9.out.mono HB0.out.size), HP9.out.fresh HB0.out.size⟩
        go_ret
        exact HFIN.out
      · have hins := HEND.out.1 HDE.out.symm
        rw [if_neg Bool.false_ne_true] at hins
        have HPI : Hid (insL L g = goL false g' L) := by simp only [Hid]; rw [hins, HGG'.out]
        have HFIN : Hid (DPutP R vi (insL L g) w (.returned (.slice B2 m c2)) wr) := ⟨_, _, _, rfl, by rw [HPI.out]; exact HPE.out.len, by rw [HPI.out]; exact HPE.out.dr, HB0.out.trans (HV.out.2.mono HB0.out.size), HPE.out.fresh HB0.out.size⟩
        clear hins
        go_wp2
        go_ret
        exact HFIN.out
end Go.Proofs.Ytemjmnpclknfaaa.P
