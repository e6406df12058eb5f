/- Fill: rows and tickets of an ask, handed over. -/
import Derived.Test.YtccabdhfnjlbdaaFB
import Derived.Laws.AppendOwn
import Derived.Laws.MakeOwn
import Derived.Lib.SliceRun
import Derived.Deep.Slices
namespace Go.Proofs.Ytccabdhfnjlbdaa
open Go.RowKit
set_option maxRecDepth 20000
set_option linter.unusedVariables false

/-- n numbers are read from P on. -/
def Us (w : World) (B : Nat) (P : Option Addr) (n : Nat) : Prop :=
  0 < n → ∃ b o, P = some ⟨b, o, none⟩ ∧ b < B ∧ ∀ j, j < n → ∃ z : Int, w.cell? ⟨b, o + j, none⟩ = some (.int .u32 z)
theorem Us.below {w W : World} {B : Nat} {P : Option Addr} {n : Nat} (h : Us w B P n) (hb : Below B w W) : Us W B P n := fun hl => by
  obtain ⟨b, o, h1, h2, h3⟩ := h hl
  refine ⟨b, o, h1, h2, fun j hj => ?_⟩
  obtain ⟨z, hz⟩ := h3 j hj
  exact ⟨z, (hb.cell (p := ⟨b, _, none⟩) h2).trans hz⟩
theorem Us.mono {w : World} {B B' : Nat} {P : Option Addr} {n : Nat} (h : Us w B P n) (hb : B ≤ B') : Us w B' P n := fun hl => by
  obtain ⟨b, o, h1, h2, h3⟩ := h hl
  exact ⟨b, o, h1, Nat.lt_of_lt_of_le h2 hb, h3⟩
/-- The document's tickets l are read from A on, their players too. -/
def Tr (w : World) (B : Nat) (A : Option Addr) (l : List Tk) : Prop :=
  0 < l.length → ∃ b o, A = some ⟨b, o, none⟩ ∧ b < B ∧ ∀ (i : Nat) (t : Tk), l[i]? = some t → ∃ (x y : Int) (P : Option Addr) (c : Nat), (w.cell? ⟨b, o + i * 5, none⟩ = some (.int .u32 x) ∧ w.cell? ⟨b, o + i * 5 + 1, none⟩ = some (.int .i64 y) ∧ w.cell? ⟨b, o + i * 5 + 2, none⟩ = some (.slice P t.n c) ∧ w.cell? ⟨b, o + i * 5 + 3, none⟩ = some (.int .i64 t.r) ∧ w.cell? ⟨b, o + i * 5 + 4, none⟩ = some (.int .i64 t.s)) ∧ Us w B P t.n
/-- The document's rows l likewise. -/
def Rr (w : World) (B : Nat) (A : Option Addr) (l : List Rw) : Prop :=
  0 < l.length → ∃ b o, A = some ⟨b, o, none⟩ ∧ b < B ∧ ∀ (i : Nat) (e : Rw), l[i]? = some e → ∃ (P : Option Addr) (c : Nat), (w.cell? ⟨b, o + i * 4, none⟩ = some (.int .i64 e.t) ∧ w.cell? ⟨b, o + i * 4 + 1, none⟩ = some (.slice P e.n c) ∧ w.cell? ⟨b, o + i * 4 + 2, none⟩ = some (.int .i64 e.r) ∧ w.cell? ⟨b, o + i * 4 + 3, none⟩ = some (.int .i64 e.v)) ∧ Us w B P e.n
theorem Tr.below {w W : World} {B : Nat} {A : Option Addr} {l : List Tk} (h : Tr w B A l) (hb : Below B w W) : Tr W B A l := fun hl => by
  obtain ⟨b, o, h1, h2, h3⟩ := h hl
  refine ⟨b, o, h1, h2, fun i e he => ?_⟩
  obtain ⟨x, y, P, c, ⟨e0, e1, e2, e3, e4⟩, hu⟩ := h3 i e he
  exact ⟨x, y, P, c, ⟨(hb.cell (p := ⟨b, _, none⟩) h2).trans e0, (hb.cell (p := ⟨b, _, none⟩) h2).trans e1, (hb.cell (p := ⟨b, _, none⟩) h2).trans e2, (hb.cell (p := ⟨b, _, none⟩) h2).trans e3, (hb.cell (p := ⟨b, _, none⟩) h2).trans e4⟩, hu.below hb⟩
theorem Tr.mono {w : World} {B B' : Nat} {A : Option Addr} {l : List Tk} (h : Tr w B A l) (hb : B ≤ B') : Tr w B' A l := fun hl => by
  obtain ⟨b, o, h1, h2, h3⟩ := h hl
  refine ⟨b, o, h1, Nat.lt_of_lt_of_le h2 hb, fun i e he => ?_⟩
  obtain ⟨x, y, P, c, he, hu⟩ := h3 i e he
  exact ⟨x, y, P, c, he, hu.mono hb⟩
theorem Tr.later {w W : World} {B : Nat} {A : Option Addr} {l : List Tk} (h : Tr w B A l) (hb : Below B w W) (hB : B ≤ w.heap.size) : Tr W W.heap.size A l := (h.below hb).mono (Nat.le_trans hB hb.size)
theorem Tr.ts {w : World} {B : Nat} {A : Option Addr} {l : List Tk} (h : Tr w B A l) : Ts w B A l := fun hl => by
  obtain ⟨b, o, h1, h2, h3⟩ := h hl
  exact ⟨b, o, h1, h2, fun i t ht => by obtain ⟨x, y, P, c, he, _⟩ := h3 i t ht; exact ⟨x, y, P, c, he⟩⟩
theorem Rr.below {w W : World} {B : Nat} {A : Option Addr} {l : List Rw} (h : Rr w B A l) (hb : Below B w W) : Rr W B A l := fun hl => by
  obtain ⟨b, o, h1, h2, h3⟩ := h hl
  refine ⟨b, o, h1, h2, fun i e he => ?_⟩
  obtain ⟨P, c, ⟨e0, e1, e2, e3⟩, hu⟩ := h3 i e he
  exact ⟨P, c, ⟨(hb.cell (p := ⟨b, _, none⟩) h2).trans e0, (hb.cell (p := ⟨b, _, none⟩) h2).trans e1, (hb.cell (p := ⟨b, _, none⟩) h2).trans e2, (hb.cell (p := ⟨b, _, none⟩) h2).trans e3⟩, hu.below hb⟩
theorem Rr.mono {w : World} {B B' : Nat} {A : Option Addr} {l : List Rw} (h : Rr w B A l) (hb : B ≤ B') : Rr w B' A l := fun hl => by
  obtain ⟨b, o, h1, h2, h3⟩ := h hl
  refine ⟨b, o, h1, Nat.lt_of_lt_of_le h2 hb, fun i e he => ?_⟩
  obtain ⟨P, c, he, hu⟩ := h3 i e he
  exact ⟨P, c, he, hu.mono hb⟩
theorem Rr.later {w W : World} {B : Nat} {A : Option Addr} {l : List Rw} (h : Rr w B A l) (hb : Below B w W) (hB : B ≤ w.heap.size) : Rr W W.heap.size A l := (h.below hb).mono (Nat.le_trans hB hb.size)
theorem Rr.rs {w : World} {B : Nat} {A : Option Addr} {l : List Rw} (h : Rr w B A l) : Rs w B A l := fun hl => by
  obtain ⟨b, o, h1, h2, h3⟩ := h hl
  exact ⟨b, o, h1, h2, fun i t ht => by obtain ⟨P, c, he, _⟩ := h3 i t ht; exact ⟨P, c, he⟩⟩
theorem own_form {w : World} {base T s m : Nat} {v : Value} {xs : List Value} (h : w.ownsRow base T s v m xs) : ∃ A c, v = .slice A m c := by
  rcases h.2 with ⟨rfl, rfl⟩ | ⟨g, cap, cur, rfl, _⟩
  · exact ⟨none, 0, rfl⟩
  · exact ⟨_, cap, rfl⟩
/-- An append onto a slice of one's own: what it was reads as before. -/
theorem run_append_keep {P : Program} (w : World) (base : Nat) (t ty e : TypeId) (i : TypeInfo) (z : Value) (size bytes : Nat) (ht : P.underlying t = some (.slice e)) (hi : P.info? e = some i) (hz : i.zero = some z)
    (hsize : i.size = size) (hby : i.bytes = bytes) (hzs : z.cells.size = size) (hsz : 0 < size)
    (v : Value) (n : Nat) (xs : List Value) (hown : w.ownsRow base e size v n xs)
    (a : Addr) (m c : Nat) (news : List Value) (hl : news.length = m * size) (hnews : ∀ j u, news[j]? = some u → w.cell? (a.add j) = some u) (h1 : ∀ u ∈ news, u.oneCell' = true)
    (h63 : n + m ≤ maxLen) (hbytes : (n + m) * bytes ≤ 140737488355328) (hbase : base ≤ w.heap.size) :
    ∃ v' w', (Builtin.append_ #[t, t] ty #[v, .slice (some a) m c]).run P w = .ok v' w' ∧ w'.ownsRow base e size v' (n + m) (xs ++ news) ∧ w.grownBy w' v.ownBlock ∧ w'.ownsRow base e size v n xs := by
  obtain ⟨v', w', hr, h2, h3, _⟩ := run_append_own (P := P) w base t ty e i z size bytes ht hi hz hsize hby hzs hsz v n xs hown a m c news hl hnews h1 h63 hbytes hbase
  refine ⟨v', w', hr, h2, h3, hown.1, ?_⟩
  subst hsize
  subst hby
  rcases hown.2 with ⟨rfl, h0⟩ | ⟨g, cap, cur, rfl, hb, hg, hnc, hcm, hcs, htk⟩
  · exact .inl ⟨rfl, h0⟩
  · right
    by_cases hroom : n + m ≤ cap
    · have hfit : n * i.size + news.length ≤ cur.size := by rw [hl, hcs, ← Nat.add_mul]; exact Nat.mul_le_mul_right _ hroom
      have hx := run_append_room (P := P) w t ty e i ht hi g n cap cur hg a m c news hl hnews h1 hroom hfit
      rw [hx] at hr
      injection hr with _ hw
      subst hw
      refine ⟨g, cap, _, rfl, hb, setRow_heap w g cur _ e _ hg, hnc, hcm, ?_, ?_⟩
      · simp only [List.size_toArray, List.length_append, List.length_take, List.length_drop, Array.length_toList]
        omega
      · have hxl : xs.length = n * i.size := hown.1
        rw [htk, ← hxl, List.append_assoc]
        exact List.take_left
    · have hsmall : n + m ≤ 9223372036854775807 := by simp only [maxLen] at h63; omega
      have holds : ∀ j u, xs[j]? = some u → w.cell? ((⟨g, 0, none⟩ : Addr).add j) = some u := hown.cells (g := g) rfl
      have hx := run_append_grow (P := P) w t ty e i z ht hi hz ⟨g, 0, none⟩ n cap xs hown.1 holds a m c news hl hnews (by omega) (by omega) (growslice_fits (by omega) hbytes)
      rw [hx] at hr
      injection hr with _ hw
      subst hw
      exact ⟨g, cap, cur, rfl, hb, (Below.heap_alloc w.drew _ _ (lt_of_block hg)).trans hg, hnc, hcm, hcs, htk⟩

/-- A ticket's five cells. -/
structure FT where
  x : Int
  y : Int
  P : Option Addr
  c : Nat
  t : Tk
def fc (e : FT) : List Value := [.int .u32 e.x, .int .i64 e.y, .slice e.P e.t.n e.c, .int .i64 e.t.r, .int .i64 e.t.s]
def fr (l : List FT) : List Value := l.flatMap fc
theorem fr_len (l : List FT) : (fr l).length = l.length * 5 := by
  induction l with
  | nil => rfl
  | cons e l ih =>
    unfold fr at ih ⊢
    rw [List.flatMap_cons, List.length_append, ih, List.length_cons]
    simp [fc]
    omega
theorem fr_get : ∀ (l : List FT) (i : Nat) (e : FT) (j : Nat), l[i]? = some e → j < 5 → (fr l)[i * 5 + j]? = (fc e)[j]?
  | [], i, e, j, h, _ => by simp at h
  | x :: l, 0, e, j, h, hj => by
    simp at h
    subst h
    unfold fr
    rw [List.flatMap_cons, List.getElem?_append_left (by simp [fc]; omega)]
    simp
  | x :: l, i + 1, e, j, h, hj => by
    have ih := fr_get l i e j (by simpa using h) hj
    unfold fr at ih ⊢
    rw [List.flatMap_cons, List.getElem?_append_right (by simp [fc]; omega)]
    simp only [show (fc x).length = 5 from rfl, show (i + 1) * 5 + j - 5 = i * 5 + j by omega]
    exact ih
theorem fr_snoc (l : List FT) (e : FT) : fr (l ++ [e]) = fr l ++ fc e := by simp [fr]
theorem fr_append (l l' : List FT) : fr (l ++ l') = fr l ++ fr l' := by simp [fr]
theorem fr_one (l : List FT) : ∀ u ∈ fr l, u.oneCell' = true := by
  intro u hu
  obtain ⟨m, _, hm⟩ := List.mem_flatMap.1 hu
  simp only [fc, List.mem_cons, List.not_mem_nil, or_false] at hm
  rcases hm with rfl | rfl | rfl | rfl | rfl <;> rfl
theorem Ts.of_own {w : World} {base m c : Nat} {A : Option Addr} {l : List FT} (h : w.ownsRow base 44 5 (.slice A m c) m (fr l)) : Ts w w.heap.size A (l.map (·.t)) := fun hl => by
  have hlen := h.1
  rw [fr_len] at hlen
  rw [List.length_map] at hl
  rcases h.2 with ⟨_, h0⟩ | ⟨g, cap, cur, e1, _, hh, _, _, _, ht⟩
  · omega
  · injection e1 with e1 _ _
    subst e1
    refine ⟨g, 0, rfl, lt_of_block hh, fun i t he => ?_⟩
    rw [List.getElem?_map] at he
    obtain ⟨e, hel, rfl⟩ := Option.map_eq_some_iff.1 he
    have hil := (List.getElem?_eq_some_iff.1 hel).1
    have hc : ∀ j u, j < 5 → (fc e)[j]? = some u → w.cell? ⟨g, 0 + i * 5 + j, none⟩ = some u := fun j u hj hu => by
      rw [cell_of_row w g _ _ _ _ hh, ← Array.getElem?_toList, Nat.zero_add, ← hu, ← fr_get l i e j hel hj, ← ht, List.getElem?_take, if_pos (by omega)]
    exact ⟨e.x, e.y, e.P, e.c, hc 0 _ (by decide) rfl, hc 1 _ (by decide) rfl, hc 2 _ (by decide) rfl, hc 3 _ (by decide) rfl, hc 4 _ (by decide) rfl⟩
theorem fr_of_own {w : World} {base m c : Nat} {A : Option Addr} {l : List FT} (h : w.ownsRow base 44 5 (.slice A m c) m (fr l)) : l.length = m := by
  have hlen := h.1
  rw [fr_len] at hlen
  omega
theorem info_fr : (Try.prog.info? 44).map (fun i => (i.zero, i.size, i.bytes)) = some (some (.agg #[.int .u32 0, .int .i64 0, .slice none 0 0, .int .i64 0, .int .i64 0]), 5, 56) := by kernel_rfl
theorem run_append_fr (w : World) (base G ty m : Nat) (v : Value) (xs : List Value) (e : FT) (hown : w.ownsRow base 44 5 v m xs) (hG : w.heap[G]? = some (.cells (fc e).toArray 44 (0, 0))) (hm : m ≤ 1000) (hbase : base ≤ w.heap.size) :
    ∃ v' w', (Builtin.append_ #[38, 38] ty #[v, .slice (some ⟨G, 0, none⟩) 1 1]).run Try.prog w = .ok v' w' ∧ w'.ownsRow base 44 5 v' (m + 1) (xs ++ fc e) ∧ w.grownBy w' v.ownBlock ∧ w'.ownsRow base 44 5 v m xs := by
  obtain ⟨i0, hi, hz0, hz1, hz2⟩ := info_parts info_fr
  exact run_append_keep (P := Try.prog) w base 38 ty 44 i0 _ 5 _ Try.underlying38 hi hz0 hz1 hz2 rfl (by decide) v m xs hown ⟨G, 0, none⟩ 1 1 (fc e) rfl (fun j u hu => by
    have := cell_of_row w G j _ _ _ hG
    rw [List.getElem?_toArray, hu] at this
    rw [← this, Go.WideShapes.add_plain, Nat.zero_add]) (by
    intro u hu
    simp only [fc, List.mem_cons, List.not_mem_nil, or_false] at hu
    rcases hu with rfl | rfl | rfl | rfl | rfl <;> rfl) (by unfold maxLen; omega) (by omega) hbase
theorem step_append_fr {w : World} {ops : Array Oper} {o : Oper} {a : Act} {K : Act → World → Prop} {Q : Exit → Act → World → Prop} {E : Prop} (hgd : o.guard = none) (s x : Operand)
    (ho : o.op = .call { callee := .builtin .append, args := #[s, x], argTypes := #[38, 38] }) (base G : Nat) (v : Value) (m : Nat) (xs : List Value) (e : FT) (hs : a.eval s = v) (hx : a.eval x = .slice (some ⟨G, 0, none⟩) 1 1)
    (hown : w.ownsRow base 44 5 v m xs) (hG : w.heap[G]? = some (.cells (fc e).toArray 44 (0, 0))) (hm : m ≤ 1000) (hbase : base ≤ w.heap.size)
    (h : ∀ v' w', w'.ownsRow base 44 5 v' (m + 1) (xs ++ fc e) → w.grownBy w' v.ownBlock → w'.ownsRow base 44 5 v m xs → K (a.put o.dst v') w') :
    if Region.wanted o (yielded ops a.tmps) = true then Oper.wp Try.prog o a w K Q else E := by
  have hw : Region.wanted o (yielded ops a.tmps) = true := by simp [Region.wanted, hgd]
  rw [if_pos hw]
  obtain ⟨v', w', hr, h2, h3, h4⟩ := run_append_fr w base G o.type m v xs e hown hG hm hbase
  unfold Oper.wp execOp
  simp only [ho, resolve, invoke, builtin, Sem.run_bind, Sem.run_pure, Result.andThen_ok, List.map_toArray, List.map_cons, List.map_nil, hs, hx, hr]
  exact h v' w' h2 h3 h4
/-- A row's four cells. -/
structure FW where
  P : Option Addr
  c : Nat
  e : Rw
def gc (e : FW) : List Value := [.int .i64 e.e.t, .slice e.P e.e.n e.c, .int .i64 e.e.r, .int .i64 e.e.v]
def gr (l : List FW) : List Value := l.flatMap gc
theorem gr_len (l : List FW) : (gr l).length = l.length * 4 := by
  induction l with
  | nil => rfl
  | cons e l ih =>
    unfold gr at ih ⊢
    rw [List.flatMap_cons, List.length_append, ih, List.length_cons]
    simp [gc]
    omega
theorem gr_get : ∀ (l : List FW) (i : Nat) (e : FW) (j : Nat), l[i]? = some e → j < 4 → (gr l)[i * 4 + j]? = (gc e)[j]?
  | [], i, e, j, h, _ => by simp at h
  | x :: l, 0, e, j, h, hj => by
    simp at h
    subst h
    unfold gr
    rw [List.flatMap_cons, List.getElem?_append_left (by simp [gc]; omega)]
    simp
  | x :: l, i + 1, e, j, h, hj => by
    have ih := gr_get l i e j (by simpa using h) hj
    unfold gr at ih ⊢
    rw [List.flatMap_cons, List.getElem?_append_right (by simp [gc]; omega)]
    simp only [show (gc x).length = 4 from rfl, show (i + 1) * 4 + j - 4 = i * 4 + j by omega]
    exact ih
theorem gr_snoc (l : List FW) (e : FW) : gr (l ++ [e]) = gr l ++ gc e := by simp [gr]
theorem gr_append (l l' : List FW) : gr (l ++ l') = gr l ++ gr l' := by simp [gr]
theorem gr_one (l : List FW) : ∀ u ∈ gr l, u.oneCell' = true := by
  intro u hu
  obtain ⟨m, _, hm⟩ := List.mem_flatMap.1 hu
  simp only [gc, List.mem_cons, List.not_mem_nil, or_false] at hm
  rcases hm with rfl | rfl | rfl | rfl <;> rfl
theorem Rs.of_own {w : World} {base m c : Nat} {A : Option Addr} {l : List FW} (h : w.ownsRow base 55 4 (.slice A m c) m (gr l)) : Rs w w.heap.size A (l.map (·.e)) := fun hl => by
  have hlen := h.1
  rw [gr_len] at hlen
  rw [List.length_map] at hl
  rcases h.2 with ⟨_, h0⟩ | ⟨g, cap, cur, e1, _, hh, _, _, _, ht⟩
  · omega
  · injection e1 with e1 _ _
    subst e1
    refine ⟨g, 0, rfl, lt_of_block hh, fun i t he => ?_⟩
    rw [List.getElem?_map] at he
    obtain ⟨e, hel, rfl⟩ := Option.map_eq_some_iff.1 he
    have hil := (List.getElem?_eq_some_iff.1 hel).1
    have hc : ∀ j u, j < 4 → (gc e)[j]? = some u → w.cell? ⟨g, 0 + i * 4 + j, none⟩ = some u := fun j u hj hu => by
      rw [cell_of_row w g _ _ _ _ hh, ← Array.getElem?_toList, Nat.zero_add, ← hu, ← gr_get l i e j hel hj, ← ht, List.getElem?_take, if_pos (by omega)]
    exact ⟨e.P, e.c, hc 0 _ (by decide) rfl, hc 1 _ (by decide) rfl, hc 2 _ (by decide) rfl, hc 3 _ (by decide) rfl⟩
theorem gr_of_own {w : World} {base m c : Nat} {A : Option Addr} {l : List FW} (h : w.ownsRow base 55 4 (.slice A m c) m (gr l)) : l.length = m := by
  have hlen := h.1
  rw [gr_len] at hlen
  omega
theorem info_gr : (Try.prog.info? 55).map (fun i => (i.zero, i.size, i.bytes)) = some (some (.agg #[.int .i64 0, .slice none 0 0, .int .i64 0, .int .i64 0]), 4, 48) := by kernel_rfl
theorem run_append_gr (w : World) (base G ty m : Nat) (v : Value) (xs : List Value) (e : FW) (hown : w.ownsRow base 55 4 v m xs) (hG : w.heap[G]? = some (.cells (gc e).toArray 55 (0, 0))) (hm : m ≤ 1000) (hbase : base ≤ w.heap.size) :
    ∃ v' w', (Builtin.append_ #[31, 31] ty #[v, .slice (some ⟨G, 0, none⟩) 1 1]).run Try.prog w = .ok v' w' ∧ w'.ownsRow base 55 4 v' (m + 1) (xs ++ gc e) ∧ w.grownBy w' v.ownBlock ∧ w'.ownsRow base 55 4 v m xs := by
  obtain ⟨i0, hi, hz0, hz1, hz2⟩ := info_parts info_gr
  exact run_append_keep (P := Try.prog) w base 31 ty 55 i0 _ 4 _ Try.underlying31 hi hz0 hz1 hz2 rfl (by decide) v m xs hown ⟨G, 0, none⟩ 1 1 (gc e) rfl (fun j u hu => by
    have := cell_of_row w G j _ _ _ hG
    rw [List.getElem?_toArray, hu] at this
    rw [← this, Go.WideShapes.add_plain, Nat.zero_add]) (by
    intro u hu
    simp only [gc, List.mem_cons, List.not_mem_nil, or_false] at hu
    rcases hu with rfl | rfl | rfl | rfl <;> rfl) (by unfold maxLen; omega) (by omega) hbase
theorem step_append_gr {w : World} {ops : Array Oper} {o : Oper} {a : Act} {K : Act → World → Prop} {Q : Exit → Act → World → Prop} {E : Prop} (hgd : o.guard = none) (s x : Operand)
    (ho : o.op = .call { callee := .builtin .append, args := #[s, x], argTypes := #[31, 31] }) (base G : Nat) (v : Value) (m : Nat) (xs : List Value) (e : FW) (hs : a.eval s = v) (hx : a.eval x = .slice (some ⟨G, 0, none⟩) 1 1)
    (hown : w.ownsRow base 55 4 v m xs) (hG : w.heap[G]? = some (.cells (gc e).toArray 55 (0, 0))) (hm : m ≤ 1000) (hbase : base ≤ w.heap.size)
    (h : ∀ v' w', w'.ownsRow base 55 4 v' (m + 1) (xs ++ gc e) → w.grownBy w' v.ownBlock → w'.ownsRow base 55 4 v m xs → K (a.put o.dst v') w') :
    if Region.wanted o (yielded ops a.tmps) = true then Oper.wp Try.prog o a w K Q else E := by
  have hw : Region.wanted o (yielded ops a.tmps) = true := by simp [Region.wanted, hgd]
  rw [if_pos hw]
  obtain ⟨v', w', hr, h2, h3, h4⟩ := run_append_gr w base G o.type m v xs e hown hG hm hbase
  unfold Oper.wp execOp
  simp only [ho, resolve, invoke, builtin, Sem.run_bind, Sem.run_pure, Result.andThen_ok, List.map_toArray, List.map_cons, List.map_nil, hs, hx, hr]
  exact h v' w' h2 h3 h4
theorem info41 : (Try.prog.info? 41).map (fun i => (i.zero, i.size, i.bytes)) = some (some (.int .u32 0), 1, 4) := by kernel_rfl
theorem run_append_us (w : World) (B g ty n c : Nat) (P : Option Addr) (hg : w.heap[g]? = some (.cells #[] 41 (0, 0))) (hu : Us w B P n) (hn : n ≤ 1000) :
    ∃ P' c' w', (Builtin.append_ #[42, 42] ty #[.slice (some ⟨g, 0, none⟩) 0 0, .slice P n c]).run Try.prog w = .ok (.slice P' n c') w' ∧ w.grownBy w' (some g) := by
  have hown : w.ownsRow g 41 1 (.slice (some ⟨g, 0, none⟩) 0 0) 0 [] := ⟨rfl, .inr ⟨g, 0, #[], rfl, Nat.le_refl _, hg, Nat.le_refl _, Nat.zero_le _, rfl, rfl⟩⟩
  obtain ⟨i, hi, hz0, hz1, hz2⟩ := info_parts info41
  rcases P with _ | ad
  · have hn0 : n = 0 := by
      rcases Nat.eq_zero_or_pos n with h | h
      · exact h
      · obtain ⟨b, o, hA, _⟩ := hu h
        cases hA
    subst hn0
    refine ⟨some ⟨g, 0, none⟩, 0, w, ?_, World.grownBy.refl w _⟩
    simp [Builtin.append_, run_underlying Try.underlying42, sizeOf, typeInfo, hi, Builtin.lenOf, Builtin.firstCells, storeCells]
  · obtain ⟨f, hf⟩ : ∃ f : Nat → Int, ∀ j, j < n → w.cell? (ad.add j) = some (.int .u32 (f j)) := by
      by_cases h0 : 0 < n
      · obtain ⟨b, o, hA, _, hc⟩ := hu h0
        injection hA with hA
        subst hA
        obtain ⟨f, hf⟩ := Deep.choose_lt hc
        exact ⟨f, fun j hj => by rw [Go.WideShapes.add_plain]; exact hf j hj⟩
      · exact ⟨fun _ => 0, fun j hj => absurd hj (by omega)⟩
    obtain ⟨v', w', hr, h2, h3, _⟩ := run_append_own (P := Try.prog) w g 42 ty 41 i _ 1 _ Try.underlying42 hi hz0 hz1 hz2 rfl (by decide) (.slice (some ⟨g, 0, none⟩) 0 0) 0 [] hown ad n c ((List.range n).map fun j => .int .u32 (f j)) (by simp) (fun j u hu => by
      rw [List.getElem?_map] at hu
      obtain ⟨j', hj', rfl⟩ := Option.map_eq_some_iff.1 hu
      obtain ⟨hin, rfl⟩ := List.getElem?_eq_some_iff.1 hj'
      simp at hin ⊢
      exact hf j hin) (by
      intro u hu
      obtain ⟨j, _, rfl⟩ := List.mem_map.1 hu
      rfl) (by unfold maxLen; omega) (by omega) (Nat.le_of_lt (lt_of_block hg))
    obtain ⟨P', c', rfl⟩ := own_form h2
    rw [Nat.zero_add] at hr
    exact ⟨P', c', w', hr, h3⟩
theorem step_append_us {w : World} {ops : Array Oper} {o : Oper} {a : Act} {K : Act → World → Prop} {Q : Exit → Act → World → Prop} {E : Prop} (hgd : o.guard = none) (s x : Operand)
    (ho : o.op = .call { callee := .builtin .append, args := #[s, x], argTypes := #[42, 42] }) (B g n c : Nat) (P : Option Addr) (hs : a.eval s = .slice (some ⟨g, 0, none⟩) 0 0) (hx : a.eval x = .slice P n c)
    (hg : w.heap[g]? = some (.cells #[] 41 (0, 0))) (hu : Us w B P n) (hn : n ≤ 1000)
    (h : ∀ P' c' w', w.grownBy w' (some g) → K (a.put o.dst (.slice P' n c')) w') :
    if Region.wanted o (yielded ops a.tmps) = true then Oper.wp Try.prog o a w K Q else E := by
  have hw : Region.wanted o (yielded ops a.tmps) = true := by simp [Region.wanted, hgd]
  rw [if_pos hw]
  obtain ⟨P', c', w', hr, h3⟩ := run_append_us w B g o.type n c P hg hu hn
  unfold Oper.wp execOp
  simp only [ho, resolve, invoke, builtin, Sem.run_bind, Sem.run_pure, Result.andThen_ok, List.map_toArray, List.map_cons, List.map_nil, hs, hx, hr]
  exact h P' c' w' h3

end Go.Proofs.Ytccabdhfnjlbdaa
