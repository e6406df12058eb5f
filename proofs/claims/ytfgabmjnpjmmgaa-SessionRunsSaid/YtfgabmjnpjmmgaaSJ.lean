/- Session: acts that came in; players, one by one. -/
import Derived.Test.YtfgabmjnpjmmgaaSI
import Derived.Deep.Matrix
namespace Go.Proofs.Ytfgabmjnpjmmgaa
open Go.RowKit Go.ChangeShapes
open Go.Joins
set_option maxRecDepth 20000
set_option linter.unusedVariables false
set_option linter.unusedSimpArgs false

abbrev Ac := Int × Nat × Nat × Int
abbrev aC (e : Ac) : Array Value := #[.int .u8 e.1, .int .u32 (e.2.1 : Int), .int .u32 (e.2.2.1 : Int), .int .i64 e.2.2.2]
def Ra (e : Ac) : Prop := 0 ≤ e.1 ∧ e.2.1 ≤ 4294967295 ∧ e.2.2.1 ≤ 4294967295 ∧ inI e.2.2.2
theorem open_ac {H : Type} {enc : TypeId × Value → H} {W : World} {r : Reach} {b0 : Nat} {v : Value} {d : DataW H} {q : List MemPlace} (hv : Value.okWide Try.prog W r b0 30 v) (h : DataW.Trod enc Try.prog W 0 (fun _ => true) true 30 v d q) :
    ∃ e : Ac, v = .agg (aC e) ∧ Ra e := by
  obtain ⟨cs, rfl, hsz⟩ := WideShapes.okWide_struct Try.underlying30 hv
  obtain ⟨c0, c1, c2, c3, rfl⟩ := array4 (hsz.trans (show Try.prog.cellsOf 30 = 4 by kernel_rfl))
  obtain ⟨fuel, hf⟩ := h
  obtain ⟨xs, m, _, _, _, hlen, hx⟩ := DataW.trod_struct Try.underlying30 hf
  have k5 : Try.prog.cellsOf 5 = 1 := by kernel_rfl
  have k28 : Try.prog.cellsOf 28 = 1 := by kernel_rfl
  have k2 : Try.prog.cellsOf 2 = 1 := by kernel_rfl
  match xs, hlen with
  | [y0, y1, y2, y3], _ =>
    have h0 : DataW.trod enc Try.prog W 0 (fun _ => true) true m 5 [c0] = some y0 := by simpa [Value.cells, k5] using hx 0 _ rfl
    have h1 : DataW.trod enc Try.prog W 0 (fun _ => true) true m 28 [c1] = some y1 := by simpa [Value.cells, k5, k28] using hx 1 _ rfl
    have h2 : DataW.trod enc Try.prog W 0 (fun _ => true) true m 28 [c2] = some y2 := by simpa [Value.cells, k5, k28] using hx 2 _ rfl
    have h3 : DataW.trod enc Try.prog W 0 (fun _ => true) true m 2 [c3] = some y3 := by simpa [Value.cells, k5, k28, k2] using hx 3 _ rfl
    obtain ⟨x0, e0, _, w0⟩ := DataW.trod_int Try.underlying5 h0
    obtain ⟨x1, e1, _, w1⟩ := DataW.trod_int Try.underlying28 h1
    obtain ⟨x2, e2, _, w2⟩ := DataW.trod_int Try.underlying28 h2
    obtain ⟨x3, e3, _, w3⟩ := DataW.trod_int Try.underlying2 h3
    simp only [List.cons.injEq, and_true] at e0 e1 e2 e3
    subst e0 e1 e2 e3
    have b0 := bounds_u8 w0
    have b1 := bounds_u32 w1
    have b2 := bounds_u32 w2
    have b3 := bounds_i64 w3
    refine ⟨(x0, x1.toNat, x2.toNat, x3), ?_, by exact b0.1, by show x1.toNat ≤ _; omega, by show x2.toNat ≤ _; omega, b3⟩
    simp only [aC, show ((x1.toNat : Nat) : Int) = x1 by omega, show ((x2.toNat : Nat) : Int) = x2 by omega]
/-- The acts l are read from A on. -/
def As (w : World) (B : Nat) (A : Option Addr) (l : List Ac) : Prop :=
  0 < l.length → ∃ b o, A = some ⟨b, o, none⟩ ∧ b < B ∧ ∀ i e, l[i]? = some e → w.cell? ⟨b, o + i * 4, none⟩ = some (.int .u8 e.1) ∧ w.cell? ⟨b, o + i * 4 + 1, none⟩ = some (.int .u32 (e.2.1 : Int)) ∧ w.cell? ⟨b, o + i * 4 + 2, none⟩ = some (.int .u32 (e.2.2.1 : Int)) ∧ w.cell? ⟨b, o + i * 4 + 3, none⟩ = some (.int .i64 e.2.2.2)
theorem As.below {w W : World} {B : Nat} {A : Option Addr} {l : List Ac} (h : As w B A l) (hb : Below B w W) : As W B A l := fun hl => by
  obtain ⟨b, o, h1, h2, h3⟩ := h hl
  exact ⟨b, o, h1, h2, fun i e he => ⟨(hb.cell (p := ⟨b, _, none⟩) h2).trans (h3 i e he).1, (hb.cell (p := ⟨b, _, none⟩) h2).trans (h3 i e he).2.1, (hb.cell (p := ⟨b, _, none⟩) h2).trans (h3 i e he).2.2.1, (hb.cell (p := ⟨b, _, none⟩) h2).trans (h3 i e he).2.2.2⟩⟩
theorem open_acts {H : Type} {enc : TypeId × Value → H} {W : World} {r : Reach} {b0 : Nat} {v : Value} {d : DataW H} {q : List MemPlace} (hv : Value.okWide Try.prog W r b0 22 v) (h : DataW.Trod enc Try.prog W 0 (fun _ => true) true 22 v d q) :
    ∃ (u : Option Addr × Nat) (l : List Ac), v = .slice u.1 l.length u.2 ∧ As W W.heap.size u.1 l ∧ l.length ≤ 9223372036854775807 ∧ ∀ e ∈ l, Ra e := by
  obtain ⟨A, n, c, rfl⟩ := WideShapes.okWide_slice Try.underlying22 hv
  obtain ⟨fuel, hf⟩ := h
  have c4 : Try.prog.cellsOf 30 = 4 := by kernel_rfl
  have k5 : Try.prog.cellsOf 5 = 1 := by kernel_rfl
  have k28 : Try.prog.cellsOf 28 = 1 := by kernel_rfl
  have k2 : Try.prog.cellsOf 2 = 1 := by kernel_rfl
  rcases Deep.open_slice Try.underlying22 hf with ⟨hcs, _⟩ | ⟨a, len, cap, m, k, D, Pl, hcs, _, hl, hm, hmm, _, hx⟩
  · simp [Value.cells] at hcs
    obtain ⟨rfl, rfl, rfl⟩ := hcs
    exact ⟨(none, 0), [], rfl, fun h => by simp at h, by simp, fun e he => by simp at he⟩
  · simp [Value.cells] at hcs
    obtain ⟨rfl, rfl, rfl⟩ := hcs
    rw [c4] at hx
    have each : ∀ i, i < n → ∃ e : Ac, Ra e ∧ W.cell? (a.add (i * 4)) = some (.int .u8 e.1) ∧ W.cell? (a.add (i * 4 + 1)) = some (.int .u32 (e.2.1 : Int)) ∧ W.cell? (a.add (i * 4 + 2)) = some (.int .u32 (e.2.2.1 : Int)) ∧ W.cell? (a.add (i * 4 + 3)) = some (.int .i64 e.2.2.2) := fun i hi => by
      obtain ⟨cs', h1, h2⟩ := hx i (by rw [hmm]; simp; omega)
      obtain ⟨_, hlen, hcell⟩ := World.cells?_some h1
      match cs', hlen with
      | [c0, c1, c2, c3], _ =>
        obtain ⟨xs, m', _, _, _, hlen', hx'⟩ := DataW.trod_struct Try.underlying30 h2
        match xs, hlen' with
        | [y0, y1, y2, y3], _ =>
        have g0 : DataW.trod enc Try.prog W 0 (fun _ => true) true m' 5 [c0] = some y0 := by simpa [Value.cells, k5] using hx' 0 _ rfl
        have g1 : DataW.trod enc Try.prog W 0 (fun _ => true) true m' 28 [c1] = some y1 := by simpa [Value.cells, k5, k28] using hx' 1 _ rfl
        have g2 : DataW.trod enc Try.prog W 0 (fun _ => true) true m' 28 [c2] = some y2 := by simpa [Value.cells, k5, k28] using hx' 2 _ rfl
        have g3 : DataW.trod enc Try.prog W 0 (fun _ => true) true m' 2 [c3] = some y3 := by simpa [Value.cells, k5, k28, k2] using hx' 3 _ rfl
        obtain ⟨x0, e0, _, w0⟩ := DataW.trod_int Try.underlying5 g0
        obtain ⟨x1, e1, _, w1⟩ := DataW.trod_int Try.underlying28 g1
        obtain ⟨x2, e2, _, w2⟩ := DataW.trod_int Try.underlying28 g2
        obtain ⟨x3, e3, _, w3⟩ := DataW.trod_int Try.underlying2 g3
        simp only [List.cons.injEq, and_true] at e0 e1 e2 e3
        subst e0 e1 e2 e3
        have b0 := bounds_u8 w0
        have b1 := bounds_u32 w1
        have b2 := bounds_u32 w2
        have b3 := bounds_i64 w3
        have q0 := hcell 0 (by omega)
        have q1 := hcell 1 (by omega)
        have q2 := hcell 2 (by omega)
        have q3 := hcell 3 (by omega)
        rw [Deep.add_add] at q0 q1 q2 q3
        refine ⟨(x0, x1.toNat, x2.toNat, x3), ⟨b0.1, by show x1.toNat ≤ _; omega, by show x2.toNat ≤ _; omega, b3⟩, ?_, ?_, ?_, ?_⟩
        · simpa using q0
        · simpa [show (x1.toNat : Int) = x1 by omega] using q1
        · simpa [show (x2.toNat : Int) = x2 by omega] using q2
        · simpa using q3
    obtain ⟨f, hf⟩ := Deep.choose_lt each
    refine ⟨(some a, c), (List.range n).map f, by simp, fun h0 => ?_, by unfold maxLen at hm; simp; omega, fun e he => by
      obtain ⟨i, hi, rfl⟩ := List.mem_map.1 he
      exact (hf i (List.mem_range.1 hi)).1⟩
    simp at h0
    have hc0 := (hf 0 h0).2.1
    obtain ⟨b, off, spot⟩ := a
    have hspot : spot = none := by simpa [Addr.add] using World.cell?_spot hc0
    subst hspot
    refine ⟨b, off, rfl, World.block_lt_of_cell? W ⟨b, off + 0 * 4, none⟩ (by rw [← Go.WideShapes.add_plain]; exact hc0), fun i e he => ?_⟩
    rw [List.getElem?_map] at he
    obtain ⟨i', hi', rfl⟩ := Option.map_eq_some_iff.1 he
    obtain ⟨hin, rfl⟩ := List.getElem?_eq_some_iff.1 hi'
    simp at hin
    simp only [List.getElem_range]
    have hq := (hf i hin).2
    rw [Go.WideShapes.add_plain, Go.WideShapes.add_plain, Go.WideShapes.add_plain, Go.WideShapes.add_plain] at hq
    exact ⟨hq.1, by rw [Nat.add_assoc]; exact hq.2.1, by rw [Nat.add_assoc]; exact hq.2.2.1, by rw [Nat.add_assoc]; exact hq.2.2.2⟩

theorem player_at (B T : Nat) (idle most : Int) (L : List Lk) (k x : Nat) (y : Mk) (w : World) (h : TbL w B T idle most L) (hN : Nd L) (hl : L.length < 900) (hk : L[k]? = some (x, y)) :
    Calls Try.prog 21 #[.pointer (some ⟨T, 0, none⟩), .int .u32 (x : Int)] w fun r w' => r = .returned (.int .u32 y.2) ∧ Below w.heap.size w w' :=
  (player_there B T idle most _ _ x w h (by simp; omega) (List.mem_of_getElem? (at_fst hk).1)).mono fun r w' ⟨⟨p, y1, y2, h1, h2, e⟩, hb⟩ => by
    have h3 : L[p]? = some (x, (y1, y2)) := by
      rw [List.getElem?_map] at h1 h2
      obtain ⟨⟨a1, a2⟩, g1, g2⟩ := Option.map_eq_some_iff.1 h1
      rw [g1] at h2 ⊢
      simp at h2 g2
      rw [g2, h2]
    have h4 := look_at hN.1 h3
    rw [look_at hN.1 hk] at h4
    injection h4 with h4
    rw [h4]
    exact ⟨e, hb⟩
theorem connL (B T : Nat) (idle most : Int) (L : List Lk) (pl : Int) (w : World) (h : TbL w B T idle most L) (hl : L.length < 900) (hpl : ¬ pl = 0) :
    Calls Try.prog 20 #[.pointer (some ⟨T, 0, none⟩), .int .u32 pl] w fun r w' => r = .returned (.int .u32 (connQ pl L : Nat)) ∧ Below w.heap.size w w' := by
  have := conn_any B T idle most _ _ pl w h (by simp; omega) hpl
  rw [zipL] at this
  exact this
theorem pw_uni {L : List Lk} (hN : Nd L) {i j : Nat} {a b : Lk} (ha : L[i]? = some a) (hb : L[j]? = some b) (e : a.2.2 = b.2.2) (h0 : ¬ a.2.2 = 0) : a = b := by
  rcases Nat.lt_trichotomy i j with h | rfl | h
  · exact absurd ((pw_lt hN.1 h ha hb).2 e) h0
  · rw [ha] at hb
    injection hb
  · exact absurd ((pw_lt hN.1 h hb ha).2 e.symm) (by rw [← e]; exact h0)
theorem playersQ_nodup {L : List Lk} (hN : Nd L) : (playersQ L).Nodup := by
  unfold playersQ
  rw [List.Nodup, List.pairwise_map]
  refine (hN.1.filter _).imp_of_mem fun {a b} ha hb hab e => ?_
  have h1 := List.mem_filter.1 ha
  have h2 := List.mem_filter.1 hb
  have g1 := (hN.2 a h1.1).2.2.1
  have g2 := (hN.2 b h2.1).2.2.1
  have : a.2.2 = b.2.2 := by omega
  have := hab.2 this
  simp at h1
  exact h1.2 this
theorem playersQ_at {L : List Lk} (hN : Nd L) {p : Nat} (hp : p ∈ playersQ L) : ¬ (p : Int) = 0 ∧ ∃ (k : Nat) (e : Lk), L[k]? = some e ∧ e.2.2 = (p : Int) ∧ connQ (p : Int) L = e.1 := by
  unfold playersQ at hp
  obtain ⟨a, ha, rfl⟩ := List.mem_map.1 hp
  obtain ⟨h1, h2⟩ := List.mem_filter.1 ha
  have g1 := (hN.2 a h1).2.2.1
  have e : ((a.2.2.toNat : Nat) : Int) = a.2.2 := by omega
  rw [e]
  simp at h2
  refine ⟨h2, ?_⟩
  rcases connQ_cases a.2.2 L with ⟨_, h3⟩ | ⟨k, b, h3, h4, h5⟩
  · exact absurd rfl (h3 a h1)
  · exact ⟨k, b, h3, h4, h5⟩
def cntQ (L : List Lk) : Nat := (L.filter fun z => decide (z.2.2 ≠ 0)).length
theorem cntQ_players (L : List Lk) : cntQ L = (playersQ L).length := by unfold cntQ playersQ; simp
theorem cntQ_snoc {L : List Lk} {k : Nat} {z : Lk} (h : L[k]? = some z) : cntQ (L.take (k + 1)) = cntQ (L.take k) + if z.2.2 = 0 then 0 else 1 := by
  unfold cntQ
  rw [List.take_add_one, h, List.filter_append, List.length_append]
  congr 1
  by_cases hz : z.2.2 = 0 <;> simp [hz]
theorem cntQ_le (L : List Lk) : cntQ L ≤ L.length := List.length_filter_le _ _
theorem sortedN_len (l : List Nat) : (sortedN l).length = l.length := (sortedN_perm l).length_eq
/-- Who has logged in is there, alone. -/
theorem login_ok {x pl : Nat} {now : Int} {L : List Lk} (hN : Nd L) (hn : inI now) (h0 : (loginS x pl now L).1 = 0) : (∃ k : Nat, (loginS x pl now L).2.2[k]? = some (x, (now, (pl : Int)))) ∧ connQ (pl : Int) (loginS x pl now L).2.2 = x ∧ ¬ (pl : Int) = 0 := by
  have hND := nd_login (x := x) (pl := pl) (now := now) hN hn
  have hk : (∃ k : Nat, (loginS x pl now L).2.2[k]? = some (x, (now, (pl : Int)))) ∧ ¬ (pl : Int) = 0 := by
    unfold loginS at h0 ⊢
    split at h0
    · simp at h0
    · rename_i y hy
      split at h0
      · simp at h0
      · rename_i h1
        have hpl := Classical.not_not.1 h1
        split at h0
        · simp at h0
        · rename_i h2
          simp only [if_neg h1, if_neg h2]
          refine ⟨?_, by omega⟩
          obtain ⟨k, hk⟩ := look_some hy
          have key : ∀ L1 : List Lk, L1.Pairwise Rd → (∃ y', (x, y') ∈ L1) → ∃ k : Nat, (setS x (now, (pl : Int)) L1)[k]? = some (x, (now, (pl : Int))) := fun L1 hp ⟨y', hy'⟩ => by
            obtain ⟨i, hi⟩ := List.getElem?_of_mem hy'
            exact ⟨i, by rw [set_atS hp _ hi, List.getElem?_set_self (List.getElem?_eq_some_iff.1 hi).1]⟩
          by_cases hc : connQ (pl : Int) L = 0
          · rw [if_pos hc]
            exact key L hN.1 ⟨y, List.mem_of_getElem? hk⟩
          · rw [if_neg hc]
            refine key _ (nd_del _ hN).1 ⟨y, List.mem_filter.2 ⟨List.mem_of_getElem? hk, ?_⟩⟩
            rcases connQ_cases (pl : Int) L with ⟨e1, _⟩ | ⟨q, a, e1, e2, e3⟩
            · exact absurd e1 hc
            · rw [e3]
              have : x ≠ a.1 := fun e => by
                have h4 := look_at hN.1 (k := q) (x := a.1) (y := a.2) e1
                rw [← e, hy] at h4
                injection h4 with h4
                have := Classical.not_not.1 h2
                rw [h4] at this
                omega
              simpa using this
  refine ⟨hk.1, ?_, hk.2⟩
  obtain ⟨⟨k, hk⟩, hne⟩ := hk
  rcases connQ_cases (pl : Int) (loginS x pl now L).2.2 with ⟨_, h3⟩ | ⟨q, a, e1, e2, e3⟩
  · exact absurd rfl (h3 _ (List.mem_of_getElem? hk))
  · rw [e3, pw_uni hND e1 hk e2 (by rw [e2]; exact hne)]
end Go.Proofs.Ytfgabmjnpjmmgaa
