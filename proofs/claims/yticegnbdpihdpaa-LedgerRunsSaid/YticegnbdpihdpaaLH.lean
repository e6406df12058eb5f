/- Ledger: a ledger that stands for entries; Get, Len, Issue, Spend, Nonces. -/
import Derived.Test.YticegnbdpihdpaaLG
import Derived.Test.YticegnbdpihdpaaLD
import Derived.Test.YticegnbdpihdpaaZE
namespace Go.Proofs.Yticegnbdpihdpaa
open Go.RowKit Go.Maps
set_option maxRecDepth 20000
set_option linter.unusedVariables false
set_option linter.unusedSimpArgs false

theorem IsL.norm {w : World} {L M cnt : Nat} {most : Int} {D : DataW Unit} (h : IsL w L M most cnt D) : IsL w L M most (size D) D := by
  obtain ⟨h1, es, clock, hb, F, hs, rfl⟩ := h
  exact ⟨h1, es, clock, hb, F, by simp [Maps.size, length_sorted], rfl⟩
/-- The ledger stands for the entries E. -/
def Ls (w : World) (L M : Nat) (most : Int) (E : List Ent) : Prop := ∃ D, IsL w L M most (size D) D ∧ Rep D E
theorem Ls.below {w w' : World} {L M : Nat} {most : Int} {E : List Ent} (h : Ls w L M most E) (hb : Below w.heap.size w w') : Ls w' L M most E := by
  obtain ⟨D, h1, h2⟩ := h
  exact ⟨D, h1.below hb, h2⟩
theorem ChM.trans {M : Nat} {w v x : World} (h : ChM M w v) (h' : ChM M v x) : ChM M w x :=
  ⟨fun B h1 h2 => (h.1 B h1 h2).trans (h'.1 B h1 (Nat.le_trans h2 h.2.2)), fun g hg hne => (h'.2.1 g (Nat.lt_of_lt_of_le hg h.2.2) hne).trans (h.2.1 g hg hne), Nat.le_trans h.2.2 h'.2.2⟩
theorem ChM.more {M j : Nat} {w v x : World} (h : ChM M w v) (hg : v.grownBy x (some j)) (hj : j = M ∨ w.heap.size ≤ j) : ChM M w x :=
  ⟨fun B h1 h2 => (h.1 B h1 h2).grown hg (Nat.le_trans h2 h.2.2) (fun k hk => by injection hk with hk; omega), fun g hgs hne => (hg.block g (Nat.lt_of_lt_of_le hgs h.2.2) (fun e => by injection e with e; omega)).trans (h.2.1 g hgs hne), Nat.le_trans h.2.2 hg.size⟩
abbrev gp (L : Nat) : Value := .pointer (some ⟨L, 0, none⟩)
abbrev eVe (e : Ent) : Value := eV e.1 e.2.1 e.2.2.1 e.2.2.2
theorem get_ls (L M n : Nat) (most : Int) (E : List Ent) (w : World) (h : Ls w L M most E) (hs : Srt E) (hn : n < 18446744073709551616) :
    Calls Try.prog 12 #[gp L, .int .u64 (n : Int)] w fun r w' => r = .returned (.tuple #[eVe (getE E n), .bool (anyN E n)]) ∧ Below w.heap.size w w' := by
  obtain ⟨D, h1, h2⟩ := h
  obtain ⟨h3, h4⟩ := h2.get hs n
  exact get_any L M most _ D n _ _ _ _ _ w h1 hn h3 h4
set_option maxHeartbeats 1000000 in
theorem len_ls (L M : Nat) (most : Int) (E : List Ent) (w : World) (h : Ls w L M most E) : Calls Try.prog 26 #[gp L] w fun r w' => r = .returned (.int .i64 (E.length : Int)) ∧ w' = w := by
  obtain ⟨D, h1, h2⟩ := h
  have c1 := cell_of_row w L 1 _ _ _ h1.1
  simp at c1
  have hlen := h1.2.len Try.underlying88 3
  rw [h2.size] at hlen
  clear h1 h2
  go_enter Try.func26, Try.ntmps26
  go_wp2
  go_ret
  exact ⟨rfl, rfl⟩
def issE (most : Int) (E : List Ent) (e : Ent) (now : Int) : List Ent × Int :=
  if e.2.2.2 < now then (E, 9) else if anyN E e.1 = true then (E, 11) else if most ≤ (E.length : Int) then (E, 10) else (insE e E, 0)
theorem issue_ls (L M : Nat) (most : Int) (E : List Ent) (e : Ent) (now : Int) (w : World) (h : Ls w L M most E) (hs : Srt E) (hb : e.1 < 18446744073709551616) (hl : E.length ≤ 900) :
    Calls Try.prog 15 #[gp L, eVe e, .int .i64 now] w fun r w' => r = .returned (.int .i64 (issE most E e now).2) ∧ Ls w' L M most (issE most E e now).1 ∧ ChM M w w' := by
  obtain ⟨D, h1, h2⟩ := h
  obtain ⟨h3, h4⟩ := h2.get hs e.1
  have hsz := h2.size
  by_cases g1 : e.2.2.2 < now
  · have hr : issE most E e now = (E, 9) := by unfold issE; rw [if_pos g1]
    rw [hr]
    refine (issue_old L M most _ D e.1 e.2.1 e.2.2.1 e.2.2.2 now w h1 hb g1 _ h3 _ _ _ _ h4).mono ?_
    rintro r w' ⟨rfl, hb'⟩
    exact ⟨rfl, ⟨D, h1.below hb', h2⟩, ChM.of_below hb'⟩
  · cases ha : anyN E e.1 with
    | true =>
      have hr : issE most E e now = (E, 11) := by unfold issE; rw [if_neg g1, if_pos ha]
      rw [hr]
      rw [ha] at h3
      refine (issue_exists L M most _ D e.1 e.2.1 e.2.2.1 e.2.2.2 now w h1 hb g1 h3 _ _ _ _ h4).mono ?_
      rintro r w' ⟨rfl, hb'⟩
      exact ⟨rfl, ⟨D, h1.below hb', h2⟩, ChM.of_below hb'⟩
    | false =>
      rw [ha] at h3
      by_cases g2 : most ≤ (E.length : Int)
      · have hr : issE most E e now = (E, 10) := by unfold issE; rw [if_neg g1, if_neg (by rw [ha]; decide), if_pos g2]
        rw [hr]
        refine (issue_full L M most _ D e.1 e.2.1 e.2.2.1 e.2.2.2 now w h1 hb g1 h3 (by rw [hsz]; omega)).mono ?_
        rintro r w' ⟨rfl, hb'⟩
        exact ⟨rfl, ⟨D, h1.below hb', h2⟩, ChM.of_below hb'⟩
      · have hr : issE most E e now = (insE e E, 0) := by unfold issE; rw [if_neg g1, if_neg (by rw [ha]; decide), if_neg g2]
        rw [hr]
        have hP := (h2.put (h1.2.tidy K26) e hb ha).perm (insE_perm e E).symm
        refine (issue_ok L M most _ D e.1 e.2.1 e.2.2.1 e.2.2.2 now w h1 hb g1 h3 (by rw [hsz]; omega) (by omega)).mono ?_
        rintro r w' ⟨rfl, h5, h6⟩
        exact ⟨rfl, ⟨_, h5.norm, hP⟩, h6⟩
def speE (E : List Ent) (n o a : Nat) (now : Int) : List Ent × Int :=
  if anyN E n = false then (E, 12) else if (getE E n).2.1 ≠ o ∨ (getE E n).2.2.1 ≠ a then (E, 13) else if (getE E n).2.2.2 < now then (E, 9) else (delE n E, 0)
theorem spend_ls (L M n o a : Nat) (most : Int) (E : List Ent) (now : Int) (w : World) (h : Ls w L M most E) (hs : Srt E) (hb : n < 18446744073709551616) :
    Calls Try.prog 17 #[gp L, .int .u64 (n : Int), .int .u32 (o : Int), .int .u32 (a : Int), .int .i64 now] w fun r w' => r = .returned (.int .i64 (speE E n o a now).2) ∧ Ls w' L M most (speE E n o a now).1 ∧ ChM M w w' := by
  have HG := get_ls L M n most E w h hs hb
  obtain ⟨D, h1, h2⟩ := h
  obtain ⟨h3, h4⟩ := h2.get hs n
  cases ha : anyN E n with
  | false =>
    have hr : speE E n o a now = (E, 12) := by unfold speE; rw [if_pos ha]
    rw [hr]
    rw [ha, getE_not ha] at HG
    refine (spend_missing _ n o a now w HG).mono ?_
    rintro r w' ⟨rfl, hb'⟩
    exact ⟨rfl, ⟨D, h1.below hb', h2⟩, ChM.of_below hb'⟩
  | true =>
    rw [ha] at HG h3
    obtain ⟨e, he⟩ : ∃ e, e = getE E n := ⟨_, rfl⟩
    obtain ⟨n', o', a', x⟩ := e
    have e0 : speE E n o a now = if o' ≠ o ∨ a' ≠ a then (E, 13) else if x < now then (E, 9) else (delE n E, 0) := by unfold speE; rw [if_neg (by rw [ha]; decide), ← he]
    rw [← he] at HG h4
    rw [e0]
    by_cases g1 : o' = o
    · subst g1
      by_cases g2 : a' = a
      · subst g2
        rw [if_neg (by simp)]
        by_cases g3 : x < now
        · rw [if_pos g3]
          refine (spend_old _ n o' a' n' x now w g3 HG).mono ?_
          rintro r w' ⟨rfl, hb'⟩
          exact ⟨rfl, ⟨D, h1.below hb', h2⟩, ChM.of_below hb'⟩
        · rw [if_neg g3]
          refine (spend_ok L M most _ D n o' a' n' x now w h1 hb g3 h3 h4).mono ?_
          rintro r w' ⟨rfl, h5, h6⟩
          exact ⟨rfl, ⟨_, h5.norm, h2.del (h1.2.tidy K26) hs n⟩, h6⟩
      · rw [if_pos (.inr g2)]
        refine (spend_wrong2 _ n o' a n' o' a' x now w ⟨rfl, g2⟩ HG).mono ?_
        rintro r w' ⟨rfl, hb'⟩
        exact ⟨rfl, ⟨D, h1.below hb', h2⟩, ChM.of_below hb'⟩
    · rw [if_pos (.inl g1)]
      refine (spend_wrong _ n o a n' o' a' x now w g1 HG).mono ?_
      rintro r w' ⟨rfl, hb'⟩
      exact ⟨rfl, ⟨D, h1.below hb', h2⟩, ChM.of_below hb'⟩

theorem infoU : (Try.prog.info? 26).map (fun i => (i.zero, i.size, i.bytes)) = some (some (.int .u64 0), 1, 8) := by kernel_rfl
theorem wpList_append_u64 {w : World} {ops : Array Oper} {rest : List Oper} {op : Oper} {a : Act} {Q : Exit → Act → World → Prop} (hgd : op.guard = none) (s x : Operand)
    (ho : op.op = .call { callee := .builtin .append, args := #[s, x], argTypes := #[57, 57] }) (base G : Nat) (v : Value) (m : Nat) (xs : List Value) (y : Nat) (hs : a.eval s = v) (hx : a.eval x = .slice (some ⟨G, 0, none⟩) 1 1)
    (hown : w.ownsRow base 26 1 v m xs) (hG : w.heap[G]? = some (.cells #[.int .u64 (y : Int)] 26 (0, 0))) (hm : m ≤ 1000) (hbase : base ≤ w.heap.size)
    (h : ∀ v' w', w'.ownsRow base 26 1 v' (m + 1) (xs ++ [.int .u64 (y : Int)]) → w.grownBy w' v.ownBlock → wpList Try.prog ops Q rest (a.put op.dst v') w') : wpList Try.prog ops Q (op :: rest) a w := by
  refine wpList_plain hgd fun K hK => ?_
  obtain ⟨i0, hi, hz0, hz1, hz2⟩ := info_parts infoU
  obtain ⟨v', w', hr, h2, h3, _⟩ := run_append_own (P := Try.prog) w base 57 op.type 26 i0 _ 1 _ Try.underlying57 hi hz0 hz1 hz2 rfl (by decide) v m xs hown ⟨G, 0, none⟩ 1 1 [.int .u64 (y : Int)] rfl (fun j u hu => by
    have := cell_of_row w G j _ _ _ hG
    rw [show (#[.int .u64 (y : Int)] : Array Value) = ([.int .u64 (y : Int)] : List Value).toArray from rfl, List.getElem?_toArray, hu] at this
    rw [← this, Go.WideShapes.add_plain, Nat.zero_add]) (by
    intro u hu
    simp only [List.mem_cons, List.not_mem_nil, or_false] at hu
    rw [hu]
    rfl) (by unfold maxLen; omega) (by omega) hbase
  unfold Oper.wp execOp
  simp only [ho, resolve, invoke, builtin, Sem.run_bind, Sem.run_pure, Result.andThen_ok, List.map_toArray, List.map_cons, List.map_nil, hs, hx, hr]
  exact hK _ _ (h v' w' h2 h3)
theorem un_snoc (l : List Nat) (x : Nat) : Z.un (l ++ [x]) = Z.un l ++ [.int .u64 (x : Int)] := by simp [Z.un]
/-- The nonces that were met so far. -/
structure Mt (E : List Ent) (left : Lit → Bool) (ss : List Nat) : Prop where
  nd : ss.Nodup
  why : ∀ x ∈ ss, anyN E x = true ∧ left (kl x) = false
  all : ∀ e ∈ E, left (kl e.1) = false → e.1 ∈ ss
theorem strike {left : Lit → Bool} {p q : Nat} : (left (kl q) && !(kl q).sameKey (kl p)) = false ↔ left (kl q) = false ∨ q = p := by
  by_cases e : q = p
  · subst e; simp [Lit.sameKey]
  · have : ¬ (q : Int) = p := by omega
    simp [Lit.sameKey, e, this]
theorem Mt.start {D : DataW Unit} {E : List Ent} (h : Rep D E) : Mt E (has D) [] := ⟨by simp, by simp, fun e he h1 => by
  rw [h.has, Bool.eq_false_iff] at h1
  exact absurd (List.any_eq_true.2 ⟨e, he, by simp⟩) h1⟩
theorem Mt.step {E : List Ent} {left : Lit → Bool} {ss : List Nat} (h : Mt E left ss) {x : Nat} (hl : left (kl x) = true) (hx : anyN E x = true) : Mt E (fun z => left z && !z.sameKey (kl x)) (ss ++ [x]) := by
  refine ⟨?_, fun y hy => ?_, fun e he hl' => ?_⟩
  · rw [List.nodup_append]
    refine ⟨h.nd, by simp, fun a ha b hb e => ?_⟩
    rw [List.mem_singleton] at hb
    subst hb e
    rw [(h.why _ ha).2] at hl
    cases hl
  · rw [List.mem_append, List.mem_singleton] at hy
    rcases hy with hy | rfl
    · exact ⟨(h.why y hy).1, strike.2 (.inl (h.why y hy).2)⟩
    · exact ⟨hx, strike.2 (.inr rfl)⟩
  · rw [List.mem_append, List.mem_singleton]
    rcases strike.1 hl' with h1 | h1
    · exact .inl (h.all e he h1)
    · exact .inr h1
theorem Mt.done {E : List Ent} {left : Lit → Bool} {ss : List Nat} (h : Mt E left ss) (hs : Srt E) (hl : ∀ k, left k = false) : Z.sortedN ss = E.map (·.1) := by
  have h1 : (Z.sortedN ss).Pairwise (· < ·) := Z.sortedN_lt ss h.nd
  have h2 : (E.map (·.1)).Pairwise (· < ·) := List.pairwise_map.2 hs
  refine List.Perm.eq_of_pairwise (le := (· < ·)) (fun a b _ _ h1 h2 => absurd h1 (Nat.lt_asymm h2)) h1 h2 ((List.perm_ext_iff_of_nodup (h1.imp fun {a b} h => Nat.ne_of_lt h) (h2.imp fun {a b} h => Nat.ne_of_lt h)).2 fun x => ?_)
  rw [Z.sortedN_mem, List.mem_map]
  constructor
  · intro hx
    obtain ⟨e, he, h3⟩ := anyN_iff.1 (h.why x hx).1
    exact ⟨e, he, h3⟩
  · rintro ⟨e, he, rfl⟩
    exact h.all e he (hl _)
theorem hasN {D : DataW Unit} {E : List Ent} (h : Rep D E) {x : Nat} {y : DataW Unit} (hat : ∀ zd, D.atKey (kl x) zd = y) : anyN E x = true := by
  have := has_true_of_atKey (y := y) hat
  rw [h.has] at this
  exact this

set_option maxHeartbeats 4000000 in
theorem nonces_ls (L M : Nat) (most : Int) (E : List Ent) (w : World) (h : Ls w L M most E) (hs : Srt E) (hl : E.length ≤ 900) :
    Calls Try.prog 25 #[gp L] w fun r w' => ∃ v, r = .returned v ∧ w'.ownsRow w.heap.size 26 1 v E.length (Z.un (E.map (·.1))) ∧ Below w.heap.size w w' := by
  obtain ⟨D, hL, hRep⟩ := h
  have hML := hL.2.lt
  have hown := hL.2
  have c1 := cell_of_row w L 1 _ _ _ hL.1
  simp at c1
  have HRP := Lib.hid hRep
  have HSZ : Hid (size D = E.length) := hRep.size
  have HST := Lib.hid hs
  have HME := Lib.hid (Mt.start hRep)
  clear hL hRep hs
  go_enter Try.func25, Try.ntmps25
  go_wp2_with (first
    | (at_range; refine wpList_range_own _ rfl _ 88 rfl 26 33 K26 Try.underlying88 R M (size D) D rfl hown ?_; intro w0 hrg0 hg0 hs0)
    | go_in)
  go_frame
  go_loopw [3] (fun v wr => ∃ (left : Lit → Bool) (c : Nat) (ss : List Nat), wr.ranges Try.prog 26 R M w.heap.size (size D) D left c ∧ wr.ownsRow w.heap.size 26 1 v ss.length (Z.un ss) ∧ Hid (Mt E left ss) ∧ ss.length + c ≤ size D ∧ Below w.heap.size w wr)
    (fun _ wr => wr.rangeLeft M w.heap.size)
  case atStart =>
    exact ⟨_, _, [], hrg0, World.ownsRow_nil _ _ _ _, HME, by simp, (Below.refl _ _).grown hg0 (Nat.le_refl _) (fun j hj => by cases hj)⟩
  case round =>
    obtain ⟨left, c, ss, hrg, hrow, HI, hcs, hnx⟩ := hrel
    go_wp2_with (first
      | (at_next; refine wpList_next_ranges _ rfl _ rfl 26 K26 R (Value.int .u64) (fun v : Value => v) (fun key kl hk => by obtain ⟨x, hx, _⟩ := Maps.keyOf_int_inv Try.underlying26 hk; exact ⟨x, hx⟩) (fun v y _ => ⟨v, rfl⟩) M w.heap.size (size D) D left c rfl hrg ?_ ?_)
      | go_in)
    · intro hc0 hl0
      have hd := HI.out.done HST.out hl0
      have HO : Hid (∀ (W : World) (v : Value), W.ownsRow w.heap.size 26 1 v ss.length (Z.un (Z.sortedN ss)) → W.ownsRow w.heap.size 26 1 v E.length (Z.un (E.map (·.1)))) := fun W v h => by
        have e : ss.length = E.length := by rw [← Z.sorted_len ss, hd, List.length_map]
        rw [hd, e] at h
        exact h
      have HX := Lib.hid hnx
      have HSO := Lib.hid (Z.sort_own w.heap.size _ ss wr hrow (by have := HSZ.out; omega))
      clear hnx hl0 hrg hrow hown hrg0 hg0 hd
      go_wp2_with (go_at_call 46; refine HSO.out.mono ?_; rintro e w' ⟨rfl, h1, h2⟩)
      go_ret
      exact ⟨_, rfl, HO.out _ _ h1, HX.out.trans h2⟩
    · intro x e kl' yd yp w2 cnt2 hkey hlk hv hat hrg2 hlt hg2 hs2 hen
      obtain ⟨x', ex, rfl, hwf⟩ := Maps.keyOf_int_inv Try.underlying26 hkey
      obtain rfl : x = x' := by injection ex
      have hx0 : (0 : Int) ≤ x := by
        simp only [Lit.wf, Bool.and_eq_true, decide_eq_true_eq] at hwf
        exact hwf.1
      obtain ⟨p, rfl⟩ : ∃ p : Nat, x = (p : Int) := ⟨x.toNat, by omega⟩
      have hrow2 := hrow.kept hg2 (Or.inr (row_ne_iter hrow hrg).symm)
      have HADD := Lib.hid (HI.out.step hlk (hasN HRP.out hat))
      clear hs2 hwf ex
      go_wp2_with (first
        | (at_builtin; refine wpList_append_u64 rfl _ _ rfl w.heap.size w2.heap.size _ ss.length (Z.un ss) p rfl rfl (hrow2.alloc _) (heap_alloc_new _ _) (by have := HSZ.out; omega) (by have := hnx.size; have := hg2.size; simp; omega) ?_; intro v' w3 hown' hg3; go_frame)
        | go_in)
      have hrg3 := (hrg2.alloc _).kept hg3 (row_ne_low hrow2 hML) (row_ne_iter hrow2 hrg2)
      go_roundw
      case rel =>
        refine ⟨_, cnt2, ss ++ [p], hrg3, by rw [un_snoc, List.length_append]; exact hown', HADD, by simp; omega, ?_⟩
        exact ((hnx.grown hg2 hnx.size (fun j hj => by cases hj; exact Nat.le_refl _)).alloc (by have := hnx.size; have := hg2.size; omega) _).grown hg3 (by have := hnx.size; have := hg2.size; simp; omega) (fun j hj => (hrow2.lt j hj).1)
      case measure => rw [hrg3.left_eq, hrg.left_eq]; exact hlt
end Go.Proofs.Yticegnbdpihdpaa
