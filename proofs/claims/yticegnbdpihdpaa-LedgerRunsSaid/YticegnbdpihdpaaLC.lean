/- Ledger: the nonces: as many as there are entries. -/
import Derived.Test.YticegnbdpihdpaaLB
import Derived.Maps.RangeWalk
import Derived.Sort.KeysCollected
import Derived.Sort.OwnSorted
import Derived.Maps.AppendAt
namespace Go.Proofs.Yticegnbdpihdpaa
open Go.RowKit Go.Maps
set_option maxRecDepth 20000

/-- The keys met so far. -/
def Met (D : DataW Unit) (left : Lit → Bool) (ss : List Int) : Prop := ss.Nodup ∧ ∀ x, x ∈ ss ↔ (has D (.int .u64 x) = true ∧ left (.int .u64 x) = false)
theorem Met.start (D : DataW Unit) : Met D (has D) [] := ⟨List.nodup_nil, fun x => by cases has D (.int .u64 x) <;> simp⟩
theorem Met.step {D : DataW Unit} {left : Lit → Bool} {ss : List Int} (h : Met D left ss) {x : Int} {y : DataW Unit} (hl : left (.int .u64 x) = true) (hat : ∀ zd, D.atKey (.int .u64 x) zd = y) : Met D (fun z => left z && !z.sameKey (.int .u64 x)) (ss ++ [x]) := by
  have hh : has D (.int .u64 x) = true := has_true_of_atKey hat
  have hn : x ∉ ss := fun hx => by
    have := ((h.2 x).1 hx).2
    rw [hl] at this
    cases this
  constructor
  · rw [List.nodup_append]
    refine ⟨h.1, by simp, fun a ha b hb e => ?_⟩
    simp at hb
    subst hb
    exact hn (e ▸ ha)
  · intro y
    by_cases e : y = x
    · subst e
      simp [hh, Lit.sameKey]
    · simp [h.2 y, e, Lit.sameKey]
theorem Met.len {D : DataW Unit} {left : Lit → Bool} {ss : List Int} (h : Met D left ss) {w : World} {M n : Nat} (ho : w.ownsMap Try.prog 26 R M n D) (hl : ∀ kl, left kl = false) : ss.length = Maps.size D := by
  obtain ⟨es, hD, hpw, _⟩ := ho.entries K26
  obtain ⟨es', hD', hko⟩ := ho.keysOf
  obtain rfl : es = es' := by rw [hD] at hD'; simpa using hD'
  subst hD
  have hp : (ss.map (fun x => Lit.int .u64 x)).Perm (es.map Prod.fst) := by
    refine (List.perm_ext_iff_of_nodup ?_ ?_).2 fun k => ?_
    · exact List.pairwise_map.2 (h.1.imp fun hne e => hne (by injection e))
    · exact List.pairwise_map.2 hpw
    · rw [List.mem_map, List.mem_map]
      constructor
      · rintro ⟨x, hx, rfl⟩
        have := ((h.2 x).1 hx).1
        rw [has_eq, List.any_eq_true] at this
        obtain ⟨p, hp, hs⟩ := this
        obtain ⟨v, hv⟩ := hko p hp
        obtain ⟨y, _, hy, _⟩ := Maps.keyOf_int_inv Try.underlying26 hv
        refine ⟨p, hp, ?_⟩
        rw [hy] at hs ⊢
        simp [Lit.sameKey] at hs
        rw [hs]
      · rintro ⟨p, hp, rfl⟩
        obtain ⟨v, hv⟩ := hko p hp
        obtain ⟨y, _, hy, _⟩ := Maps.keyOf_int_inv Try.underlying26 hv
        refine ⟨y, (h.2 y).2 ⟨?_, hl _⟩, hy.symm⟩
        rw [has_eq, List.any_eq_true]
        exact ⟨p, hp, by rw [hy]; simp [Lit.sameKey]⟩
  have := hp.length_eq
  simpa [Maps.size_eq] using this

theorem info26 : (Try.prog.info? 26).map (fun i => (i.zero, i.size, i.bytes)) = some (some (.int .u64 0), 1, 8) := by kernel_rfl
theorem nonces_any (L M : Nat) (most : Int) (cnt : Nat) (D : DataW Unit) (w : World) (hL : IsL w L M most cnt D) (h12 : Maps.size D ≤ 12) :
    Calls Try.prog 25 #[.pointer (some ⟨L, 0, none⟩)] w fun r w' => (∃ p c, r = .returned (.slice p (Maps.size D) c)) ∧ Below w.heap.size w w' := by
  obtain ⟨i0, hi, hz0, hz1, hz2⟩ := info_parts info26
  have hML := hL.2.lt
  have hown := hL.2
  have c1 := cell_of_row w L 1 _ _ _ hL.1
  simp at c1
  go_enter Try.func25, Try.ntmps25
  go_wp2_with (first
    | (at_range; refine wpList_range_own _ rfl _ 88 rfl 26 33 K26 Try.underlying88 R M cnt D rfl hown ?_; intro w0 hrg0 hg0 hs0)
    | go_in)
  go_frame
  go_loopw [3] (fun v wr => ∃ (left : Lit → Bool) (c : Nat) (ss : List Int), wr.ranges Try.prog 26 R M w.heap.size cnt D left c ∧ wr.ownsRow w.heap.size 26 1 v ss.length (ss.map (Value.int .u64)) ∧ Met D left ss ∧ ss.length + c ≤ 12 ∧ Below w.heap.size w wr)
    (fun _ wr => wr.rangeLeft M w.heap.size)
  case atStart =>
    exact ⟨_, _, [], hrg0, World.ownsRow_nil _ _ _ _, Met.start D, by simpa using h12, (Below.refl _ _).grown hg0 (Nat.le_refl _) (fun j hj => by cases hj)⟩
  case round =>
    obtain ⟨left, c, ss, hrg, hrow, hC, hcs, hnx⟩ := hrel
    go_wp2_with (first
      | (at_next; refine wpList_next_ranges _ rfl _ rfl 26 K26 R (Value.int .u64) (fun v : Value => v) (fun key kl hk => by obtain ⟨x, hx, _⟩ := Maps.keyOf_int_inv Try.underlying26 hk; exact ⟨x, hx⟩) (fun v y _ => ⟨v, rfl⟩) M w.heap.size cnt D left c rfl hrg ?_ ?_)
      | go_in)
    · intro hc0 hl0
      have hlen := hC.len hrg.owns hl0
      rcases hrow.2 with ⟨rfl, hn0⟩ | ⟨g, cap, cur, rfl, hbase, hb, h1, h2, h3, h4⟩
      · go_wp2_with (go_at_call 46; refine (sort64_nil _).mono ?_; rintro e w' ⟨rfl, rfl⟩)
        go_ret
        have h0 : Maps.size D = 0 := by omega
        exact ⟨⟨none, 0, by rw [h0]; rfl⟩, hnx⟩
      · have hN : Nums wr g 0 ss.length := ⟨cur, hb, fun i hi => by
          obtain ⟨x, hx⟩ : ∃ x, ss[i]? = some x := ⟨ss[i], List.getElem?_eq_getElem hi⟩
          refine ⟨x, ?_⟩
          have h5 : (cur.toList.take (ss.length * 1))[i]? = some (.int .u64 x) := by rw [h4, List.getElem?_map, hx]; rfl
          rw [List.getElem?_take_of_lt (by omega)] at h5
          rw [Nat.zero_add, ← Array.getElem?_toList]
          exact h5⟩
        have HS := Lib.hid (sort64 g 0 ss.length cap wr hN (by omega))
        have HX := Lib.hid hnx
        have HLN := Lib.hid hlen
        clear hN hnx hlen h4 hb hrow hC hl0 hown
        go_wp2_with (go_at_call 46; refine HS.out.mono ?_; rintro e w' ⟨rfl, hn', hb'⟩)
        go_ret
        exact ⟨⟨some ⟨g, 0, none⟩, cap, by rw [← HLN.out]; rfl⟩, HX.out.trans (hb'.mono hbase)⟩
    · intro x e kl yd yp w2 cnt2 hkey hlk hv hat hrg2 hlt hg2 hs2 hen
      obtain ⟨x', ex, rfl, _⟩ := Maps.keyOf_int_inv Try.underlying26 hkey
      obtain rfl : x = x' := by injection ex
      have hrow2 := hrow.kept hg2 (Or.inr (row_ne_iter hrow hrg).symm)
      clear hs2
      go_wp2_with (first
        | (at_builtin; refine wpList_append_own _ rfl _ _ 57 rfl w.heap.size 26 i0 (.int .u64 0) 1 8 Try.underlying57 hi hz0 hz1 hz2 rfl (by decide) _ _ _ rfl (hrow2.alloc _) ⟨w2.heap.size, 0, none⟩ 1 1 [.int .u64 x] rfl rfl (cell_one_new _ _ _) (by simp [Value.oneCell']) (by unfold maxLen; omega) (by omega) (by have := hnx.size; have := hg2.size; simp; omega) ?_; intro v' w3 hown' hg3 hnil3; go_frame)
        | go_in)
      have hrg3 := (hrg2.alloc _).kept hg3 (row_ne_low hrow2 hML) (row_ne_iter hrow2 hrg2)
      go_roundw
      case rel =>
        refine ⟨_, cnt2, ss ++ [x], hrg3, by simpa using hown', hC.step hlk hat, by simp; omega, ?_⟩
        exact ((hnx.grown hg2 hnx.size (fun j hj => by cases hj; exact Nat.le_refl _)).alloc (by have := hnx.size; have := hg2.size; omega) _).grown hg3 (by have := hnx.size; have := hg2.size; simp; omega) (fun j hj => (hrow2.lt j hj).1)
      case measure => rw [hrg3.left_eq, hrg.left_eq]; exact hlt
end Go.Proofs.Yticegnbdpihdpaa
