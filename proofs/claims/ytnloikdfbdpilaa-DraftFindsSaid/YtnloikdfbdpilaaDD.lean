/- Draft: Clone; the first match, plain. -/
import Derived.Test.YtnloikdfbdpilaaDC
import Derived.Lib.SliceRun
namespace Go.Proofs.Ytnloikdfbdpilaa
open Go.RowKit
set_option maxRecDepth 20000

theorem run_append_ens (w : World) (base ty c : Nat) (v : Value) (xs l : List En) (ad : Addr)
    (hown : w.ownsRow base 80 4 v xs.length (er xs)) (hy : Es w w.heap.size (some ad) l) (hlen : xs.length + l.length ≤ 100000) (hbase : base ≤ w.heap.size) :
    ∃ v' w', (Builtin.append_ #[64, 64] ty #[v, .slice (some ad) l.length c]).run Try.prog w = .ok v' w' ∧ w'.ownsRow base 80 4 v' (xs ++ l).length (er (xs ++ l)) ∧ w.grownBy w' v.ownBlock := by
  obtain ⟨i, hi, hz0, hz1, hz2⟩ := info_parts info80
  obtain ⟨v', w', hrun, h2, h3, _⟩ := run_append_own (P := Try.prog) w base 64 ty 80 i _ 4 32 Try.underlying64 hi hz0 hz1 hz2 rfl (by decide) v xs.length (er xs) hown ad l.length c (er l) (er_len l) hy.cells (er_one l) (by unfold maxLen; omega) (by omega) hbase
  exact ⟨v', w', hrun, by simpa [er_append] using h2, h3⟩
theorem wpList_append_ens {w : World} {ops : Array Oper} {rest : List Oper} {op : Oper} {a : Act} {Q : Exit → Act → World → Prop} (hgd : op.guard = none) (s x : Operand)
    (ho : op.op = .call { callee := .builtin .append, args := #[s, x], argTypes := #[64, 64] }) (base c n : Nat) (v : Value) (xs l : List En) (ad : Addr) (hs : a.eval s = v) (hx : a.eval x = .slice (some ad) n c) (hn : n = l.length)
    (hown : w.ownsRow base 80 4 v xs.length (er xs)) (hy : Es w w.heap.size (some ad) l) (hlen : xs.length + l.length ≤ 100000) (hbase : base ≤ w.heap.size)
    (h : ∀ v' w', w'.ownsRow base 80 4 v' (xs ++ l).length (er (xs ++ l)) → w.grownBy w' v.ownBlock → wpList Try.prog ops Q rest (a.put op.dst v') w') : wpList Try.prog ops Q (op :: rest) a w := by
  refine wpList_plain hgd fun K hK => ?_
  obtain ⟨v', w', hr, h2, h3⟩ := run_append_ens w base op.type c v xs l ad hown hy hlen hbase
  unfold Oper.wp execOp
  simp only [ho, resolve, invoke, builtin, Sem.run_bind, Sem.run_pure, Result.andThen_ok, List.map_toArray, List.map_cons, List.map_nil, hs, hx, hn, hr]
  exact hK _ _ (h v' w' h2 h3)

set_option maxHeartbeats 2000000 in
theorem clone_any (A : Option Addr) (n c : Nat) (l : List En) (w : World) (hn : n = l.length) (hM : Es w w.heap.size A l) (hl : n ≤ 1000) :
    Calls Try.prog 45 #[.slice A n c] w fun r w' => ∃ B c', r = .returned (.slice B n c') ∧ w'.ownsRow w.heap.size 80 4 (.slice B n c') n (er l) ∧ Below w.heap.size w w' := by
  rcases A with _ | ad
  · have hl0 : l = [] := by
      rcases l with _ | ⟨y, l⟩
      · rfl
      · obtain ⟨b, o, hA, _⟩ := hM (by simp)
        cases hA
    subst hl0
    subst hn
    have hq : ∀ W : World, (binOp .eql 64 (.slice none 0 c) (.slice none 0 0)).run Try.prog W = .ok (.bool true) W := fun W => Lib.run_eql_slice_nil W _ _ none 0 c 0 0 Try.underlying64
    go_enter Try.func45, Try.ntmps45
    go_wp2
    go_ret
    exact ⟨none, 0, rfl, World.ownsRow_nil _ _ 80 4, Below.refl _ _⟩
  · have hb0 : Below w.heap.size w (w.alloc (.cells #[] 80)) := (Below.refl _ _).alloc (Nat.le_refl _) _
    have hM0 : Es (w.alloc (.cells #[] 80)) (w.alloc (.cells #[] 80)).heap.size (some ad) l := (hM.below hb0).mono (by simp)
    have hown : (w.alloc (.cells #[] 80)).ownsRow w.heap.size 80 4 (.slice (some ⟨w.heap.size, 0, none⟩) 0 0) ([] : List En).length (er []) :=
      ⟨rfl, .inr ⟨w.heap.size, 0, #[], rfl, Nat.le_refl _, heap_alloc_new w _, Nat.le_refl _, Nat.zero_le _, rfl, rfl⟩⟩
    have hs0 : w.heap.size ≤ (w.alloc (.cells #[] 80)).heap.size := by simp
    have HN := Lib.hid hn
    have hl0 : 0 + l.length ≤ 100000 := by omega
    clear hn
    have hq : ∀ (W : World) (n c : Nat), (binOp .eql 64 (.slice (some ad) n c) (.slice none 0 0)).run Try.prog W = .ok (.bool false) W := fun W n c => Lib.run_eql_slice_nil W _ _ (some ad) n c 0 0 Try.underlying64
    go_enter Try.func45, Try.ntmps45
    go_wp2_with (at_builtin; refine wpList_append_ens rfl (.tmp 5) (.tmp 6) rfl w.heap.size c n (.slice (some ⟨w.heap.size, 0, none⟩) 0 0) [] l ad rfl rfl HN.out hown hM0 hl0 hs0 ?_; intro v2 w2 hown2 hg2; rw [List.nil_append, ← HN.out] at hown2; obtain ⟨B2, c2, rfl⟩ := own_form hown2)
    go_ret
    exact ⟨B2, c2, rfl, hown2, hb0.grown hg2 hs0 (fun g hg => by have h : w.heap.size = g := Option.some.inj hg; omega)⟩

instance (a b : En) : Decidable (Nr a b) := inferInstanceAs (Decidable (_ ≤ _))
instance (l : List En) : Decidable (Fit l) := inferInstanceAs (Decidable (List.Pairwise Nr l))
/-- The first match of those that are taken and some of the rest. -/
def mP (k : Int) : List En → List En → Option (List Int × List Int)
  | [], taken => if 2 * k - sumN taken = 0 then partP k taken else none
  | e :: rest, taken =>
    if 2 * k - sumN taken = 0 then partP k taken
    else if e.n < 1 ∨ 2 * k - sumN taken < e.n ∨ ¬ Fit (taken ++ [e]) then mP k rest taken
    else match mP k rest (taken ++ [e]) with
      | some s => some s
      | none => mP k rest taken
theorem mP_full {k : Int} {rest taken : List En} (h : 2 * k - sumN taken = 0) : mP k rest taken = partP k taken := by
  cases rest with
  | nil => unfold mP; rw [if_pos h]
  | cons e rest => unfold mP; rw [if_pos h]
theorem mP_nil {k : Int} {taken : List En} (h : ¬ 2 * k - sumN taken = 0) : mP k [] taken = none := by unfold mP; rw [if_neg h]
theorem mP_skip {k : Int} {e : En} {rest taken : List En} (h : ¬ 2 * k - sumN taken = 0) (hb : e.n < 1 ∨ 2 * k - sumN taken < e.n ∨ ¬ Fit (taken ++ [e])) : mP k (e :: rest) taken = mP k rest taken := by
  rw [mP, if_neg h, if_pos hb]
theorem mP_none {k : Int} {e : En} {rest taken : List En} (h : ¬ 2 * k - sumN taken = 0) (hb : ¬ (e.n < 1 ∨ 2 * k - sumN taken < e.n ∨ ¬ Fit (taken ++ [e]))) (hm : mP k rest (taken ++ [e]) = none) : mP k (e :: rest) taken = mP k rest taken := by
  rw [mP, if_neg h, if_neg hb, hm]
theorem mP_some {k : Int} {e : En} {rest taken : List En} {s : List Int × List Int} (h : ¬ 2 * k - sumN taken = 0) (hb : ¬ (e.n < 1 ∨ 2 * k - sumN taken < e.n ∨ ¬ Fit (taken ++ [e]))) (hm : mP k rest (taken ++ [e]) = some s) : mP k (e :: rest) taken = some s := by
  rw [mP, if_neg h, if_neg hb, hm]
theorem own_cap {w : World} {base T s m c : Nat} {A : Option Addr} {xs : List Value} (h : w.ownsRow base T s (.slice A m c) m xs) : m ≤ c := by
  rcases h.2 with ⟨e, e2⟩ | ⟨g, cap, cur, e, _, _, h4, _⟩
  · omega
  · injection e with e1 e2 e3
    omega
theorem Spl.set {w : World} {lo g i : Nat} {v u : Value} {o : Option (List Int × List Int)} (h : Spl w lo v o) (hg : g < lo) : Spl (w.setCell ⟨g, i, none⟩ u) lo v o := by
  obtain ⟨A1, c1, A2, c2, rfl, h1, h2, h3, h4⟩ := h
  have hz : ∀ (A : Option Addr) (l : List Int), Zs w w.heap.size A l → (∀ a, A = some a → lo ≤ a.block) → Zs (w.setCell ⟨g, i, none⟩ u) (w.setCell ⟨g, i, none⟩ u).heap.size A l := fun A l hz ha hl => by
    obtain ⟨b, o, rfl, hb, hc⟩ := hz hl
    have h5 := ha _ rfl
    refine ⟨b, o, rfl, by simpa using hb, fun j x hj => ?_⟩
    rw [World.cell?_of_block (Below.heap_setCell _ _ _ _ (by show b ≠ g; have : lo ≤ b := h5; omega))]
    exact hc j x hj
  exact ⟨A1, c1, A2, c2, rfl, hz A1 _ h1 h3, hz A2 _ h2 h4, h3, h4⟩
theorem Spl.later {w W : World} {lo : Nat} {v : Value} {o : Option (List Int × List Int)} (h : Spl w lo v o) (hb : Below w.heap.size w W) : Spl W lo v o := by
  obtain ⟨A1, c1, A2, c2, rfl, h1, h2, h3, h4⟩ := h
  exact ⟨A1, c1, A2, c2, rfl, h1.later hb (Nat.le_refl _), h2.later hb (Nat.le_refl _), h3, h4⟩
theorem Spl.lo {w : World} {lo lo' : Nat} {v : Value} {o : Option (List Int × List Int)} (h : Spl w lo v o) (hl : lo' ≤ lo) : Spl w lo' v o := by
  obtain ⟨A1, c1, A2, c2, rfl, h1, h2, h3, h4⟩ := h
  exact ⟨A1, c1, A2, c2, rfl, h1, h2, fun a e => Nat.le_trans hl (h3 a e), fun a e => Nat.le_trans hl (h4 a e)⟩
end Go.Proofs.Ytnloikdfbdpilaa
