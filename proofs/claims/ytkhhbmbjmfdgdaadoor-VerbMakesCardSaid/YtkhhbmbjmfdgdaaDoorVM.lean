/- Verb: slices of rows; a part of lists. -/
import Derived.Test.YtkhhbmbjmfdgdaaDoorVK
namespace Go.Proofs.YtkhhbmbjmfdgdaaDoor
open Go.RowKit
set_option maxRecDepth 20000

theorem add_zero' (ad : Option Addr) (b o : Nat) (h : ad = some ⟨b, o, none⟩) (k : Nat) : ad.map (·.add k) = some ⟨b, o + k, none⟩ := by
  subst h
  simp [add_plain]

/-- s[:i]. -/
theorem sl_to {t e : Nat} {z : Value} {bytes : Nat} (ht : Tryd.prog.underlying t = some (.slice e)) (hel : Tryd.prog.elem t = e) (hin : (Tryd.prog.info? e).map (fun i => (i.zero, i.size, i.bytes)) = some (some z, 1, bytes)) (A : Option Addr) (n c i : Nat) (hi : i ≤ n) (hc : n ≤ c) :
    ∃ A' c', (∀ W, (Instr.slice t (.slice A n c) Option.none (some (.int .i64 (i : Int))) Option.none).run Tryd.prog W = .ok (.slice A' i c') W) ∧ (∀ (w : World) (B : Nat) (xs : List Value), xs.length = n → Rd w B A xs → Rd w B A' (xs.take i)) ∧ i ≤ c' := by
  obtain ⟨i0, hi0, _, hz1, _⟩ := info_parts hin
  refine ⟨if c = 0 then A else A.map (·.add 0), c, fun W => ?_, fun w B xs hx hr => ?_, by omega⟩
  · rw [run_slice_h W t A n c (by rw [hel]; exact ht) .i64 (i : Int) (by omega) (by omega), hel]
    simp [sizeOf, typeInfo, hi0, hz1, sliced]
  · intro hlen
    have h0 : 0 < xs.length := by simp at hlen; omega
    obtain ⟨b, o, hA, hb, hcell⟩ := hr h0
    rw [if_neg (by omega), add_zero' A b o hA 0]
    refine ⟨b, o, rfl, hb, fun j u hj => hcell j u ?_⟩
    rw [List.getElem?_take] at hj
    split at hj
    · exact hj
    · cases hj

/-- s[i:]. -/
theorem sl_from {t e : Nat} {z : Value} {bytes : Nat} (ht : Tryd.prog.underlying t = some (.slice e)) (hel : Tryd.prog.elem t = e) (hin : (Tryd.prog.info? e).map (fun i => (i.zero, i.size, i.bytes)) = some (some z, 1, bytes)) (A : Option Addr) (n c i m : Nat) (hi : i ≤ n) (hc : n ≤ c) (hm : m = n - i) :
    ∃ A' c', (∀ W, (Instr.slice t (.slice A n c) (some (.int .i64 (i : Int))) Option.none Option.none).run Tryd.prog W = .ok (.slice A' m c') W) ∧ (∀ (w : World) (B : Nat) (xs : List Value), xs.length = n → Rd w B A xs → Rd w B A' (xs.drop i)) ∧ m ≤ c' := by
  subst hm
  obtain ⟨i0, hi0, _, hz1, _⟩ := info_parts hin
  refine ⟨if c = i then A else A.map (·.add i), c - i, fun W => ?_, fun w B xs hx hr => ?_, by omega⟩
  · rw [run_slice_l W t A n c (by rw [hel]; exact ht) .i64 (i : Int) (by omega) (by omega), hel]
    simp [sizeOf, typeInfo, hi0, hz1, sliced]
  · intro hlen
    simp at hlen
    obtain ⟨b, o, hA, hb, hcell⟩ := hr (by omega)
    rw [if_neg (by omega), add_zero' A b o hA i]
    refine ⟨b, o + i, rfl, hb, fun j u hj => ?_⟩
    rw [List.getElem?_drop] at hj
    have := hcell (i + j) u hj
    rw [← this]
    congr 2
    omega

theorem Lss.take {w : World} {B : Nat} : ∀ {vs : List Value} {us : List (List Nat)} (k : Nat), Lss w B vs us → Lss w B (vs.take k) (us.take k)
  | [], [], k, _ => by simp [Lss]
  | v :: vs, u :: us, 0, _ => by simp [Lss]
  | v :: vs, u :: us, k + 1, ⟨h1, h2⟩ => by
    rw [List.take_succ_cons, List.take_succ_cons]
    exact ⟨h1, Lss.take k h2⟩
theorem Lss.drop {w : World} {B : Nat} : ∀ {vs : List Value} {us : List (List Nat)} (k : Nat), Lss w B vs us → Lss w B (vs.drop k) (us.drop k)
  | [], [], k, _ => by simp [Lss]
  | v :: vs, u :: us, 0, h => h
  | v :: vs, u :: us, k + 1, ⟨_, h2⟩ => by
    rw [List.drop_succ_cons, List.drop_succ_cons]
    exact Lss.drop k h2

section
variable {w5 w8 : World} {k : Int} {aN aS aL : Option Addr} {cN cS cL : Nat} {vs : List Value} {N : List Nat} {S : List ByteArray} {L : List (List Nat)}
theorem mk_last (hb : Below w5.heap.size w5 w8) (hf : Fo w8 w5.heap.size aN aS aL cN cS cL vs N S L) :
    Hid (Below w5.heap.size w5 (w8.alloc (.cells #[.int .i64 k, .slice aN N.length cN, .slice aS S.length cS, .slice aL L.length cL] 48)) ∧ w5.heap.size ≤ w8.heap.size ∧ (w8.alloc (.cells #[.int .i64 k, .slice aN N.length cN, .slice aS S.length cS, .slice aL L.length cL] 48)).heap[w8.heap.size]? = some (.cells #[.int .i64 k, .slice aN N.length cN, .slice aS S.length cS, .slice aL L.length cL] 48 (0, 0)) ∧
      Fo (w8.alloc (.cells #[.int .i64 k, .slice aN N.length cN, .slice aS S.length cS, .slice aL L.length cL] 48)) w5.heap.size aN aS aL cN cS cL vs N S L) :=
  ⟨hb.alloc hb.size _, hb.size, heap_alloc_new w8 _, hf.after ((Below.refl _ _).alloc (Nat.le_refl _) _)⟩
theorem mk_set {Y : Nat} {z0 z1 z2 z3 : Value} (hb : Below w5.heap.size w5 w8) (hY : w5.heap.size ≤ Y) (hp : w8.heap[Y]? = some (.cells #[z0, z1, z2, z3] 48 (0, 0))) (hf : Fo w8 w5.heap.size aN aS aL cN cS cL vs N S L) :
    Hid (Below w5.heap.size w5 ((((w8.setCell ⟨Y, 0, none⟩ (.int .i64 k)).setCell ⟨Y, 1, none⟩ (.slice aN N.length cN)).setCell ⟨Y, 2, none⟩ (.slice aS S.length cS)).setCell ⟨Y, 3, none⟩ (.slice aL L.length cL)) ∧ w5.heap.size ≤ Y ∧
      ((((w8.setCell ⟨Y, 0, none⟩ (.int .i64 k)).setCell ⟨Y, 1, none⟩ (.slice aN N.length cN)).setCell ⟨Y, 2, none⟩ (.slice aS S.length cS)).setCell ⟨Y, 3, none⟩ (.slice aL L.length cL)).heap[Y]? = some (.cells #[.int .i64 k, .slice aN N.length cN, .slice aS S.length cS, .slice aL L.length cL] 48 (0, 0)) ∧
      Fo ((((w8.setCell ⟨Y, 0, none⟩ (.int .i64 k)).setCell ⟨Y, 1, none⟩ (.slice aN N.length cN)).setCell ⟨Y, 2, none⟩ (.slice aS S.length cS)).setCell ⟨Y, 3, none⟩ (.slice aL L.length cL)) w5.heap.size aN aS aL cN cS cL vs N S L) := by
  have s0 := heap_setCell_same w8 Y 0 _ 48 (.int .i64 k) hp
  have s1 := heap_setCell_same _ Y 1 _ 48 (.slice aN N.length cN) s0
  have s2 := heap_setCell_same _ Y 2 _ 48 (.slice aS S.length cS) s1
  have s3 := heap_setCell_same _ Y 3 _ 48 (.slice aL L.length cL) s2
  have kk := (((Kp.set hp 0 (.int .i64 k)).trans (Kp.set s0 1 (.slice aN N.length cN))).trans (Kp.set s1 2 (.slice aS S.length cS))).trans (Kp.set s2 3 (.slice aL L.length cL))
  exact ⟨(((hb.setCell hY _).setCell hY _).setCell hY _).setCell hY _, hY, s3, hf.kp kk (by decide) (by decide) (by decide) (by decide)⟩
end

/-- What lies at hi or behind it is as it was. -/
def Up (hi : Nat) (w w' : World) : Prop := w.heap.size ≤ w'.heap.size ∧ ∀ k, hi ≤ k → k < w.heap.size → w'.heap[k]? = w.heap[k]?
theorem Up.refl (hi : Nat) (w : World) : Up hi w w := ⟨Nat.le_refl _, fun _ _ _ => rfl⟩
theorem Up.set {hi : Nat} {w w' : World} (h : Up hi w w') {b i : Nat} {u : Value} (hb : b < hi) : Up hi w (w'.setCell ⟨b, i, none⟩ u) :=
  ⟨Nat.le_trans h.1 (grown_setCell w' b i u).size, fun k h1 h2 => ((grown_setCell w' b i u).block k (Nat.lt_of_lt_of_le h2 h.1) (fun e => by injection e with e; omega)).trans (h.2 k h1 h2)⟩
theorem Up.own {hi : Nat} {w w' : World} (k : Up hi w w') {base size n : Nat} {e : TypeId} {v : Value} {xs : List Value} (h : w.ownsRow base e size v n xs) (hb : hi ≤ base) : w'.ownsRow base e size v n xs := by
  refine ⟨h.1, ?_⟩
  rcases h.2 with hn | ⟨g, cap, cur, hv, hb0, hg, r⟩
  · exact .inl hn
  · exact .inr ⟨g, cap, cur, hv, hb0, (k.2 g (by omega) (lt_of_block hg)).trans hg, r⟩
theorem Up.lq {hi : Nat} {w w' : World} (k : Up hi w w') {B : Nat} (hb : hi ≤ B) : ∀ {vs : List Value} {us : List (List Nat)}, Lq w B vs us → Lq w' B vs us
  | [], [], _ => trivial
  | _ :: _, _ :: _, ⟨⟨h1, h3⟩, h2⟩ => ⟨⟨k.own h1 hb, h3⟩, Up.lq k hb h2⟩
theorem Up.fo {hi : Nat} {w w' : World} (k : Up hi w w') {B : Nat} (hb : hi ≤ B) {aN aS aL : Option Addr} {cN cS cL : Nat} {vs : List Value} {N : List Nat} {S : List ByteArray} {L : List (List Nat)} (h : Fo w B aN aS aL cN cS cL vs N S L) : Fo w' B aN aS aL cN cS cL vs N S L :=
  ⟨k.own h.oN hb, k.own h.oS hb, k.own h.oL hb, k.lq hb h.ls, h.bN⟩

/-- A row of whatever numbers lies in block g. -/
def Ints (w : World) (g n : Nat) : Prop := ∃ cs, w.heap[g]? = some (.cells cs 67 (0, 0)) ∧ ∀ j, j < n → ∃ z : Int, cs[j]? = some (.int .u32 z)
/-- Lists of whatever numbers, their blocks in a range. -/
def Wk (w : World) (lo hi : Nat) : List Value → List (List Nat) → Prop
  | [], [] => True
  | v :: vs, u :: us => (∃ a c, v = .slice a u.length c ∧ (0 < u.length → ∃ g, a = some ⟨g, 0, none⟩ ∧ lo ≤ g ∧ g < hi ∧ Ints w g u.length)) ∧ Wk w lo hi vs us
  | _, _ => False
theorem Ints.kept {w w' : World} {g n : Nat} (h : Ints w g n) (k : ∀ cs, w.heap[g]? = some (.cells cs 67 (0, 0)) → w'.heap[g]? = some (.cells cs 67 (0, 0))) : Ints w' g n := by
  obtain ⟨cs, h1, h2⟩ := h
  exact ⟨cs, k cs h1, h2⟩
theorem Ints.set {w : World} {g n b i : Nat} {z : Int} (h : Ints w g n) : Ints (w.setCell ⟨b, i, none⟩ (.int .u32 z)) g n := by
  obtain ⟨cs, h1, h2⟩ := h
  by_cases hb : b = g
  · subst hb
    refine ⟨_, heap_setCell_same w b i cs 67 (.int .u32 z) h1, fun j hj => ?_⟩
    by_cases hij : i = j
    · subst hij
      obtain ⟨z0, h3⟩ := h2 i hj
      have := (Array.getElem?_eq_some_iff.1 h3).1
      exact ⟨z, by rw [Array.getElem?_setIfInBounds_self, if_pos this]⟩
    · rw [Array.getElem?_setIfInBounds_ne hij]
      exact h2 j hj
  · exact ⟨cs, block_far h1 hb, h2⟩
theorem Wk.map {w w' : World} {lo hi : Nat} (k : ∀ g n, Ints w g n → Ints w' g n) : ∀ {vs : List Value} {us : List (List Nat)}, Wk w lo hi vs us → Wk w' lo hi vs us
  | [], [], _ => trivial
  | _ :: _, _ :: _, ⟨⟨a, c, h1, h2⟩, h3⟩ => ⟨⟨a, c, h1, fun h => by obtain ⟨g, e1, e2, e3, e4⟩ := h2 h; exact ⟨g, e1, e2, e3, k g _ e4⟩⟩, Wk.map k h3⟩
theorem Wk.get {w : World} {lo hi : Nat} : ∀ {vs : List Value} {us : List (List Nat)} (k : Nat) (hk : k < us.length), Wk w lo hi vs us → ∃ a c, vs[k]? = some (.slice a us[k].length c) ∧ (0 < us[k].length → ∃ g, a = some ⟨g, 0, none⟩ ∧ lo ≤ g ∧ g < hi ∧ Ints w g us[k].length)
  | [], _ :: _, _, _, h => h.elim
  | _, [], _, hk, _ => absurd hk (by simp)
  | v :: vs, u :: us, 0, _, ⟨⟨a, c, hv, hr⟩, _⟩ => ⟨a, c, by rw [hv]; rfl, hr⟩
  | v :: vs, u :: us, k + 1, hk, ⟨_, h⟩ => by
    obtain ⟨a, c, h1, h2⟩ := Wk.get k (by simpa using hk) h
    exact ⟨a, c, by simpa using h1, h2⟩
theorem Wk.of_q {w : World} {B : Nat} : ∀ {vs : List Value} {us : List (List Nat)}, Lq w B vs us → Wk w B w.heap.size vs us
  | [], [], _ => trivial
  | v :: vs, u :: us, ⟨⟨h1, _⟩, h2⟩ => by
    refine ⟨?_, Wk.of_q h2⟩
    rcases h1.2 with ⟨e1, e2⟩ | ⟨g, cap, cur, hv, hg, hh, _, _, hcs, htake⟩
    · have : u = [] := by cases u with
        | nil => rfl
        | cons _ _ => simp at e2
      subst this
      exact ⟨none, 0, e1, fun h => absurd h (by simp)⟩
    · refine ⟨_, cap, hv, fun _ => ⟨g, rfl, hg, lt_of_block hh, cur, hh, fun j hj => ?_⟩⟩
      have h5 : (uv .u32 u)[j]? = some (.int .u32 ((u[j] : Nat) : Int)) := by simp [uv, hj]
      rw [← htake, List.getElem?_take] at h5
      split at h5
      · exact ⟨_, by simpa using h5⟩
      · cases h5
end Go.Proofs.YtkhhbmbjmfdgdaaDoor
