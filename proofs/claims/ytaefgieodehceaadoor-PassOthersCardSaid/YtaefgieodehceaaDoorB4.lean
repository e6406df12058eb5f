/- The field of a letter read: a contract for the gatherer's gather. -/
import Derived.Test.YtaefgieodehceaaDoorB3
import Derived.Deep.RegionHeld3
import Derived.Deep.RegionLaw
import Derived.Deep.AppendLies
namespace Go.Proofs.YtaefgieodehceaaDoor
set_option maxRecDepth 4000
open Go.RowKit

/-- What a gatherer has: its reader, and the fields that it has read. -/
structure Gs where
  r : Rs
  N : List Nat
  S : List ByteArray
  L : List (List Nat)

def gath (s : Gs) (c : UInt8) : Gs :=
  if c.toNat = 115 then { s with r := (textP s.r).2, S := s.S ++ [⟨(textP s.r).1.toArray⟩] }
  else if c.toNat = 108 then { s with r := (listP s.r).2, L := s.L ++ [(listP s.r).1] }
  else { s with r := (numP s.r (wid c)).2, N := s.N ++ [(numP s.r (wid c)).1] }

/-- The row that may be written holds elements of type t. -/
def RowT (w : World) (row : Option Nat) (t : TypeId) : Prop := ∀ g, row = some g → ∃ cs fr, w.heap[g]? = some (.cells cs t fr)

theorem rowT_own {w : World} {base e size n : Nat} {v : Value} {xs : List Value} (h : w.ownsRow base e size v n xs) : RowT w v.ownBlock e := by
  intro g hg
  obtain ⟨_, ⟨rfl, _⟩ | ⟨g', cap, cur, rfl, _, hh, _⟩⟩ := h
  · simp [Value.ownBlock] at hg
  · simp [Value.ownBlock] at hg
    subst hg
    exact ⟨_, _, hh⟩

theorem rowT_block {w : World} {G t : Nat} {cs : Array Value} {fr : Nat × Nat} (h : w.heap[G]? = some (.cells cs t fr)) : RowT w (some G) t := by
  intro g hg
  injection hg with hg
  subst hg
  exact ⟨_, _, h⟩

theorem block_kept {w w' : World} {row : Option Nat} {t T k : Nat} {cs : Array Value} {fr : Nat × Nat} (h : w.heap[k]? = some (.cells cs T fr)) (hg : w.grownBy w' row) (ht : RowT w row t) (hne : T ≠ t) : w'.heap[k]? = some (.cells cs T fr) := by
  refine (hg.block k (lt_of_block h) (fun e => ?_)).trans h
  obtain ⟨cs', fr', h'⟩ := ht k e.symm
  rw [h] at h'
  injection h' with h'
  injection h' with _ h'
  exact hne h'

theorem own_kept {w w' : World} {row : Option Nat} {base e size n t : Nat} {v : Value} {xs : List Value} (h : w.ownsRow base e size v n xs) (hg : w.grownBy w' row) (ht : RowT w row t) (hne : e ≠ t) : w'.ownsRow base e size v n xs := by
  obtain ⟨h1, h2 | ⟨g, cap, cur, hv, hb, hh, r⟩⟩ := h
  · exact ⟨h1, .inl h2⟩
  · exact ⟨h1, .inr ⟨g, cap, cur, hv, hb, block_kept hh hg ht hne, r⟩⟩

/-- The values are the call's own lists. -/
def Lown (w : World) (B1 : Nat) : List Value → List (List Nat) → Prop
  | [], [] => True
  | v :: vs, u :: us => (∃ g, v = .slice (some ⟨g, 0, none⟩) u.length u.length ∧ B1 ≤ g ∧ Row32 w g u ∧ (∀ n ∈ u, n < 4294967296)) ∧ Lown w B1 vs us
  | _, _ => False

theorem Lown.snoc {w : World} {B1 : Nat} {v : Value} {u : List Nat} (hv : ∃ g, v = .slice (some ⟨g, 0, none⟩) u.length u.length ∧ B1 ≤ g ∧ Row32 w g u ∧ (∀ n ∈ u, n < 4294967296)) : ∀ {vs : List Value} {us : List (List Nat)}, Lown w B1 vs us → Lown w B1 (vs ++ [v]) (us ++ [u])
  | [], [], _ => ⟨hv, trivial⟩
  | _ :: _, _ :: _, ⟨h1, h2⟩ => ⟨h1, Lown.snoc hv h2⟩

theorem Lown.length {w : World} {B1 : Nat} : ∀ {vs : List Value} {us : List (List Nat)}, Lown w B1 vs us → vs.length = us.length
  | [], [], _ => rfl
  | _ :: _, _ :: _, ⟨_, h⟩ => by simp [h.length]

/-- All blocks of cells are as they were, but such as hold elements of these types. -/
def Kp (ts : List TypeId) (w w' : World) : Prop :=
  ∀ (k : Nat) (cs : Array Value) (T : TypeId) (fr : Nat × Nat), w.heap[k]? = some (Obj.cells cs T fr) → T ∉ ts → w'.heap[k]? = some (Obj.cells cs T fr)

theorem Kp.trans {ts us : List TypeId} {a b c : World} (h : Kp ts a b) (k : Kp us b c) : Kp (ts ++ us) a c := fun i cs T fr hi hT => k i cs T fr (h i cs T fr hi (fun hm => hT (List.mem_append_left _ hm))) (fun hm => hT (List.mem_append_right _ hm))
theorem Kp.drew (w : World) : Kp [] w w.drew := fun _ _ _ _ h _ => h
theorem Kp.grown {w w' : World} {row : Option Nat} {t : TypeId} (hg : w.grownBy w' row) (ht : RowT w row t) : Kp [t] w w' := fun _ _ _ _ h hT => block_kept h hg ht (fun e => hT (by rw [e]; simp))
theorem Kp.alloc (w : World) (o : Obj) : Kp [] w (w.alloc o) := fun k _ _ _ h _ => (Below.heap_alloc w o k (lt_of_block h)).trans h
theorem Kp.set {w : World} {G t : Nat} {cs : Array Value} {fr : Nat × Nat} (h : w.heap[G]? = some (.cells cs t fr)) (i : Nat) (u : Value) : Kp [t] w (w.setCell ⟨G, i, none⟩ u) := Kp.grown (grown_setCell w G i u) (rowT_block h)

theorem Kp.own {ts : List TypeId} {w w' : World} {base e size n : Nat} {v : Value} {xs : List Value} (k : Kp ts w w') (h : w.ownsRow base e size v n xs) (he : e ∉ ts) : w'.ownsRow base e size v n xs := by
  obtain ⟨h1, h2 | ⟨g, cap, cur, hv, hb, hh, r⟩⟩ := h
  · exact ⟨h1, .inl h2⟩
  · exact ⟨h1, .inr ⟨g, cap, cur, hv, hb, k _ _ _ _ hh he, r⟩⟩
theorem Kp.row {ts : List TypeId} {w w' : World} {g : Nat} {us : List Nat} (k : Kp ts w w') (h : Row32 w g us) (he : 23 ∉ ts) : Row32 w' g us := by
  obtain ⟨c, hh, hs, hc⟩ := h
  exact ⟨c, k _ _ _ _ hh he, hs, hc⟩
theorem Kp.lown {ts : List TypeId} {w w' : World} {B1 : Nat} (k : Kp ts w w') (he : 23 ∉ ts) : ∀ {vs : List Value} {us : List (List Nat)}, Lown w B1 vs us → Lown w' B1 vs us
  | [], [], _ => trivial
  | _ :: _, _ :: _, ⟨⟨g, hv, hb, hr, hn⟩, h⟩ => ⟨⟨g, hv, hb, k.row hr he, hn⟩, Kp.lown k he h⟩

/-- The block G is a gatherer's. -/
structure IsG (w : World) (B B1 G : Nat) (cs : Array Value) (vN vS vL : Value) (vs : List Value) (s : Gs) : Prop where
  rd : IsR w B G 110 cs s.r
  sz : cs.size = 5
  c2 : cs[2]? = some vN
  c3 : cs[3]? = some vS
  c4 : cs[4]? = some vL
  oN : w.ownsRow B1 24 1 vN s.N.length (uv .u64 s.N)
  oS : w.ownsRow B1 9 1 vS s.S.length (sv s.S)
  oL : w.ownsRow B1 103 1 vL s.L.length vs
  ls : Lown w B1 vs s.L
  bN : ∀ n ∈ s.N, n < 18446744073709551616
  hB : B ≤ B1
  hG : B1 ≤ G

theorem Tryd.info9 : (Tryd.prog.info? 9).map (fun i => (i.zero, i.size, i.bytes)) = some (some (.string ⟨#[]⟩), 1, 16) := by kernel_rfl
theorem Tryd.info24 : (Tryd.prog.info? 24).map (fun i => (i.zero, i.size, i.bytes)) = some (some (.int .u64 0), 1, 8) := by kernel_rfl
theorem Tryd.info103 : (Tryd.prog.info? 103).map (fun i => (i.zero, i.size, i.bytes)) = some (some (.slice none 0 0), 1, 24) := by kernel_rfl

def GathPost (w : World) (B B1 G : Nat) (s : Gs) (e : Ending) (w' : World) : Prop :=
  e = .returned (.tuple #[]) ∧ Below B1 w w' ∧ ∃ cs vN vS vL vs, IsG w' B B1 G cs vN vS vL vs s

theorem size_alloc' (w : World) (o : Obj) : (w.alloc o).heap.size = w.heap.size + 1 := by simp

/-- The field's new value stored: the gatherer stands as it should. -/
theorem gath_close {w w1 w2 : World} {B B1 G i : Nat} {cs cs1 : Array Value} {vN vS vL vN' vS' vL' u : Value} {vs vs' : List Value} {s s' : Gs} (h : IsG w B B1 G cs vN vS vL vs s)
    (hi1 : IsR w1 B G 110 cs1 s'.r) (hs1 : cs1.size = cs.size) (hi2 : 2 ≤ i) (pG : w2.heap[G]? = some (.cells cs1 110 (0, 0))) (hb : Below B w1 w2)
    (eN : (cs1.setIfInBounds i u)[2]? = some vN') (eS : (cs1.setIfInBounds i u)[3]? = some vS') (eL : (cs1.setIfInBounds i u)[4]? = some vL')
    (oN : w2.ownsRow B1 24 1 vN' s'.N.length (uv .u64 s'.N)) (oS : w2.ownsRow B1 9 1 vS' s'.S.length (sv s'.S)) (oL : w2.ownsRow B1 103 1 vL' s'.L.length vs')
    (ls : Lown w2 B1 vs' s'.L) (bN : ∀ n ∈ s'.N, n < 18446744073709551616) :
    ∃ cs vN vS vL vs, IsG (w2.setCell ⟨G, i, none⟩ u) B B1 G cs vN vS vL vs s' := by
  have k := Kp.set pG i u
  obtain ⟨v, h0, hbs⟩ := hi1.bs
  refine ⟨_, _, _, _, _, ⟨⟨heap_setCell_same w2 G i cs1 110 u pG, ⟨v, ?_, (hbs.below hb (Nat.le_refl _)).grown (grown_setCell w2 G i u) (fun k hk => by injection hk with hk; have := hi1.le; omega)⟩, ?_, hi1.le⟩, ?_, eN, eS, eL, k.own oN (by decide), k.own oS (by decide), k.own oL (by decide), k.lown (by decide) ls, bN, h.hB, h.hG⟩⟩
  · rw [Array.getElem?_setIfInBounds_ne (by omega)]
    exact h0
  · rw [Array.getElem?_setIfInBounds_ne (by omega)]
    exact hi1.sh
  · simp [hs1, h.sz]

theorem numP_lt (r : Rs) (m : Nat) (hm : m ≤ 8) : (numP r m).1 < 18446744073709551616 := by
  have h := num_lt (cutP r m).1
  have hl := cutP_len r m
  unfold numP
  have : 256 ^ (cutP r m).1.length ≤ 256 ^ 8 := Nat.pow_le_pow_right (by omega) (by omega)
  omega

set_option maxHeartbeats 4000000 in
theorem gath_text (B B1 G : Nat) (cs : Array Value) (vN vS vL : Value) (vs : List Value) (s : Gs) (c : UInt8) (w : World) (h : IsG w B B1 G cs vN vS vL vs s)
    (hmax : s.r.1.length ≤ 1099511627776) (hlen : s.S.length ≤ 1000) (hc : c.toNat = 115) :
    Calls Tryd.prog 51 #[.pointer (some ⟨G, 0, none⟩), .int .u8 (c.toNat : Int)] w (GathPost w B B1 G (gath s c)) := by
  have hb0 : ((c.toNat : Int) == 115) = true := by rw [beq_iff_eq]; omega
  obtain ⟨i0, hi, hz0, hz1, hz2⟩ := info_parts Tryd.info9
  have c3 := (cell_of_row w G 3 cs 110 (0, 0) h.rd.hp).trans h.c3
  have hlt := lt_of_block h.rd.hp
  have hG := h.hG
  have hB := h.hB
  have h1 := fun W cs (hi : IsR W B G 110 cs s.r) => text_any B G 110 cs s.r W hi hmax
  obtain ⟨x, hx⟩ : ∃ x, x = (textP s.r).1 := ⟨_, rfl⟩
  obtain ⟨r', hr'⟩ : ∃ r', r' = (textP s.r).2 := ⟨_, rfl⟩
  have hgs : gath s c = { s with r := r', S := s.S ++ [⟨x.toArray⟩] } := by rw [hx, hr']; unfold gath; rw [if_pos hc]
  rw [hgs]
  rw [← hx, ← hr'] at h1
  have H1 := Lib.hid h1
  have H := Lib.hid h
  clear h h1 hx hr' hgs hc
  have hvS := rowT_own H.out.oS
  obtain ⟨A, n, cp, rfl⟩ : ∃ A n cp, vS = .slice A n cp := by
    obtain ⟨A, cp, hv, _⟩ := own_rd H.out.oS
    exact ⟨A, _, cp, hv⟩
  have hm63 : s.S.length + 1 ≤ maxLen := by unfold maxLen; omega
  have hm47 : (s.S.length + 1) * 16 ≤ 140737488355328 := by omega
  have on1 : ∀ u ∈ [Value.string ⟨x.toArray⟩], u.oneCell' = true := by intro u hu; simp at hu; subst hu; rfl
  go_enter Tryd.func51, Tryd.ntmps51
  go_wp2_with fail
  have hrd : IsR w.drew B G 110 cs s.r := H.out.rd.keep rfl (Below.refl _ _).drew
  have cD : w.drew.cell? ⟨G, 3, none⟩ = some (.slice A n cp) := c3
  go_region_law (first
      | (have _g := oS1; clear _g; refine step_append_lies _ rfl (.tmp 29) (.tmp 34) 83 rfl B1 9 i0 (.string ⟨#[]⟩) 1 16 Tryd.underlying83 hi hz0 hz1 hz2 rfl Nat.one_pos (.slice A n cp) s.S.length (sv s.S) rfl (oS1.alloc _) ⟨w1.heap.size, 0, none⟩ 1 1 [.string ⟨x.toArray⟩] rfl rfl (World.news_of_block (cs := #[.string ⟨x.toArray⟩]) (t := 9) (fr := (0, 0)) (heap_alloc_new w1 _)) on1 Nat.one_pos hm63 hm47 hbs1 (w1.heap.size + 1) (size_alloc' _ _) ?_; intro gg cap w2 hown2 hg2 hat hlt2; have pG := block_kept (block_kept hi1.hp (World.grownBy_alloc w1 (.cells #[.string ⟨x.toArray⟩] 9) none) (fun _ h => by cases h) (t := 0) (by omega)) hg2 (rowT_own (oS1.alloc _)) (by omega); have cA : w2.cell? ⟨G, 3, none⟩ = some (.slice A n cp) := (cell_of_row w2 G 3 cs1 110 (0, 0) pG).trans ((hc1 3 (by omega)).trans H.out.c3); have fA := frozen_of_row w2 G 3 cs1 110 pG)
      | (go_simp; go_at_call 59; refine (H1.out w.drew cs hrd).mono ?_; rintro e w1 ⟨cs1, rfl, hi1, hc1, hs1, hg1⟩; have cT : w1.cell? ⟨G, 3, none⟩ = some (.slice A n cp) := ((cell_of_row w1 G 3 cs1 110 (0, 0) hi1.hp).trans ((hc1 3 (by omega)).trans H.out.c3)); have cT2 : (w1.alloc (.cells #[.string ⟨x.toArray⟩] 9)).cell? ⟨G, 3, none⟩ = some (.slice A n cp) := (World.cell?_alloc_lt w1 _ ⟨G, 3, none⟩ (lt_of_block hi1.hp)).trans cT; have oS1 := own_kept (w := w.drew) H.out.oS hg1 (rowT_block (w := w.drew) H.out.rd.hp) (by omega); have hbs1' : B1 ≤ w1.heap.size := (by have := hg1.size; simp at this ⊢; omega); have hbs1 : B1 ≤ (w1.alloc (.cells #[.string ⟨x.toArray⟩] 9)).heap.size := (by have := hg1.size; simp at this ⊢; omega))
      | fail)
  all_goals
    go_end0
    have k1 := (Kp.drew w).trans (Kp.grown hg1 (rowT_block (w := w.drew) H.out.rd.hp))
    have k2 := (k1.trans (Kp.alloc w1 (.cells #[.string ⟨x.toArray⟩] 9))).trans (Kp.grown hg2 (rowT_own (oS1.alloc _)))
    have hb2 : Below B1 w w2 := ((((Below.refl _ _).drew.grown hg1 (by simp; omega) (fun k hk => by injection hk with hk; omega)).alloc (by simpa using hbs1') _).grown hg2 hbs1 (fun k hk => (oS1.lt k hk).1))
    have hbB : Below B w1 w2 := ((Below.refl _ _).alloc (by omega) _).grown hg2 (by simp; omega) (fun k hk => by have := (oS1.lt k hk).1; omega)
    refine ⟨rfl, hb2.setCell (by simpa using hG) _, gath_close (i := 3) (vN' := vN) (vS' := .slice (some ⟨gg, 0, none⟩) (s.S.length + 1) cap) (vL' := vL) (vs' := vs) H.out hi1 hs1 (by omega) pG hbB ?_ ?_ ?_ (k2.own H.out.oN (by decide)) ?_ (k2.own H.out.oL (by decide)) (k2.lown (by decide) H.out.ls) H.out.bN⟩
    · rw [Array.getElem?_setIfInBounds_ne (by omega), hc1 2 (by omega)]
      exact H.out.c2
    · rw [Array.getElem?_setIfInBounds_self, if_pos (by rw [hs1, H.out.sz]; omega)]
    · rw [Array.getElem?_setIfInBounds_ne (by omega), hc1 4 (by omega)]
      exact H.out.c4
    · simpa [sv] using hown2

set_option maxHeartbeats 4000000 in
theorem gath_list (B B1 G : Nat) (cs : Array Value) (vN vS vL : Value) (vs : List Value) (s : Gs) (c : UInt8) (w : World) (h : IsG w B B1 G cs vN vS vL vs s)
    (hmax : s.r.1.length ≤ 1099511627776) (hlen : s.L.length ≤ 1000) (hc : c.toNat = 108) :
    Calls Tryd.prog 51 #[.pointer (some ⟨G, 0, none⟩), .int .u8 (c.toNat : Int)] w (GathPost w B B1 G (gath s c)) := by
  have hb0 : ((c.toNat : Int) == 115) = false := by rw [beq_eq_false_iff_ne]; omega
  have hb1 : ((c.toNat : Int) == 108) = true := by rw [beq_iff_eq]; omega
  obtain ⟨i0, hi, hz0, hz1, hz2⟩ := info_parts Tryd.info103
  have c3 := (cell_of_row w G 4 cs 110 (0, 0) h.rd.hp).trans h.c4
  have hlt := lt_of_block h.rd.hp
  have hG := h.hG
  have hB := h.hB
  have h1 := fun W cs (hi : IsR W B G 110 cs s.r) => list_any B G 110 cs s.r W hi hmax
  obtain ⟨x, hx⟩ : ∃ x, x = (listP s.r).1 := ⟨_, rfl⟩
  obtain ⟨r', hr'⟩ : ∃ r', r' = (listP s.r).2 := ⟨_, rfl⟩
  have hgs : gath s c = { s with r := r', L := s.L ++ [x] } := by rw [hx, hr']; unfold gath; rw [if_neg (by omega), if_pos hc]
  rw [hgs]
  rw [← hx, ← hr'] at h1
  have hxn : ∀ n ∈ x, n < 4294967296 := by rw [hx]; exact nums_lt _ _
  have HXN := Lib.hid hxn
  clear hxn
  have H1 := Lib.hid h1
  have H := Lib.hid h
  clear h h1 hx hr' hgs hc
  have hvS := rowT_own H.out.oL
  obtain ⟨A, n, cp, rfl⟩ : ∃ A n cp, vL = .slice A n cp := by
    obtain ⟨A, cp, hv, _⟩ := own_rd H.out.oL
    exact ⟨A, _, cp, hv⟩
  have hm63 : s.L.length + 1 ≤ maxLen := by unfold maxLen; omega
  have hm47 : (s.L.length + 1) * 24 ≤ 140737488355328 := by omega
  have on1 : ∀ g0, ∀ u ∈ [Value.slice (some ⟨g0, 0, none⟩) x.length x.length], u.oneCell' = true := by intro g0 u hu; simp at hu; subst hu; rfl
  go_enter Tryd.func51, Tryd.ntmps51
  go_wp2_with fail
  have hrd : IsR w.drew B G 110 cs s.r := H.out.rd.keep rfl (Below.refl _ _).drew
  have cD : w.drew.cell? ⟨G, 4, none⟩ = some (.slice A n cp) := c3
  go_region_law (first
      | (have _g := oS1; clear _g; refine step_append_lies _ rfl (.tmp 46) (.tmp 51) 84 rfl B1 103 i0 (.slice none 0 0) 1 24 Tryd.underlying84 hi hz0 hz1 hz2 rfl Nat.one_pos (.slice A n cp) s.L.length vs rfl (oS1.alloc _) ⟨w1.heap.size, 0, none⟩ 1 1 [.slice (some ⟨g0, 0, none⟩) x.length x.length] rfl rfl (World.news_of_block (cs := #[.slice (some ⟨g0, 0, none⟩) x.length x.length]) (t := 103) (fr := (0, 0)) (heap_alloc_new w1 _)) (on1 g0) Nat.one_pos hm63 hm47 hbs1 (w1.heap.size + 1) (size_alloc' _ _) ?_; intro gg cap w2 hown2 hg2 hat hlt2; have pG := block_kept (block_kept hi1.hp (World.grownBy_alloc w1 (.cells #[.slice (some ⟨g0, 0, none⟩) x.length x.length] 103) none) (fun _ h => by cases h) (t := 0) (by omega)) hg2 (rowT_own (oS1.alloc _)) (by omega); have cA : w2.cell? ⟨G, 4, none⟩ = some (.slice A n cp) := (cell_of_row w2 G 4 cs1 110 (0, 0) pG).trans ((hc1 4 (by omega)).trans H.out.c4); have fA := frozen_of_row w2 G 4 cs1 110 pG)
      | (go_simp; go_at_call 60; refine (H1.out w.drew cs hrd).mono ?_; rintro e w1 ⟨cs1, g0, rfl, hg0, hrow, hi1, hc1, hs1, hg1⟩; have cT : w1.cell? ⟨G, 4, none⟩ = some (.slice A n cp) := ((cell_of_row w1 G 4 cs1 110 (0, 0) hi1.hp).trans ((hc1 4 (by omega)).trans H.out.c4)); have cT2 : (w1.alloc (.cells #[.slice (some ⟨g0, 0, none⟩) x.length x.length] 103)).cell? ⟨G, 4, none⟩ = some (.slice A n cp) := (World.cell?_alloc_lt w1 _ ⟨G, 4, none⟩ (lt_of_block hi1.hp)).trans cT; have oS1 := own_kept (w := w.drew) H.out.oL hg1 (rowT_block (w := w.drew) H.out.rd.hp) (by omega); have hbs1' : B1 ≤ w1.heap.size := (by have := hg1.size; simp at this ⊢; omega); have hbs1 : B1 ≤ (w1.alloc (.cells #[.slice (some ⟨g0, 0, none⟩) x.length x.length] 103)).heap.size := (by have := hg1.size; simp at this ⊢; omega))
      | fail)
  all_goals
    go_end0
    have k1 := (Kp.drew w).trans (Kp.grown hg1 (rowT_block (w := w.drew) H.out.rd.hp))
    have k2 := (k1.trans (Kp.alloc w1 (.cells #[.slice (some ⟨g0, 0, none⟩) x.length x.length] 103))).trans (Kp.grown hg2 (rowT_own (oS1.alloc _)))
    have hb2 : Below B1 w w2 := ((((Below.refl _ _).drew.grown hg1 (by simp; omega) (fun k hk => by injection hk with hk; omega)).alloc (by simpa using hbs1') _).grown hg2 hbs1 (fun k hk => (oS1.lt k hk).1))
    have hbB : Below B w1 w2 := ((Below.refl _ _).alloc (by omega) _).grown hg2 (by simp; omega) (fun k hk => by have := (oS1.lt k hk).1; omega)
    have k3 := (Kp.alloc w1 (.cells #[.slice (some ⟨g0, 0, none⟩) x.length x.length] 103)).trans (Kp.grown hg2 (rowT_own (oS1.alloc _)))
    refine ⟨rfl, hb2.setCell (by simpa using hG) _, gath_close (i := 4) (vN' := vN) (vS' := vS) (vL' := .slice (some ⟨gg, 0, none⟩) (s.L.length + 1) cap) (vs' := vs ++ [.slice (some ⟨g0, 0, none⟩) x.length x.length]) H.out hi1 hs1 (by omega) pG hbB ?_ ?_ ?_ (k2.own H.out.oN (by decide)) (k2.own H.out.oS (by decide)) ?_ (Lown.snoc ⟨g0, rfl, by simp at hg0; omega, k3.row hrow (by decide), HXN.out⟩ (k2.lown (by decide) H.out.ls)) H.out.bN⟩
    · rw [Array.getElem?_setIfInBounds_ne (by omega), hc1 2 (by omega)]
      exact H.out.c2
    · rw [Array.getElem?_setIfInBounds_ne (by omega), hc1 3 (by omega)]
      exact H.out.c3
    · rw [Array.getElem?_setIfInBounds_self, if_pos (by rw [hs1, H.out.sz]; omega)]
    · simpa using hown2

set_option maxHeartbeats 4000000 in
theorem gath_number (B B1 G : Nat) (cs : Array Value) (vN vS vL : Value) (vs : List Value) (s : Gs) (c : UInt8) (w : World) (h : IsG w B B1 G cs vN vS vL vs s)
    (hmax : s.r.1.length ≤ 1099511627776) (hlen : s.N.length ≤ 1000) (hc : c.toNat ≠ 115) (hc2 : c.toNat ≠ 108) :
    Calls Tryd.prog 51 #[.pointer (some ⟨G, 0, none⟩), .int .u8 (c.toNat : Int)] w (GathPost w B B1 G (gath s c)) := by
  have hb0 : ((c.toNat : Int) == 115) = false := by rw [beq_eq_false_iff_ne]; omega
  have hb1 : ((c.toNat : Int) == 108) = false := by rw [beq_eq_false_iff_ne]; omega
  have hwd := fun W => width_any c W
  have HW := Lib.hid hwd
  clear hwd
  obtain ⟨i0, hi, hz0, hz1, hz2⟩ := info_parts Tryd.info24
  have c3 := (cell_of_row w G 2 cs 110 (0, 0) h.rd.hp).trans h.c2
  have hlt := lt_of_block h.rd.hp
  have hG := h.hG
  have hB := h.hB
  have h1 := fun W cs (hi : IsR W B G 110 cs s.r) => number_any B G 110 cs s.r (wid c) W hi hmax (wid_le c)
  obtain ⟨x, hx⟩ : ∃ x, x = (numP s.r (wid c)).1 := ⟨_, rfl⟩
  obtain ⟨r', hr'⟩ : ∃ r', r' = (numP s.r (wid c)).2 := ⟨_, rfl⟩
  have hgs : gath s c = { s with r := r', N := s.N ++ [x] } := by rw [hx, hr']; unfold gath; rw [if_neg hc, if_neg hc2]
  rw [hgs]
  rw [← hx, ← hr'] at h1
  have hxn : x < 18446744073709551616 := by rw [hx]; exact numP_lt _ _ (wid_le c)
  have H1 := Lib.hid h1
  have H := Lib.hid h
  clear h h1 hx hr' hgs hc hc2
  have hvS := rowT_own H.out.oN
  obtain ⟨A, n, cp, rfl⟩ : ∃ A n cp, vN = .slice A n cp := by
    obtain ⟨A, cp, hv, _⟩ := own_rd H.out.oN
    exact ⟨A, _, cp, hv⟩
  have hm63 : s.N.length + 1 ≤ maxLen := by unfold maxLen; omega
  have hm47 : (s.N.length + 1) * 8 ≤ 140737488355328 := by omega
  have on1 : ∀ u ∈ [Value.int .u64 (x : Int)], u.oneCell' = true := by intro u hu; simp at hu; subst hu; rfl
  go_enter Tryd.func51, Tryd.ntmps51
  go_wp2_with fail
  have hrd : IsR w.drew B G 110 cs s.r := H.out.rd.keep rfl (Below.refl _ _).drew
  have cD : w.drew.cell? ⟨G, 2, none⟩ = some (.slice A n cp) := c3
  go_region_law (first
      | (have _g := oS1; clear _g; refine step_append_lies _ rfl (.tmp 10) (.tmp 17) 70 rfl B1 24 i0 (.int .u64 0) 1 8 Tryd.underlying70 hi hz0 hz1 hz2 rfl Nat.one_pos (.slice A n cp) s.N.length (uv .u64 s.N) rfl (oS1.alloc _) ⟨w1.heap.size, 0, none⟩ 1 1 [.int .u64 (x : Int)] rfl rfl (World.news_of_block (cs := #[.int .u64 (x : Int)]) (t := 24) (fr := (0, 0)) (heap_alloc_new w1 _)) on1 Nat.one_pos hm63 hm47 hbs1 (w1.heap.size + 1) (size_alloc' _ _) ?_; intro gg cap w2 hown2 hg2 hat hlt2; have pG := block_kept (block_kept hi1.hp (World.grownBy_alloc w1 (.cells #[.int .u64 (x : Int)] 24) none) (fun _ h => by cases h) (t := 0) (by omega)) hg2 (rowT_own (oS1.alloc _)) (by omega); have cA : w2.cell? ⟨G, 2, none⟩ = some (.slice A n cp) := (cell_of_row w2 G 2 cs1 110 (0, 0) pG).trans ((hc1 2 (by omega)).trans H.out.c2); have fA := frozen_of_row w2 G 2 cs1 110 pG)
      | (go_simp; go_at_call 49; refine (HW.out w.drew).mono ?_; rintro e w' ⟨rfl, rfl⟩)
      | (go_simp; go_at_call 61; refine (H1.out w.drew cs hrd).mono ?_; rintro e w1 ⟨cs1, rfl, hi1, hc1, hs1, hg1⟩; have cT : w1.cell? ⟨G, 2, none⟩ = some (.slice A n cp) := ((cell_of_row w1 G 2 cs1 110 (0, 0) hi1.hp).trans ((hc1 2 (by omega)).trans H.out.c2)); have cT2 : (w1.alloc (.cells #[.int .u64 (x : Int)] 24)).cell? ⟨G, 2, none⟩ = some (.slice A n cp) := (World.cell?_alloc_lt w1 _ ⟨G, 2, none⟩ (lt_of_block hi1.hp)).trans cT; have oS1 := own_kept (w := w.drew) H.out.oN hg1 (rowT_block (w := w.drew) H.out.rd.hp) (by omega); have hbs1' : B1 ≤ w1.heap.size := (by have := hg1.size; simp at this ⊢; omega); have hbs1 : B1 ≤ (w1.alloc (.cells #[.int .u64 (x : Int)] 24)).heap.size := (by have := hg1.size; simp at this ⊢; omega))
      | fail)
  all_goals
    go_end0
    have k1 := (Kp.drew w).trans (Kp.grown hg1 (rowT_block (w := w.drew) H.out.rd.hp))
    have k2 := (k1.trans (Kp.alloc w1 (.cells #[.int .u64 (x : Int)] 24))).trans (Kp.grown hg2 (rowT_own (oS1.alloc _)))
    have hb2 : Below B1 w w2 := ((((Below.refl _ _).drew.grown hg1 (by simp; omega) (fun k hk => by injection hk with hk; omega)).alloc (by simpa using hbs1') _).grown hg2 hbs1 (fun k hk => (oS1.lt k hk).1))
    have hbB : Below B w1 w2 := ((Below.refl _ _).alloc (by omega) _).grown hg2 (by simp; omega) (fun k hk => by have := (oS1.lt k hk).1; omega)
    refine ⟨rfl, hb2.setCell (by simpa using hG) _, gath_close (i := 2) (vN' := .slice (some ⟨gg, 0, none⟩) (s.N.length + 1) cap) (vS' := vS) (vL' := vL) (vs' := vs) H.out hi1 hs1 (by omega) pG hbB ?_ ?_ ?_ ?_ (k2.own H.out.oS (by decide)) (k2.own H.out.oL (by decide)) (k2.lown (by decide) H.out.ls) ?_⟩
    · rw [Array.getElem?_setIfInBounds_self, if_pos (by rw [hs1, H.out.sz]; omega)]
    · rw [Array.getElem?_setIfInBounds_ne (by omega), hc1 3 (by omega)]
      exact H.out.c3
    · rw [Array.getElem?_setIfInBounds_ne (by omega), hc1 4 (by omega)]
      exact H.out.c4
    · simpa [uv] using hown2
    · intro m hm
      rcases List.mem_append.1 hm with hm | hm
      · exact H.out.bN m hm
      · simp at hm
        omega

end Go.Proofs.YtaefgieodehceaaDoor
