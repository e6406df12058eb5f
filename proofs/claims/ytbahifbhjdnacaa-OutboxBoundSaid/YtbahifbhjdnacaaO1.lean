/- Outbox: bytes and rows of bytes in memory; what a call may change. -/
import Derived.Test.YtbahifbhjdnacaaRows
import Derived.WalkKit
import Derived.Below
import Derived.WalkSmall
import Derived.Outline
import Derived.BigQuiet
import Derived.Deep.QuietTactic
import Derived.Lib.Hide
import Derived.Laws.BytesArg
import Derived.Maps.AppendAt
import Derived.ChangeKeysEq
import Derived.Deep.LoopGhost
import Derived.Deep.RegionLaw
import Derived.Laws.StructEq
import Derived.LoopTactic
import Derived.StillTailTactics
import Derived.Deep.MidRow
import Derived.Deep.RegionHeld3
import Derived.Deep.WholeRow
import Derived.Lib.SlBytesConst
import Derived.Laws.AppendOwn
import Derived.Laws.OwnMore
import Derived.Deep.DeepCutAuto
namespace Go.Proofs.Ytbahifbhjdnacaa
open Go.RowKit

/-- Frames behind their lengths. -/
def wrapP (fs : List (List UInt8)) : List UInt8 := (fs.map fun f => UInt8.ofNat (f.length / 256) :: UInt8.ofNat (f.length % 256) :: f).flatten
theorem wrapP_cons (f : List UInt8) (fs : List (List UInt8)) : wrapP (f :: fs) = UInt8.ofNat (f.length / 256) :: UInt8.ofNat (f.length % 256) :: (f ++ wrapP fs) := by
  simp [wrapP]
theorem wrapP_nil : wrapP [] = [] := rfl
theorem wrapP_append (fs gs : List (List UInt8)) : wrapP (fs ++ gs) = wrapP fs ++ wrapP gs := by simp [wrapP]
def bv (l : List UInt8) : List Value := l.map fun c => .int .u8 (c.toNat : Int)

theorem bv_one (l : List UInt8) : (bv l).toArray.all (·.oneCell') = true := by
  simp [bv]
  intros
  rfl
theorem lt_of_block' {w : World} {G : Nat} {o : Obj} (h : w.heap[G]? = some o) : G < w.heap.size := (Array.getElem?_eq_some_iff.1 h).1

def Pb (w : World) (v : Value) (p : List UInt8) : Prop :=
  ∃ A c, v = .slice A p.length c ∧ p.length ≤ c ∧ (0 < p.length → ∃ b o, A = some ⟨b, o, none⟩ ∧ b < w.heap.size ∧ ∀ j u, (bv p)[j]? = some u → w.cell? ⟨b, o + j, none⟩ = some u)
def Pbs (w : World) (v : Value) (ps : List (List UInt8)) : Prop :=
  ∃ A c, v = .slice A ps.length c ∧ ps.length ≤ c ∧ (0 < ps.length → ∃ b o, A = some ⟨b, o, none⟩ ∧ b < w.heap.size ∧ ∀ j (hj : j < ps.length), ∃ u, w.cell? ⟨b, o + j, none⟩ = some u ∧ Pb w u ps[j])
theorem Pb.below {w W : World} {v : Value} {p : List UInt8} (h : Pb w v p) (hb : Below w.heap.size w W) : Pb W v p := by
  obtain ⟨A, c, e, hc, hr⟩ := h
  refine ⟨A, c, e, hc, fun hp => ?_⟩
  obtain ⟨b, o, ha, hl, hcell⟩ := hr hp
  exact ⟨b, o, ha, Nat.lt_of_lt_of_le hl hb.size, fun j u hu => (hb.cell (p := ⟨b, o + j, none⟩) hl).trans (hcell j u hu)⟩
theorem Pbs.below {w W : World} {v : Value} {ps : List (List UInt8)} (h : Pbs w v ps) (hb : Below w.heap.size w W) : Pbs W v ps := by
  obtain ⟨A, c, e, hc, hr⟩ := h
  refine ⟨A, c, e, hc, fun hp => ?_⟩
  obtain ⟨b, o, ha, hl, hcell⟩ := hr hp
  refine ⟨b, o, ha, Nat.lt_of_lt_of_le hl hb.size, fun j hj => ?_⟩
  obtain ⟨u, h1, h2⟩ := hcell j hj
  exact ⟨u, (hb.cell (p := ⟨b, o + j, none⟩) hl).trans h1, h2.below hb⟩
theorem Try.info5 : (Try.prog.info? 5).map (fun i => (i.zero, i.size, i.bytes)) = some (some (.int .u8 0), 1, 1) := by kernel_rfl
theorem bv_each (l : List UInt8) : ∀ u ∈ bv l, u.oneCell' = true := by
  intro u hu
  simp only [bv, List.mem_map] at hu
  obtain ⟨_, _, rfl⟩ := hu
  rfl
theorem own_below {w w' : World} {base size n : Nat} {e : TypeId} {v : Value} {xs : List Value} (h : w.ownsRow base e size v n xs) (hb : Below w.heap.size w w') : w'.ownsRow base e size v n xs := by
  refine ⟨h.1, ?_⟩
  rcases h.2 with hn | ⟨g, cap, cur, hv, hb0, hg, r⟩
  · exact .inl hn
  · exact .inr ⟨g, cap, cur, hv, hb0, (hb.block g (lt_of_block' hg)).trans hg, r⟩
theorem own_pb {w : World} {base : Nat} {v : Value} {l : List UInt8} (h : w.ownsRow base 5 1 v l.length (bv l)) : Pb w v l := by
  have hcells := fun g => h.cells (g := g)
  have hlt := h.lt
  rcases h.2 with ⟨rfl, h2⟩ | ⟨g, cap, cur, rfl, hg, hh, hnc, _⟩
  · have hl0 : l = [] := by
      have := h2
      simp at this
      exact this
    subst hl0
    exact ⟨Option.none, 0, rfl, Nat.le_refl _, fun hx => absurd hx (by simp)⟩
  · refine ⟨_, cap, rfl, hnc, fun _ => ⟨g, 0, rfl, (hlt g rfl).2, fun j u hu => ?_⟩⟩
    have := hcells g rfl j u hu
    rw [← this, Addr.add_mid]
theorem pb_byte {w : World} {v : Value} {c : UInt8} (hv : v = .int .u8 (c.toNat : Int)) : Pb (w.alloc (.cells #[v] 5)) (.slice (some ⟨w.heap.size, 0, none⟩) 1 1) [c] :=
  ⟨_, 1, rfl, by simp, fun _ => ⟨w.heap.size, 0, rfl, by simp, fun j u hu => by
    rw [cell_of_row _ _ _ _ _ _ (heap_alloc_new w _), hv]
    rcases j with _ | j
    · simpa [bv] using hu
    · simp [bv] at hu⟩⟩

theorem own_form {w : World} {base : Nat} {v : Value} {l : List UInt8} (h : w.ownsRow base 5 1 v l.length (bv l)) : ∃ A n c, v = .slice A n c := by
  obtain ⟨A, c, e, _⟩ := own_pb h
  exact ⟨A, _, c, e⟩

theorem own_some {w : World} {B n : Nat} {v : Value} {xs : List Value} (h : w.ownsRow B 5 1 v n xs) (hn : 0 < n) : ∃ g cap, v = .slice (some ⟨g, 0, none⟩) n cap := by
  rcases h.2 with ⟨_, hx⟩ | ⟨g, cap, cur, hv, _⟩
  · have h1 := h.1
    rw [hx] at h1
    simp at h1
    omega
  · exact ⟨g, cap, hv⟩
theorem Pbs.get {w : World} {v : Value} {ps : List (List UInt8)} (h : Pbs w v ps) {j : Nat} (hj : j < ps.length) : ∃ b o c u, v = .slice (some ⟨b, o, none⟩) ps.length c ∧ b < w.heap.size ∧ w.cell? ⟨b, o + j, none⟩ = some u ∧ Pb w u ps[j] := by
  obtain ⟨A, c, rfl, _, hr⟩ := h
  obtain ⟨b, o, rfl, hb, hc⟩ := hr (by omega)
  obtain ⟨u, h1, h2⟩ := hc j hj
  exact ⟨b, o, c, u, rfl, hb, h1, h2⟩


/-- What a call may change: the blocks of which C holds; it may make new ones. -/
structure Kp (C : Nat → Prop) (w w' : World) : Prop where
  os : w'.os = w.os
  tape : w'.tape = w.tape
  output : w'.output = w.output
  size : w.heap.size ≤ w'.heap.size
  block : ∀ k, k < w.heap.size → ¬ C k → w'.heap[k]? = w.heap[k]?
theorem Kp.refl (C : Nat → Prop) (w : World) : Kp C w w := ⟨rfl, rfl, rfl, Nat.le_refl _, fun _ _ _ => rfl⟩
theorem Kp.trans {C D : Nat → Prop} {w w1 w2 : World} (h : Kp C w w1) (k : Kp D w1 w2) (hd : ∀ i, i < w.heap.size → D i → C i) : Kp C w w2 :=
  ⟨k.os.trans h.os, k.tape.trans h.tape, k.output.trans h.output, Nat.le_trans h.size k.size, fun i hi hc => (k.block i (Nat.lt_of_lt_of_le hi h.size) (fun e => hc (hd i hi e))).trans (h.block i hi hc)⟩
theorem Kp.weaken {C D : Nat → Prop} {w w' : World} (h : Kp C w w') (hd : ∀ i, i < w.heap.size → C i → D i) : Kp D w w' :=
  ⟨h.os, h.tape, h.output, h.size, fun i hi hc => h.block i hi (fun e => hc (hd i hi e))⟩
theorem Kp.of_grown {w w' : World} {row : Option Nat} (h : w.grownBy w' row) : Kp (fun k => row = some k) w w' :=
  ⟨h.os, h.tape, h.output, h.size, fun k hk hc => h.block k hk (fun e => hc e.symm)⟩
theorem Kp.of_below {w w' : World} (C : Nat → Prop) (h : Below w.heap.size w w') : Kp C w w' :=
  ⟨h.os, h.tape, h.output, h.size, fun k hk _ => h.block k hk⟩
theorem Kp.alloc (C : Nat → Prop) (w : World) (o : Obj) : Kp C w (w.alloc o) := .of_below C ((Below.refl _ _).alloc (Nat.le_refl _) o)
theorem Kp.drew (C : Nat → Prop) (w : World) : Kp C w w.drew := .of_below C (Below.refl _ _).drew
theorem Kp.setCell (w : World) (a : Addr) (u : Value) : Kp (fun k => k = a.block) w (w.setCell a u) :=
  ⟨rfl, rfl, rfl, by simp [World.setCell], fun k _ hc => Below.heap_setCell _ _ _ _ hc⟩
theorem Kp.below {C : Nat → Prop} {B : Nat} {w w' : World} (h : Kp C w w') (hB : B ≤ w.heap.size) (hc : ∀ k, C k → B ≤ k) : Below B w w' :=
  ⟨h.os, h.tape, h.output, h.size, fun k hk => h.block k (by omega) (fun e => by have := hc k e; omega)⟩
theorem Kp.heap {C : Nat → Prop} {w w' : World} (h : Kp C w w') {k : Nat} {o : Obj} (ho : w.heap[k]? = some o) (hc : ¬ C k) : w'.heap[k]? = some o := (h.block k (lt_of_block' ho) hc).trans ho
theorem Kp.own {C : Nat → Prop} {w w' : World} (h : Kp C w w') {B n : Nat} {e : TypeId} {v : Value} {xs : List Value} (ho : w.ownsRow B e 1 v n xs) (hc : ∀ k, v.ownBlock = some k → ¬ C k) : w'.ownsRow B e 1 v n xs := by
  refine ⟨ho.1, ?_⟩
  rcases ho.2 with hn | ⟨g, cap, cur, hv, hb0, hg, r⟩
  · exact .inl hn
  · exact .inr ⟨g, cap, cur, hv, hb0, h.heap hg (hc g (by rw [hv]; rfl)), r⟩

/-- The bytes l, at v, in block g, when there are any. -/
def Pg (w : World) (g : Nat) (v : Value) (l : List UInt8) : Prop :=
  ∃ A c, v = .slice A l.length c ∧ l.length ≤ c ∧ (0 < l.length → ∃ o, A = some ⟨g, o, none⟩ ∧ g < w.heap.size ∧ ∀ j u, (bv l)[j]? = some u → w.cell? ⟨g, o + j, none⟩ = some u)
theorem Pg.pb {w : World} {g : Nat} {v : Value} {l : List UInt8} (h : Pg w g v l) : Pb w v l := by
  obtain ⟨A, c, e, hc, hr⟩ := h
  exact ⟨A, c, e, hc, fun hp => by obtain ⟨o, h1, h2, h3⟩ := hr hp; exact ⟨g, o, h1, h2, h3⟩⟩
theorem Pg.kept {C : Nat → Prop} {w w' : World} {g : Nat} {v : Value} {l : List UInt8} (h : Pg w g v l) (hk : Kp C w w') (hc : ¬ C g) : Pg w' g v l := by
  obtain ⟨A, c, e, hcc, hr⟩ := h
  refine ⟨A, c, e, hcc, fun hp => ?_⟩
  obtain ⟨o, h1, h2, h3⟩ := hr hp
  exact ⟨o, h1, Nat.lt_of_lt_of_le h2 hk.size, fun j u hu => (World.cell?_of_block (hk.block g h2 hc)).trans (h3 j u hu)⟩
theorem own_pg {w : World} {B : Nat} {v : Value} {l : List UInt8} (h : w.ownsRow B 5 1 v l.length (bv l)) : ∃ g, Pg w g v l ∧ (v.ownBlock = some g ∨ v.ownBlock = none) := by
  have hp := own_pb h
  rcases h.2 with ⟨rfl, h2⟩ | ⟨g, cap, cur, rfl, _⟩
  · obtain ⟨A, c, e, hc, hr⟩ := hp
    exact ⟨0, ⟨A, c, e, hc, fun hx => absurd hx (by omega)⟩, .inr rfl⟩
  · obtain ⟨A, c, e, hc, hr⟩ := hp
    refine ⟨g, ⟨A, c, e, hc, fun hx => ?_⟩, .inl rfl⟩
    obtain ⟨b, o, ha, hb, hcell⟩ := hr hx
    injection e with e1 _ _
    rw [ha] at e1
    injection e1 with e1
    injection e1 with e2 e3
    subst e2
    exact ⟨o, ha, hb, hcell⟩

theorem run_append_bytes (w : World) (base ty : Nat) (v y : Value) (xs l : List UInt8) (i : TypeInfo) (hi : Try.prog.info? 5 = some i) (hz0 : i.zero = some (.int .u8 0)) (hz1 : i.size = 1) (hz2 : i.bytes = 1)
    (hown : w.ownsRow base 5 1 v xs.length (bv xs)) (hy : Pb w y l) (hlen : xs.length + l.length ≤ 1000000) (hbase : base ≤ w.heap.size) :
    ∃ v' w', (Builtin.append_ #[32, 32] ty #[v, y]).run Try.prog w = .ok v' w' ∧ w'.ownsRow base 5 1 v' (xs ++ l).length (bv (xs ++ l)) ∧ w.grownBy w' v.ownBlock ∧ (v'.ownBlock = v.ownBlock ∨ v'.ownBlock = some w.heap.size) := by
  obtain ⟨A, c, rfl, hlc, hr⟩ := hy
  rcases A with _ | ad
  · have hl0 : l = [] := by
      rcases l with _ | ⟨y, l⟩
      · rfl
      · obtain ⟨b, o, hA, _⟩ := hr (by simp)
        cases hA
    subst hl0
    refine ⟨v, w, ?_, by simpa using hown, World.grownBy.refl w _, .inl rfl⟩
    rcases hown.2 with ⟨rfl, _⟩ | ⟨g, cap, cur, rfl, _, _, hnc, _⟩
    · simp [Builtin.append_, run_underlying Try.underlying32, sizeOf, typeInfo, hi, Builtin.lenOf, Builtin.firstCells]
    · simp [Builtin.append_, run_underlying Try.underlying32, sizeOf, typeInfo, hi, Builtin.lenOf, Builtin.firstCells, hnc, storeCells]
  · have hcell : ∀ j u, (bv l)[j]? = some u → w.cell? (ad.add j) = some u := fun j u hu => by
      have hj := (List.getElem?_eq_some_iff.1 hu).1
      obtain ⟨b, o, hA, _, hc⟩ := hr (by simp [bv] at hj; omega)
      injection hA with hA
      subst hA
      rw [Addr.add_mid]
      exact hc j u hu
    obtain ⟨v', w', hrun, h2, h3, _, h5⟩ := run_append_own_at (P := Try.prog) w base 32 ty 5 i (.int .u8 0) 1 1 Try.underlying32 hi hz0 hz1 hz2 rfl (by decide) v xs.length (bv xs) hown ad l.length c (bv l) (by simp [bv]) hcell (bv_each l)
      (by unfold maxLen; omega) (by omega) hbase
    exact ⟨v', w', hrun, by simpa [bv] using h2, h3, h5⟩
theorem wpList_append_bytes {w : World} {ops : Array Oper} {rest : List Oper} {o : Oper} {a : Act} {Q : Exit → Act → World → Prop} (hgd : o.guard = none) (s x : Operand)
    (ho : o.op = .call { callee := .builtin .append, args := #[s, x], argTypes := #[32, 32] })
    (base : Nat) (v y : Value) (xs l : List UInt8) (hs : a.eval s = v) (hx : a.eval x = y)
    (hown : w.ownsRow base 5 1 v xs.length (bv xs)) (hy : Pb w y l) (hlen : xs.length + l.length ≤ 1000000) (hbase : base ≤ w.heap.size)
    (h : ∀ v' w', w'.ownsRow base 5 1 v' (xs ++ l).length (bv (xs ++ l)) → w.grownBy w' v.ownBlock → (v'.ownBlock = v.ownBlock ∨ v'.ownBlock = some w.heap.size) → wpList Try.prog ops Q rest (a.put o.dst v') w') : wpList Try.prog ops Q (o :: rest) a w := by
  refine wpList_plain hgd fun K hK => ?_
  obtain ⟨i0, hi, hz0, hz1, hz2⟩ := info_parts Try.info5
  obtain ⟨v', w', hr, h2, h3, h4⟩ := run_append_bytes w base o.type v y xs l i0 hi hz0 hz1 hz2 hown hy hlen hbase
  unfold Oper.wp execOp
  simp only [ho, resolve, invoke, builtin, Sem.run_bind, Sem.run_pure, Result.andThen_ok, List.map_toArray, List.map_cons, List.map_nil, hs, hx, hr]
  exact hK _ _ (h v' w' h2 h3 h4)

end Go.Proofs.Ytbahifbhjdnacaa
