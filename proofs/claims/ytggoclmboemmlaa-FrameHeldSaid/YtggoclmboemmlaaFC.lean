/- Frames: what any pieces come to, one behind the other. -/
import Derived.Test.YtggoclmboemmlaaFA
namespace Go.Proofs.Ytggoclmboemmlaa
open Go.RowKit

theorem flat_take (ps : List (List UInt8)) (k : Nat) (hk : k < ps.length) : (ps.take (k + 1)).flatten = (ps.take k).flatten ++ ps[k] := by
  rw [List.take_succ_eq_append_getElem hk, List.flatten_append]
  simp only [List.flatten_cons, List.flatten_nil, List.append_nil]
theorem flat_le (ps : List (List UInt8)) (k : Nat) : (ps.take k).flatten.length ≤ ps.flatten.length := by
  have h : ps.flatten = (ps.take k).flatten ++ (ps.drop k).flatten := by rw [← List.flatten_append, List.take_append_drop]
  rw [h, List.length_append]
  omega

/-- A frame has three bytes at least. -/
theorem parse_few (b : List UInt8) : (parse b).1.length ≤ b.length := by
  obtain ⟨t, h, _⟩ := wrap_parse b
  have h1 : ∀ fs : List (List UInt8), fs.length ≤ (wrapP fs).length := by
    intro fs
    induction fs with
    | nil => simp
    | cons f fs ih => rw [wrapP_cons]; simp; omega
  have h2 := h1 (parse b).1
  have h3 := congrArg List.length h
  rw [List.length_append] at h3
  omega
/-- Two pieces, one behind the other: alive. -/
theorem parse_two {a r b : List UInt8} {fs : List (List UInt8)} (h : parse a = (fs, r, false)) : parse (a ++ b) = (fs ++ (parse (r ++ b)).1, (parse (r ++ b)).2) := by
  rw [parse_append, h]
  simp
theorem parse_on {a b : List UInt8} (h : (parse a).2.2 = true) : parse (a ++ b) = parse a := by
  rw [parse_append, if_pos h]

/-- Rows of bytes at v. -/
theorem Frs.pbs {w : World} {B : Nat} {fv : Value} {fs : List (List UInt8)} {vs : List Value} (h : Frs w B fv fs vs) : Pbs w fv fs := by
  have hcs := fun g => h.1.cells (g := g)
  rcases h.1.2 with ⟨rfl, h0⟩ | ⟨g, cap, cur, rfl, _, hg, hc, _⟩
  · exact ⟨none, 0, by rw [h0], by omega, fun hx => absurd hx (by omega)⟩
  · refine ⟨_, cap, rfl, hc, fun hx => ⟨g, 0, rfl, lt_of_block' hg, fun j hj => ?_⟩⟩
    obtain ⟨A, n, c, h1, h2⟩ := h.2 j hj
    have h3 := hcs g rfl j _ h1
    rw [Addr.add_mid] at h3
    exact ⟨_, h3, own_pb h2⟩

theorem run_append_frames (w : World) (base ty n : Nat) (v y : Value) (vs us : List Value) (i : TypeInfo) (hi : Try.prog.info? 24 = some i) (hz0 : i.zero = some (.slice none 0 0)) (hz1 : i.size = 1) (hz2 : i.bytes = 24)
    (hown : w.ownsRow base 24 1 v n vs) {m : Nat} {B2 : Nat} (hy : w.ownsRow B2 24 1 y m us) (hone : ∀ u ∈ us, u.oneCell' = true) (hlen : n + m ≤ 1000000) (hbase : base ≤ w.heap.size) :
    ∃ v' w', (Builtin.append_ #[22, 22] ty #[v, y]).run Try.prog w = .ok v' w' ∧ w'.ownsRow base 24 1 v' (n + m) (vs ++ us) ∧ w.grownBy w' v.ownBlock ∧ (v'.ownBlock = v.ownBlock ∨ v'.ownBlock = some w.heap.size) := by
  have hcs := fun g => hy.cells (g := g)
  rcases hy.2 with ⟨rfl, rfl⟩ | ⟨g, cap, cur, rfl, _, hg, hc, hcm, _⟩
  · have hu : us = [] := List.eq_nil_of_length_eq_zero (by simpa using hy.1)
    subst hu
    refine ⟨v, w, ?_, by simpa using hown, World.grownBy.refl w _, .inl rfl⟩
    rcases hown.2 with ⟨rfl, _⟩ | ⟨g, cap, cur, rfl, _, _, hnc, _⟩
    · simp [Builtin.append_, run_underlying Try.underlying22, sizeOf, typeInfo, hi, Builtin.lenOf, Builtin.firstCells]
    · simp [Builtin.append_, run_underlying Try.underlying22, sizeOf, typeInfo, hi, Builtin.lenOf, Builtin.firstCells, hnc, storeCells]
  · obtain ⟨v', w', hrun, h2, h3, _, h5⟩ := run_append_own_at (P := Try.prog) w base 22 ty 24 i (.slice none 0 0) 1 24 Try.underlying22 hi hz0 hz1 hz2 rfl (by decide) v n vs hown ⟨g, 0, none⟩ m cap us (by simpa using hy.1) (fun j u hu => hcs g rfl j u hu) hone
      (by unfold maxLen; omega) (by omega) hbase
    exact ⟨v', w', hrun, by simpa using h2, h3, h5⟩
theorem wpList_append_frames {w : World} {ops : Array Oper} {rest : List Oper} {o : Oper} {a : Act} {Q : Exit → Act → World → Prop} (hgd : o.guard = none) (s x : Operand)
    (ho : o.op = .call { callee := .builtin .append, args := #[s, x], argTypes := #[22, 22] })
    (base n : Nat) (v y : Value) (vs us : List Value) (hs : a.eval s = v) (hx : a.eval x = y)
    (hown : w.ownsRow base 24 1 v n vs) {m B2 : Nat} (hy : w.ownsRow B2 24 1 y m us) (hone : ∀ u ∈ us, u.oneCell' = true) (hlen : n + m ≤ 1000000) (hbase : base ≤ w.heap.size)
    (h : ∀ v' w', w'.ownsRow base 24 1 v' (n + m) (vs ++ us) → w.grownBy w' v.ownBlock → (v'.ownBlock = v.ownBlock ∨ v'.ownBlock = some w.heap.size) → wpList Try.prog ops Q rest (a.put o.dst v') w') : wpList Try.prog ops Q (o :: rest) a w := by
  refine wpList_plain hgd fun K hK => ?_
  obtain ⟨i0, hi, hz0, hz1, hz2⟩ := info_parts Try.info24
  obtain ⟨v', w', hr, h2, h3, h4⟩ := run_append_frames w base o.type n v y vs us i0 hi hz0 hz1 hz2 hown hy hone hlen hbase
  unfold Oper.wp execOp
  simp only [ho, resolve, invoke, builtin, Sem.run_bind, Sem.run_pure, Result.andThen_ok, List.map_toArray, List.map_cons, List.map_nil, hs, hx, hr]
  exact hK _ _ (h v' w' h2 h3 h4)
theorem Frs.one {w : World} {B : Nat} {fv : Value} {fs : List (List UInt8)} {vs : List Value} (h : Frs w B fv fs vs) : ∀ u ∈ vs, u.oneCell' = true := by
  intro u hu
  obtain ⟨j, hj, e⟩ := List.getElem_of_mem hu
  have hl := h.1.1
  obtain ⟨A, n, c, h1, _⟩ := h.2 j (by omega)
  rw [List.getElem?_eq_getElem hj, e] at h1
  injection h1 with h1
  rw [h1]
  rfl

theorem type_apart {w : World} {B C e t n m : Nat} {v u : Value} {xs ys : List Value} (h : w.ownsRow B e 1 v n xs) (k : w.ownsRow C t 1 u m ys) (hne : e ≠ t) : ∀ g, u.ownBlock = some g → v.ownBlock ≠ some g := by
  intro g hu hv
  rcases k.2 with ⟨rfl, _⟩ | ⟨g', cap, cur, rfl, _, hg', _⟩
  · cases hu
  · injection hu with hu
    subst hu
    exact own_type h hg' hne hv
theorem Frs.app {w w' : World} {B B2 : Nat} {fv gv v' : Value} {fs gs : List (List UInt8)} {vs us : List Value} (h : Frs w B fv fs vs) (k : Frs w B2 gv gs us) (hB : B ≤ B2)
    (hown : w'.ownsRow B 24 1 v' (fs.length + gs.length) (vs ++ us)) (hg : w.grownBy w' fv.ownBlock) : Frs w' B v' (fs ++ gs) (vs ++ us) := by
  have hk := Kp.of_grown hg
  refine ⟨by rw [List.length_append]; exact hown, fun j hj => ?_⟩
  have hvl : vs.length = fs.length := by simpa using h.1.1
  rw [List.length_append] at hj
  by_cases hjf : j < fs.length
  · obtain ⟨A, n, c, h1, h2⟩ := h.2 j hjf
    refine ⟨A, n, c, by rw [List.getElem?_append_left (by omega)]; exact h1, ?_⟩
    rw [List.getElem_append_left hjf]
    exact hk.own h2 (fun g hg2 e => type_apart h.1 h2 (by decide) g hg2 e)
  · obtain ⟨A, n, c, h1, h2⟩ := k.2 (j - fs.length) (by omega)
    refine ⟨A, n, c, by rw [List.getElem?_append_right (by omega), hvl]; exact h1, ?_⟩
    rw [List.getElem_append_right (by omega)]
    exact own_base (hk.own h2 (fun g hg2 e => type_apart h.1 h2 (by decide) g hg2 e)) hB

theorem IsR.app {w w' : World} {H : Nat} {x fv : Value} {r : List UInt8} {d : Bool} {B n : Nat} {vs : List Value} (h : IsR w H x r d) (ho : w.ownsRow B 24 1 fv n vs) (hg : w.grownBy w' fv.ownBlock) : IsR w' H x r d :=
  ⟨(Kp.of_grown hg).heap h.1 (own_type ho h.1 (by decide)), (Kp.of_grown hg).own h.2 (fun g hg2 e => type_apart ho h.2 (by decide) g hg2 e)⟩

/-- What feeds answers. -/
def FdPost (w : World) (b : List UInt8) (e : Ending) (w' : World) : Prop :=
  ∃ A n c vs, e = .returned (.tuple #[.slice A n c, .int .i64 ((parse b).2.1.length : Int), .bool (parse b).2.2]) ∧ Frs w' w.heap.size (.slice A n c) (parse b).1 vs ∧ Below w.heap.size w w'

set_option maxHeartbeats 2000000 in
set_option maxRecDepth 4000 in
theorem feeds_any (v : Value) (ps : List (List UInt8)) (w : World) (hp : Pbs w v ps) (hl : ps.flatten.length ≤ 200000) (hpl : ps.length ≤ 9223372036854775807) :
    Calls Try.prog 20 #[v] w (FdPost w ps.flatten) := by
  obtain ⟨A, c, rfl, _, _⟩ := id hp
  have HP := Lib.hid hp
  obtain ⟨H, hH⟩ : ∃ H, H = w.heap.size := ⟨_, rfl⟩
  have HHH := Lib.hid hH
  clear hp
  go_enter Try.func20, Try.ntmps20
  go_wp2_with fail
  refine (new_any w).mono ?_
  rintro e w1 ⟨rfl, hw1⟩
  rw [← hH]
  have hr1 : w1.heap[H]? = some (.cells #[.slice none 0 0, .bool false] 50 (0, 0)) := by rw [hw1, hH]; exact heap_alloc_new w _
  have hb1 : Below w.heap.size w w1 := by rw [hw1]; exact (Below.refl _ _).alloc (Nat.le_refl _) _
  have HI1 := Lib.hid (show IsR w1 H (.slice none 0 0) [] false from ⟨hr1, World.ownsRow_nil w1 (H + 1) 5 1⟩)
  have HB1 := Lib.hid hb1
  clear hr1 hb1 hw1 hH
  go_wp2_with fail
  go_loopw [6, 7] (fun fv i wr => ∃ (k : Nat) (vs : List Value) (x : Value) (A6 : Option Addr) (n6 c6 : Nat), k ≤ ps.length ∧ i = .int .i64 k ∧ fv = .slice A6 n6 c6 ∧ Hid (Frs wr w.heap.size (.slice A6 n6 c6) (parse (ps.take k).flatten).1 vs) ∧ Hid (IsR wr H x (parse (ps.take k).flatten).2.1 (parse (ps.take k).flatten).2.2) ∧ Hid (∀ u ∈ vs, ∀ g, x.ownBlock = some g → u.ownBlock ≠ some g) ∧ Hid (Below w.heap.size w wr)) (fun _ i _ => ps.length - (intOf i).toNat)
  case atStart =>
    have e0 : parse ([] : List UInt8) = ([], [], false) := parse_short (by simp)
    refine ⟨0, [], .slice none 0 0, none, 0, 0, by omega, rfl, rfl, ?_, ?_, Lib.hid (fun u hu => by cases hu), HB1⟩
    · simp only [List.take_zero, List.flatten_nil, e0]
      exact Lib.hid (Frs.nil _ _)
    · simp only [List.take_zero, List.flatten_nil, e0]
      exact HI1
  case round =>
    clear HI1 HB1
    obtain ⟨k, vs, x, A6, n6, c6, hk, rfl, rfl, ho, hi, hdj, hb⟩ := hrel
    by_cases hlt : k < ps.length
    · obtain ⟨b, o, c2, u, e2, hbl, hcw, hpw⟩ := HP.out.get hlt
      injection e2 with e3 _ e4
      subst e3 e4
      have hcell := (hb.out.cell (p := ⟨b, o + k, none⟩) hbl).trans hcw
      have hflk := flat_le ps (k + 1)
      rw [flat_take ps k hlt, List.length_append] at hflk
      obtain ⟨Lk, hLk⟩ : ∃ Lk, Lk = (ps.take k).flatten := ⟨_, rfl⟩
      obtain ⟨p, hpk⟩ : ∃ p, p = ps[k] := ⟨_, rfl⟩
      have hLk1 : (ps.take (k + 1)).flatten = Lk ++ p := by rw [flat_take ps k hlt, hLk, hpk]
      rw [← hLk] at ho hi hflk
      rw [← hpk] at hpw hflk
      obtain ⟨A3, c3, rfl, _, _⟩ := id hpw
      have hpp := hpw.below hb.out
      obtain ⟨q, hq⟩ : ∃ q, q = parse Lk := ⟨_, rfl⟩
      have hrl := (rest_le Lk).2
      have hfl := parse_few Lk
      rw [← hq] at ho hi hrl hfl
      have HPP := Lib.hid hpp
      have HL1 := Lib.hid hLk1
      have HQ := Lib.hid hq
      have HFLK := Lib.hid (show Lk.length ≤ 200000 ∧ p.length ≤ 200000 by omega)
      have HRL := Lib.hid hrl
      have HFL := Lib.hid hfl
      obtain ⟨fs, r, dd⟩ := q
      cases dd with
      | true =>
        have hfd := feed_dead H x (.slice A3 p.length c3) wr hi.out.1
        have hnew : parse (Lk ++ p) = (fs, r, true) := by rw [parse_on (by rw [← HQ.out]), ← HQ.out]
        have HFD := Lib.hid hfd
        have HNEW := Lib.hid hnew
        clear hfd hnew hq hLk1 hpp hLk hpk hpw hcw hflk hrl hfl
        go_wp2_with fail
        refine HFD.out.mono ?_
        rintro e w2 ⟨rfl, rfl⟩
        clear HFD
        have hsz : w.heap.size ≤ wr.heap.size := hb.out.size
        go_wp2_with (at_builtin; refine wpList_append_frames rfl (.tmp 26) (.tmp 27) rfl w.heap.size fs.length (.slice A6 n6 c6) (.slice none 0 0) vs [] rfl rfl ho.out.1 (m := 0) (B2 := 0) (World.ownsRow_nil _ 0 24 1) (fun u hu => by cases hu) (by have := HFL.out; have := HFLK.out.1; simp at this ⊢; omega) hsz ?_; intro v3 w3 hown3 hg3 hat3)
        have hf3 := ho.out.app (Frs.nil wr w.heap.size) (Nat.le_refl _) hown3 hg3
        have hi3 := hi.out.app ho.out.1 hg3
        have hb3 := hb.out.grown hg3 hsz (fun g h => (ho.out.1.lt g h).1)
        simp only [List.append_nil] at hf3
        obtain ⟨A5, c5, rfl⟩ := hf3.form
        go_roundw
        case rel =>
          refine ⟨k + 1, vs, x, A5, _, c5, by omega, by go_num, rfl, ?_, ?_, hdj, Lib.hid hb3⟩
          · rw [HL1.out, HNEW.out]
            exact Lib.hid hf3
          · rw [HL1.out, HNEW.out]
            exact Lib.hid hi3
        case measure => simp [intOf] <;> omega
      | false =>
        have hfd := feed_any H x _ r p wr hi.out hpp (by have := HFLK.out; have := hrl; simp at this ⊢; omega)
        have hnew : parse (Lk ++ p) = (fs ++ (parse (r ++ p)).1, (parse (r ++ p)).2) := parse_two hq.symm
        obtain ⟨q2, hq2⟩ : ∃ q2, q2 = parse (r ++ p) := ⟨_, rfl⟩
        have hfl2 := parse_few (r ++ p)
        rw [← hq2] at hfd hnew hfl2
        have HFD := Lib.hid hfd
        have HNEW := Lib.hid hnew
        have HFL2 := Lib.hid (show q2.1.length ≤ 200000 + 200000 by rw [List.length_append] at hfl2; have := HFLK.out; simp at hrl; omega)
        clear hfd hnew hq hLk1 hpp hLk hpk hpw hcw hflk hrl hfl hq2 hfl2
        obtain ⟨gs, r2, d2⟩ := q2
        obtain ⟨er, her⟩ : ∃ er : Int, er = if d2 then 6 else 0 := ⟨_, rfl⟩
        rw [← her] at HFD
        clear her
        go_wp2_with fail
        refine HFD.out.mono ?_
        rintro e w2 ⟨A7, n7, c7, us, x2, rfl, hfr2, hir2, hob2, hdj2, hk2⟩
        have ho2 : Frs w2 w.heap.size (.slice A6 n6 c6) fs vs := by
          refine ⟨hk2.own ho.out.1 (fun g h e => ?_), fun j hj => ?_⟩
          · rcases e with e | e
            · exact own_type ho.out.1 hi.out.1 (by decide) (by rw [h]; exact congrArg some e)
            · exact type_apart ho.out.1 hi.out.2 (by decide) g e h
          · obtain ⟨A, n, c, h1, h2⟩ := ho.out.2 j hj
            refine ⟨A, n, c, h1, hk2.own h2 (fun g h e => ?_)⟩
            rcases e with e | e
            · exact own_type h2 hi.out.1 (by decide) (by rw [h]; exact congrArg some e)
            · exact hdj.out _ (List.mem_of_getElem? h1) g e h
        have hsz2 : w.heap.size ≤ w2.heap.size := Nat.le_trans hb.out.size hk2.size
        have hbw2 : Below w.heap.size w w2 := hb.out.trans (hk2.below hb.out.size (fun g e => by
          rcases e with e | e
          · rw [e, HHH.out]; exact Nat.le_refl _
          · have := (hi.out.2.lt g e).1; have := HHH.out; omega))
        have HO2 := Lib.hid ho2
        have HF2 := Lib.hid hfr2
        have HI2 := Lib.hid hir2
        have HBW2 := Lib.hid hbw2
        have HSZ := Lib.hid hsz2
        have hdj3 : ∀ u ∈ vs ++ us, ∀ g, x2.ownBlock = some g → u.ownBlock ≠ some g := by
          intro u hu g hg
          rcases List.mem_append.1 hu with hu | hu
          · rcases hob2 with e | e | ⟨g2, e, hge⟩
            · exact hdj.out u hu g (by rw [← e]; exact hg)
            · rw [e] at hg; cases hg
            · intro hug
              have := ho.out.lt u hu g hug
              rw [e] at hg
              injection hg with hg
              omega
          · exact hdj2 u hu g hg
        have HDJ := Lib.hid hdj3
        have HBS := Lib.hid hb.out.size
        clear ho2 hfr2 hir2 hbw2 hsz2 hdj2 hob2 hk2 HFD hdj3
        go_wp2_with (at_builtin; refine wpList_append_frames rfl (.tmp 26) (.tmp 27) rfl w.heap.size fs.length (.slice A6 n6 c6) (.slice A7 n7 c7) vs us rfl rfl HO2.out.1 HF2.out.1 HF2.out.one (by have := HFL.out; have := HFL2.out; have := HFLK.out; simp at this ⊢; omega) HSZ.out ?_; intro v3 w3 hown3 hg3 hat3)
        have hf3 := HO2.out.app HF2.out HBS.out hown3 hg3
        have hi3 := HI2.out.app HO2.out.1 hg3
        have hb3 := HBW2.out.grown hg3 HSZ.out (fun g h => (HO2.out.1.lt g h).1)
        obtain ⟨A5, c5, rfl⟩ := hf3.form
        go_roundw
        case rel =>
          refine ⟨k + 1, vs ++ us, x2, A5, _, c5, by omega, by go_num, rfl, ?_, ?_, HDJ, Lib.hid hb3⟩
          · rw [HL1.out, HNEW.out]
            exact Lib.hid hf3
          · rw [HL1.out, HNEW.out]
            exact Lib.hid hi3
        case measure => simp [intOf] <;> omega
    · have hk2 : k = ps.length := by omega
      rw [hk2, List.take_length] at ho hi
      obtain ⟨q, hq⟩ : ∃ q, q = parse ps.flatten := ⟨_, rfl⟩
      have fin : ∀ (w' : World), w' = wr → FdPost w ps.flatten (.returned (.tuple #[.slice A6 n6 c6, .int .i64 (q.2.1.length : Int), .bool q.2.2])) w' := by
        rintro w' rfl
        exact ⟨A6, n6, c6, vs, by rw [hq], ho.out, hb.out⟩
      have hh := held_any H x q.2.1 q.2.2 wr (by rw [hq]; exact hi.out.1) (by rw [hq]; exact own_pb hi.out.2)
      have hd := dead_any H x q.2.2 wr (by rw [hq]; exact hi.out.1)
      obtain ⟨fs, r, d⟩ := q
      obtain ⟨n, hn⟩ : ∃ n, n = r.length := ⟨_, rfl⟩
      simp only [← hn] at fin hh hd
      have FIN := Lib.hid fin
      have HHD := Lib.hid hh
      have HD := Lib.hid hd
      clear fin hh hd hq hn
      go_wp2_with fail
      refine HHD.out.mono ?_
      rintro e w2 ⟨rfl, rfl⟩
      go_wp2_with fail
      refine HD.out.mono ?_
      rintro e w2 ⟨rfl, rfl⟩
      go_wp2_with fail
      exact bodyPost_ret (v := .tuple #[.slice A6 n6 c6, .int .i64 (n : Int), .bool d]) (by simp [results, Try.results20, go_sem]) rfl (FIN.out _ rfl)
end Go.Proofs.Ytggoclmboemmlaa
