/- Penal: the steps of PenalRuns' loop. -/
import Derived.Test.YtfcogjdnnnpmdaaDoorRP
namespace Go.Proofs.YtfcogjdnnnpmdaaDoor
open Go.RowKit
set_option maxRecDepth 20000

theorem hit_good (a b d now : Int) (hb : inI b) (hd : inI d) (h0 : 0 ≤ d) (hn : inI now) : (1 ≤ hitL a b now ∧ hitL a b now ≤ 6) ∧ (inI (hitU a b d now) ∧ 0 ≤ hitU a b d now) := by
  have hL := atL_bd a b now (dwn_nonneg b now hb hn)
  have hM : 1 ≤ hitL a b now ∧ hitL a b now ≤ 6 := by unfold hitL upL; split <;> omega
  refine ⟨hM, ?_⟩
  have hla := ladAt_bd (hitL a b now - 1).toNat (by omega)
  have hs := sadd_bd now (ladAt (hitL a b now - 1).toNat) hn (by omega) (by omega)
  have hu := atU_in a b d now hd
  have hu0 : 0 ≤ atU a b d now := by unfold atU; split <;> (try split) <;> omega
  obtain ⟨⟨s1, s2⟩, _⟩ := hs
  obtain ⟨u1, u2⟩ := hu
  unfold hitU ban inI
  omega
theorem pl_at {ids : List Nat} (hu : Up ids) {x p : Nat} (h : ids[p]? = some x) : Pl ids x p := by
  refine ⟨Nat.le_of_lt (List.getElem?_eq_some_iff.1 h).1, fun j y hj hy => hu j p y x hj hy h, fun j y hj hy => ?_⟩
  rcases Nat.lt_or_ge p j with h5 | h5
  · exact Nat.le_of_lt (hu p j x y h5 h hy)
  · have e : j = p := by omega
    rw [e, h] at hy
    injection hy with hy
    omega
theorem pl_above {ids : List Nat} (hu : Up ids) {x p : Nat} (h : Pl ids x p) : ∀ k y, p < k → ids[k]? = some y → x < y := fun k y hk hy => by
  have hl := (List.getElem?_eq_some_iff.1 hy).1
  obtain ⟨z, hz⟩ : ∃ z, ids[p]? = some z := ⟨ids[p]'(by omega), List.getElem?_eq_getElem _⟩
  have h1 := h.2.2 p z (Nat.le_refl _) hz
  have h2 := hu p k z y hk hz hy
  omega
theorem set_parts {α : Type} (l : List α) (p : Nat) (a : α) (h : p < l.length) : l.set p a = l.take p ++ [a] ++ l.drop (p + 1) := by
  rw [List.set_eq_take_append_cons_drop, if_pos h, List.append_assoc]
  rfl
theorem mid_get {α : Type} (l : List α) (p : Nat) (a : α) (h : p ≤ l.length) : (l.take p ++ [a] ++ l.drop p)[p]? = some a := by
  have h1 : (l.take p).length = p := by rw [List.length_take]; omega
  rw [List.append_assoc, List.getElem?_append_right (by omega), h1, Nat.sub_self]
  rfl
theorem set_same {α : Type} (l : List α) (p : Nat) (a : α) (h : l[p]? = some a) : l.set p a = l := by
  obtain ⟨h1, h2⟩ := List.getElem?_eq_some_iff.1 h
  rw [← h2]
  exact List.set_getElem_self h1
theorem fd_unique {l : List D.Rw} (hu : Up (l.map (·.1))) {x : Nat} {m m' : Mk} {t t' : Bool} (h : D.Fd l x m t) (h' : D.Fd l x m' t') : m = m' ∧ t = t' := by
  rcases h with ⟨rfl, h1⟩ | ⟨rfl, rfl, h1⟩ <;> rcases h' with ⟨rfl, h2⟩ | ⟨rfl, rfl, h2⟩
  · obtain ⟨i, hi⟩ := List.getElem?_of_mem h1
    obtain ⟨j, hj⟩ := List.getElem?_of_mem h2
    have e := up_inj hu (x := x) (i := i) (j := j) (by rw [List.getElem?_map, hi]; rfl) (by rw [List.getElem?_map, hj]; rfl)
    subst e
    rw [hi] at hj
    injection hj with hj
    injection hj with _ hj
    exact ⟨hj, rfl⟩
  · exact absurd rfl (h2 _ h1)
  · exact absurd rfl (h1 _ h2)
  · exact ⟨rfl, rfl⟩
/-- What becomes of the rows l when x is hit. -/
def HitR (M : Int) (l : List D.Rw) (x : Nat) (now m1 m2 m3 e : Int) (l' : List D.Rw) : Prop :=
  (e = 14 ∧ (m1 = 0 ∧ m2 = 0 ∧ m3 = 0) ∧ l = l' ∧ ¬(1 ≤ x ∧ x ≤ 2147483647)) ∨
  (e = 10 ∧ (m1 = 0 ∧ m2 = 0 ∧ m3 = 0) ∧ l = l' ∧ (1 ≤ x ∧ x ≤ 2147483647) ∧ (∀ f ∈ l, f.1 ≠ x) ∧ M ≤ (l.length : Int)) ∨
  (e = 0 ∧ (1 ≤ x ∧ x ≤ 2147483647) ∧ Up (l.map (·.1)) ∧ ∃ (p q : Nat) (a b d : Int) (t : Bool), Pl (l.map (·.1)) x p ∧ D.Fd l x (a, b, d) t ∧ (inI b ∧ inI d) ∧ (t = true ∨ (l.length : Int) < M) ∧ (q = p ∨ q = p + 1) ∧ ((l.map (·.1))[p]? = some x → q = p + 1) ∧ ((l.map (·.1))[p]? ≠ some x → q = p) ∧ (m1 = hitL a b now ∧ m2 = now ∧ m3 = hitU a b d now) ∧ l' = l.take p ++ [(x, m1, m2, m3)] ++ l.drop q)
section
variable {w wX : World} {B R : Nat} {M : Int} {l ld : List D.Rw} {A : Option Addr} {n c : Nat} {act : Option (Nat × Int × Nat × Int)}
theorem st_hit (h : St w wX B R M l ld A n c act) (hlw : Lw w) (hz : 0 < w.heap.size) (x : Nat) (now : Int) (hnI : inI now) :
    Calls Tryd.prog 18 #[.pointer (some ⟨B, 0, none⟩), .int .u32 (x : Int), .int .i64 now] wX fun r w' => ∃ (m1 m2 m3 e : Int) (l' : List D.Rw), r = .returned (.tuple #[mV m1 m2 m3, .int .i64 e]) ∧ HitR M l x now m1 m2 m3 e l' ∧ St w w' B R M l' ld A n c act := by
  obtain ⟨vi, vt, h3⟩ := h.ir
  have hne := bk_ne h.bk h3
  have hl : l.length ≤ 20 := by have := h.lm; have := h.m20; omega
  have hvi : ∀ g, vi.ownBlock = some g → g < wX.heap.size := fun g hg => (ownlt h3.rio g hg).2
  have hvt : ∀ g, vt.ownBlock = some g → g < wX.heap.size := fun g hg => (ownlt h3.rto g hg).2
  have hHit : ∀ a b d, inI a → inI b → inI d → ∀ W, Below wX.heap.size wX W → Calls Tryd.prog 12 #[mV a b d, .int .i64 now] W fun r w' => r = .returned (mV (hitL a b now) now (hitU a b d now)) ∧ Below W.heap.size W w' := fun a b d h1 h2 h4 W hb => by
    have hb2 := h.bl.trans (hb.mono h.bl.size)
    exact hit_any a b d now W (hlw.below hb2 hz) (Nat.lt_of_lt_of_le hz hb2.size) h1 h2 h4 hnI
  by_cases hx : ∃ f ∈ l, f.1 = x
  · obtain ⟨⟨y, a, b, d⟩, hf, e⟩ := hx
    have e : y = x := e
    subst e
    obtain ⟨q0, hq0⟩ := List.getElem?_of_mem hf
    obtain ⟨g1, g2, g3, g4⟩ := h.gp _ hf
    have hql : q0 < l.length := (List.getElem?_eq_some_iff.1 hq0).1
    have hids : (l.map (·.1))[q0]? = some y := by rw [List.getElem?_map, hq0]; rfl
    have hok := h3.ok y (List.mem_of_getElem? hids)
    obtain ⟨k1, k2, k3⟩ := hit_good a b d now g2 g3 g4 hnI
    have hH := hHit a b d g1 g2 g3
    obtain ⟨M', hM'⟩ : ∃ M', M' = hitL a b now := ⟨_, rfl⟩
    obtain ⟨U', hU'⟩ : ∃ U', U' = hitU a b d now := ⟨_, rfl⟩
    rw [← hM', ← hU'] at hH
    rw [← hM'] at k1
    rw [← hU'] at k2 k3
    refine (bhit_ok B R y a b d now M' U' M true vi vt (l.map (·.1)) ((l.map (·.2)).set q0 (M', now, U')) wX h.bk (lt_of_block h3.row) (gets_at h3 (by omega) hq0) hH (by omega) hne hvi hvt ?_).mono ?_
    · intro W hb
      refine (put_there R M vi vt _ _ y M' now U' W (h3.after hb) (by rw [List.length_map]; omega) (List.mem_of_getElem? hids)).mono ?_
      rintro r w' ⟨rfl, hc, p, hp, hi⟩
      have e := up_inj h3.up hp hids
      subst e
      exact ⟨rfl, hc, p, vi, vt, hi, by rw [List.getElem?_set_self (by rw [List.length_map]; exact hql)]⟩
    · rintro r w' ⟨rfl, hc, vi', vt', hi⟩
      have e1 : (l.set q0 (y, M', now, U')).map (·.1) = l.map (·.1) := by rw [List.map_set]; exact set_same _ _ _ hids
      have e2 : (l.set q0 (y, M', now, U')).map (·.2) = (l.map (·.2)).set q0 (M', now, U') := by rw [List.map_set]
      rw [← e1, ← e2] at hi
      refine ⟨M', now, U', 0, l.set q0 (y, M', now, U'), rfl, .inr (.inr ⟨rfl, hok, h3.up, q0, q0 + 1, a, b, d, true, pl_at h3.up hids, .inl ⟨rfl, hf⟩, ⟨g2, g3⟩, .inl rfl, .inr rfl, fun _ => rfl, fun hn => absurd hids hn, ⟨hM', rfl, hU'⟩, set_parts _ _ _ hql⟩), h.prog h3 hc hi (by rw [List.length_set]; exact h.lm) fun e he => ?_⟩
      rcases List.mem_or_eq_of_mem_set he with h1 | rfl
      · exact h.gp e h1
      · exact ⟨inI_mk (by show _ ≤ M'; omega) (by show M' ≤ _; omega), hnI, k2, k3⟩
  · have hq : ∀ e ∈ l, e.1 ≠ x := fun e he hx' => hx ⟨e, he, hx'⟩
    have hnm : x ∉ l.map (·.1) := fun hm => by
      obtain ⟨e, he, hx'⟩ := List.mem_map.1 hm
      exact hq e he hx'
    have i0 : inI 0 := inI_mk (by decide) (by decide)
    have hG := gets_none h3 (by omega) hq
    obtain ⟨k1, k2, k3⟩ := hit_good 0 0 0 now i0 i0 (by decide) hnI
    have hH := hHit 0 0 0 i0 i0 i0
    obtain ⟨M', hM'⟩ : ∃ M', M' = hitL 0 0 now := ⟨_, rfl⟩
    obtain ⟨U', hU'⟩ : ∃ U', U' = hitU 0 0 0 now := ⟨_, rfl⟩
    rw [← hM', ← hU'] at hH
    rw [← hM'] at k1
    rw [← hU'] at k2 k3
    by_cases hok : 1 ≤ x ∧ x ≤ 2147483647
    · by_cases hroom : (l.length : Int) < M
      · obtain ⟨p, hp⟩ := pl_exists h3.up x
        have hpl : p ≤ l.length := by have := hp.1; rw [List.length_map] at this; exact this
        refine (bhit_ok B R x 0 0 0 now M' U' M false vi vt ((l.map (·.1)).take p ++ [x] ++ (l.map (·.1)).drop p) ((l.map (·.2)).take p ++ [(M', now, U')] ++ (l.map (·.2)).drop p) wX h.bk (lt_of_block h3.row) hG hH (by omega) hne hvi hvt ?_).mono ?_
        · intro W hb
          refine (put_new R M vi vt _ _ x M' now U' W (h3.after hb) (by rw [List.length_map]; omega) hnm hok (by rw [List.length_map]; have := h.m20; omega)).mono ?_
          rintro r w' ⟨rfl, hc, p', vi', vt', hp', hi⟩
          have e := pl_unique hp' hp
          subst e
          exact ⟨rfl, hc, p', vi', vt', hi, mid_get _ _ _ (by rw [List.length_map]; exact hpl)⟩
        · rintro r w' ⟨rfl, hc, vi', vt', hi⟩
          have e1 : (l.take p ++ [(x, M', now, U')] ++ l.drop p).map (·.1) = (l.map (·.1)).take p ++ [x] ++ (l.map (·.1)).drop p := by simp [List.map_take, List.map_drop]
          have e2 : (l.take p ++ [(x, M', now, U')] ++ l.drop p).map (·.2) = (l.map (·.2)).take p ++ [(M', now, U')] ++ (l.map (·.2)).drop p := by simp [List.map_take, List.map_drop]
          rw [← e1, ← e2] at hi
          refine ⟨M', now, U', 0, _, rfl, .inr (.inr ⟨rfl, hok, h3.up, p, p, 0, 0, 0, false, hp, .inr ⟨rfl, rfl, hq⟩, ⟨i0, i0⟩, .inr hroom, .inl rfl, fun hn => absurd (List.mem_of_getElem? hn) hnm, fun _ => rfl, ⟨hM', rfl, hU'⟩, rfl⟩), h.prog h3 hc hi (by rw [List.length_append, List.length_append, List.length_take, List.length_drop, List.length_singleton]; omega) fun e he => ?_⟩
          simp only [List.mem_append, List.mem_singleton] at he
          rcases he with (h1 | rfl) | h1
          · exact h.gp e (List.mem_of_mem_take h1)
          · exact ⟨inI_mk (by show _ ≤ M'; omega) (by show M' ≤ _; omega), hnI, k2, k3⟩
          · exact h.gp e (List.mem_of_mem_drop h1)
      · refine (bhit_full B R x 0 0 0 now M' U' false wX h.bk hG hH (fun W hb => put_full R M vi vt _ _ x M' now U' W (h3.after hb) (by rw [List.length_map]; omega) hnm hok (by rw [List.length_map]; have := h.m20; omega))).mono ?_
        rintro r w' ⟨rfl, hb⟩
        exact ⟨0, 0, 0, 10, l, rfl, .inr (.inl ⟨rfl, ⟨rfl, rfl, rfl⟩, rfl, hok, hq, by omega⟩), h.after hb⟩
    · refine (bhit_id B R x 0 0 0 now M' U' false wX h.bk hG hH (fun W hb => put_id R M vi vt _ _ x M' now U' W (h3.after hb) (by rw [List.length_map]; omega) hok)).mono ?_
      rintro r w' ⟨rfl, hb⟩
      exact ⟨0, 0, 0, 14, l, rfl, .inl ⟨rfl, ⟨rfl, rfl, rfl⟩, rfl, hok⟩, h.after hb⟩
theorem St.find {x : Nat} {m1 m2 m3 : Int} {t : Bool} {lp : List D.Rw} (h : St w wX B R M lp l A n c act) (hu : Up (l.map (·.1))) (hfd : D.Fd l x (m1, m2, m3) t) :
    ∀ W, Below wX.heap.size wX W → Calls Tryd.prog 22 #[.slice A n c, .int .u32 (x : Int)] W fun r w' => r = .returned (.tuple #[mV m1 m2 m3, .bool t]) ∧ Below W.heap.size W w' := fun W hb => by
  have h' := h.after hb
  have hl : n ≤ 20 := by have := h.ln; have := h.lq; have := h.m20; omega
  refine (D.find_any A n c x l W h.ln (D.Rs.of_own h'.ow) (by omega)).mono ?_
  rintro r w' ⟨⟨a, b, d, t', rfl, hf⟩, hb'⟩
  obtain ⟨e1, e2⟩ := fd_unique hu hf hfd
  injection e1 with e1 e3
  injection e3 with e3 e4
  subst e1 e2 e3 e4
  exact ⟨rfl, hb'⟩
theorem st_hit_doc {l' : List D.Rw} {x : Nat} {now m1 m2 m3 e : Int} (h : St w wX B R M l' l A n c act) (hr : HitR M l x now m1 m2 m3 e l') (hu : Up (l.map (·.1))) (hnI : inI now) :
    Calls Tryd.prog 19 #[.slice A n c, .int .i64 M, .int .u32 (x : Int), .int .i64 now] wX fun r w' => ∃ (A' : Option Addr) (n' c' : Nat), r = .returned (.tuple #[.slice A' n' c', mV m1 m2 m3, .int .i64 e]) ∧ St w w' B R M l' l' A' n' c' act ∧ Below wX.heap.size wX w' := by
  rcases hr with ⟨rfl, ⟨rfl, rfl, rfl⟩, rfl, hok⟩ | ⟨rfl, ⟨rfl, rfl, rfl⟩, rfl, hok, hq, hM⟩ | ⟨rfl, hok, _, p, q, a, b, d, t, hp, hfd, ⟨hb, hd⟩, hroom, hqp, hq1, hq2, ⟨rfl, rfl, rfl⟩, hl'⟩
  · refine (D.hitone_id A n c x M now wX hok).mono ?_
    rintro r w' ⟨rfl, hb⟩
    exact ⟨A, n, c, rfl, h.after hb, hb⟩
  · refine (D.hitone_full A n c x M now wX hok (by rw [h.ln]; exact hM) (h.find hu (.inr ⟨rfl, rfl, hq⟩))).mono ?_
    rintro r w' ⟨rfl, hb⟩
    exact ⟨A, n, c, rfl, h.after hb, hb⟩
  · have hl : n ≤ 20 := by have := h.ln; have := h.lq; have := h.m20; omega
    refine (D.hitone_core A n c x M l m2 wX h.ln (D.Rs.of_own h.ow) (by omega) a b d (hitL a b m2) (hitU a b d m2) t (h.find hu hfd) (fun W => rhit_any a b d m2 W hb hd hnI) hok (by rw [h.ln]; exact hroom) p hp q hqp hq1 hq2 (pl_above hu hp)).mono ?_
    rintro r w' ⟨v', rfl, hb', ho⟩
    obtain ⟨A', c', rfl⟩ := D.own_form4 ho
    rw [← hl'] at ho ⊢
    exact ⟨A', _, c', rfl, h.refd hb' ho h.lm h.gp, hb'⟩
theorem st_sweep_doc {lp : List D.Rw} (h : St w wX B R M lp l A n c act) (now : Int) (hnI : inI now) :
    Calls Tryd.prog 20 #[.slice A n c, .int .i64 now] wX fun r w' => ∃ (A' : Option Addr) (n' c' : Nat), r = .returned (.slice A' n' c') ∧ n' = (l.filter (D.kp now)).length ∧ St w w' B R M lp (l.filter (D.kp now)) A' n' c' act := by
  have hl : n ≤ 20 := by have := h.ln; have := h.lq; have := h.m20; omega
  refine (D.sweep_any A n c l now wX h.ln (D.Rs.of_own h.ow) (by omega) (fun e he => ⟨(h.gd e he).2.1, (h.gd e he).2.2.1⟩) hnI).mono ?_
  rintro r w' ⟨v', rfl, ho, hb⟩
  obtain ⟨A', c', rfl⟩ := D.own_form4 ho
  exact ⟨A', _, c', rfl, rfl, h.refd hb ho (by have := List.length_filter_le (D.kp now) l; have := h.lq; omega) fun e he => h.gd e (List.mem_filter.1 he).1⟩
theorem st_sweep (h : St w wX B R M l ld A n c act) (now : Int) (hnI : inI now) :
    Calls Tryd.prog 21 #[.pointer (some ⟨B, 0, none⟩), .int .i64 now] wX fun r w' => r = .returned (.int .i64 ((l.length - (l.filter (D.kp now)).length : Nat) : Int)) ∧ St w w' B R M (l.filter (D.kp now)) ld A n c act := by
  obtain ⟨vi, vt, h3⟩ := h.ir
  have hl : l.length ≤ 20 := by have := h.lm; have := h.m20; omega
  refine (bsweep_any B R now M vi vt l wX h.bk h3 (by omega) (fun e he => ⟨(h.gp e he).1, (h.gp e he).2.1, (h.gp e he).2.2.1⟩) hnI).mono ?_
  rintro r w' ⟨rfl, hc, _, vi', vt', hi⟩
  exact ⟨rfl, h.prog h3 hc hi (by have := List.length_filter_le (D.kp now) l; have := h.lm; omega) fun e he => h.gp e (List.mem_filter.1 he).1⟩
theorem st_mark {x : Nat} {a b d : Int} {t : Bool} (h : St w wX B R M l ld A n c act) (hfd : D.Fd l x (a, b, d) t) (z : Int) (hz : inI z) :
    (Calls Tryd.prog 23 #[.pointer (some ⟨B, 0, none⟩), .int .u32 (x : Int), .int .i64 z] wX fun r w' => r = .returned (mV (atL a b z) (atS a b z) (atU a b d z)) ∧ Below wX.heap.size wX w') ∧ inI b ∧ inI d ∧ 0 ≤ d := by
  obtain ⟨vi, vt, h3⟩ := h.ir
  have hl : l.length ≤ 20 := by have := h.lm; have := h.m20; omega
  rcases hfd with ⟨rfl, hm⟩ | ⟨rfl, hm, hq⟩
  · obtain ⟨q0, hq0⟩ := List.getElem?_of_mem hm
    obtain ⟨g1, g2, g3, g4⟩ := h.gp _ hm
    exact ⟨bmark B R x a b d z true wX h.bk (gets_at h3 (by omega) hq0) g1 g2 g3 hz, g2, g3, g4⟩
  · injection hm with e1 hm
    injection hm with e2 e3
    subst e1 e2 e3
    have i0 : inI 0 := inI_mk (by decide) (by decide)
    exact ⟨bmark B R x 0 0 0 z false wX h.bk (gets_none h3 (by omega) hq) i0 i0 i0 hz, i0, i0, by decide⟩
/-- What the last test of a round calls. -/
structure Tl (wX : World) (B : Nat) (A : Option Addr) (n c x : Nat) (z a b d L S U : Int) (ids : List Nat) : Prop where
  c5 : ∀ W, Below wX.heap.size wX W → Calls Tryd.prog 23 #[.pointer (some ⟨B, 0, none⟩), .int .u32 (x : Int), .int .i64 z] W fun r w' => r = .returned (mV L S U) ∧ Below W.heap.size W w'
  c9 : ∀ W, Calls Tryd.prog 11 #[mV a b d, .int .i64 z] W fun r w' => r = .returned (mV L S U) ∧ Below W.heap.size W w'
  c18 : ∀ W, Below wX.heap.size wX W → Calls Tryd.prog 24 #[.pointer (some ⟨B, 0, none⟩), .int .u32 (x : Int), .int .i64 z] W fun r w' => r = .returned (.bool (decide (z < d))) ∧ Below W.heap.size W w'
  c28 : ∀ W, Below wX.heap.size wX W → Calls Tryd.prog 26 #[.pointer (some ⟨B, 0, none⟩)] W fun r w' => ∃ v', r = .returned v' ∧ S32 w' v' ids ∧ Below W.heap.size W w'
  c30 : ∀ W, Below wX.heap.size wX W → Calls Tryd.prog 27 #[.slice A n c] W fun r w' => ∃ v', r = .returned v' ∧ S32 w' v' ids ∧ Below W.heap.size W w'
  c31 : ∀ W v v', S32 W v ids → S32 W v' ids → Calls Tryd.prog 25 #[v, v'] W fun r w' => r = .returned (.bool true) ∧ Below W.heap.size W w'
theorem until_at (a b d z : Int) (h : 0 ≤ d) : decide (z < atU a b d z) = decide (z < d) := by
  have e : z < atU a b d z ↔ z < d := by
    unfold atU
    split
    · exact Iff.rfl
    · split <;> omega
  simp only [e]
theorem st_tail {x : Nat} {a b d : Int} {t : Bool} (h : St w wX B R M l l A n c act) (hfd : D.Fd l x (a, b, d) t) (z : Int) (hz : inI z) : Tl wX B A n c x z a b d (atL a b z) (atS a b z) (atU a b d z) (l.map (·.1)) := by
  obtain ⟨_, hb, hd, h0⟩ := st_mark h hfd z hz
  have hl : l.length ≤ 20 := by have := h.lm; have := h.m20; omega
  refine ⟨fun W hW => (st_mark (h.after hW) hfd z hz).1, fun W => rat_any a b d z W hb hd hz, fun W hW => ?_, fun W hW => ?_, fun W hW => ?_, fun W v v' h1 h2 => same_eq v v' _ W (by rw [List.length_map]; omega) h1 h2⟩
  · have h1 := bbanned_any B x _ _ _ z W (st_mark (h.after hW) hfd z hz).1 (atU_in a b d z hd) hz
    rw [until_at a b d z h0] at h1
    exact h1
  · have h' := h.after hW
    obtain ⟨vi, vt, h3⟩ := h'.ir
    exact (bplayers B R M vi vt _ _ W h'.bk h3 (by rw [List.length_map]; omega)).mono fun r w' ⟨v', h1, h2, h4⟩ => ⟨v', h1, S32.of_own h2, h4⟩
  · have h' := h.after hW
    refine (D.players_any A n c l W h.ln (D.Rs.of_own h'.ow) (by have := h.ln; omega)).mono fun r w' ⟨v', h1, h2, h4⟩ => ⟨v', h1, ?_, h4⟩
    exact S32.of_own (by rw [List.length_map, ← h.ln]; exact h2)
end
end Go.Proofs.YtfcogjdnnnpmdaaDoor
