/- Verb: copies of lists put behind lists; a fresh message; With, And. -/
import Derived.Test.YtkhhbmbjmfdgdaaDoorVG
namespace Go.Proofs.YtkhhbmbjmfdgdaaDoor
open Go.RowKit
set_option maxRecDepth 20000

theorem Kp.none {w w' : World} (hg : w.grownBy w' Option.none) : Kp [] w w' := fun k _ _ _ h _ => (hg.block k (lt_of_block h) (by simp)).trans h
theorem Kp.weak {ts us : List TypeId} {w w' : World} (h : Kp ts w w') (hs : ∀ t ∈ ts, t ∈ us) : Kp us w w' := fun k cs T fr hk hT => h k cs T fr hk (fun hm => hT (hs T hm))
theorem Lss.get32 {w : World} {B : Nat} : ∀ {vs : List Value} {us : List (List Nat)} (k : Nat) (hk : k < us.length), Lss w B vs us → ∃ a c, vs[k]? = some (.slice a us[k].length c) ∧ Rd w B a (uv .u32 us[k]) ∧ ∀ n ∈ us[k], n < 4294967296
  | [], _ :: _, _, _, h => h.elim
  | _, [], _, hk, _ => absurd hk (by simp)
  | v :: vs, u :: us, 0, _, ⟨⟨a, c, hv, hr, hn⟩, _⟩ => ⟨a, c, by rw [hv]; rfl, hr, hn⟩
  | v :: vs, u :: us, k + 1, hk, ⟨_, h⟩ => by
    obtain ⟨a, c, h1, h2, h3⟩ := Lss.get32 k (by simpa using hk) h
    exact ⟨a, c, by simpa using h1, h2, h3⟩

def CopPost (w : World) (B : Nat) (L : List (List Nat)) (q : Nat) (e : Ending) (w' : World) : Prop :=
  ∃ a c vs, e = .returned (.slice a q c) ∧ w'.ownsRow B 62 1 (.slice a q c) q vs ∧ Lq w' B vs L ∧ Below B w w' ∧ Kp [62] w w'

set_option maxHeartbeats 4000000 in
theorem copies_any (B : Nat) (aT aA : Option Addr) (cT cA p : Nat) (vs1 us : List Value) (L1 L2 : List (List Nat)) (w : World) (hp : p = L1.length) (oT : w.ownsRow B 62 1 (.slice aT p cT) p vs1) (l1 : Lq w B vs1 L1)
    (rA : Rd w B aA us) (l2 : Lss w B us L2) (hB : B ≤ w.heap.size) (h1 : L1.length ≤ 1000) (h2 : L2.length ≤ 1000) (hu : ∀ u ∈ L2, u.length ≤ 1000) :
    Calls Tryd.prog 39 #[.slice aT p cT, .slice aA L2.length cA] w (CopPost w B (L1 ++ L2) (p + L2.length)) := by
  have hul := l2.length
  have HO := Lib.hid oT
  have HL1 := Lib.hid l1
  have HR := Lib.hid rA
  have HL2 := Lib.hid l2
  have HU := Lib.hid hu
  have HP := Lib.hid hp
  have HUL := Lib.hid hul
  have hp1 : p ≤ 1000 := by omega
  obtain ⟨n, hn⟩ : ∃ n, n = L2.length := ⟨_, rfl⟩
  rw [← hn] at h2 ⊢
  have HN := Lib.hid hn
  clear oT l1 rA l2 hu hp hul h1 hn
  go_enter Tryd.func39, Tryd.ntmps39
  go_wp2_with fail
  go_loopw [0, 9] (fun v i wr => ∃ (j q : Nat) (a : Option Addr) (c : Nat) (vs : List Value), j ≤ n ∧ i = .int .i64 j ∧ v = .slice a q c ∧ q ≤ 2000 ∧ Hid (q = p + j) ∧ Hid (wr.ownsRow B 62 1 (.slice a q c) q vs) ∧ Hid (Lq wr B vs (L1 ++ L2.take j)) ∧ Hid (Below B w wr) ∧ Hid (Kp [62] w wr)) (fun _ i _ => n - (intOf i).toNat)
  case atStart => exact ⟨0, p, _, _, vs1, by omega, rfl, rfl, by omega, rfl, HO, by simpa using HL1, Below.refl _ _, fun _ _ _ _ h _ => h⟩
  case round =>
    obtain ⟨j, q, a, c, vs, hj, rfl, rfl, hq2, hq, ho, hl, hb, hk⟩ := hrel
    by_cases hlt : j < n
    · have hj2 : j < L2.length := by have := HN.out; omega
      obtain ⟨g, o, rfl, hgB, hcell⟩ := HR.out.get (k := j) (by have := HUL.out; omega)
      obtain ⟨au, cu, hvu, hru, hnu⟩ := Lss.get32 j hj2 HL2.out
      obtain ⟨u, huu⟩ : ∃ u, u = L2[j] := ⟨_, rfl⟩
      rw [← huu] at hvu hru hnu
      have huj : us[j]'(by have := HUL.out; omega) = .slice au u.length cu := by
        have := List.getElem?_eq_some_iff.1 hvu
        exact this.2
      rw [huj] at hcell
      have hcw := (hb.out.cell (p := ⟨g, o + j, none⟩) hgB).trans hcell
      have hul1 : u.length ≤ 1000 := HU.out u (by rw [huu]; exact List.getElem_mem _)
      have HRU := Lib.hid (hru.below hb.out (Nat.le_refl _))
      have HNU := Lib.hid hnu
      have htk : L1 ++ L2.take (j + 1) = (L1 ++ L2.take j) ++ [u] := by
        rw [List.take_succ_eq_append_getElem hj2, huu, List.append_assoc]
      have HTK := Lib.hid htk
      have hbz := hb.out.size
      have hBw : B ≤ wr.heap.size := Nat.le_trans hB hbz
      have hvsl : vs.length = q := by have := ho.out.1; simpa using this
      obtain ⟨i0, hi, hz0, hz1, hz2⟩ := info_parts Tryd.info67
      obtain ⟨i1, hj1, hy0, hy1, hy2⟩ := info_parts Tryd.info62
      have hm63 : (0 : Nat) + u.length ≤ maxLen := by unfold maxLen; omega
      have hm47 : ((0 : Nat) + u.length) * 4 ≤ 140737488355328 := by omega
      have hn63 : q + 1 ≤ maxLen := by unfold maxLen; omega
      have hn47 : (q + 1) * 24 ≤ 140737488355328 := by omega
      clear hcell hru hnu huj hvu huu htk hbz
      have on1 : ∀ an cn, ∀ x ∈ [Value.slice an u.length cn], x.oneCell' = true := by intro an cn x hx; simp at hx; subst hx; rfl
      go_wp2_with (at_builtin; first
        | (refine wpList_append_rd rfl (.const (.slice none 0 0)) (.tmp 14) 62 67 4 (.int .u32 0) i0 rfl Tryd.underlying62 hi hz0 hz1 hz2 rfl B B (.slice none 0 0) [] (uv .u32 u) au cu u.length u.length rfl rfl (uv_len _ _).symm (by simp [uv_len]) (World.ownsRow_nil _ _ _ _) HRU.out (uv_one _ _) hm63 hm47 hBw ?_; intro an cn w2 hown2 hg2; have k2 := Kp.none (show wr.grownBy w2 Option.none from hg2); have hb2 := hb.out.grown hg2 hBw (fun k hk => by simp [Value.ownBlock] at hk); have hbs3 : B ≤ (w2.alloc (.cells #[.slice an u.length cn] 62)).heap.size := Nat.le_trans hB (Nat.le_trans hb2.size (by simp)); have HO3 := Lib.hid ((k2.own ho.out (by simp)).alloc (.cells #[.slice an u.length cn] 62)); have HOWN2 := Lib.hid hown2; have HB2 := Lib.hid hb2; have HK2 := Lib.hid k2; clear hown2 hg2 hb2 k2)
        | (refine wpList_append_lies _ rfl (.tmp 13) (.tmp 16) 36 rfl B 62 i1 (.slice none 0 0) 1 24 Tryd.underlying36 hj1 hy0 hy1 hy2 rfl Nat.one_pos (.slice a q c) q vs rfl HO3.out ⟨w2.heap.size, 0, none⟩ 1 1 [.slice an u.length cn] rfl rfl (World.news_of_block (cs := #[.slice an u.length cn]) (t := 62) (fr := (0, 0)) (heap_alloc_new w2 _)) (on1 an cn) Nat.one_pos hn63 hn47 hbs3 (w2.heap.size + 1) (size_alloc' _ _) ?_; intro gg cap w3 hown3 hg3 hat hlt3))
      have k3 := (HK2.out.trans (Kp.alloc w2 (.cells #[.slice an u.length cn] 62))).trans (Kp.grown hg3 (rowT_own HO3.out))
      have hb3 := (HB2.out.alloc (Nat.le_trans hB HB2.out.size) (.cells #[.slice an u.length cn] 62)).grown hg3 hbs3 (fun k hk => (HO3.out.lt k hk).1)
      have k23 := ((Kp.alloc w2 (.cells #[.slice an u.length cn] 62))).trans (Kp.grown hg3 (rowT_own HO3.out))
      have hl3 : Lq w3 B (vs ++ [.slice an u.length cn]) (L1 ++ L2.take (j + 1)) := by
        rw [HTK.out]
        exact (k3.lq (by decide) hl.out).snoc (k23.own HOWN2.out (by decide)) HNU.out
      have HL3 := Lib.hid hl3
      have HW3 : Hid (w3.ownsRow B 62 1 (.slice (some ⟨gg, 0, none⟩) (q + 1) cap) (q + 1) (vs ++ [.slice an u.length cn])) := hown3
      have HB3 := Lib.hid hb3
      have HK3 : Hid (Kp [62] w w3) := (hk.out.trans k3).weak (by decide)
      have HQ : Hid (q + 1 = p + (j + 1)) := by have := hq.out; simp only [Hid]; omega
      have hq3 : q + 1 ≤ 2000 := by have := hq.out; omega
      clear k3 k23 hb3 hl3 hown3 hg3 hat hlt3
      go_roundw
      case rel => exact ⟨j + 1, q + 1, _, cap, _, by omega, by go_num, rfl, hq3, HQ, HW3, HL3, HB3, HK3⟩
      case measure => simp [intOf] <;> omega
    · obtain rfl : n = j := by omega
      have hqq := hq.out
      have ht : L2.take n = L2 := List.take_of_length_le (by rw [HN.out]; exact Nat.le_refl _)
      have hl2 := hl.out
      rw [ht] at hl2
      have HL := Lib.hid hl2
      have HQ := Lib.hid hqq
      clear hqq ht hl2
      go_wp2
      go_ret
      have e := HQ.out
      subst e
      exact ⟨a, c, vs, rfl, ho.out, HL.out, hb.out, hk.out⟩
end Go.Proofs.YtkhhbmbjmfdgdaaDoor
