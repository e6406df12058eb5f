/- Timer: the document's timers in memory; Clear, Set, Find. -/
import Derived.Test.YtaoejkbockcneaaTD
namespace Go.Proofs.Ytaoejkbockcneaa
open Go.RowKit
set_option maxRecDepth 20000

def tc (e : It) : List Value := [.int .i64 e.2.1, .int .u32 (e.2.2.1 : Int), .int .i64 e.2.2.2.1]
def tr (L : List It) : List Value := L.flatMap tc
/-- The timers L are read from A on. -/
def Rt (w : World) (B : Nat) (A : Option Addr) (L : List It) : Prop :=
  0 < L.length → ∃ b o, A = some ⟨b, o, none⟩ ∧ b < B ∧ ∀ (i : Nat) (e : It), L[i]? = some e → w.cell? ⟨b, o + i * 3, none⟩ = some (.int .i64 e.2.1) ∧ w.cell? ⟨b, o + i * 3 + 1, none⟩ = some (.int .u32 (e.2.2.1 : Int)) ∧ w.cell? ⟨b, o + i * 3 + 2, none⟩ = some (.int .i64 e.2.2.2.1)
theorem Rt.below {w W : World} {B : Nat} {A : Option Addr} {L : List It} (h : Rt w B A L) (hb : Below B w W) : Rt W B A L := fun hl => by
  obtain ⟨b, o, h1, h2, h3⟩ := h hl
  exact ⟨b, o, h1, h2, fun i e he => ⟨(hb.cell (p := ⟨b, _, none⟩) h2).trans (h3 i e he).1, (hb.cell (p := ⟨b, _, none⟩) h2).trans (h3 i e he).2.1, (hb.cell (p := ⟨b, _, none⟩) h2).trans (h3 i e he).2.2⟩⟩
theorem Rt.mono {w : World} {B B' : Nat} {A : Option Addr} {L : List It} (h : Rt w B A L) (hb : B ≤ B') : Rt w B' A L := fun hl => by
  obtain ⟨b, o, h1, h2, h3⟩ := h hl
  exact ⟨b, o, h1, Nat.lt_of_lt_of_le h2 hb, h3⟩
theorem tr_len (L : List It) : (tr L).length = L.length * 3 := by
  induction L with
  | nil => rfl
  | cons e L ih =>
    unfold tr at ih ⊢
    rw [List.flatMap_cons, List.length_append, ih, List.length_cons]
    simp [tc]
    omega
theorem tr_get : ∀ (L : List It) (i : Nat) (e : It) (j : Nat), L[i]? = some e → j < 3 → (tr L)[i * 3 + j]? = (tc e)[j]?
  | [], i, e, j, h, _ => by simp at h
  | x :: L, 0, e, j, h, hj => by
    simp at h
    subst h
    unfold tr
    rw [List.flatMap_cons, List.getElem?_append_left (by simp [tc]; omega)]
    simp
  | x :: L, i + 1, e, j, h, hj => by
    have ih := tr_get L i e j (by simpa using h) hj
    unfold tr at ih ⊢
    rw [List.flatMap_cons, List.getElem?_append_right (by simp [tc]; omega)]
    simp only [show (tc x).length = 3 from rfl, show (i + 1) * 3 + j - 3 = i * 3 + j by omega]
    exact ih
theorem tr_snoc (L : List It) (e : It) : tr (L ++ [e]) = tr L ++ tc e := by simp [tr]
theorem own_form3 {w : World} {base T m : Nat} {v : Value} {xs : List Value} (h : w.ownsRow base T 3 v m xs) : ∃ A c, v = .slice A m c := by
  rcases h.2 with ⟨rfl, rfl⟩ | ⟨g, cap, cur, rfl, _⟩
  · exact ⟨none, 0, rfl⟩
  · exact ⟨_, cap, rfl⟩
theorem own3_after {w w' : World} {base T m : Nat} {v : Value} {xs : List Value} (h : w.ownsRow base T 3 v m xs) (hb : ∀ g, v.ownBlock = some g → w'.heap[g]? = w.heap[g]?) : w'.ownsRow base T 3 v m xs := by
  refine ⟨h.1, ?_⟩
  rcases h.2 with hn | ⟨g, cap, cur, rfl, hbg, hg, rest⟩
  · exact .inl hn
  · exact .inr ⟨g, cap, cur, rfl, hbg, (hb g rfl).trans hg, rest⟩
theorem own3_base {w : World} {base base' T m : Nat} {v : Value} {xs : List Value} (hb : base ≤ base') (h : w.ownsRow base' T 3 v m xs) : w.ownsRow base T 3 v m xs := by
  refine ⟨h.1, ?_⟩
  rcases h.2 with hn | ⟨g, cap, cur, rfl, hbg, rest⟩
  · exact .inl hn
  · exact .inr ⟨g, cap, cur, rfl, Nat.le_trans hb hbg, rest⟩
theorem own3_type {w : World} {base T m : Nat} {v : Value} {xs : List Value} (h : w.ownsRow base T 3 v m xs) {g : Nat} (hg : v.ownBlock = some g) : ∃ cur, w.heap[g]? = some (.cells cur T (0, 0)) := by
  rcases h.2 with ⟨rfl, _⟩ | ⟨k, cap, cur, rfl, _, hk, _⟩
  · simp [Value.ownBlock] at hg
  · injection hg with hg
    subst hg
    exact ⟨cur, hk⟩
theorem Rt.of_own {w : World} {base m c : Nat} {A : Option Addr} {L : List It} (h : w.ownsRow base 38 3 (.slice A m c) m (tr L)) : Rt w w.heap.size A L := fun hl => by
  have hcells := fun g => h.cells (g := g)
  have hlt := h.lt
  have hlen := h.1
  rw [tr_len] at hlen
  rcases h.2 with ⟨_, h0⟩ | ⟨g, cap, cur, e1, _, _, _, _⟩
  · omega
  · injection e1 with e1 _ _
    subst e1
    refine ⟨g, 0, rfl, (hlt g rfl).2, fun i e he => ?_⟩
    have hc : ∀ j, j < 3 → w.cell? ⟨g, 0 + i * 3 + j, none⟩ = (tc e)[j]? := fun j hj => by
      obtain ⟨u, hu⟩ : ∃ u, (tc e)[j]? = some u := ⟨(tc e)[j]'(by simpa [tc] using hj), List.getElem?_eq_getElem _⟩
      have := hcells g rfl (i * 3 + j) u (by rw [tr_get L i e j he hj, hu])
      rw [Go.WideShapes.add_plain, ← Nat.add_assoc] at this
      rw [hu, ← this]
    exact ⟨by simpa [tc] using hc 0 (by omega), by simpa [tc] using hc 1 (by omega), by simpa [tc] using hc 2 (by omega)⟩
theorem info38 : (Try.prog.info? 38).map (fun i => (i.zero, i.size, i.bytes)) = some (some (.agg #[.int .i64 0, .int .u32 0, .int .i64 0]), 3, 24) := by kernel_rfl
theorem wpList_append_tm {w : World} {ops : Array Oper} {rest : List Oper} {op : Oper} {a : Act} {Q : Exit → Act → World → Prop} (hgd : op.guard = none) (s x : Operand)
    (ho : op.op = .call { callee := .builtin .append, args := #[s, x], argTypes := #[25, 25] }) (base G : Nat) (v : Value) (m : Nat) (L : List It) (e : It) (hs : a.eval s = v) (hx : a.eval x = .slice (some ⟨G, 0, none⟩) 1 1)
    (hown : w.ownsRow base 38 3 v m (tr L)) (hG : w.heap[G]? = some (.cells #[.int .i64 e.2.1, .int .u32 (e.2.2.1 : Int), .int .i64 e.2.2.2.1] 38 (0, 0))) (hm : m ≤ 1000) (hbase : base ≤ w.heap.size)
    (h : ∀ v' w', w'.ownsRow base 38 3 v' (m + 1) (tr (L ++ [e])) → w.grownBy w' v.ownBlock → wpList Try.prog ops Q rest (a.put op.dst v') w') : wpList Try.prog ops Q (op :: rest) a w := by
  refine wpList_plain hgd fun K hK => ?_
  obtain ⟨i0, hi, hz0, hz1, hz2⟩ := info_parts info38
  obtain ⟨v', w', hr, h2, h3, _⟩ := run_append_own (P := Try.prog) w base 25 op.type 38 i0 _ 3 _ Try.underlying25 hi hz0 hz1 hz2 rfl (by decide) v m (tr L) hown ⟨G, 0, none⟩ 1 1 (tc e) rfl (fun j u hu => by
    have := cell_of_row w G j _ _ _ hG
    rw [show (#[.int .i64 e.2.1, .int .u32 (e.2.2.1 : Int), .int .i64 e.2.2.2.1] : Array Value) = (tc e).toArray from rfl, List.getElem?_toArray, hu] at this
    rw [← this, Go.WideShapes.add_plain, Nat.zero_add]) (by
    intro u hu
    simp only [tc, List.mem_cons, List.not_mem_nil, or_false] at hu
    rcases hu with rfl | rfl | rfl <;> rfl) (by unfold maxLen; omega) (by omega) hbase
  unfold Oper.wp execOp
  simp only [ho, resolve, invoke, builtin, Sem.run_bind, Sem.run_pure, Result.andThen_ok, List.map_toArray, List.map_cons, List.map_nil, hs, hx, hr]
  exact hK _ _ (h v' w' (by rw [tr_snoc]; exact h2) h3)
theorem off_len_iff (k : Int) (x : Nat) (L : List It) : (offN k x L).length ≠ L.length ↔ ∃ e ∈ L, nm k x e = true := by
  constructor
  · intro h
    rcases Classical.em (∃ e ∈ L, nm k x e = true) with h1 | h1
    · exact h1
    · exact absurd (by rw [off_none fun e he => by
        cases hc : nm k x e
        · rfl
        · exact absurd ⟨e, he, hc⟩ h1]) h
  · intro ⟨e, he, hn⟩ h
    have h2 := List.filter_sublist (p := fun e => !nm k x e) (l := L)
    have h3 := h2.eq_of_length h
    have h4 : e ∈ L.filter (fun e => !nm k x e) := by rw [h3]; exact he
    have := (List.mem_filter.1 h4).2
    simp [hn] at this

def RclP (k : Int) (x : Nat) (L : List It) (w : World) (r : Ending) (w' : World) : Prop :=
  ∃ (B : Option Addr) (m c' : Nat) (b : Bool), r = .returned (.tuple #[.slice B m c', .bool b]) ∧ m = (offN k x L).length ∧ (b = true ↔ ∃ e ∈ L, nm k x e = true) ∧ w'.ownsRow w.heap.size 38 3 (.slice B m c') m (tr (offN k x L)) ∧ Below w.heap.size w w'
set_option linter.unusedSimpArgs false in
set_option maxHeartbeats 8000000 in
theorem rclear_any (A : Option Addr) (n c : Nat) (k : Int) (x : Nat) (L : List It) (w : World) (hn : n = L.length) (hR : Rt w w.heap.size A L) (hl : n ≤ 900) :
    Calls Try.prog 16 #[.slice A n c, .int .i64 k, .int .u32 (x : Int)] w (RclP k x L w) := by
  have HR := Lib.hid hR
  have HN := Lib.hid hn
  have HBr : Hid (Below w.heap.size w w) := Below.refl _ _
  clear hR hn
  go_enter Try.func16, Try.ntmps16
  go_wp2_with fail
  go_loopw [8, 9] (fun o u wr => ∃ (i m : Nat) (B : Option Addr) (c2 : Nat), i ≤ n ∧ o = .slice B m c2 ∧ u = .int .i64 (i : Int) ∧ Hid (wr.ownsRow w.heap.size 38 3 (.slice B m c2) m (tr (offN k x (L.take i))) ∧ Below w.heap.size w wr)) (fun _ u _ => n - (intOf u).toNat)
  case atStart => exact ⟨0, 0, none, 0, by omega, rfl, rfl, World.ownsRow_nil w _ 38 3, HBr.out⟩
  case round =>
    obtain ⟨i, m, B, c2, hi, rfl, rfl, HV⟩ := hrel
    by_cases hlt : i < n
    · obtain ⟨e, hy⟩ : ∃ e, L[i]? = some e := ⟨L[i]'(by rw [← HN.out]; exact hlt), List.getElem?_eq_getElem _⟩
      obtain ⟨b1, o1, rfl, hb1, ha1⟩ := HR.out (by have := HN.out; omega)
      have d0 := (HV.out.2.cell (p := ⟨b1, _, none⟩) hb1).trans (ha1 i e hy).1
      have d1 := (HV.out.2.cell (p := ⟨b1, _, none⟩) hb1).trans (ha1 i e hy).2.1
      have d2 := (HV.out.2.cell (p := ⟨b1, _, none⟩) hb1).trans (ha1 i e hy).2.2
      have HTK : Hid (L.take (i + 1) = L.take i ++ [e]) := by simp only [Hid]; rw [List.take_add_one, hy]; rfl
      have HML : Hid (m ≤ 900) := by
        have h1 := HV.out.1.1
        rw [tr_len] at h1
        have h2 := off_len k x (L.take i)
        rw [List.length_take] at h2
        simp only [Hid]
        omega
      clear hy ha1 hb1
      by_cases h1 : e.2.1 = k
      · by_cases h2 : e.2.2.1 = x
        · have HNX : Hid (offN k x (L.take (i + 1)) = offN k x (L.take i)) := by simp only [Hid]; rw [HTK.out]; simp [offN, nm, h1, h2]
          have h2' : (e.2.2.1 : Int) = (x : Int) := by omega
          go_wp2
          go_roundw
          case rel => exact ⟨i + 1, m, B, c2, by omega, rfl, by go_num, by rw [HNX.out]; exact HV.out.1, HV.out.2⟩
          case measure => simp [intOf] <;> omega
        · have HNX : Hid (offN k x (L.take (i + 1)) = offN k x (L.take i) ++ [e]) := by simp only [Hid]; rw [HTK.out]; simp [offN, nm, h1, h2]
          have h2' : ¬ (e.2.2.1 : Int) = (x : Int) := by omega
          have HE1 := Lib.hid h1
          rw [h1] at d0
          clear h1
          obtain ⟨w2, hw2⟩ : ∃ w2, w2 = wr.alloc (.cells #[.int .i64 k, .int .u32 (e.2.2.1 : Int), .int .i64 e.2.2.2.1] 38) := ⟨_, rfl⟩
          have hg2 : w2.heap[wr.heap.size]? = some (.cells #[.int .i64 k, .int .u32 (e.2.2.1 : Int), .int .i64 e.2.2.2.1] 38 (0, 0)) := by rw [hw2]; exact heap_alloc_new wr _
          have hb2 : Below wr.heap.size wr w2 := by rw [hw2]; exact (Below.refl _ _).alloc (Nat.le_refl _) _
          have HO2 : Hid (w2.ownsRow w.heap.size 38 3 (.slice B m c2) m (tr (offN k x (L.take i)))) := own3_after HV.out.1 fun g hg => hb2.block g (HV.out.1.lt g hg).2
          have HB2 : Hid (Below w.heap.size w w2) := HV.out.2.trans (hb2.mono HV.out.2.size)
          have HG2 := Lib.hid hg2
          have H2 := Lib.hid hw2
          have HSZ : Hid (w.heap.size ≤ w2.heap.size) := HB2.out.size
          clear hg2 hb2 hw2
          have ht : Hid (∀ W : World, W = w2 → W.ownsRow w.heap.size 38 3 (.slice B m c2) m (tr (offN k x (L.take i))) ∧ W.heap[wr.heap.size]? = some (.cells #[.int .i64 e.2.1, .int .u32 (e.2.2.1 : Int), .int .i64 e.2.2.2.1] 38 (0, 0)) ∧ w.heap.size ≤ W.heap.size) := fun W e => by rw [e]; exact ⟨HO2.out, (by rw [HE1.out]; exact HG2.out), HSZ.out⟩
          go_wp2_with (at_builtin; refine wpList_append_tm rfl (.tmp 32) (.tmp 37) rfl w.heap.size wr.heap.size (.slice B m c2) m (offN k x (L.take i)) e rfl rfl (ht.out _ H2.out.symm).1 (ht.out _ H2.out.symm).2.1 (by have := HML.out; omega) (ht.out _ H2.out.symm).2.2 ?_; intro v3 w3 hown3 hg3; rw [← H2.out] at hg3; rw [← HNX.out] at hown3; obtain ⟨B3, c3, rfl⟩ := own_form3 hown3; have HO3 := Lib.hid hown3; have HB3 : Hid (Below w.heap.size w w3) := HB2.out.grown hg3 HB2.out.size (fun g h => (HO2.out.lt g h).1); clear hown3 hg3)
          go_roundw
          case rel => exact ⟨i + 1, m + 1, B3, c3, by omega, rfl, by go_num, HO3.out, HB3.out⟩
          case measure => simp [intOf] <;> omega
      · have HNX : Hid (offN k x (L.take (i + 1)) = offN k x (L.take i) ++ [e]) := by simp only [Hid]; rw [HTK.out]; simp [offN, nm, h1]
        obtain ⟨w2, hw2⟩ : ∃ w2, w2 = wr.alloc (.cells #[.int .i64 e.2.1, .int .u32 (e.2.2.1 : Int), .int .i64 e.2.2.2.1] 38) := ⟨_, rfl⟩
        have hg2 : w2.heap[wr.heap.size]? = some (.cells #[.int .i64 e.2.1, .int .u32 (e.2.2.1 : Int), .int .i64 e.2.2.2.1] 38 (0, 0)) := by rw [hw2]; exact heap_alloc_new wr _
        have hb2 : Below wr.heap.size wr w2 := by rw [hw2]; exact (Below.refl _ _).alloc (Nat.le_refl _) _
        have HO2 : Hid (w2.ownsRow w.heap.size 38 3 (.slice B m c2) m (tr (offN k x (L.take i)))) := own3_after HV.out.1 fun g hg => hb2.block g (HV.out.1.lt g hg).2
        have HB2 : Hid (Below w.heap.size w w2) := HV.out.2.trans (hb2.mono HV.out.2.size)
        have HG2 := Lib.hid hg2
        have H2 := Lib.hid hw2
        have HSZ : Hid (w.heap.size ≤ w2.heap.size) := HB2.out.size
        clear hg2 hb2 hw2
        have ht : Hid (∀ W : World, W = w2 → W.ownsRow w.heap.size 38 3 (.slice B m c2) m (tr (offN k x (L.take i))) ∧ W.heap[wr.heap.size]? = some (.cells #[.int .i64 e.2.1, .int .u32 (e.2.2.1 : Int), .int .i64 e.2.2.2.1] 38 (0, 0)) ∧ w.heap.size ≤ W.heap.size) := fun W e => by rw [e]; exact ⟨HO2.out, HG2.out, HSZ.out⟩
        go_wp2_with (at_builtin; refine wpList_append_tm rfl (.tmp 32) (.tmp 37) rfl w.heap.size wr.heap.size (.slice B m c2) m (offN k x (L.take i)) e rfl rfl (ht.out _ H2.out.symm).1 (ht.out _ H2.out.symm).2.1 (by have := HML.out; omega) (ht.out _ H2.out.symm).2.2 ?_; intro v3 w3 hown3 hg3; rw [← H2.out] at hg3; rw [← HNX.out] at hown3; obtain ⟨B3, c3, rfl⟩ := own_form3 hown3; have HO3 := Lib.hid hown3; have HB3 : Hid (Below w.heap.size w w3) := HB2.out.grown hg3 HB2.out.size (fun g h => (HO2.out.lt g h).1); clear hown3 hg3)
        go_roundw
        case rel => exact ⟨i + 1, m + 1, B3, c3, by omega, rfl, by go_num, HO3.out, HB3.out⟩
        case measure => simp [intOf] <;> omega
    · have hkn : i = n := by omega
      subst hkn
      have HG : Hid (wr.ownsRow w.heap.size 38 3 (.slice B m c2) m (tr (offN k x L))) := by have := HV.out.1; rwa [HN.out, List.take_length] at this
      have HMM : Hid (m = (offN k x L).length) := by have h1 := HG.out.1; rw [tr_len] at h1; simp only [Hid]; omega
      by_cases hmn : m = i
      · have hmn' : (m : Int) = (i : Int) := by omega
        have HIF : Hid ((false : Bool) = true ↔ ∃ e ∈ L, nm k x e = true) := by
          rw [Hid, ← off_len_iff]
          have := HMM.out
          have := HN.out
          simp
          omega
        go_wp2
        exact bodyPost_ret (v := .tuple #[.slice B m c2, .bool false]) (by simp [results, Try.results16, go_sem, hmn]) rfl ⟨B, m, c2, false, rfl, HMM.out, by simpa using HIF.out, HG.out, HV.out.2⟩
      · have hmn' : ¬ (m : Int) = (i : Int) := by omega
        have HIF : Hid ((true : Bool) = true ↔ ∃ e ∈ L, nm k x e = true) := by
          rw [Hid, ← off_len_iff]
          have := HMM.out
          have := HN.out
          simp
          omega
        go_wp2
        exact bodyPost_ret (v := .tuple #[.slice B m c2, .bool true]) (by simp [results, Try.results16, go_sem, hmn]; try omega) rfl ⟨B, m, c2, true, rfl, HMM.out, by simpa using HIF.out, HG.out, HV.out.2⟩

set_option linter.unusedSimpArgs false in
set_option maxHeartbeats 8000000 in
theorem rset_any (A : Option Addr) (n c : Nat) (k : Int) (x : Nat) (a : Int) (g0 t0 : Nat) (L : List It) (w : World) (hn : n = L.length) (hR : Rt w w.heap.size A L) (hl : n ≤ 900) :
    Calls Try.prog 14 #[.slice A n c, .int .i64 k, .int .u32 (x : Int), .int .i64 a] w fun r w' => ∃ B m c', r = .returned (.slice B m c') ∧ m = (offN k x L).length + 1 ∧ w'.ownsRow w.heap.size 38 3 (.slice B m c') m (tr (offN k x L ++ [(g0, k, x, a, t0)])) ∧ Below w.heap.size w w' := by
  have HCL := Lib.hid (rclear_any A n c k x L w hn hR hl)
  have hle : (offN k x L).length ≤ 900 := Nat.le_trans (off_len k x L) (by omega)
  clear hn hR hl
  go_enter Try.func14, Try.ntmps14
  go_wp2_with fail
  refine HCL.out.mono ?_
  rintro r wr ⟨B, m, c2, b, rfl, hm, _, hown, hbw⟩
  obtain ⟨w2, hw2⟩ : ∃ w2, w2 = wr.alloc (.cells #[.int .i64 k, .int .u32 (x : Int), .int .i64 a] 38) := ⟨_, rfl⟩
  have hg2 : w2.heap[wr.heap.size]? = some (.cells #[.int .i64 k, .int .u32 (x : Int), .int .i64 a] 38 (0, 0)) := by rw [hw2]; exact heap_alloc_new wr _
  have hb2 : Below wr.heap.size wr w2 := by rw [hw2]; exact (Below.refl _ _).alloc (Nat.le_refl _) _
  have HO2 : Hid (w2.ownsRow w.heap.size 38 3 (.slice B m c2) m (tr (offN k x L))) := own3_after hown fun g hg => hb2.block g (hown.lt g hg).2
  have HB2 : Hid (Below w.heap.size w w2) := hbw.trans (hb2.mono hbw.size)
  have HG2 := Lib.hid hg2
  have H2 := Lib.hid hw2
  have HM := Lib.hid hm
  have hmb : m ≤ 900 := by omega
  have ht : Hid (∀ W : World, W = w2 → W.ownsRow w.heap.size 38 3 (.slice B m c2) m (tr (offN k x L)) ∧ W.heap[wr.heap.size]? = some (.cells #[.int .i64 k, .int .u32 (x : Int), .int .i64 a] 38 (0, 0)) ∧ w.heap.size ≤ W.heap.size) := fun W e => by rw [e]; exact ⟨HO2.out, HG2.out, HB2.out.size⟩
  clear hg2 hb2 hw2 hown hbw hm hle
  go_wp2_with (at_builtin; refine wpList_append_tm rfl (.tmp 18) (.tmp 23) rfl w.heap.size wr.heap.size (.slice B m c2) m (offN k x L) (g0, k, x, a, t0) rfl rfl (ht.out _ H2.out.symm).1 (ht.out _ H2.out.symm).2.1 (by omega) (ht.out _ H2.out.symm).2.2 ?_; intro v3 w3 hown3 hg3; rw [← H2.out] at hg3; obtain ⟨B3, c3, rfl⟩ := own_form3 hown3; have HO3 := Lib.hid hown3; have HB3 : Hid (Below w.heap.size w w3) := HB2.out.grown hg3 HB2.out.size (fun g h => (HO2.out.lt g h).1); clear hown3 hg3)
  go_ret
  exact ⟨B3, m + 1, c3, rfl, by rw [HM.out], HO3.out, HB3.out⟩

def FindR (L : List It) (k : Int) (x : Nat) (v : Int) (b : Bool) : Prop := (b = true ∧ ∃ e ∈ L, nm k x e = true ∧ v = e.2.2.2.1) ∨ (b = false ∧ v = 0 ∧ ∀ e ∈ L, nm k x e = false)
set_option maxHeartbeats 4000000 in
theorem rfind_any (A : Option Addr) (n c : Nat) (k : Int) (x : Nat) (L : List It) (w : World) (hn : n = L.length) (hR : Rt w w.heap.size A L) (hl : n ≤ 900) :
    Calls Try.prog 21 #[.slice A n c, .int .i64 k, .int .u32 (x : Int)] w fun r w' => (∃ v b, r = .returned (.tuple #[.int .i64 v, .bool b]) ∧ FindR L k x v b) ∧ w' = w := by
  have HR := Lib.hid hR
  have HN := Lib.hid hn
  clear hR hn
  go_enter Try.func21, Try.ntmps21
  go_wp2_with fail
  go_loopw [8] (fun u wr => ∃ i : Nat, i ≤ n ∧ u = .int .i64 (i : Int) ∧ Hid (∀ e ∈ L.take i, nm k x e = false) ∧ wr = w) (fun u _ => n - (intOf u).toNat)
  case atStart => exact ⟨0, by omega, rfl, fun e he => by simp at he, by first | rfl | trivial⟩
  case round =>
    obtain ⟨i, hi, rfl, HK, rfl⟩ := hrel
    by_cases hlt : i < n
    · obtain ⟨e, hy⟩ : ∃ e, L[i]? = some e := ⟨L[i]'(by rw [← HN.out]; exact hlt), List.getElem?_eq_getElem _⟩
      obtain ⟨b1, o1, rfl, hb1, ha1⟩ := HR.out (by have := HN.out; omega)
      have d0 := (ha1 i e hy).1
      have d1 := (ha1 i e hy).2.1
      have d2 := (ha1 i e hy).2.2
      have HTK : Hid (L.take (i + 1) = L.take i ++ [e]) := by simp only [Hid]; rw [List.take_add_one, hy]; rfl
      have HEM : Hid (e ∈ L) := List.mem_of_getElem? hy
      clear hy ha1 hb1
      by_cases h1 : e.2.1 = k
      · by_cases h2 : e.2.2.1 = x
        · have h2' : (e.2.2.1 : Int) = (x : Int) := by omega
          have HF : Hid (FindR L k x e.2.2.2.1 true) := .inl ⟨rfl, e, HEM.out, (nm_iff _ _ _).2 ⟨h1, h2⟩, rfl⟩
          go_wp2
          exact bodyPost_ret (v := .tuple #[.int .i64 e.2.2.2.1, .bool true]) (by simp [results, Try.results21, go_sem]) rfl ⟨⟨_, _, rfl, HF.out⟩, rfl⟩
        · have h2' : ¬ (e.2.2.1 : Int) = (x : Int) := by omega
          have HK2 : Hid (∀ y ∈ L.take (i + 1), nm k x y = false) := fun y hy => by
            rw [HTK.out, List.mem_append] at hy
            rcases hy with hy | hy
            · exact HK.out y hy
            · simp at hy
              subst hy
              simp [nm, h2]
          go_wp2
          go_roundw
          case rel => exact ⟨i + 1, by omega, by go_num, HK2.out, by first | rfl | trivial⟩
          case measure => simp [intOf] <;> omega
      · have HK2 : Hid (∀ y ∈ L.take (i + 1), nm k x y = false) := fun y hy => by
          rw [HTK.out, List.mem_append] at hy
          rcases hy with hy | hy
          · exact HK.out y hy
          · simp at hy
            subst hy
            simp [nm, h1]
        go_wp2
        go_roundw
        case rel => exact ⟨i + 1, by omega, by go_num, HK2.out, by first | rfl | trivial⟩
        case measure => simp [intOf] <;> omega
    · have hkn : i = n := by omega
      subst hkn
      have HF : Hid (FindR L k x 0 false) := .inr ⟨rfl, rfl, fun e he => HK.out e (by rw [HN.out, List.take_length]; exact he)⟩
      go_wp2
      exact bodyPost_ret (v := .tuple #[.int .i64 0, .bool false]) (by simp [results, Try.results21, go_sem]) rfl ⟨⟨_, _, rfl, HF.out⟩, rfl⟩
end Go.Proofs.Ytaoejkbockcneaa
