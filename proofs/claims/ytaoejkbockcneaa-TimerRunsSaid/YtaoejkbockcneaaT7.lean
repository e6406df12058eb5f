/- Timer: the map by names; a queue in memory; find, Clear. -/
import Derived.Test.YtaoejkbockcneaaT6
namespace Go.Proofs.Ytaoejkbockcneaa
open Go.RowKit
set_option maxRecDepth 20000

theorem laidOut : laidOutB Try.prog = true := by kernel_rfl
theorem row108 : (108 : TypeId) < Try.prog.types.size := of_decide_eq_true (by kernel_rfl)
theorem wide108 : (match Try.prog.underlying 108 with | some (.array _ _) | some (.struct _) => true | _ => false) = true := by rw [Try.underlying108]
theorem K108 : Maps.Keyed Try.prog 108 := Maps.Keyed.of_law (deep_law_laid laidOut (m := 2) (by omega) row108 (by kernel_rfl) wide108)
abbrev kV (k : Int) (x : Nat) : Value := .agg #[.int .i64 k, .int .u32 (x : Int)]
def kl (k : Int) (x : Nat) : Lit := .string (keyBytes [.int .i64 k, .int .u32 (x : Int)])
theorem kt108 : Try.prog.keyType 108 = true := by kernel_rfl
theorem c108 : Try.prog.cellsOf 108 = 2 := by kernel_rfl
theorem c3 : Try.prog.cellsOf 3 = 1 := by kernel_rfl
theorem c26 : Try.prog.cellsOf 26 = 1 := by kernel_rfl
theorem key108 (k : Int) (x : Nat) (hk : (Lit.int .i64 k).wf = true) (hx : (Lit.int .u32 (x : Int)).wf = true) : keyOf Try.prog 108 (kV k x) = some (kl k x) := by
  have hf : (kV k x).formed Try.prog 108 = true := by simp [Value.formed, Try.underlying108, c108]
  unfold keyOf
  rw [Try.underlying108]
  simp only [kt108, hf, Bool.and_self, if_true]
  obtain ⟨m, hm⟩ : ∃ m, Try.prog.types.size = m + 1 := Nat.exists_eq_succ_of_ne_zero (Nat.ne_of_gt (Nat.lt_of_le_of_lt (Nat.zero_le _) row108))
  have h3 : Try.prog.keyLits (m + 1) 3 [.int .i64 k] = some [.int .i64 k] := by
    unfold Program.keyLits
    rw [Try.underlying3]
    simp [hk]
  have h26 : Try.prog.keyLits (m + 1) 26 [.int .u32 (x : Int)] = some [.int .u32 (x : Int)] := by
    unfold Program.keyLits
    rw [Try.underlying26]
    simp [hx]
  rw [hm]
  have : (Try.prog.keyLits (m + 1 + 1) 108 (Value.cells (kV k x)).toList) = some [.int .i64 k, .int .u32 (x : Int)] := by
    unfold Program.keyLits
    rw [Try.underlying108]
    simp [Value.cells, c108, c3, c26, h3, h26]
  rw [this]
  rfl
theorem kl_inj {k k' : Int} {x x' : Nat} (hk : (Lit.int .i64 k).wf = true) (hx : (Lit.int .u32 (x : Int)).wf = true) (hk' : (Lit.int .i64 k').wf = true) (hx' : (Lit.int .u32 (x' : Int)).wf = true) (h : kl k x = kl k' x') : k = k' ∧ x = x' := by
  have h1 := key108 k x hk hx
  rw [h] at h1
  have := K108.inj h1 (key108 k' x' hk' hx')
  simp at this
  omega
theorem zero104 (w : World) : (zeroValue 104).run Try.prog w = .ok (.pointer none) w := by kernel_rfl

abbrev pD (b : Nat) : DataW Unit := .lit (.int .u64 (b : Int))
abbrev nD : DataW Unit := .lit (.bool false)
def RP : Value → Option (DataW Unit × List MemPlace)
  | .pointer (some ⟨b, 0, none⟩) => some (pD b, [])
  | .pointer none => some (nD, [])
  | _ => none
theorem RP_inv {v : Value} {b : Nat} {ps : List MemPlace} (h : RP v = some (pD b, ps)) : v = .pointer (some ⟨b, 0, none⟩) := by
  unfold RP at h
  split at h
  · injection h with h
    injection h with h _
    injection h with h
    injection h with _ h
    rw [Int.ofNat.inj h]
  · injection h with h
    injection h with h _
    injection h with h
    cases h
  · cases h
theorem RP_nil {v : Value} {ps : List MemPlace} (h : RP v = some (nD, ps)) : v = .pointer none := by
  unfold RP at h
  split at h
  · injection h with h
    injection h with h _
    injection h with h
    cases h
  · rfl
  · cases h
/-- Is it the item's name? -/
def nm (k : Int) (x : Nat) (e : It) : Bool := decide (e.2.1 = k) && decide (e.2.2.1 = x)
theorem nm_iff (k : Int) (x : Nat) (e : It) : nm k x e = true ↔ e.2.1 = k ∧ e.2.2.1 = x := by simp [nm]
def wfN (k : Int) (x : Nat) : Prop := (Lit.int .i64 k).wf = true ∧ (Lit.int .u32 (x : Int)).wf = true
def MapL (D : DataW Unit) (L : List It) : Prop := ∀ (k : Int) (x : Nat), wfN k x → (∀ e ∈ L, nm k x e = true → Maps.has D (kl k x) = true ∧ D.atKey (kl k x) nD = pD e.1) ∧ ((∀ e ∈ L, nm k x e = false) → Maps.has D (kl k x) = false ∧ D.atKey (kl k x) nD = nD)
def Dis (L : List It) : Prop := L.Pairwise (fun a b => ¬(a.2.1 = b.2.1 ∧ a.2.2.1 = b.2.2.1))
/-- A queue in block Q that holds the timers L, in the order in which they were set. -/
def IsT (w : World) (B0 Q M tn : Nat) (L : List It) : Prop :=
  ∃ v hp D cnt, InQ w B0 Q M tn v hp ∧ HeapN hp.length hp ∧ hp.Perm L ∧ w.ownsMap Try.prog 108 RP M cnt D ∧ cnt ≤ tn ∧ B0 ≤ M ∧ MapL D L ∧ Dis L ∧ (∀ e ∈ L, wfN e.2.1 e.2.2.1 ∧ e.2.2.2.2 < tn) ∧ L.Pairwise (fun a b => a.2.2.2.2 < b.2.2.2.2)
theorem IsT.after {w w' : World} {B0 Q M tn : Nat} {L : List It} (h : IsT w B0 Q M tn L) (hb : Below w.heap.size w w') : IsT w' B0 Q M tn L := by
  obtain ⟨v, hp, D, cnt, h1, h2, h3, ⟨es, clock, hm, r⟩, h5⟩ := h
  exact ⟨v, hp, D, cnt, h1.after hb, h2, h3, ⟨es, clock, (hb.block M (lt_of_block hm)).trans hm, r⟩, h5⟩
theorem map_kept {w w' : World} {m B0 M cnt : Nat} {D : DataW Unit} (h : w.ownsMap Try.prog 108 RP M cnt D) (hc : Ch m B0 w w') (hm : m ≤ 1) : w'.ownsMap Try.prog 108 RP M cnt D := by
  obtain ⟨es, clock, hk, r⟩ := h
  exact ⟨es, clock, hc.kept M _ hk (by simpa [okT] using hm), r⟩
theorem turned_block {w w' : World} {M : Nat} (h : w.mapTurned w' M) (k : Nat) (hk : k ≠ M) (hl : k < w.heap.size) : w'.heap[k]? = w.heap[k]? := h.grown.block k hl (fun e => hk (by injection e))
theorem turned_cells {w w' : World} {M : Nat} {es : Array MapEntry} {cl : Nat} (hM : w.heap[M]? = some (.map es cl)) (h : w.mapTurned w' M) {k : Nat} {cc : Array Value} {T : Nat} {z : Nat × Nat} (hk : w.heap[k]? = some (.cells cc T z)) : w'.heap[k]? = some (.cells cc T z) :=
  (turned_block h k (fun e => by
    subst e
    rw [hM] at hk
    cases hk) (lt_of_block hk)).trans hk
theorem turned_inq {w w' : World} {B0 Q M tn : Nat} {v : Value} {hp : List It} {es : Array MapEntry} {cl : Nat} (hM : w.heap[M]? = some (.map es cl)) (ht : w.mapTurned w' M) (h : InQ w B0 Q M tn v hp) : InQ w' B0 Q M tn v hp :=
  ⟨turned_cells hM ht h.row, ⟨own_after h.ln.own fun g hg => by
    obtain ⟨cur, hc⟩ := own_type h.ln.own hg
    rw [turned_cells hM ht hc, hc], fun i e he => turned_cells hM ht (h.ln.its i e he), h.ln.nd, h.ln.lo⟩, h.lo⟩
theorem turned_ch {w w' : World} {B0 M : Nat} {es : Array MapEntry} {cl : Nat} (hM : w.heap[M]? = some (.map es cl)) (ht : w.mapTurned w' M) (hB : B0 ≤ M) : Ch 2 B0 w w' := by
  have hg := ht.grown
  have hMl := lt_of_block hM
  refine ⟨(Below.refl _ _).grown hg (by omega) (fun k hk => by injection hk with hk; omega), hg.size, fun g o hgo ho => ?_⟩
  refine (turned_block ht g (fun e => ?_) (lt_of_block hgo)).trans hgo
  subst e
  rw [hM] at hgo
  injection hgo with hgo
  subst hgo
  simp [okT] at ho

set_option maxHeartbeats 2000000 in
theorem find_in {B0 Q M tn : Nat} {L : List It} (k : Int) (x : Nat) (e : It) (w : World) (h : IsT w B0 Q M tn L) (hw : wfN k x) (he : e ∈ L) (hn : nm k x e = true) :
    Calls Try.prog 47 #[.pointer (some ⟨Q, 0, none⟩), .int .i64 k, .int .u32 (x : Int)] w fun r w' => r = .returned (.tuple #[.pointer (some ⟨e.1, 0, none⟩), .bool true]) ∧ w' = w := by
  obtain ⟨v, hp, D, cnt, h1, h2, h3, h4, h5, h6, h7, h8⟩ := h
  have hml := (h7 k x hw).1 e he hn
  have q1 := cell_of_row w Q 1 _ _ _ h1.row
  simp at q1
  have HKEY := Lib.hid (key108 k x hw.1 hw.2)
  have HO := Lib.hid h4
  have HM := Lib.hid hml
  clear h1 h2 h3 h4 h5 h6 h7 h8 hml he hn hw
  go_enter Try.func47, Try.ntmps47
  go_wp2_with (at_lookup; refine wpList_lookup_own_ok _ rfl _ _ 98 rfl 108 104 K108 Try.underlying98 RP (zero104 _) nD [] rfl M cnt D rfl HO.out _ _ rfl HKEY.out ?_; intro v1 ps1 hv1; rw [HM.out.2] at hv1; obtain rfl := RP_inv hv1; rw [HM.out.1]; clear hv1)
  exact bodyPost_ret (v := .tuple #[.pointer (some ⟨e.1, 0, none⟩), .bool true]) (by simp [results, Try.results47, go_sem]) rfl ⟨rfl, rfl⟩
set_option maxHeartbeats 2000000 in
theorem find_out {B0 Q M tn : Nat} {L : List It} (k : Int) (x : Nat) (w : World) (h : IsT w B0 Q M tn L) (hw : wfN k x) (hn : ∀ e ∈ L, nm k x e = false) :
    Calls Try.prog 47 #[.pointer (some ⟨Q, 0, none⟩), .int .i64 k, .int .u32 (x : Int)] w fun r w' => r = .returned (.tuple #[.pointer none, .bool false]) ∧ w' = w := by
  obtain ⟨v, hp, D, cnt, h1, h2, h3, h4, h5, h6, h7, h8⟩ := h
  have hml := (h7 k x hw).2 hn
  have q1 := cell_of_row w Q 1 _ _ _ h1.row
  simp at q1
  have HKEY := Lib.hid (key108 k x hw.1 hw.2)
  have HO := Lib.hid h4
  have HM := Lib.hid hml
  clear h1 h2 h3 h4 h5 h6 h7 h8 hml hn hw
  go_enter Try.func47, Try.ntmps47
  go_wp2_with (at_lookup; refine wpList_lookup_own_ok _ rfl _ _ 98 rfl 108 104 K108 Try.underlying98 RP (zero104 _) nD [] rfl M cnt D rfl HO.out _ _ rfl HKEY.out ?_; intro v1 ps1 hv1; rw [HM.out.2] at hv1; obtain rfl := RP_nil hv1; rw [HM.out.1]; clear hv1)
  exact bodyPost_ret (v := .tuple #[.pointer none, .bool false]) (by simp [results, Try.results47, go_sem]) rfl ⟨rfl, rfl⟩
set_option maxHeartbeats 1000000 in
theorem find_nil (k : Int) (x : Nat) (w : World) : Calls Try.prog 47 #[.pointer none, .int .i64 k, .int .u32 (x : Int)] w fun r w' => r = .returned (.tuple #[.pointer none, .bool false]) ∧ w' = w := by
  go_enter Try.func47, Try.ntmps47
  go_wp2
  exact bodyPost_ret (v := .tuple #[.pointer none, .bool false]) (by simp [results, Try.results47, go_sem]) rfl ⟨rfl, rfl⟩

def offN (k : Int) (x : Nat) (L : List It) : List It := L.filter (fun e => !nm k x e)
theorem off_none {k : Int} {x : Nat} {L : List It} (h : ∀ e ∈ L, nm k x e = false) : offN k x L = L := by
  unfold offN
  rw [List.filter_eq_self]
  intro e he
  simp [h e he]
theorem dis_perm {L L' : List It} (h : L.Perm L') (hd : Dis L) : Dis L' := (h.pairwise_iff (fun {_ _} hab hba => hab ⟨hba.1.symm, hba.2.symm⟩)).1 hd
theorem off_perm {k : Int} {x : Nat} {L hp' : List It} {e : It} (hd : Dis L) (hp : (hp' ++ [e]).Perm L) (he : nm k x e = true) : hp'.Perm (offN k x L) := by
  have hd' := dis_perm hp.symm hd
  have h1 : (hp' ++ [e]).filter (fun e => !nm k x e) = hp' := by
    rw [List.filter_append]
    have h2 : hp'.filter (fun e => !nm k x e) = hp' := by
      rw [List.filter_eq_self]
      intro a ha
      have := (List.pairwise_append.1 hd').2.2 a ha e (by simp)
      rw [nm_iff] at he
      cases hna : nm k x a
      · rfl
      · rw [nm_iff] at hna
        exact absurd ⟨hna.1.trans he.1.symm, hna.2.trans he.2.symm⟩ this
    rw [h2]
    simp [he]
  have := hp.filter (fun e => !nm k x e)
  rw [h1] at this
  exact this
theorem mapl_del {D : DataW Unit} {L : List It} (_hD : Maps.IsMap D) (k : Int) (x : Nat) (hw : wfN k x) (h : MapL D L) : MapL (D.del (kl k x)) (offN k x L) := fun k' x' hw' => by
  by_cases hs : k' = k ∧ x' = x
  · obtain ⟨rfl, rfl⟩ := hs
    refine ⟨fun e he hn => ?_, fun _ => ⟨Maps.has_del_same, Maps.atKey_del_same _⟩⟩
    have := (List.mem_filter.1 he).2
    rw [hn] at this
    cases this
  · have hne : kl k' x' ≠ kl k x := fun e => hs (kl_inj hw'.1 hw'.2 hw.1 hw.2 e)
    rw [Maps.has_del_other hne, Maps.atKey_del_other hne]
    refine ⟨fun e he hn => (h k' x' hw').1 e (List.mem_filter.1 he).1 hn, fun hno => (h k' x' hw').2 fun e he => ?_⟩
    cases hne2 : nm k x e
    · exact hno e (List.mem_filter.2 ⟨he, by simp [hne2]⟩)
    · rw [nm_iff] at hne2
      cases h3 : nm k' x' e
      · rfl
      · rw [nm_iff] at h3
        exact absurd ⟨h3.1.symm.trans hne2.1, h3.2.symm.trans hne2.2⟩ hs

theorem clear_fin {w w3 w4 : World} {B0 Q M tn cnt : Nat} {v : Value} {hp3 L : List It} {D : DataW Unit} {k : Int} {x : Nat} (hI : InQ w3 B0 Q M tn v hp3) (hH : HeapN hp3.length hp3) (hP : hp3.Perm (offN k x L)) (hM : w3.ownsMap Try.prog 108 RP M cnt D) (ho : w4.ownsMap Try.prog 108 RP M cnt (D.del (kl k x))) (ht : w3.mapTurned w4 M)
    (hr : cnt ≤ tn ∧ B0 ≤ M ∧ MapL D L ∧ Dis (offN k x L) ∧ (∀ e ∈ offN k x L, wfN e.2.1 e.2.2.1 ∧ e.2.2.2.2 < tn) ∧ (offN k x L).Pairwise (fun a b => a.2.2.2.2 < b.2.2.2.2)) (hw : wfN k x) (hc : Ch 1 B0 w w3) : IsT w4 B0 Q M tn (offN k x L) ∧ Ch 2 B0 w w4 := by
  have hMm := hM.isMap
  obtain ⟨es, cl, hm, _⟩ := hM
  obtain ⟨r1, r2, r3, r4, r5, r6⟩ := hr
  exact ⟨⟨v, hp3, _, cnt, turned_inq hm ht hI, hH, hP, ho, r1, r2, mapl_del hMm k x hw r3, r4, r5, r6⟩, (hc.up (by omega)).trans (turned_ch hm ht r2)⟩
set_option linter.unusedSimpArgs false in
set_option maxHeartbeats 8000000 in
theorem clear_in {B0 Q M tn : Nat} {L : List It} (k : Int) (x : Nat) (e : It) (w : World) (h : IsT w B0 Q M tn L) (hl : L.length ≤ 1000) (hw : wfN k x) (he : e ∈ L) (hn : nm k x e = true) :
    Calls Try.prog 15 #[.pointer (some ⟨Q, 0, none⟩), .int .i64 k, .int .u32 (x : Int)] w fun r w' => r = .returned (.bool true) ∧ IsT w' B0 Q M tn (offN k x L) ∧ Ch 2 B0 w w' := by
  have HF := Lib.hid (find_in k x e w h hw he hn)
  obtain ⟨v, hp, D, cnt, h1, h2, h3, h4, h5, h6, h7, h8, h9, hA⟩ := h
  have hpl : hp.length ≤ 1000 := by rw [h3.length_eq]; exact hl
  have hpe := h3.mem_iff.2 he
  obtain ⟨p, hp0⟩ := List.getElem?_of_mem hpe
  have HKEY := Lib.hid (key108 k x hw.1 hw.2)
  have HQ := Lib.hid h1
  have HHP := Lib.hid h2
  have HPE := Lib.hid hp0
  have HO := Lib.hid h4
  have HALL : Hid (∀ hp3 : List It, (hp3 ++ [e]).Perm hp → hp3.Perm (offN k x L)) := fun hp3 hh => off_perm h8 (hh.trans h3) hn
  have HREST : Hid (cnt ≤ tn ∧ B0 ≤ M ∧ MapL D L ∧ Dis (offN k x L) ∧ (∀ e ∈ offN k x L, wfN e.2.1 e.2.2.1 ∧ e.2.2.2.2 < tn) ∧ (offN k x L).Pairwise (fun a b => a.2.2.2.2 < b.2.2.2.2)) := ⟨h5, h6, h7, h8.filter _, fun e he => h9 e (List.mem_filter.1 he).1, hA.filter _⟩
  have HW := Lib.hid hw
  clear h1 h2 h3 h4 h5 h6 h7 h8 h9 hA hp0 hpe he hn hw
  go_enter Try.func15, Try.ntmps15
  go_wp2_with fail
  refine HF.out.mono ?_
  rintro r w' ⟨rfl, hw'⟩
  subst hw'
  go_upto_region 4 with (fail)
  refine wp_region_held_drew (S := fun _ : World => True) (by kernel_rfl) trivial (fun hHeld => ?_)
  obtain ⟨W0, hW0⟩ : ∃ W0, W0 = w'.drew := ⟨_, rfl⟩
  rw [← hW0]
  have HD0 : Hid (InQ W0 B0 Q M tn v hp ∧ Ch 1 B0 w' W0) := by rw [hW0]; exact ⟨⟨HQ.out.row, ⟨HQ.out.ln.own, HQ.out.ln.its, HQ.out.ln.nd, HQ.out.ln.lo⟩, HQ.out.lo⟩, (Ch.refl 1 B0 w').drew⟩
  have x4 := cell_of_row W0 e.1 4 _ _ _ (HD0.out.1.ln.its p e HPE.out)
  simp [ic] at x4
  have HRM := Lib.hid (hremove_any v hp p e W0 HD0.out.1 hpl HPE.out HHP.out)
  clear hW0
  refine wpAnyH_take (i := 0) (oi := ?oi0) (v := ?v0) ?hi0 ?hs0 ?hf0 ?hr0 ?hQ0 ?hy0 ?hS0 ?h0
  case hi0 => exact (by simp only [List.getElem?_toArray, List.getElem?_cons_zero]; rfl)
  case hs0 => kernel_rfl
  case hf0 => kernel_rfl
  case hr0 => kernel_rfl
  case hQ0 => exact fun _ _ _ h => h
  case hy0 =>
    refine Or.inl ⟨rfl, ?_⟩
    intro W _
    go_simp
    try with_reducible rfl
  case hS0 => assumption
  try simp only [Act.put, List.setIfInBounds_toArray, List.set_cons_zero, List.set_cons_succ]
  refine wpAnyH_take (i := 1) (oi := ?oi1) (v := ?v1) ?hi1 ?hs1 ?hf1 ?hr1 ?hQ1 ?hy1 ?hS1 ?h1
  case hi1 => exact (by simp only [List.getElem?_toArray, List.getElem?_cons_succ, List.getElem?_cons_zero]; rfl)
  case hs1 => kernel_rfl
  case hf1 => kernel_rfl
  case hr1 => kernel_rfl
  case hQ1 => exact fun _ _ _ h => h
  case hy1 =>
    refine Or.inl ⟨rfl, ?_⟩
    intro W _
    go_simp
    try with_reducible rfl
  case hS1 => assumption
  try simp only [Act.put, List.setIfInBounds_toArray, List.set_cons_zero, List.set_cons_succ]
  refine wpAnyH_take (i := 2) (oi := ?oi2) (v := ?v2) ?hi2 ?hs2 ?hf2 ?hr2 ?hQ2 ?hy2 ?hS2 ?h2
  case hi2 => exact (by simp only [List.getElem?_toArray, List.getElem?_cons_succ, List.getElem?_cons_zero]; rfl)
  case hs2 => kernel_rfl
  case hf2 => kernel_rfl
  case hr2 => kernel_rfl
  case hQ2 => exact fun _ _ _ h => h
  case hy2 =>
    refine Or.inl ⟨rfl, ?_⟩
    intro W _
    go_simp
    try with_reducible rfl
  case hS2 => assumption
  try simp only [Act.put, List.setIfInBounds_toArray, List.set_cons_zero, List.set_cons_succ]
  refine wpAnyH_take (i := 3) (oi := ?oi3) (v := ?v3) ?hi3 ?hs3 ?hf3 ?hr3 ?hQ3 ?hy3 ?hS3 ?h3
  case hi3 => exact (by simp only [List.getElem?_toArray, List.getElem?_cons_succ, List.getElem?_cons_zero]; rfl)
  case hs3 => kernel_rfl
  case hf3 => kernel_rfl
  case hr3 => kernel_rfl
  case hQ3 => exact fun _ _ _ h => h
  case hy3 =>
    refine Or.inl ⟨rfl, ?_⟩
    intro W _
    go_simp
    try with_reducible rfl
  case hS3 => assumption
  try simp only [Act.put, List.setIfInBounds_toArray, List.set_cons_zero, List.set_cons_succ]
  refine wpAnyH_take (i := 4) (oi := ?oi4) (v := ?v4) ?hi4 ?hs4 ?hf4 ?hr4 ?hQ4 ?hy4 ?hS4 ?h4
  case hi4 => exact (by simp only [List.getElem?_toArray, List.getElem?_cons_succ, List.getElem?_cons_zero]; rfl)
  case hs4 => kernel_rfl
  case hf4 => kernel_rfl
  case hr4 => kernel_rfl
  case hQ4 => exact fun _ _ _ h => h
  case hy4 =>
    refine Or.inl ⟨rfl, ?_⟩
    intro W _
    go_simp
    try with_reducible rfl
  case hS4 => assumption
  try simp only [Act.put, List.setIfInBounds_toArray, List.set_cons_zero, List.set_cons_succ]
  refine wpAnyH_take (i := 5) (oi := ?oi5) (v := ?v5) ?hi5 ?hs5 ?hf5 ?hr5 ?hQ5 ?hy5 ?hS5 ?h5
  case hi5 => exact (by simp only [List.getElem?_toArray, List.getElem?_cons_succ, List.getElem?_cons_zero]; rfl)
  case hs5 => kernel_rfl
  case hf5 => kernel_rfl
  case hr5 => kernel_rfl
  case hQ5 => exact fun _ _ _ h => h
  case hy5 =>
    refine Or.inl ⟨rfl, ?_⟩
    intro W _
    go_simp
    try with_reducible rfl
  case hS5 => assumption
  try simp only [Act.put, List.setIfInBounds_toArray, List.set_cons_zero, List.set_cons_succ]
  refine wpAnyH_take (i := 6) (oi := ?oi6) (v := ?v6) ?hi6 ?hs6 ?hf6 ?hr6 ?hQ6 ?hy6 ?hS6 ?h6
  case hi6 => exact (by simp only [List.getElem?_toArray, List.getElem?_cons_succ, List.getElem?_cons_zero]; rfl)
  case hs6 => kernel_rfl
  case hf6 => kernel_rfl
  case hr6 => kernel_rfl
  case hQ6 => exact fun _ _ _ h => h
  case hy6 =>
    refine Or.inl ⟨rfl, ?_⟩
    intro W _
    go_simp
    try with_reducible rfl
  case hS6 => assumption
  try simp only [Act.put, List.setIfInBounds_toArray, List.set_cons_zero, List.set_cons_succ]
  refine wpAnyH_ready (rs := [7]) (by kernel_rfl) (by simp) ?_
  refine AllReadyH.cons (o := _) rfl (fun K hK => ?_) AllReadyH.nil
  go_simp
  refine hK.out _ _ trivial (fun hHeld => ?_)
  clear hK K
  try simp only [Act.put, List.setIfInBounds_toArray, List.set_cons_zero, List.set_cons_succ]
  clear x4
  refine wpAnyH_ready (rs := [8]) (by kernel_rfl) (by simp) ?_
  refine AllReadyH.cons (o := _) rfl (fun K hK => ?_) AllReadyH.nil
  go_simp
  refine HRM.out.mono ?_
  rintro r w3 ⟨x3, v3, hp3, rfl, hI3, hp3p, hH3, hC3⟩
  have HI3 := Lib.hid hI3
  have HP3 := Lib.hid hp3p
  have HH3 := Lib.hid hH3
  have HC3 : Hid (Ch 1 B0 w' w3) := HD0.out.2.trans hC3
  clear hI3 hp3p hH3 hC3
  refine hK.out _ _ trivial (fun hHeld => ?_)
  clear hK K
  try simp only [Act.put, List.setIfInBounds_toArray, List.set_cons_zero, List.set_cons_succ]
  refine wpAnyH_done (by kernel_rfl) ?_ _
  have q1 := cell_of_row w3 Q 1 _ _ _ HI3.out.row
  simp at q1
  have HM3 := Lib.hid (map_kept HO.out HC3.out (Nat.le_refl _))
  go_wp2_with (at_delete; refine wpList_delete_own _ rfl _ _ 98 108 rfl 104 K108 Try.underlying98 RP M cnt D rfl HM3.out _ _ rfl HKEY.out ?_; intro w4 hown4 hturn4; have HFIN : Hid (IsT w4 B0 Q M tn (offN k x L) ∧ Ch 2 B0 w' w4) := clear_fin HI3.out HH3.out (HALL.out _ HP3.out) HM3.out hown4 hturn4 HREST.out HW.out HC3.out; clear hown4 hturn4)
  go_ret
  exact ⟨rfl, HFIN.out.1, HFIN.out.2⟩
set_option maxHeartbeats 1000000 in
theorem clear_out {B0 Q M tn : Nat} {L : List It} (k : Int) (x : Nat) (w : World) (h : IsT w B0 Q M tn L) (hw : wfN k x) (hn : ∀ e ∈ L, nm k x e = false) :
    Calls Try.prog 15 #[.pointer (some ⟨Q, 0, none⟩), .int .i64 k, .int .u32 (x : Int)] w fun r w' => r = .returned (.bool false) ∧ w' = w := by
  have HF := Lib.hid (find_out k x w h hw hn)
  clear h hw hn
  go_enter Try.func15, Try.ntmps15
  go_wp2_with fail
  refine HF.out.mono ?_
  rintro r w' ⟨rfl, rfl⟩
  go_wp2
  go_ret
  exact ⟨rfl, rfl⟩
set_option maxHeartbeats 1000000 in
theorem clear_nil (k : Int) (x : Nat) (w : World) : Calls Try.prog 15 #[.pointer none, .int .i64 k, .int .u32 (x : Int)] w fun r w' => r = .returned (.bool false) ∧ w' = w := by
  go_enter Try.func15, Try.ntmps15
  go_wp2_with fail
  refine (find_nil k x w).mono ?_
  rintro r w' ⟨rfl, rfl⟩
  go_wp2
  go_ret
  exact ⟨rfl, rfl⟩
end Go.Proofs.Ytaoejkbockcneaa
