/- Outbox: the document's Wrap; bytes as a text. -/
import Derived.Test.YtbahifbhjdnacaaO2
namespace Go.Proofs.Ytbahifbhjdnacaa
open Go.RowKit

theorem step_append_bytes {w : World} {ops : Array Oper} {o : Oper} {a : Act} {K : Act → World → Prop} {Q : Exit → Act → World → Prop} {E : Prop} (hgd : o.guard = none) (s x : Operand)
    (ho : o.op = .call { callee := .builtin .append, args := #[s, x], argTypes := #[32, 32] })
    (base : Nat) (v y : Value) (xs l : List UInt8) (hs : a.eval s = v) (hx : a.eval x = y)
    (hown : w.ownsRow base 5 1 v xs.length (bv xs)) (hy : Pb w y l) (hlen : xs.length + l.length ≤ 1000000) (hbase : base ≤ w.heap.size)
    (h : ∀ v' w', w'.ownsRow base 5 1 v' (xs ++ l).length (bv (xs ++ l)) → w.grownBy w' v.ownBlock → K (a.put o.dst v') w') :
    if Region.wanted o (yielded ops a.tmps) = true then Oper.wp Try.prog o a w K Q else E := by
  have hw : Region.wanted o (yielded ops a.tmps) = true := by simp [Region.wanted, hgd]
  rw [if_pos hw]
  obtain ⟨i0, hi, hz0, hz1, hz2⟩ := info_parts Try.info5
  obtain ⟨v', w', hr, h2, h3, _⟩ := run_append_bytes w base o.type v y xs l i0 hi hz0 hz1 hz2 hown hy hlen hbase
  unfold Oper.wp execOp
  simp only [ho, resolve, invoke, builtin, Sem.run_bind, Sem.run_pure, Result.andThen_ok, List.map_toArray, List.map_cons, List.map_nil, hs, hx, hr]
  exact h v' w' h2 h3

set_option maxHeartbeats 2000000 in
set_option maxRecDepth 4000 in
theorem rwrap_any (v : Value) (fs : List (List UInt8)) (w : World) (hp : Pbs w v fs) (hpl : fs.length ≤ 9223372036854775807) (hql : ∀ p ∈ fs, p.length ≤ 9223372036854775807) (hlen : (wrapP fs).length ≤ 900000) :
    Calls Try.prog 22 #[v] w fun e w' => ∃ A n c, e = .returned (.tuple #[.slice A n c, .bool (goodB fs)]) ∧ w'.ownsRow w.heap.size 5 1 (.slice A n c) (wrapR fs).length (bv (wrapR fs)) ∧ Below w.heap.size w w' := by
  obtain ⟨A, c, rfl, _, _⟩ := id hp
  obtain ⟨B, hB⟩ : ∃ B, B = w.heap.size := ⟨_, rfl⟩
  have HP := Lib.hid hp
  have HBB := Lib.hid hB
  have HQL := Lib.hid hql
  have HB0 : Hid (Below w.heap.size w w) := Lib.hid (Below.refl _ _)
  rw [← hB]
  obtain ⟨er, her⟩ : ∃ er : Bool, er = goodB fs := ⟨_, rfl⟩
  rw [← her]
  have HER := Lib.hid her
  clear hp hB hql her
  go_enter Try.func22, Try.ntmps22
  go_wp2_with fail
  go_loopw [4, 5] (fun u i wr => ∃ (k : Nat) (A4 : Option Addr) (n4 c4 : Nat), k ≤ fs.length ∧ i = .int .i64 k ∧ u = .slice A4 n4 c4 ∧ Hid (∀ f ∈ fs.take k, 1 ≤ f.length ∧ f.length ≤ 1024) ∧ Hid (wr.ownsRow B 5 1 (.slice A4 n4 c4) (wrapP (fs.take k)).length (bv (wrapP (fs.take k)))) ∧ Hid (Below w.heap.size w wr)) (fun _ i _ => fs.length - (intOf i).toNat)
  case atStart => exact ⟨0, none, 0, 0, by omega, rfl, rfl, by simp [Hid], World.ownsRow_nil w B 5 1, HB0⟩
  case round =>
    clear HB0
    obtain ⟨k, A4, n4, c4, hk, rfl, rfl, hgd, ho, hb⟩ := hrel
    have hsz : B ≤ wr.heap.size := by rw [HBB.out]; exact hb.out.size
    by_cases hlt : k < fs.length
    · obtain ⟨b, o, c2, u, e2, hbl, hcw, hpw⟩ := HP.out.get hlt
      injection e2 with e3 _ e4
      subst e3 e4
      have hcell := (hb.out.cell (p := ⟨b, o + k, none⟩) hbl).trans hcw
      obtain ⟨f, hf⟩ : ∃ f, f = fs[k] := ⟨_, rfl⟩
      have hn1 := wrapP_take fs k hlt
      have hle := wrapP_le fs (k + 1)
      have hfl := HQL.out fs[k] (List.getElem_mem hlt)
      rw [← hf] at hpw hn1 hfl
      obtain ⟨L, hL⟩ : ∃ L, L = wrapP (fs.take k) := ⟨_, rfl⟩
      rw [hn1] at hle
      rw [← hL] at ho hn1 hle
      obtain ⟨A6, c6, rfl, _, _⟩ := id hpw
      have hpb := hpw.below hb.out
      obtain ⟨n, hn⟩ : ∃ n, n = f.length := ⟨_, rfl⟩
      rw [← hn] at hpb hn1 hcell hfl
      obtain ⟨ok, hok⟩ : ∃ ok, ok = decide (1 ≤ (n : Int) ∧ (n : Int) ≤ 1024) := ⟨_, rfl⟩
      have HF := Lib.hid hf
      have HN1 := Lib.hid hn1
      have HLE := Lib.hid (show L.length + 2 + n ≤ 900000 by simp only [List.length_append, List.length_cons, List.length_nil] at hle; omega)
      have hpx := fun (W : World) (h : Below w.heap.size w W) => hpw.below h
      rw [← hn] at hpx
      have HPX := Lib.hid hpx
      have HCW := Lib.hid (show w.cell? ⟨b, o + k, none⟩ = some (.slice A6 n c6) by rw [hn]; exact hcw)
      clear hpx
      have HPB := Lib.hid hpb
      have HN := Lib.hid hn
      have HOK := Lib.hid hok
      clear hf hn1 hle hpb hn hok hpw hcw hL
      cases ok with
      | false =>
        have hgb : goodB fs = false := by
          unfold goodB
          rw [decide_eq_false_iff_not]
          intro h
          have h1 := h fs[k] (List.getElem_mem hlt)
          rw [← HF.out, ← HN.out] at h1
          have := decide_eq_false_iff_not.1 HOK.out.symm
          omega
        have HGB := Lib.hid hgb
        have hno := decide_eq_false_iff_not.1 HOK.out.symm
        clear hgb
        by_cases hn0 : n < 1
        · clear hno
          go_wp2_with fail
          go_ret2
          refine ⟨none, 0, 0, by rw [HER.out, HGB.out]; rfl, ?_, by rw [HBB.out]; exact hb.out⟩
          unfold wrapR
          rw [HGB.out]
          exact World.ownsRow_nil _ B 5 1
        · have hn2 : 1024 < n := by omega
          clear hno
          go_wp2_with fail
          go_ret2
          refine ⟨none, 0, 0, by rw [HER.out, HGB.out]; rfl, ?_, by rw [HBB.out]; exact hb.out⟩
          unfold wrapR
          rw [HGB.out]
          exact World.ownsRow_nil _ B 5 1
      | true =>
        have hok2 := decide_eq_true_iff.1 HOK.out.symm
        have hn0 : 1 ≤ n := by omega
        have hn2 : n ≤ 1024 := by omega
        clear hok2
        have HOA := Lib.hid (ho.out.alloc (.cells #[.int .u8 ((n : Int) / 256), .int .u8 ((n : Int) % 256)] 5))
        have HBA := Lib.hid (hb.out.alloc hb.out.size (.cells #[.int .u8 ((n : Int) / 256), .int .u8 ((n : Int) % 256)] 5))
        have HSA := Lib.hid (show B ≤ (wr.alloc (.cells #[.int .u8 ((n : Int) / 256), .int .u8 ((n : Int) % 256)] 5)).heap.size by simp; omega)
        have q0 : IntKind.i64.wrap ((n : Int) / 256) = (n : Int) / 256 := by rw [IntKind.wrap_i64]; omega
        have q1 : IntKind.u8.wrap ((n : Int) / 256) = (n : Int) / 256 := by rw [IntKind.wrap_u8]; omega
        have q2 : IntKind.u8.wrap ((n : Int).tmod 256) = (n : Int) % 256 := by
          rw [Int.tmod_eq_emod_of_nonneg (by omega), IntKind.wrap_u8]
          omega
        go_upto_region 7 with fail
        go_cut [4] (fun x wx => ∃ (A3 : Option Addr) (n3 c3 : Nat), x = .slice A3 n3 c3 ∧ Hid (wx.ownsRow B 5 1 (.slice A3 n3 c3) (L ++ [UInt8.ofNat (n / 256), UInt8.ofNat (n % 256)]).length (bv (L ++ [UInt8.ofNat (n / 256), UInt8.ofNat (n % 256)])) ∧ Below w.heap.size w wx ∧ B ≤ wx.heap.size))
        case first =>
          go_region_law (first
            | (refine step_append_bytes rfl (.tmp 26) (.tmp 41) rfl B (.slice A4 n4 c4) (.slice (some ⟨wr.heap.size, 0, none⟩) 2 2) L [UInt8.ofNat (n / 256), UInt8.ofNat (n % 256)] rfl rfl HOA.out (pb_head hn2) (by have := HLE.out; simp; omega) HSA.out ?_; intro v3 w3 hown3 hg3)
            | fail)
          all_goals
            try go_wp2_with fail
            go_meet
            obtain ⟨A3, n3, c3, rfl⟩ := own_form hown3
            exact ⟨A3, n3, c3, rfl, Lib.hid ⟨hown3, HBA.out.drew.grown hg3 HBA.out.size (fun g hg => by rw [← HBB.out]; exact (HOA.out.lt g hg).1), Nat.le_trans HSA.out hg3.size⟩⟩
        case rest =>
          obtain ⟨A3, n3, c3, rfl, HW3⟩ := hcut
          have hpw := HPX.out wc HW3.out.2.1
          have hcell3 := (HW3.out.2.1.cell (p := ⟨b, o + k, none⟩) hbl).trans HCW.out
          have HPW := Lib.hid hpw
          clear hpw q0 q1 q2 hcell
          go_wp2_with (at_builtin; refine wpList_append_bytes rfl (.tmp 43) (.tmp 47) rfl B (.slice A3 n3 c3) (.slice A6 n c6) (L ++ [UInt8.ofNat (n / 256), UInt8.ofNat (n % 256)]) f rfl rfl HW3.out.1 HPW.out (by have := HLE.out; have := HN.out; simp; omega) HW3.out.2.2 ?_; intro v5 w5 hown5 hg5 hat5; have HW5 : Hid (w5.ownsRow B 5 1 v5 ((L ++ [UInt8.ofNat (n / 256), UInt8.ofNat (n % 256)]) ++ f).length (bv ((L ++ [UInt8.ofNat (n / 256), UInt8.ofNat (n % 256)]) ++ f)) ∧ Below w.heap.size w w5) := ⟨hown5, HW3.out.2.1.grown hg5 HW3.out.2.1.size (fun g hg => by rw [← HBB.out]; exact (HW3.out.1.lt g hg).1)⟩; clear hown5 hg5 hat5; obtain ⟨A5, n5, c5, rfl⟩ := own_form HW5.out.1)
          go_roundw
          case rel =>
            refine ⟨k + 1, A5, n5, c5, by omega, by go_num, rfl, ?_, ?_, Lib.hid HW5.out.2⟩
            · intro p hp
              rw [List.take_succ_eq_append_getElem hlt, List.mem_append] at hp
              rcases hp with hp | hp
              · exact hgd.out p hp
              · simp at hp
                rw [hp, ← HF.out, ← HN.out]
                exact ⟨hn0, hn2⟩
            · rw [HN1.out]
              exact Lib.hid HW5.out.1
          case measure => simp [intOf] <;> omega
    · have hk2 : k = fs.length := by omega
      have hgb : goodB fs = true := by
        unfold goodB
        rw [decide_eq_true_iff]
        have := hgd.out
        rw [hk2, List.take_length] at this
        exact this
      have ho2 := ho.out
      rw [hk2, List.take_length] at ho2
      have HGB := Lib.hid hgb
      have HO2 := Lib.hid ho2
      clear hgb ho2
      go_wp2_with fail
      go_ret2
      refine ⟨A4, n4, c4, by rw [HER.out, HGB.out]; rfl, ?_, by rw [HBB.out]; exact hb.out⟩
      unfold wrapR
      rw [HGB.out]
      exact HO2.out
theorem conv_pb {w : World} {v : Value} {l : List UInt8} (h : Pb w v l) : (convert 32 9 v).run Try.prog w = .ok (.string ⟨l.toArray⟩) w := by
  obtain ⟨A, c, rfl, _, hr⟩ := h
  rcases A with _ | ad
  · have hl : l = [] := by
      rcases l with _ | ⟨x, l⟩
      · rfl
      · obtain ⟨b, o, hA, _⟩ := hr (by simp)
        cases hA
    subst hl
    exact run_convert_bytes_nil w 32 5 Try.underlying32 Try.underlying5 0 c 9 Try.underlying9
  · refine run_convert_bytes_back w 32 9 5 ad c l Try.underlying32 Try.underlying5 Try.underlying9 fun j hj => ?_
    obtain ⟨b, o, hA, _, hc⟩ := hr (by omega)
    injection hA with hA
    subst hA
    have := hc j (.int .u8 (l[j].toNat : Int)) (by simp [bv, List.getElem?_eq_getElem hj])
    rw [← this]
    unfold Addr.add
    split <;> simp_all
theorem str_eq (a b : List UInt8) : ((⟨a.toArray⟩ : ByteArray).toList == (⟨b.toArray⟩ : ByteArray).toList) = decide (a = b) := by
  rw [ByteArray.toList_eq, ByteArray.toList_eq, Bool.eq_iff_iff, beq_iff_eq, decide_eq_true_iff]

theorem pb_lit (w : World) (l : List UInt8) (cs : Array Value) (h : cs.toList = bv l) (n : Nat) (hn : n = l.length) : Pb (w.alloc (.cells cs 5)) (.slice (some ⟨w.heap.size, 0, none⟩) n n) l :=
  ⟨_, n, by rw [hn], by omega, fun _ => ⟨w.heap.size, 0, rfl, by simp, fun j u hu => by
    rw [cell_of_row _ _ _ _ _ _ (heap_alloc_new w _), Nat.zero_add, ← Array.getElem?_toList, h]
    exact hu⟩⟩
theorem wrapP_short {fs : List (List UInt8)} (h : ∀ p ∈ fs, p.length ≤ 1200) : (wrapP fs).length ≤ 1202 * fs.length := by
  induction fs with
  | nil => simp [wrapP]
  | cons f fs ih =>
    have h1 := h f (by simp)
    have h2 := ih (fun g hg => h g (by simp [hg]))
    rw [wrapP_cons]
    simp only [List.length_cons, List.length_append]
    omega

end Go.Proofs.Ytbahifbhjdnacaa
