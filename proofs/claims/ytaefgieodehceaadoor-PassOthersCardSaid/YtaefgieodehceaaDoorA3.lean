/- Texts, lists and numbers put behind bytes; how many fields of each kind a shape has: contracts for field.putText, putList, putNumber, fresh, matches. -/
import Derived.Test.YtaefgieodehceaaDoorA2
import Derived.Lib.AppendStr
import Derived.Lib.Bytealg
namespace Go.Proofs.YtaefgieodehceaaDoor
set_option maxRecDepth 4000
open Go.RowKit

set_option maxHeartbeats 1000000 in
theorem count_any (s : ByteArray) (c : UInt8) (w : World) :
    Calls Tryd.prog 55 #[.string s, .string ⟨#[c]⟩] w fun e w' => e = .returned (.int .i64 (s.data.toList.count c : Nat)) ∧ w = w' := by
  go_enter Tryd.func55, Tryd.ntmps55
  go_wp2
  rw [run_callFunc_extern Tryd.func65 (by kernel_rfl) (by kernel_rfl) (by kernel_rfl) (e := Extern.BytealgCount.count) (by kernel_rfl), Lib.run_countString]
  simp only [Result.andThen]
  rw [Oper.upon_value]
  go_wp2
  go_ret
  refine ⟨ret_i64 ?_, rfl⟩
  simp [Lib.countByte]
  rfl

theorem strCells_bv (s : ByteArray) : Lib.strCells s = bv s.data.toList := by
  unfold Lib.strCells bv
  rfl

set_option maxHeartbeats 1000000 in
theorem putText_no (v : Value) (s : ByteArray) (w : World) (hs : 255 < s.size) :
    Calls Tryd.prog 46 #[v, .string s] w fun e w' => e = .returned (.tuple #[.slice none 0 0, .bool false]) ∧ w = w' := by
  go_enter Tryd.func46, Tryd.ntmps46
  go_wp2
  go_ret2
  exact ⟨rfl, rfl⟩

set_option maxHeartbeats 1000000 in
theorem putText_ok (base : Nat) (v : Value) (xs : List UInt8) (s : ByteArray) (w : World)
    (hbase : base ≤ w.heap.size) (hown : w.ownsRow base 5 1 v xs.length (bv xs)) (hlen : xs.length ≤ 900000) (hs : s.size ≤ 255) :
    Calls Tryd.prog 46 #[v, .string s] w fun e w' =>
      ∃ v', e = .returned (.tuple #[v', .bool true]) ∧ w'.ownsRow base 5 1 v' (xs.length + (1 + s.size)) (bv (xs ++ (be 1 s.size ++ s.data.toList))) ∧ Below base w w' := by
  obtain ⟨i0, hi, hz0, hz1, hz2⟩ := info_parts Tryd.info5
  have hput := fun W (hW : base ≤ W.heap.size) (ho : W.ownsRow base 5 1 v xs.length (bv xs)) b o c hc => putInt_one base v xs 1 s.size b o c W hW ho (by omega) (by omega) (by omega) hc
  have HP := Lib.hid hput
  clear hput
  go_enter Tryd.func46, Tryd.ntmps46
  go_wp2_with fail
  refine (HP.out _ ?_ (hown.alloc _) _ _ _ ?_).mono ?_
  · simp; omega
  · simp
  rintro e w1 ⟨v1, rfl, hown1, hb1⟩
  have hsz := hb1.size
  go_wp2_with (at_builtin; go_loud (refine Lib.wpList_append_own_string _ rfl _ _ 22 9 rfl base 5 i0 Tryd.underlying22 Tryd.underlying9 hi hz0 hz1 hz2 _ _ _ rfl hown1 s rfl ?c1 ?c2 ?c3 ?_))
  case c1 => unfold maxLen; omega
  case c2 => omega
  case c3 => simp at hsz; omega
  intro v2 w2 hown2 hgrow _
  go_wp2
  go_ret2
  refine ⟨v2, rfl, ?_, (((Below.refl _ _).alloc hbase _).trans hb1).grown hgrow (by simp at hsz; omega) (fun k hk => (hown1.lt k hk).1)⟩
  rw [strCells_bv] at hown2
  rw [← Nat.add_assoc]
  simpa [bv] using hown2

set_option maxHeartbeats 1000000 in
theorem putList_no (v : Value) (A : Option Addr) (n c : Nat) (w : World) (hs : 255 < n) :
    Calls Tryd.prog 47 #[v, .slice A n c] w fun e w' => e = .returned (.tuple #[.slice none 0 0, .bool false]) ∧ w = w' := by
  go_enter Tryd.func47, Tryd.ntmps47
  go_wp2
  go_ret2
  exact ⟨rfl, rfl⟩

set_option maxHeartbeats 1000000 in
theorem putList_ok (base : Nat) (v : Value) (xs : List UInt8) (us : List Nat) (A : Option Addr) (c : Nat) (w : World)
    (hbase : base ≤ w.heap.size) (hown : w.ownsRow base 5 1 v xs.length (bv xs)) (hlen : xs.length ≤ 900000) (hs : us.length ≤ 255)
    (hn : ∀ n ∈ us, n < 4294967296) (hr : Rd w base A (uv .u32 us)) :
    Calls Tryd.prog 47 #[v, .slice A us.length c] w fun e w' =>
      ∃ v', e = .returned (.tuple #[v', .bool true]) ∧ w'.ownsRow base 5 1 v' (xs.length + (1 + 4 * us.length)) (bv (xs ++ (be 1 us.length ++ us.flatMap (be 4)))) ∧ Below base w w' := by
  have hput := fun W (hW : base ≤ W.heap.size) (ho : W.ownsRow base 5 1 v xs.length (bv xs)) b o c hc => putInt_one base v xs 1 us.length b o c W hW ho (by omega) (by omega) (by omega) hc
  have HP := Lib.hid hput
  clear hput
  have HN := Lib.hid hn
  have HR := Lib.hid hr
  clear hn hr
  go_enter Tryd.func47, Tryd.ntmps47
  go_wp2_with fail
  refine (HP.out _ ?_ (hown.alloc _) _ _ _ ?_).mono ?_
  · simp; omega
  · simp
  rintro e w1 ⟨v1, rfl, hown1, hb1⟩
  have hsz := hb1.size
  have hb2 := ((Below.refl base w).alloc hbase _).trans hb1
  have hl1 : (xs ++ be 1 us.length).length = xs.length + 1 := by simp [be_length]
  have HL := Lib.hid hl1
  rw [← hl1] at hown1
  clear hl1
  go_wp2_with fail
  refine (put32_any base v1 (xs ++ be 1 us.length) us 4 A c w1 (Nat.le_trans hbase hb2.size) hown1 (by omega) HN.out (by rw [HL.out]; omega) (by omega) (HR.out.below hb2 (Nat.le_refl _))).mono ?_
  rintro e w2 ⟨v2, rfl, hown2, hb3⟩
  go_wp2
  go_ret2
  refine ⟨v2, rfl, ?_, hb2.trans hb3⟩
  rw [HL.out] at hown2
  rw [← Nat.add_assoc]
  simpa using hown2

set_option maxHeartbeats 1000000 in
theorem putNumber_no (v : Value) (n : Nat) (m : Nat) (w : World) (hm : m ≤ 8) (hs : 2 ^ (8 * m) ≤ n) :
    Calls Tryd.prog 48 #[v, .int .u64 (n : Int), .int .i64 (m : Int)] w fun e w' => e = .returned (.tuple #[.slice none 0 0, .bool false]) ∧ w = w' := by
  have hq : (((n : Int) / 2 ^ (8 * m)) != 0) = true := by
    have e : ((n : Int) / 2 ^ (8 * m)) = ((n / 2 ^ (8 * m) : Nat) : Int) := by simp
    have h1 : 0 < n / 2 ^ (8 * m) := Nat.div_pos hs (Nat.two_pow_pos _)
    rw [e, bne_iff_ne]
    omega
  go_enter Tryd.func48, Tryd.ntmps48
  go_wp2
  go_ret2
  exact ⟨rfl, rfl⟩

set_option maxHeartbeats 1000000 in
theorem putNumber_ok (base : Nat) (v : Value) (xs : List UInt8) (n : Nat) (m : Nat) (w : World)
    (hbase : base ≤ w.heap.size) (hown : w.ownsRow base 5 1 v xs.length (bv xs)) (hlen : xs.length ≤ 900000)
    (hm : m ≤ 8) (hs : n < 2 ^ (8 * m)) :
    Calls Tryd.prog 48 #[v, .int .u64 (n : Int), .int .i64 (m : Int)] w fun e w' =>
      ∃ v', e = .returned (.tuple #[v', .bool true]) ∧ w'.ownsRow base 5 1 v' (xs.length + m) (bv (xs ++ be m n)) ∧ Below base w w' := by
  have hq : (((n : Int) / 2 ^ (8 * m)) != 0) = false := by
    have e : ((n : Int) / 2 ^ (8 * m)) = ((n / 2 ^ (8 * m) : Nat) : Int) := by simp
    rw [e, Nat.div_eq_of_lt hs]
    rfl
  have hput := fun W (hW : base ≤ W.heap.size) (ho : W.ownsRow base 5 1 v xs.length (bv xs)) b o c hc => put64_one base v xs m n b o c W hW ho hm (by omega) hc
  have HP := Lib.hid hput
  clear hput hs
  go_enter Tryd.func48, Tryd.ntmps48
  go_wp2_with fail
  refine (HP.out _ ?_ (hown.alloc _) _ _ _ ?_).mono ?_
  · simp; omega
  · simp
  rintro e w1 ⟨v1, rfl, hown1, hb1⟩
  go_wp2
  go_ret2
  exact ⟨v1, rfl, hown1, ((Below.refl base w).alloc hbase _).trans hb1⟩

/-- Are fields as many of each kind as a shape has? -/
def okM (l : List UInt8) (nN nS nL : Nat) : Bool := decide (nS = l.count 115 ∧ nL = l.count 108 ∧ nN + l.count 115 + l.count 108 = l.length)

theorem count_two (l : List UInt8) : l.count 115 + l.count 108 ≤ l.length := by
  induction l with
  | nil => simp
  | cons c l ih =>
    simp only [List.count_cons, List.length_cons]
    by_cases h1 : c = 115
    · subst h1; simp; omega
    · by_cases h2 : c = 108
      · subst h2; simp; omega
      · simp [h1, h2]; omega

theorem ret_bool {a b : Bool} (h : a = b) : Ending.returned (.bool a) = .returned (.bool b) := by rw [h]

set_option maxHeartbeats 1000000 in
theorem matches_any (s : ByteArray) (aN aS aL : Option Addr) (nN nS nL cN cS cL : Nat) (w : World) (h8 : s.size ≤ 8) :
    Calls Tryd.prog 45 #[.string s, .agg #[.slice aN nN cN, .slice aS nS cS, .slice aL nL cL]] w fun e w' =>
      e = .returned (.bool (okM s.data.toList nN nS nL)) ∧ Below w.heap.size w w' := by
  have hz : s.data.toList.length = s.size := by simp
  have hct := count_two s.data.toList
  have hb0 := (Below.refl w.heap.size w).alloc (Nat.le_refl _)
  obtain ⟨ct, hct1⟩ : ∃ ct, ct = s.data.toList.count 115 := ⟨_, rfl⟩
  obtain ⟨cl, hcl1⟩ : ∃ cl, cl = s.data.toList.count 108 := ⟨_, rfl⟩
  have hk : okM s.data.toList nN nS nL = decide (nS = ct ∧ nL = cl ∧ nN + ct + cl = s.size) := by rw [hct1, hcl1, ← hz]; rfl
  have c1 := fun W => count_any s 115 W
  have c2 := fun W => count_any s 108 W
  rw [← hct1] at c1
  rw [← hcl1] at c2
  rw [← hct1, ← hcl1, hz] at hct
  have C1 := Lib.hid c1
  have C2 := Lib.hid c2
  rw [hk]
  clear c1 c2 hct1 hcl1 hz hk
  by_cases g1 : nS = ct
  · by_cases g2 : nL = cl
    · by_cases g3 : nN + ct + cl = s.size
      · have t1 : ((nS : Int) == (ct : Int)) = true := by rw [beq_iff_eq]; omega
        have t2 : ((nL : Int) == (cl : Int)) = true := by rw [beq_iff_eq]; omega
        have t3 : ((nN : Int) == (s.size : Int) - (ct : Int) - (cl : Int)) = true := by rw [beq_iff_eq]; omega
        have hf : decide (nS = ct ∧ nL = cl ∧ nN + ct + cl = s.size) = true := by simp only [decide_eq_true_eq]; exact ⟨g1, g2, g3⟩
        rw [hf]
        clear g1 g2 g3 hf
        go_enter Tryd.func45, Tryd.ntmps45
        go_wp2_with fail
        refine (C1.out _).mono ?_
        rintro e w' ⟨rfl, rfl⟩
        go_wp2_with fail
        refine (C2.out _).mono ?_
        rintro e w' ⟨rfl, rfl⟩
        go_wp2
        go_ret
        exact ⟨rfl, hb0 _⟩
      · have t1 : ((nS : Int) == (ct : Int)) = true := by rw [beq_iff_eq]; omega
        have t2 : ((nL : Int) == (cl : Int)) = true := by rw [beq_iff_eq]; omega
        have t3 : ((nN : Int) == (s.size : Int) - (ct : Int) - (cl : Int)) = false := by rw [beq_eq_false_iff_ne]; omega
        have hf : decide (nS = ct ∧ nL = cl ∧ nN + ct + cl = s.size) = false := by simp [g3]
        rw [hf]
        clear g1 g2 g3 hf
        go_enter Tryd.func45, Tryd.ntmps45
        go_wp2_with fail
        refine (C1.out _).mono ?_
        rintro e w' ⟨rfl, rfl⟩
        go_wp2_with fail
        refine (C2.out _).mono ?_
        rintro e w' ⟨rfl, rfl⟩
        go_wp2
        go_ret
        exact ⟨rfl, hb0 _⟩
    · have t1 : ((nS : Int) == (ct : Int)) = true := by rw [beq_iff_eq]; omega
      have t2 : ((nL : Int) == (cl : Int)) = false := by rw [beq_eq_false_iff_ne]; omega
      have hf : decide (nS = ct ∧ nL = cl ∧ nN + ct + cl = s.size) = false := by simp [g2]
      rw [hf]
      clear g1 g2 hf
      go_enter Tryd.func45, Tryd.ntmps45
      go_wp2_with fail
      refine (C1.out _).mono ?_
      rintro e w' ⟨rfl, rfl⟩
      go_wp2_with fail
      refine (C2.out _).mono ?_
      rintro e w' ⟨rfl, rfl⟩
      go_wp2
      go_ret
      exact ⟨rfl, hb0 _⟩
  · have t1 : ((nS : Int) == (ct : Int)) = false := by rw [beq_eq_false_iff_ne]; omega
    have hf : decide (nS = ct ∧ nL = cl ∧ nN + ct + cl = s.size) = false := by simp [g1]
    rw [hf]
    clear g1 hf
    go_enter Tryd.func45, Tryd.ntmps45
    go_wp2_with fail
    refine (C1.out _).mono ?_
    rintro e w' ⟨rfl, rfl⟩
    go_wp2_with fail
    refine (C2.out _).mono ?_
    rintro e w' ⟨rfl, rfl⟩
    go_wp2
    go_ret
    exact ⟨rfl, hb0 _⟩
end Go.Proofs.YtaefgieodehceaaDoor
