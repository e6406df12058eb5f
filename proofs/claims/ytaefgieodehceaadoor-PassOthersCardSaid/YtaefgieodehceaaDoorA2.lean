/- A number's bytes, the highest first, put behind bytes: contracts for the three instances of field.put. -/
import Derived.Test.YtaefgieodehceaaDoorA1
namespace Go.Proofs.YtaefgieodehceaaDoor
set_option maxRecDepth 4000
open Go.RowKit

def bv (l : List UInt8) : List Value := l.map fun c => .int .u8 (c.toNat : Int)

/-- The j-th of a number's so many bytes. -/
def beAt (many n j : Nat) : UInt8 := UInt8.ofNat (n / 2 ^ (8 * (many - 1 - j)))
def beT (many n t : Nat) : List UInt8 := (List.range t).map (beAt many n)
def be (many n : Nat) : List UInt8 := beT many n many

theorem beT_succ (many n t : Nat) : beT many n (t + 1) = beT many n t ++ [beAt many n t] := by
  simp [beT, List.range_succ]
theorem beT_length (many n t : Nat) : (beT many n t).length = t := by simp [beT]
theorem be_length (many n : Nat) : (be many n).length = many := beT_length _ _ _

theorem beAt_val (many n p : Nat) (hp : p + 1 ≤ many) : (((beAt many n (many - (p + 1))).toNat : Nat) : Int) = (n : Int) / 2 ^ (8 * p) % 256 := by
  unfold beAt
  rw [show many - 1 - (many - (p + 1)) = p from by omega]
  simp

theorem rel_put {w1 : World} {base many n p : Nat} {xs : List UInt8} {v' : Value} (hp : p + 1 ≤ many)
    (h : w1.ownsRow base 5 1 v' (xs.length + (many - (p + 1)) + 1) (bv (xs ++ beT many n (many - (p + 1))) ++ [.int .u8 ((n : Int) / 2 ^ (8 * p) % 256)])) :
    w1.ownsRow base 5 1 v' (xs.length + (many - p)) (bv (xs ++ beT many n (many - p))) := by
  rw [show many - p = many - (p + 1) + 1 from by omega, beT_succ, ← List.append_assoc]
  rw [← beAt_val many n p hp] at h
  rw [← Nat.add_assoc]
  simpa [bv] using h

/-- The slice address A holds the one-cell values xs, below block B (nothing is asked where there are none). -/
def Rd (w : World) (B : Nat) (A : Option Addr) (xs : List Value) : Prop :=
  0 < xs.length → ∃ b o, A = some ⟨b, o, none⟩ ∧ b < B ∧ ∀ j u, xs[j]? = some u → w.cell? ⟨b, o + j, none⟩ = some u

theorem Rd.get {w : World} {B : Nat} {A : Option Addr} {xs : List Value} (h : Rd w B A xs) {k : Nat} (hk : k < xs.length) :
    ∃ b o, A = some ⟨b, o, none⟩ ∧ b < B ∧ w.cell? ⟨b, o + k, none⟩ = some xs[k] := by
  obtain ⟨b, o, hA, hb, hc⟩ := h (by omega)
  exact ⟨b, o, hA, hb, hc k _ (List.getElem?_eq_getElem hk)⟩

theorem Rd.below {w w' : World} {B B' : Nat} {A : Option Addr} {xs : List Value} (h : Rd w B A xs) (hb : Below B' w w') (hB : B ≤ B') : Rd w' B A xs := fun hx => by
  obtain ⟨b, o, hA, hlt, hc⟩ := h hx
  exact ⟨b, o, hA, hlt, fun j u hu => (hb.cell (p := ⟨b, o + j, none⟩) (by simp; omega)).trans (hc j u hu)⟩

theorem Rd.mono {w : World} {B B' : Nat} {A : Option Addr} {xs : List Value} (h : Rd w B A xs) (hB : B ≤ B') : Rd w B' A xs := fun hx => by
  obtain ⟨b, o, hA, hlt, hc⟩ := h hx
  exact ⟨b, o, hA, by omega, hc⟩

theorem Rd.nil {w : World} {B : Nat} {A : Option Addr} : Rd w B A [] := fun h => absurd h (by simp)

def uv (k : IntKind) (l : List Nat) : List Value := l.map fun (n : Nat) => .int k (n : Int)

theorem Tryd.info5 : (Tryd.prog.info? 5).map (fun i => (i.zero, i.size, i.bytes)) = some (some (.int .u8 0), 1, 1) := by kernel_rfl

theorem flat_len (many : Nat) (l : List Nat) : (l.flatMap (be many)).length = many * l.length := by
  induction l with
  | nil => simp
  | cons n l ih => simp [ih, be_length, Nat.mul_add, Nat.add_comm]

theorem own_len {many k : Nat} {us : List Nat} (h : ((us.take k).flatMap (be many)).length = many * (us.take k).length) (hk : k ≤ us.length) : ((us.take k).flatMap (be many)).length = many * k := by
  rw [h, List.length_take, Nat.min_eq_left hk]

theorem step32 (many k : Nat) (us : List Nat) (xs : List UInt8) (hk : k < us.length) :
    xs ++ (us.take (k + 1)).flatMap (be many) = (xs ++ (us.take k).flatMap (be many)) ++ be many us[k] := by
  rw [List.take_succ_eq_append_getElem hk, List.flatMap_append, List.flatMap_cons, List.flatMap_nil, List.append_nil, List.append_assoc]

set_option maxHeartbeats 1000000 in
theorem put64_one (base : Nat) (v : Value) (xs : List UInt8) (many : Nat) (n : Nat) (b o c : Nat) (w : World)
    (hbase : base ≤ w.heap.size) (hown : w.ownsRow base 5 1 v xs.length (bv xs)) (hm : many ≤ 8)
    (hlen : xs.length ≤ 1000000) (hc : w.cell? ⟨b, o, none⟩ = some (.int .u64 (n : Int))) :
    Calls Tryd.prog 58 #[v, .int .i64 (many : Int), .slice (some ⟨b, o, none⟩) 1 c] w fun e w' =>
      ∃ v', e = .returned v' ∧ w'.ownsRow base 5 1 v' (xs.length + many) (bv (xs ++ be many n)) ∧ Below base w w' := by
  obtain ⟨i0, hi, hz0, hz1, hz2⟩ := info_parts Tryd.info5
  go_enter Tryd.func58, Tryd.ntmps58
  go_wp2
  go_loopw [0, 15] (fun u i wr => (i = .int .i64 0 ∧ u = v ∧ wr = w) ∨ (i = .int .i64 1 ∧ wr.ownsRow base 5 1 u (xs.length + many) (bv (xs ++ be many n)) ∧ Below base w wr)) (fun _ i _ => 1 - (intOf i).toNat)
  case atStart => exact .inl ⟨rfl, rfl, rfl⟩
  case round =>
    rcases hrel with ⟨rfl, rfl, rfl⟩ | ⟨rfl, hown', hb⟩
    · go_wp2
      obtain ⟨wo, rfl⟩ : ∃ wo : World, wo = wr := ⟨_, rfl⟩
      go_loopw [0, 9] (fun u i wr => ∃ q : Nat, q ≤ many ∧ i = .int .i64 ((q : Int) - 1) ∧ wr.ownsRow base 5 1 u (xs.length + (many - q)) (bv (xs ++ beT many n (many - q))) ∧ Below base wo wr) (fun _ i _ => (intOf i + 1).toNat)
      case atStart => exact ⟨many, by omega, by go_num, by simpa [beT] using hown, Below.refl _ _⟩
      case round =>
        obtain ⟨q, hq, hi9, hown1, hb1⟩ := hrel
        rcases q with _ | p
        · subst hi9
          go_wp2
          go_roundw
          case rel => exact .inr ⟨by go_num, by simpa [be] using hown1, hb1⟩
          case measure => simp [intOf]
        · have e9 : (((p + 1 : Nat) : Int) - 1) = p := by omega
          rw [e9] at hi9
          subst hi9
          clear e9
          have hk1 := hb1.size
          go_wp2_with (at_builtin; refine wpList_append_own _ rfl _ _ 22 rfl base 5 i0 (.int .u8 0) 1 1 Tryd.underlying22 hi hz0 hz1 hz2 rfl (by decide) _ _ _ rfl (hown1.alloc _) ⟨wr.heap.size, 0, none⟩ 1 1 [.int .u8 (↑n / 2 ^ (8 * p) % 256)] rfl rfl ?c1 ?c2 ?c3 ?c4 ?c5 ?_)
          case c1 => exact cell_one_new _ _ _
          case c2 => intro u hu; simp at hu; subst hu; rfl
          case c3 => unfold maxLen; omega
          case c4 => omega
          case c5 => simp; omega
          intro v' w1 hown' hgrow _
          have R := rel_put hq hown'
          have hb2 := (hb1.alloc (by omega) _).grown hgrow (by simp; omega) (fun k hk => (hown1.lt k hk).1)
          clear hown' hgrow hown1
          go_wp2
          go_roundw
          case rel => exact ⟨p, by omega, by go_num, R, hb2⟩
          case measure => simp [intOf] <;> omega
    · go_wp2
      go_ret
      exact ⟨_, rfl, hown', hb⟩
set_option maxHeartbeats 1000000 in
theorem putInt_one (base : Nat) (v : Value) (xs : List UInt8) (many : Nat) (n : Nat) (b o c : Nat) (w : World)
    (hbase : base ≤ w.heap.size) (hown : w.ownsRow base 5 1 v xs.length (bv xs)) (hm : many ≤ 8) (hn : n < 4294967296)
    (hlen : xs.length ≤ 1000000) (hc : w.cell? ⟨b, o, none⟩ = some (.int .i64 (n : Int))) :
    Calls Tryd.prog 56 #[v, .int .i64 (many : Int), .slice (some ⟨b, o, none⟩) 1 c] w fun e w' =>
      ∃ v', e = .returned v' ∧ w'.ownsRow base 5 1 v' (xs.length + many) (bv (xs ++ be many n)) ∧ Below base w w' := by
  obtain ⟨i0, hi, hz0, hz1, hz2⟩ := info_parts Tryd.info5
  go_enter Tryd.func56, Tryd.ntmps56
  go_wp2
  go_loopw [0, 15] (fun u i wr => (i = .int .i64 0 ∧ u = v ∧ wr = w) ∨ (i = .int .i64 1 ∧ wr.ownsRow base 5 1 u (xs.length + many) (bv (xs ++ be many n)) ∧ Below base w wr)) (fun _ i _ => 1 - (intOf i).toNat)
  case atStart => exact .inl ⟨rfl, rfl, rfl⟩
  case round =>
    rcases hrel with ⟨rfl, rfl, rfl⟩ | ⟨rfl, hown', hb⟩
    · go_wp2
      obtain ⟨wo, rfl⟩ : ∃ wo : World, wo = wr := ⟨_, rfl⟩
      go_loopw [0, 9] (fun u i wr => ∃ q : Nat, q ≤ many ∧ i = .int .i64 ((q : Int) - 1) ∧ wr.ownsRow base 5 1 u (xs.length + (many - q)) (bv (xs ++ beT many n (many - q))) ∧ Below base wo wr) (fun _ i _ => (intOf i + 1).toNat)
      case atStart => exact ⟨many, by omega, by go_num, by simpa [beT] using hown, Below.refl _ _⟩
      case round =>
        obtain ⟨q, hq, hi9, hown1, hb1⟩ := hrel
        rcases q with _ | p
        · subst hi9
          go_wp2
          go_roundw
          case rel => exact .inr ⟨by go_num, by simpa [be] using hown1, hb1⟩
          case measure => simp [intOf]
        · have e9 : (((p + 1 : Nat) : Int) - 1) = p := by omega
          rw [e9] at hi9
          subst hi9
          clear e9
          have hk1 := hb1.size
          go_wp2_with (at_builtin; refine wpList_append_own _ rfl _ _ 22 rfl base 5 i0 (.int .u8 0) 1 1 Tryd.underlying22 hi hz0 hz1 hz2 rfl (by decide) _ _ _ rfl (hown1.alloc _) ⟨wr.heap.size, 0, none⟩ 1 1 [.int .u8 (↑n / 2 ^ (8 * p) % 256)] rfl rfl ?c1 ?c2 ?c3 ?c4 ?c5 ?_)
          case c1 => exact cell_one_new _ _ _
          case c2 => intro u hu; simp at hu; subst hu; rfl
          case c3 => unfold maxLen; omega
          case c4 => omega
          case c5 => simp; omega
          intro v' w1 hown' hgrow _
          have R := rel_put hq hown'
          have hb2 := (hb1.alloc (by omega) _).grown hgrow (by simp; omega) (fun k hk => (hown1.lt k hk).1)
          clear hown' hgrow hown1
          go_wp2
          go_roundw
          case rel => exact ⟨p, by omega, by go_num, R, hb2⟩
          case measure => simp [intOf] <;> omega
    · go_wp2
      go_ret
      exact ⟨_, rfl, hown', hb⟩

set_option maxHeartbeats 1000000 in
theorem put32_any (base : Nat) (v : Value) (xs : List UInt8) (us : List Nat) (many : Nat) (A : Option Addr) (c : Nat) (w : World)
    (hbase : base ≤ w.heap.size) (hown : w.ownsRow base 5 1 v xs.length (bv xs)) (hm : many ≤ 8) (hn : ∀ n ∈ us, n < 4294967296)
    (hlen : xs.length ≤ 1000000) (hul : us.length ≤ 1000) (hr : Rd w base A (uv .u32 us)) :
    Calls Tryd.prog 57 #[v, .int .i64 (many : Int), .slice A us.length c] w fun e w' =>
      ∃ v', e = .returned v' ∧ w'.ownsRow base 5 1 v' (xs.length + many * us.length) (bv (xs ++ us.flatMap (be many))) ∧ Below base w w' := by
  obtain ⟨i0, hi, hz0, hz1, hz2⟩ := info_parts Tryd.info5
  have hr' := Lib.hid hr
  have hn' := Lib.hid hn
  clear hr hn
  go_enter Tryd.func57, Tryd.ntmps57
  go_wp2
  go_loopw [0, 15] (fun u i wr => ∃ k : Nat, k ≤ us.length ∧ i = .int .i64 k ∧ wr.ownsRow base 5 1 u (xs.length + many * k) (bv (xs ++ (us.take k).flatMap (be many))) ∧ Below base w wr) (fun _ i _ => us.length - (intOf i).toNat)
  case atStart => exact ⟨0, by omega, rfl, by simpa using hown, Below.refl _ _⟩
  case round =>
    obtain ⟨k, hk, rfl, hown1, hb⟩ := hrel
    by_cases hlt : k < us.length
    · obtain ⟨b, o, rfl, hbB, hc⟩ := (hr'.out.below hb (Nat.le_refl _)).get (k := k) (by simpa [uv] using hlt)
      have hz : many * k ≤ 8000 := Nat.le_trans (Nat.mul_le_mul hm (show k ≤ 1000 by omega)) (by omega)
      have hun := hn'.out us[k] (List.getElem_mem hlt)
      have hstep := step32 many k us xs hlt
      obtain ⟨ys, hys⟩ : ∃ ys, ys = xs ++ (us.take k).flatMap (be many) := ⟨_, rfl⟩
      have hyl : ys.length = xs.length + many * k := by rw [hys, List.length_append, own_len (flat_len many (us.take k)) hk]
      rw [← hys, ← hyl] at hown1
      obtain ⟨n, hne⟩ : ∃ n, n = us[k] := ⟨_, rfl⟩
      rw [← hne] at hun
      rw [← hys, ← hne] at hstep
      replace hc : wr.cell? ⟨b, o + k, none⟩ = some (.int .u32 (n : Int)) := by rw [hc, hne]; simp [uv]
      have hyb : ys.length ≤ 1008000 := by omega
      have HS := Lib.hid hstep
      have HY := Lib.hid hyl
      clear hstep hne hyl hys hz
      have hk1 := hb.size
      go_wp2
      obtain ⟨wo, rfl⟩ : ∃ wo : World, wo = wr := ⟨_, rfl⟩
      go_loopw [0, 9] (fun u i wr => ∃ q : Nat, q ≤ many ∧ i = .int .i64 ((q : Int) - 1) ∧ wr.ownsRow base 5 1 u (ys.length + (many - q)) (bv (ys ++ beT many n (many - q))) ∧ Below base wo wr) (fun _ i _ => (intOf i + 1).toNat)
      case atStart => exact ⟨many, by omega, by go_num, by simpa [beT] using hown1, Below.refl _ _⟩
      case round =>
        obtain ⟨q, hq, hi9, hown1, hb1⟩ := hrel
        rcases q with _ | p
        · subst hi9
          go_wp2
          go_roundw
          case rel => exact ⟨k + 1, by omega, by go_num, by
            rw [HS.out, Nat.mul_add, Nat.mul_one, ← Nat.add_assoc, ← HY.out]
            simpa [be] using hown1, hb.trans hb1⟩
          case measure => simp [intOf] <;> omega
        · have e9 : (((p + 1 : Nat) : Int) - 1) = p := by omega
          rw [e9] at hi9
          subst hi9
          clear e9
          have hk2 := hb1.size
          go_wp2_with (at_builtin; refine wpList_append_own _ rfl _ _ 22 rfl base 5 i0 (.int .u8 0) 1 1 Tryd.underlying22 hi hz0 hz1 hz2 rfl (by decide) _ _ _ rfl (hown1.alloc _) ⟨wr.heap.size, 0, none⟩ 1 1 [.int .u8 (↑n / 2 ^ (8 * p) % 256)] rfl rfl ?c1 ?c2 ?c3 ?c4 ?c5 ?_)
          case c1 => exact cell_one_new _ _ _
          case c2 => intro u hu; simp at hu; subst hu; rfl
          case c3 => unfold maxLen; omega
          case c4 => omega
          case c5 => simp; omega
          intro v' w1 hown' hgrow _
          have R := rel_put hq hown'
          have hb2 := (hb1.alloc (by omega) _).grown hgrow (by simp; omega) (fun k hk => (hown1.lt k hk).1)
          clear hown' hgrow hown1
          go_wp2
          go_roundw
          case rel => exact ⟨p, by omega, by go_num, R, hb2⟩
          case measure => simp [intOf] <;> omega
    · have hke : k = us.length := by omega
      go_wp2
      go_ret
      exact ⟨_, rfl, by rw [hke, List.take_of_length_le (Nat.le_refl _)] at hown1; exact hown1, hb⟩
end Go.Proofs.YtaefgieodehceaaDoor
