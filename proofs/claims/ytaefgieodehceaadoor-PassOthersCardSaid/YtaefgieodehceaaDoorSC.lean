/- What the listed variables give; arrays that came in; a world for the witness. -/
import Derived.Test.YtaefgieodehceaaDoorSB
import Derived.Test.YtaefgieodehceaaDoorTie
import Derived.Test.YtaefgieodehceaaDoorCards
import Derived.ProofKit
import Derived.OpenShut
import Derived.Deep.DeepHandedRow
import Derived.Lib.LaidTab
import Derived.Stop.LaidErr
namespace Go.Proofs.YtaefgieodehceaaDoor.Sha
set_option maxRecDepth 4000
open Go.ChangeShapes Go.WideShapes Go.ChangeAt Go.RowKit

theorem own : ownKnob Tryd.prog.godebug = Option.none := by kernel_rfl
theorem laidOut : laidOutB Tryd.prog = true := by kernel_rfl
def kwz : List Int := [1116352408, 1899447441, 3049323471, 3921009573, 961987163, 1508970993, 2453635748, 2870763221, 3624381080, 310598401, 607225278, 1426881987, 1925078388, 2162078206, 2614888103, 3248222580, 3835390401, 4022224774, 264347078, 604807628, 770255983, 1249150122, 1555081692, 1996064986, 2554220882, 2821834349, 2952996808, 3210313671, 3336571891, 3584528711, 113926993, 338241895, 666307205, 773529912, 1294757372, 1396182291, 1695183700, 1986661051, 2177026350, 2456956037, 2730485921, 2820302411, 3259730800, 3345764771, 3516065817, 3600352804, 4094571909, 275423344, 430227734, 506948616, 659060556, 883997877, 958139571, 1322822218, 1537002063, 1747873779, 1955562222, 2024104815, 2227730452, 2361852424, 2428436474, 2756734187, 3204031479, 3329325298]
def fwz : List Int := [1779033703, 3144134277, 1013904242, 2773480762, 1359893119, 2600822924, 528734635, 1541459225]
theorem kwz_eq : kwz = kw.map iv := by kernel_rfl
theorem fwz_eq : fwz = fw.map iv := by kernel_rfl
theorem gRound : Tryd.prog.globalNamed "tiltyard/sha.roundWords" = some 1 := by kernel_rfl
theorem gFirst : Tryd.prog.globalNamed "tiltyard/sha.firstWords" = some 0 := by kernel_rfl
theorem gRoundType : (Tryd.prog.globals[1]?).map (·.type) = some 112 := by kernel_rfl
theorem gFirstType : (Tryd.prog.globals[0]?).map (·.type) = some 92 := by kernel_rfl
theorem cells52 : Tryd.prog.cellsOf 112 = 64 := by kernel_rfl
theorem cells24 : Tryd.prog.cellsOf 63 = 64 := by kernel_rfl
theorem cells23 : Tryd.prog.cellsOf 92 = 8 := by kernel_rfl
theorem cells22 : Tryd.prog.cellsOf 23 = 1 := by kernel_rfl
theorem cells5 : Tryd.prog.cellsOf 5 = 1 := by kernel_rfl

/-- The list that the rows bear. -/
abbrev laidAll : List (String × DataW Unit) := [("tiltyard/sha.firstWords", Rows.laid_tiltyard_sha_firstWords), ("tiltyard/sha.roundWords", Rows.laid_tiltyard_sha_roundWords)]
theorem firstData : (Rows.laid_tiltyard_sha_firstWords : DataW Unit) = Lib.tabData .u32 fwz := by kernel_rfl
theorem roundData : (Rows.laid_tiltyard_sha_roundWords : DataW Unit) = Lib.tabData .u32 kwz := by kernel_rfl
theorem ft_of_laid {W : World} (h : laidMetH Tryd.prog laidAll W) : Ft W := fun k hk => by
  rw [show laidAll = [("tiltyard/sha.firstWords", Lib.tabData .u32 fwz), ("tiltyard/sha.roundWords", Rows.laid_tiltyard_sha_roundWords)] by rw [← firstData]] at h
  have ht := Lib.tabIs_of_head (rest := [("tiltyard/sha.roundWords", Rows.laid_tiltyard_sha_roundWords)]) gFirst gFirstType Tryd.underlying92 Tryd.underlying23 cells22 cells23 h
  rw [ht.cell gFirst k hk, fwz_eq]
  have hk2 : k < fw.length := hk
  simp [List.getD, List.getElem?_eq_getElem hk2]
theorem kt_of_laid {W : World} (h : laidMetH Tryd.prog laidAll W) : Kt W := fun k hk => by
  have h2 : laidMet Tryd.prog [("tiltyard/sha.roundWords", Rows.laid_tiltyard_sha_roundWords)] W := laidMet.tail h
  rw [roundData] at h2
  have ht := Lib.tabIs_of_head (rest := []) gRound gRoundType Tryd.underlying112 Tryd.underlying23 cells22 cells52 h2
  rw [ht.cell gRound k hk, kwz_eq]
  have hk2 : k < kw.length := hk
  simp [List.getD, List.getElem?_eq_getElem hk2]

theorem words_of {l : List Value} (h : ∀ c ∈ l, ∃ n : Int, c = .int .u32 n ∧ (Lit.int .u32 n).wf = true) : ∃ ws : List W32, l = wv ws := by
  induction l with
  | nil => exact ⟨[], rfl⟩
  | cons c l ih =>
    obtain ⟨ws, rfl⟩ := ih (fun x hx => h x (by simp [hx]))
    obtain ⟨n, rfl, hw⟩ := h c (by simp)
    have hb := bounds_u32 hw
    refine ⟨BitVec.ofNat 32 n.toNat :: ws, ?_⟩
    simp only [wv, List.map_cons]
    congr 2
    unfold iv
    rw [BitVec.toNat_ofNat]
    omega
theorem bytes_of {l : List Value} (h : ∀ c ∈ l, ∃ n : Int, c = .int .u8 n ∧ (Lit.int .u8 n).wf = true) : ∃ bs : List UInt8, l = bv bs := by
  induction l with
  | nil => exact ⟨[], rfl⟩
  | cons c l ih =>
    obtain ⟨bs, rfl⟩ := ih (fun x hx => h x (by simp [hx]))
    obtain ⟨n, rfl, hw⟩ := h c (by simp)
    have hb := bounds_u8 hw
    refine ⟨UInt8.ofNat n.toNat :: bs, ?_⟩
    simp only [bv, List.map_cons]
    congr 2
    simp
    omega
section
variable {H : Type} {enc : TypeId × Value → H} {W : World} {base : Nat} {spare : Nat → Bool} {held : Bool}
theorem open_arr {t e n : Nat} {k : IntKind} {v : Value} {d : DataW H} {p : List MemPlace} {r : Reach} {b0 : Nat} (hu : Tryd.prog.underlying t = some (.array n e)) (he : Tryd.prog.underlying e = some (.int k)) (hce : Tryd.prog.cellsOf e = 1) (hct : Tryd.prog.cellsOf t = n)
    (hv : Value.okWide Tryd.prog W r b0 t v) (h : DataW.Trod enc Tryd.prog W base spare held t v d p) :
    ∃ l : List Value, v = .agg l.toArray ∧ l.length = n ∧ ∀ c ∈ l, ∃ z : Int, c = .int k z ∧ (Lit.int k z).wf = true := by
  have h2 : ∃ cs, v = .agg cs ∧ cs.size = Tryd.prog.cellsOf t := by
    unfold Value.okWide at hv
    rw [hu] at hv
    obtain ⟨cs, h1, h2, _⟩ := hv
    exact ⟨cs, h1, h2⟩
  obtain ⟨cs, rfl, hsz⟩ := h2
  obtain ⟨fuel, hf⟩ := h
  obtain ⟨xs, m, _, _, _, hxl, hx⟩ := DataW.trod_array hu hf
  refine ⟨cs.toList, by simp, by simp [hsz, hct], fun c hc => ?_⟩
  obtain ⟨i, hi, rfl⟩ := List.getElem_of_mem hc
  have hin : i < n := by simpa [hsz, hct] using hi
  have h1 := hx i hin
  rw [hce, Nat.mul_one, List.getElem?_eq_getElem (by omega)] at h1
  have e1 : (Value.cells (.agg cs)).toList = cs.toList := rfl
  rw [e1, List.drop_eq_getElem_cons hi, List.take_succ_cons, List.take_zero] at h1
  obtain ⟨z, h3, _, h4⟩ := DataW.trod_int he h1
  exact ⟨z, by simpa using h3, h4⟩
end

/-- A world for the witness: the settled one, the two tables holding what their initialisers lay. -/
noncomputable def laid0 (os : Os) : World :=
  { World.holding Tryd.prog os ⟨#[], #[], []⟩ with heap := (World.holding Tryd.prog os ⟨#[], #[], []⟩).heap.modify 1 fun
      | .cells _ t frozen => .cells #[.int .u32 1116352408, .int .u32 1899447441, .int .u32 3049323471, .int .u32 3921009573, .int .u32 961987163, .int .u32 1508970993, .int .u32 2453635748, .int .u32 2870763221, .int .u32 3624381080, .int .u32 310598401, .int .u32 607225278, .int .u32 1426881987, .int .u32 1925078388, .int .u32 2162078206, .int .u32 2614888103, .int .u32 3248222580, .int .u32 3835390401, .int .u32 4022224774, .int .u32 264347078, .int .u32 604807628, .int .u32 770255983, .int .u32 1249150122, .int .u32 1555081692, .int .u32 1996064986, .int .u32 2554220882, .int .u32 2821834349, .int .u32 2952996808, .int .u32 3210313671, .int .u32 3336571891, .int .u32 3584528711, .int .u32 113926993, .int .u32 338241895, .int .u32 666307205, .int .u32 773529912, .int .u32 1294757372, .int .u32 1396182291, .int .u32 1695183700, .int .u32 1986661051, .int .u32 2177026350, .int .u32 2456956037, .int .u32 2730485921, .int .u32 2820302411, .int .u32 3259730800, .int .u32 3345764771, .int .u32 3516065817, .int .u32 3600352804, .int .u32 4094571909, .int .u32 275423344, .int .u32 430227734, .int .u32 506948616, .int .u32 659060556, .int .u32 883997877, .int .u32 958139571, .int .u32 1322822218, .int .u32 1537002063, .int .u32 1747873779, .int .u32 1955562222, .int .u32 2024104815, .int .u32 2227730452, .int .u32 2361852424, .int .u32 2428436474, .int .u32 2756734187, .int .u32 3204031479, .int .u32 3329325298] t frozen
      | o => o }
noncomputable def laidWorld (os : Os) : World :=
  { laid0 os with heap := (laid0 os).heap.modify 0 fun
      | .cells _ t frozen => .cells #[.int .u32 1779033703, .int .u32 3144134277, .int .u32 1013904242, .int .u32 2773480762, .int .u32 1359893119, .int .u32 2600822924, .int .u32 528734635, .int .u32 1541459225] t frozen
      | o => o }

/-- No parameter wants a stand-in; the program's own looks are off. -/
theorem plain_of {g : Nat} {fn0 : Func} {name : String} {ts : Array TypeId} (hn : Tryd.prog.funcNamed name = some g) (hf0 : Tryd.prog.funcs[g]? = some fn0) (hp : fn0.params = ts) (hs : ∀ t ∈ ts, Tryd.prog.wantsStandIn t = false) (f : FuncId) (fn : Func) (hf : Tryd.pinned.checked.prog.funcNamed name = some f) (hfn : Tryd.pinned.checked.prog.funcs[f]? = some fn) :
    false = Tryd.pinned.checked.prog.looks [] ∧ ∀ (j : Nat) t, fn.params[j]? = some t → Tryd.pinned.checked.prog.wantsStandIn t = false := by
  obtain rfl : f = g := Option.some.inj (hf.symm.trans hn)
  obtain rfl : fn = fn0 := Option.some.inj (hfn.symm.trans hf0)
  refine ⟨by kernel_rfl, fun j t ht => ?_⟩
  rw [hp] at ht
  exact hs t (Array.mem_of_getElem? ht)
end Go.Proofs.YtaefgieodehceaaDoor.Sha
