/- Pass: PassOld's walk. -/
import Derived.Test.YtaefgieodehceaaDoorQE
import Derived.Deep.RegionHeld3
namespace Go.Proofs.YtaefgieodehceaaDoor
open Go.RowKit Go.ChangeShapes
set_option maxRecDepth 20000

set_option linter.unusedSimpArgs false in
set_option maxHeartbeats 10000000 in
theorem pold_walk (a : Nat) (b : Int) (d : Nat) (p m i s : Nat) (e : Int) (n : Nat) (now : Int) (w : World) (hs : Sh w) (_ht : BdT a b d) (_ho : BdK p m i s e n) (_h1 : -9223372036854775808 ≤ now) (_h2 : now ≤ 9223372036854775807) :
    Calls Tryd.prog 8 #[tickV a b d, tokV p m i s e n, .int .i64 now] w fun r w' => r = .returned (.bool true) ∧ Below w.heap.size w w' := by
  obtain ⟨w0, hw0⟩ : ∃ w0, w0 = (w.alloc (.cells #[.int .u32 (a : Int), .int .i64 b, .int .u64 (d : Int)] 26)).alloc (.cells #[.int .u32 (p : Int), .int .u32 (m : Int), .int .u16 (i : Int), .int .u8 (s : Int), .int .i64 e, .int .u64 (n : Int)] 29) := ⟨_, rfl⟩
  have hb0 : Below w.heap.size w w0 := by rw [hw0]; exact ((Below.refl _ _).alloc (Nat.le_refl _) _).alloc (by simp) _
  have hp1 : w0.heap[w.heap.size]? = some (.cells #[.int .u32 (a : Int), .int .i64 b, .int .u64 (d : Int)] 26 (0, 0)) := by
    rw [hw0]; exact (Below.heap_alloc _ _ _ (by simp)).trans (heap_alloc_new w _)
  have hp2 : w0.heap[w.heap.size + 1]? = some (.cells #[.int .u32 (p : Int), .int .u32 (m : Int), .int .u16 (i : Int), .int .u8 (s : Int), .int .i64 e, .int .u64 (n : Int)] 29 (0, 0)) := by
    have := heap_alloc_new (w.alloc (.cells #[.int .u32 (a : Int), .int .i64 b, .int .u64 (d : Int)] 26)) (.cells #[.int .u32 (p : Int), .int .u32 (m : Int), .int .u16 (i : Int), .int .u8 (s : Int), .int .i64 e, .int .u64 (n : Int)] 29)
    rw [hw0]
    rwa [World.size_alloc] at this
  have H0 := Lib.hid hw0
  have HB0 := Lib.hid hb0
  have HP1 := Lib.hid hp1
  have HP2 := Lib.hid hp2
  have HS := Lib.hid hs
  obtain ⟨r1, hr1⟩ : ∃ r, r = decide (b < now) := ⟨_, rfl⟩
  obtain ⟨r2, hr2⟩ : ∃ r, r = decide (e < now) := ⟨_, rfl⟩
  have HO1 : Hid (∀ W, Calls Tryd.prog 23 #[.agg #[.int .i64 b, .int .u64 (d : Int)], .int .i64 now] W fun r w' => r = .returned (.bool r1) ∧ Below W.heap.size W w') := fun W => by rw [hr1]; exact old_any b d now W
  have HO2 : Hid (∀ W, Calls Tryd.prog 23 #[.agg #[.int .i64 e, .int .u64 (n : Int)], .int .i64 now] W fun r w' => r = .returned (.bool r2) ∧ Below W.heap.size W w') := fun W => by rw [hr2]; exact old_any e n now W
  have g1 : decide (now > b) = r1 := hr1.symm
  have g2 : decide (now > e) = r2 := hr2.symm
  have g3 : (r1 == r1) = true := beq_self_eq_true _
  have g4 : (r2 == r2) = true := beq_self_eq_true _
  have HBOX : Hid (∀ W, Below w0.heap.size w0 W → W.heap[w.heap.size]? = some (.cells #[.int .u32 (a : Int), .int .i64 b, .int .u64 (d : Int)] 26 (0, 0)) ∧ W.heap[w.heap.size + 1]? = some (.cells #[.int .u32 (p : Int), .int .u32 (m : Int), .int .u16 (i : Int), .int .u8 (s : Int), .int .i64 e, .int .u64 (n : Int)] 29 (0, 0))) := fun W hW => ⟨(hW.block _ (lt_of_block HP1.out)).trans HP1.out, (hW.block _ (lt_of_block HP2.out)).trans HP2.out⟩
  clear hw0 hb0 hp1 hp2 hs hr1 hr2
  go_enter Tryd.func8, Tryd.ntmps8
  go_upto_region 1 with (fail)
  rw [← H0.out]
  go_cut [7, 8] (fun x y wx => ∃ G1 G2, x = .pointer (some ⟨G1, 0, none⟩) ∧ y = .pointer (some ⟨G2, 0, none⟩) ∧ Hid (wx.heap[G1]? = some (.cells #[.int .u32 (a : Int), .int .i64 b, .int .u64 (d : Int)] 35 (0, 0)) ∧ wx.heap[G2]? = some (.cells #[.int .u32 (p : Int), .int .u32 (m : Int), .int .u16 (i : Int), .int .u8 (s : Int), .int .i64 e, .int .u64 (n : Int)] 40 (0, 0)) ∧ Below w0.heap.size w0 wx))
  case first =>
    have HS : Hid ((fun W : World => W.heap[w.heap.size]? = some (.cells #[.int .u32 (a : Int), .int .i64 b, .int .u64 (d : Int)] 26 (0, 0)) ∧ W.heap[w.heap.size + 1]? = some (.cells #[.int .u32 (p : Int), .int .u32 (m : Int), .int .u16 (i : Int), .int .u8 (s : Int), .int .i64 e, .int .u64 (n : Int)] 29 (0, 0))) w0.drew) := HBOX.out _ (Below.refl _ _).drew
    refine wp_region_held_drew (S := fun W : World => W.heap[w.heap.size]? = some (.cells #[.int .u32 (a : Int), .int .i64 b, .int .u64 (d : Int)] 26 (0, 0)) ∧ W.heap[w.heap.size + 1]? = some (.cells #[.int .u32 (p : Int), .int .u32 (m : Int), .int .u16 (i : Int), .int .u8 (s : Int), .int .i64 e, .int .u64 (n : Int)] 29 (0, 0))) (by kernel_rfl) HS.out (fun hHeld => ?_)
    obtain ⟨w100, hW0⟩ : ∃ w100, w100 = w0.drew := ⟨_, rfl⟩
    have HB100 : Hid (Below w0.heap.size w0 w100) := by rw [hW0]; exact (Below.refl _ _).drew
    rw [← hW0] at hHeld ⊢
    clear hW0 HS
    refine wpAnyH_take (i := 0) (oi := ?oi0a) (v := ?v0a) ?hi0a ?hs0a ?hf0a ?hr0a ?hQ0a ?hy0a ?hS0a ?h0a
    case hi0a => exact (by simp only [List.getElem?_toArray, List.getElem?_cons_zero]; rfl)
    case hs0a => kernel_rfl
    case hf0a => kernel_rfl
    case hr0a => kernel_rfl
    case hQ0a => exact fun _ _ _ h => h
    case hy0a =>
      refine Or.inl ⟨rfl, ?_⟩
      intro W hSw
      obtain ⟨y1, y2⟩ := hSw
      have t0 := cell_of_row W (w.heap.size) 0 _ _ _ y1
      have t1 := cell_of_row W (w.heap.size) 1 _ _ _ y1
      have t2 := cell_of_row W (w.heap.size) 2 _ _ _ y1
      have u0 := cell_of_row W (w.heap.size + 1) 0 _ _ _ y2
      have u1 := cell_of_row W (w.heap.size + 1) 1 _ _ _ y2
      have u2 := cell_of_row W (w.heap.size + 1) 2 _ _ _ y2
      have u3 := cell_of_row W (w.heap.size + 1) 3 _ _ _ y2
      have u4 := cell_of_row W (w.heap.size + 1) 4 _ _ _ y2
      have u5 := cell_of_row W (w.heap.size + 1) 5 _ _ _ y2
      simp at t0 t1 t2 u0 u1 u2 u3 u4 u5
      go_simp
      try with_reducible rfl
    case hS0a => assumption
    try simp only [Act.put, List.setIfInBounds_toArray, List.set_cons_zero, List.set_cons_succ]
    refine wpAnyH_take (i := 2) (oi := ?oi2a) (v := ?v2a) ?hi2a ?hs2a ?hf2a ?hr2a ?hQ2a ?hy2a ?hS2a ?h2a
    case hi2a => exact (by simp only [List.getElem?_toArray, List.getElem?_cons_succ, List.getElem?_cons_zero]; rfl)
    case hs2a => kernel_rfl
    case hf2a => kernel_rfl
    case hr2a => kernel_rfl
    case hQ2a => exact fun _ _ _ h => h
    case hy2a =>
      refine Or.inl ⟨rfl, ?_⟩
      intro W hSw
      obtain ⟨y1, y2⟩ := hSw
      have t0 := cell_of_row W (w.heap.size) 0 _ _ _ y1
      have t1 := cell_of_row W (w.heap.size) 1 _ _ _ y1
      have t2 := cell_of_row W (w.heap.size) 2 _ _ _ y1
      have u0 := cell_of_row W (w.heap.size + 1) 0 _ _ _ y2
      have u1 := cell_of_row W (w.heap.size + 1) 1 _ _ _ y2
      have u2 := cell_of_row W (w.heap.size + 1) 2 _ _ _ y2
      have u3 := cell_of_row W (w.heap.size + 1) 3 _ _ _ y2
      have u4 := cell_of_row W (w.heap.size + 1) 4 _ _ _ y2
      have u5 := cell_of_row W (w.heap.size + 1) 5 _ _ _ y2
      simp at t0 t1 t2 u0 u1 u2 u3 u4 u5
      go_simp
      try with_reducible rfl
    case hS2a => assumption
    try simp only [Act.put, List.setIfInBounds_toArray, List.set_cons_zero, List.set_cons_succ]
    refine wpAnyH_ready (rs := [1, 4, 5]) (by kernel_rfl) (by simp) ?_
    refine AllReadyH.cons (o := _) rfl (fun K hK => ?_) (AllReadyH.cons (o := _) rfl (fun K hK => ?_) (AllReadyH.cons (o := _) rfl (fun K hK => ?_) AllReadyH.nil))
    · go_simp
      refine (ticket_any a b d w100).mono ?_
      rintro x w101 ⟨rfl, hb101⟩
      have HB101 := Lib.hid (HB100.out.trans (hb101.mono HB100.out.size))
      clear hb101
      refine hK.out _ _ (HBOX.out _ HB101.out) (fun hHeld => ?_)
      clear hK K
      try simp only [Act.put, List.setIfInBounds_toArray, List.set_cons_zero, List.set_cons_succ]
      refine wpAnyH_ready (rs := [3, 4, 5]) (by kernel_rfl) (by simp) ?_
      refine AllReadyH.cons (o := _) rfl (fun K hK => ?_) (AllReadyH.cons (o := _) rfl (fun K hK => ?_) (AllReadyH.cons (o := _) rfl (fun K hK => ?_) AllReadyH.nil))
      · go_simp
        refine (token_any p m i s e n w101).mono ?_
        rintro x w102 ⟨rfl, hb102⟩
        have HB102 := Lib.hid (HB101.out.trans (hb102.mono HB101.out.size))
        clear hb102
        refine hK.out _ _ (HBOX.out _ HB102.out) (fun hHeld => ?_)
        clear hK K
        try simp only [Act.put, List.setIfInBounds_toArray, List.set_cons_zero, List.set_cons_succ]
        refine wpAnyH_ready (rs := [4, 5]) (by kernel_rfl) (by simp) ?_
        refine AllReadyH.cons (o := _) rfl (fun K hK => ?_) (AllReadyH.cons (o := _) rfl (fun K hK => ?_) AllReadyH.nil)
        · go_simp
          refine hK.out _ _ (HBOX.out _ (HB102.out.alloc HB102.out.size _)) (fun hHeld => ?_)
          clear hK K
          try simp only [Act.put, List.setIfInBounds_toArray, List.set_cons_zero, List.set_cons_succ]
          obtain ⟨gA, hg103⟩ : ∃ gA, gA = w102.heap.size := ⟨_, rfl⟩
          obtain ⟨w103, hw103⟩ : ∃ w103, w103 = w102.alloc (.cells #[.int .u32 0, .int .i64 0, .int .u64 0] 35) := ⟨_, rfl⟩
          have HA103 : Hid (w103.heap[gA]? = some (.cells #[.int .u32 0, .int .i64 0, .int .u64 0] 35 (0, 0))) := by rw [hw103, hg103]; exact heap_alloc_new w102 _
          have HB103 : Hid (Below w0.heap.size w0 w103) := by rw [hw103]; exact HB102.out.alloc HB102.out.size _
          have LgA : Hid (w0.heap.size ≤ gA) := by rw [hg103]; exact HB102.out.size
          rw [← hw103, ← hg103]
          clear hw103 hg103
          refine wpAnyH_ready (rs := [5]) (by kernel_rfl) (by simp) ?_
          refine AllReadyH.cons (o := _) rfl (fun K hK => ?_) AllReadyH.nil
          go_simp
          refine hK.out _ _ (HBOX.out _ (HB103.out.alloc HB103.out.size _)) (fun hHeld => ?_)
          clear hK K
          try simp only [Act.put, List.setIfInBounds_toArray, List.set_cons_zero, List.set_cons_succ]
          obtain ⟨gC, hg104⟩ : ∃ gC, gC = w103.heap.size := ⟨_, rfl⟩
          obtain ⟨w104, hw104⟩ : ∃ w104, w104 = w103.alloc (.cells #[.int .u32 0, .int .u32 0, .int .u16 0, .int .u8 0, .int .i64 0, .int .u64 0] 40) := ⟨_, rfl⟩
          have HC104 : Hid (w104.heap[gC]? = some (.cells #[.int .u32 0, .int .u32 0, .int .u16 0, .int .u8 0, .int .i64 0, .int .u64 0] 40 (0, 0))) := by rw [hw104, hg104]; exact heap_alloc_new w103 _
          have HB104 : Hid (Below w0.heap.size w0 w104) := by rw [hw104]; exact HB103.out.alloc HB103.out.size _
          have LgC : Hid (w0.heap.size ≤ gC) := by rw [hg104]; exact HB103.out.size
          have HNE : Hid (gA ≠ gC) := by have := lt_of_block HA103.out; simp only [Hid]; omega
          have HA104 : Hid (w104.heap[gA]? = some (.cells #[.int .u32 0, .int .i64 0, .int .u64 0] 35 (0, 0))) := by rw [hw104]; exact (Below.heap_alloc w103 _ _ (lt_of_block HA103.out)).trans HA103.out
          rw [← hw104, ← hg104]
          clear hw104 hg104
          refine wpAnyH_ready (rs := [6]) (by kernel_rfl) (by simp) ?_
          refine AllReadyH.cons (o := _) rfl (fun K hK => ?_) AllReadyH.nil
          refine Sha.step_store_front rfl 35 (.tmp 7) (.tmp 10) rfl gA [.int .u32 (a : Int), .int .i64 b, .int .u64 (d : Int)] rfl rfl [.int .u32 0, .int .i64 0, .int .u64 0] [] 35 HA104.out rfl (by kernel_rfl) (by intro v hv; simp at hv; rcases hv with rfl | rfl | rfl <;> rfl) ?_
          intro w105 hrow105 hg105 hz105
          have HB105 := Lib.hid (HB104.out.grown hg105 HB104.out.size (fun k hk => by injection hk with hk; rw [← hk]; exact LgA.out))
          have HC105 := Lib.hid ((hg105.block gC (lt_of_block HC104.out) (fun e => by injection e with e; exact HNE.out e.symm)).trans HC104.out)
          have HA105 : Hid (w105.heap[gA]? = some (.cells #[.int .u32 (a : Int), .int .i64 b, .int .u64 (d : Int)] 35 (0, 0))) := hrow105.out
          clear hrow105 hg105 hz105
          refine hK.out _ _ (HBOX.out _ HB105.out) (fun hHeld => ?_)
          clear hK K
          try simp only [Act.put, List.setIfInBounds_toArray, List.set_cons_zero, List.set_cons_succ]
          refine wpAnyH_ready (rs := [7]) (by kernel_rfl) (by simp) ?_
          refine AllReadyH.cons (o := _) rfl (fun K hK => ?_) AllReadyH.nil
          refine Sha.step_store_front rfl 40 (.tmp 8) (.tmp 12) rfl gC [.int .u32 (p : Int), .int .u32 (m : Int), .int .u16 (i : Int), .int .u8 (s : Int), .int .i64 e, .int .u64 (n : Int)] rfl rfl [.int .u32 0, .int .u32 0, .int .u16 0, .int .u8 0, .int .i64 0, .int .u64 0] [] 40 HC105.out rfl (by kernel_rfl) (by intro v hv; simp at hv; rcases hv with rfl | rfl | rfl | rfl | rfl | rfl <;> rfl) ?_
          intro w106 hrow106 hg106 hz106
          have HB106 := Lib.hid (HB105.out.grown hg106 HB105.out.size (fun k hk => by injection hk with hk; rw [← hk]; exact LgC.out))
          have HA106 := Lib.hid ((hg106.block gA (lt_of_block HA105.out) (fun e => by injection e with e; exact HNE.out e)).trans HA105.out)
          have HC106 : Hid (w106.heap[gC]? = some (.cells #[.int .u32 (p : Int), .int .u32 (m : Int), .int .u16 (i : Int), .int .u8 (s : Int), .int .i64 e, .int .u64 (n : Int)] 40 (0, 0))) := hrow106.out
          clear hrow106 hg106 hz106
          refine hK.out _ _ (HBOX.out _ HB106.out) (fun hHeld => ?_)
          clear hK K
          try simp only [Act.put, List.setIfInBounds_toArray, List.set_cons_zero, List.set_cons_succ]
          refine wpAnyH_done (by kernel_rfl) ?_ _
          try go_wp2_with fail
          go_meet
          exact ⟨gA, gC, rfl, rfl, Lib.hid ⟨HA106.out, HC106.out, HB106.out⟩⟩
        · go_simp
          refine hK.out _ _ (HBOX.out _ (HB102.out.alloc HB102.out.size _)) (fun hHeld => ?_)
          clear hK K
          try simp only [Act.put, List.setIfInBounds_toArray, List.set_cons_zero, List.set_cons_succ]
          obtain ⟨gC, hg107⟩ : ∃ gC, gC = w102.heap.size := ⟨_, rfl⟩
          obtain ⟨w107, hw107⟩ : ∃ w107, w107 = w102.alloc (.cells #[.int .u32 0, .int .u32 0, .int .u16 0, .int .u8 0, .int .i64 0, .int .u64 0] 40) := ⟨_, rfl⟩
          have HC107 : Hid (w107.heap[gC]? = some (.cells #[.int .u32 0, .int .u32 0, .int .u16 0, .int .u8 0, .int .i64 0, .int .u64 0] 40 (0, 0))) := by rw [hw107, hg107]; exact heap_alloc_new w102 _
          have HB107 : Hid (Below w0.heap.size w0 w107) := by rw [hw107]; exact HB102.out.alloc HB102.out.size _
          have LgC : Hid (w0.heap.size ≤ gC) := by rw [hg107]; exact HB102.out.size
          rw [← hw107, ← hg107]
          clear hw107 hg107
          refine wpAnyH_ready (rs := [4]) (by kernel_rfl) (by simp) ?_
          refine AllReadyH.cons (o := _) rfl (fun K hK => ?_) AllReadyH.nil
          go_simp
          refine hK.out _ _ (HBOX.out _ (HB107.out.alloc HB107.out.size _)) (fun hHeld => ?_)
          clear hK K
          try simp only [Act.put, List.setIfInBounds_toArray, List.set_cons_zero, List.set_cons_succ]
          obtain ⟨gA, hg108⟩ : ∃ gA, gA = w107.heap.size := ⟨_, rfl⟩
          obtain ⟨w108, hw108⟩ : ∃ w108, w108 = w107.alloc (.cells #[.int .u32 0, .int .i64 0, .int .u64 0] 35) := ⟨_, rfl⟩
          have HA108 : Hid (w108.heap[gA]? = some (.cells #[.int .u32 0, .int .i64 0, .int .u64 0] 35 (0, 0))) := by rw [hw108, hg108]; exact heap_alloc_new w107 _
          have HB108 : Hid (Below w0.heap.size w0 w108) := by rw [hw108]; exact HB107.out.alloc HB107.out.size _
          have LgA : Hid (w0.heap.size ≤ gA) := by rw [hg108]; exact HB107.out.size
          have HNE : Hid (gA ≠ gC) := by have := lt_of_block HC107.out; simp only [Hid]; omega
          have HC108 : Hid (w108.heap[gC]? = some (.cells #[.int .u32 0, .int .u32 0, .int .u16 0, .int .u8 0, .int .i64 0, .int .u64 0] 40 (0, 0))) := by rw [hw108]; exact (Below.heap_alloc w107 _ _ (lt_of_block HC107.out)).trans HC107.out
          rw [← hw108, ← hg108]
          clear hw108 hg108
          refine wpAnyH_ready (rs := [6]) (by kernel_rfl) (by simp) ?_
          refine AllReadyH.cons (o := _) rfl (fun K hK => ?_) AllReadyH.nil
          refine Sha.step_store_front rfl 35 (.tmp 7) (.tmp 10) rfl gA [.int .u32 (a : Int), .int .i64 b, .int .u64 (d : Int)] rfl rfl [.int .u32 0, .int .i64 0, .int .u64 0] [] 35 HA108.out rfl (by kernel_rfl) (by intro v hv; simp at hv; rcases hv with rfl | rfl | rfl <;> rfl) ?_
          intro w109 hrow109 hg109 hz109
          have HB109 := Lib.hid (HB108.out.grown hg109 HB108.out.size (fun k hk => by injection hk with hk; rw [← hk]; exact LgA.out))
          have HC109 := Lib.hid ((hg109.block gC (lt_of_block HC108.out) (fun e => by injection e with e; exact HNE.out e.symm)).trans HC108.out)
          have HA109 : Hid (w109.heap[gA]? = some (.cells #[.int .u32 (a : Int), .int .i64 b, .int .u64 (d : Int)] 35 (0, 0))) := hrow109.out
          clear hrow109 hg109 hz109
          refine hK.out _ _ (HBOX.out _ HB109.out) (fun hHeld => ?_)
          clear hK K
          try simp only [Act.put, List.setIfInBounds_toArray, List.set_cons_zero, List.set_cons_succ]
          refine wpAnyH_ready (rs := [7]) (by kernel_rfl) (by simp) ?_
          refine AllReadyH.cons (o := _) rfl (fun K hK => ?_) AllReadyH.nil
          refine Sha.step_store_front rfl 40 (.tmp 8) (.tmp 12) rfl gC [.int .u32 (p : Int), .int .u32 (m : Int), .int .u16 (i : Int), .int .u8 (s : Int), .int .i64 e, .int .u64 (n : Int)] rfl rfl [.int .u32 0, .int .u32 0, .int .u16 0, .int .u8 0, .int .i64 0, .int .u64 0] [] 40 HC109.out rfl (by kernel_rfl) (by intro v hv; simp at hv; rcases hv with rfl | rfl | rfl | rfl | rfl | rfl <;> rfl) ?_
          intro w110 hrow110 hg110 hz110
          have HB110 := Lib.hid (HB109.out.grown hg110 HB109.out.size (fun k hk => by injection hk with hk; rw [← hk]; exact LgC.out))
          have HA110 := Lib.hid ((hg110.block gA (lt_of_block HA109.out) (fun e => by injection e with e; exact HNE.out e)).trans HA109.out)
          have HC110 : Hid (w110.heap[gC]? = some (.cells #[.int .u32 (p : Int), .int .u32 (m : Int), .int .u16 (i : Int), .int .u8 (s : Int), .int .i64 e, .int .u64 (n : Int)] 40 (0, 0))) := hrow110.out
          clear hrow110 hg110 hz110
          refine hK.out _ _ (HBOX.out _ HB110.out) (fun hHeld => ?_)
          clear hK K
          try simp only [Act.put, List.setIfInBounds_toArray, List.set_cons_zero, List.set_cons_succ]
          refine wpAnyH_done (by kernel_rfl) ?_ _
          try go_wp2_with fail
          go_meet
          exact ⟨gA, gC, rfl, rfl, Lib.hid ⟨HA110.out, HC110.out, HB110.out⟩⟩
      · go_simp
        refine hK.out _ _ (HBOX.out _ (HB101.out.alloc HB101.out.size _)) (fun hHeld => ?_)
        clear hK K
        try simp only [Act.put, List.setIfInBounds_toArray, List.set_cons_zero, List.set_cons_succ]
        obtain ⟨gA, hg111⟩ : ∃ gA, gA = w101.heap.size := ⟨_, rfl⟩
        obtain ⟨w111, hw111⟩ : ∃ w111, w111 = w101.alloc (.cells #[.int .u32 0, .int .i64 0, .int .u64 0] 35) := ⟨_, rfl⟩
        have HA111 : Hid (w111.heap[gA]? = some (.cells #[.int .u32 0, .int .i64 0, .int .u64 0] 35 (0, 0))) := by rw [hw111, hg111]; exact heap_alloc_new w101 _
        have HB111 : Hid (Below w0.heap.size w0 w111) := by rw [hw111]; exact HB101.out.alloc HB101.out.size _
        have LgA : Hid (w0.heap.size ≤ gA) := by rw [hg111]; exact HB101.out.size
        rw [← hw111, ← hg111]
        clear hw111 hg111
        refine wpAnyH_ready (rs := [3, 5]) (by kernel_rfl) (by simp) ?_
        refine AllReadyH.cons (o := _) rfl (fun K hK => ?_) (AllReadyH.cons (o := _) rfl (fun K hK => ?_) AllReadyH.nil)
        · go_simp
          refine (token_any p m i s e n w111).mono ?_
          rintro x w112 ⟨rfl, hb112⟩
          have HB112 := Lib.hid (HB111.out.trans (hb112.mono HB111.out.size))
          have HA112 : Hid (w112.heap[gA]? = some (.cells #[.int .u32 0, .int .i64 0, .int .u64 0] 35 (0, 0))) := (hb112.block gA (lt_of_block HA111.out)).trans HA111.out
          clear hb112
          refine hK.out _ _ (HBOX.out _ HB112.out) (fun hHeld => ?_)
          clear hK K
          try simp only [Act.put, List.setIfInBounds_toArray, List.set_cons_zero, List.set_cons_succ]
          refine wpAnyH_ready (rs := [5]) (by kernel_rfl) (by simp) ?_
          refine AllReadyH.cons (o := _) rfl (fun K hK => ?_) AllReadyH.nil
          go_simp
          refine hK.out _ _ (HBOX.out _ (HB112.out.alloc HB112.out.size _)) (fun hHeld => ?_)
          clear hK K
          try simp only [Act.put, List.setIfInBounds_toArray, List.set_cons_zero, List.set_cons_succ]
          obtain ⟨gC, hg113⟩ : ∃ gC, gC = w112.heap.size := ⟨_, rfl⟩
          obtain ⟨w113, hw113⟩ : ∃ w113, w113 = w112.alloc (.cells #[.int .u32 0, .int .u32 0, .int .u16 0, .int .u8 0, .int .i64 0, .int .u64 0] 40) := ⟨_, rfl⟩
          have HC113 : Hid (w113.heap[gC]? = some (.cells #[.int .u32 0, .int .u32 0, .int .u16 0, .int .u8 0, .int .i64 0, .int .u64 0] 40 (0, 0))) := by rw [hw113, hg113]; exact heap_alloc_new w112 _
          have HB113 : Hid (Below w0.heap.size w0 w113) := by rw [hw113]; exact HB112.out.alloc HB112.out.size _
          have LgC : Hid (w0.heap.size ≤ gC) := by rw [hg113]; exact HB112.out.size
          have HNE : Hid (gA ≠ gC) := by have := lt_of_block HA112.out; simp only [Hid]; omega
          have HA113 : Hid (w113.heap[gA]? = some (.cells #[.int .u32 0, .int .i64 0, .int .u64 0] 35 (0, 0))) := by rw [hw113]; exact (Below.heap_alloc w112 _ _ (lt_of_block HA112.out)).trans HA112.out
          rw [← hw113, ← hg113]
          clear hw113 hg113
          refine wpAnyH_ready (rs := [6]) (by kernel_rfl) (by simp) ?_
          refine AllReadyH.cons (o := _) rfl (fun K hK => ?_) AllReadyH.nil
          refine Sha.step_store_front rfl 35 (.tmp 7) (.tmp 10) rfl gA [.int .u32 (a : Int), .int .i64 b, .int .u64 (d : Int)] rfl rfl [.int .u32 0, .int .i64 0, .int .u64 0] [] 35 HA113.out rfl (by kernel_rfl) (by intro v hv; simp at hv; rcases hv with rfl | rfl | rfl <;> rfl) ?_
          intro w114 hrow114 hg114 hz114
          have HB114 := Lib.hid (HB113.out.grown hg114 HB113.out.size (fun k hk => by injection hk with hk; rw [← hk]; exact LgA.out))
          have HC114 := Lib.hid ((hg114.block gC (lt_of_block HC113.out) (fun e => by injection e with e; exact HNE.out e.symm)).trans HC113.out)
          have HA114 : Hid (w114.heap[gA]? = some (.cells #[.int .u32 (a : Int), .int .i64 b, .int .u64 (d : Int)] 35 (0, 0))) := hrow114.out
          clear hrow114 hg114 hz114
          refine hK.out _ _ (HBOX.out _ HB114.out) (fun hHeld => ?_)
          clear hK K
          try simp only [Act.put, List.setIfInBounds_toArray, List.set_cons_zero, List.set_cons_succ]
          refine wpAnyH_ready (rs := [7]) (by kernel_rfl) (by simp) ?_
          refine AllReadyH.cons (o := _) rfl (fun K hK => ?_) AllReadyH.nil
          refine Sha.step_store_front rfl 40 (.tmp 8) (.tmp 12) rfl gC [.int .u32 (p : Int), .int .u32 (m : Int), .int .u16 (i : Int), .int .u8 (s : Int), .int .i64 e, .int .u64 (n : Int)] rfl rfl [.int .u32 0, .int .u32 0, .int .u16 0, .int .u8 0, .int .i64 0, .int .u64 0] [] 40 HC114.out rfl (by kernel_rfl) (by intro v hv; simp at hv; rcases hv with rfl | rfl | rfl | rfl | rfl | rfl <;> rfl) ?_
          intro w115 hrow115 hg115 hz115
          have HB115 := Lib.hid (HB114.out.grown hg115 HB114.out.size (fun k hk => by injection hk with hk; rw [← hk]; exact LgC.out))
          have HA115 := Lib.hid ((hg115.block gA (lt_of_block HA114.out) (fun e => by injection e with e; exact HNE.out e)).trans HA114.out)
          have HC115 : Hid (w115.heap[gC]? = some (.cells #[.int .u32 (p : Int), .int .u32 (m : Int), .int .u16 (i : Int), .int .u8 (s : Int), .int .i64 e, .int .u64 (n : Int)] 40 (0, 0))) := hrow115.out
          clear hrow115 hg115 hz115
          refine hK.out _ _ (HBOX.out _ HB115.out) (fun hHeld => ?_)
          clear hK K
          try simp only [Act.put, List.setIfInBounds_toArray, List.set_cons_zero, List.set_cons_succ]
          refine wpAnyH_done (by kernel_rfl) ?_ _
          try go_wp2_with fail
          go_meet
          exact ⟨gA, gC, rfl, rfl, Lib.hid ⟨HA115.out, HC115.out, HB115.out⟩⟩
        · go_simp
          refine hK.out _ _ (HBOX.out _ (HB111.out.alloc HB111.out.size _)) (fun hHeld => ?_)
          clear hK K
          try simp only [Act.put, List.setIfInBounds_toArray, List.set_cons_zero, List.set_cons_succ]
          obtain ⟨gC, hg116⟩ : ∃ gC, gC = w111.heap.size := ⟨_, rfl⟩
          obtain ⟨w116, hw116⟩ : ∃ w116, w116 = w111.alloc (.cells #[.int .u32 0, .int .u32 0, .int .u16 0, .int .u8 0, .int .i64 0, .int .u64 0] 40) := ⟨_, rfl⟩
          have HC116 : Hid (w116.heap[gC]? = some (.cells #[.int .u32 0, .int .u32 0, .int .u16 0, .int .u8 0, .int .i64 0, .int .u64 0] 40 (0, 0))) := by rw [hw116, hg116]; exact heap_alloc_new w111 _
          have HB116 : Hid (Below w0.heap.size w0 w116) := by rw [hw116]; exact HB111.out.alloc HB111.out.size _
          have LgC : Hid (w0.heap.size ≤ gC) := by rw [hg116]; exact HB111.out.size
          have HNE : Hid (gA ≠ gC) := by have := lt_of_block HA111.out; simp only [Hid]; omega
          have HA116 : Hid (w116.heap[gA]? = some (.cells #[.int .u32 0, .int .i64 0, .int .u64 0] 35 (0, 0))) := by rw [hw116]; exact (Below.heap_alloc w111 _ _ (lt_of_block HA111.out)).trans HA111.out
          rw [← hw116, ← hg116]
          clear hw116 hg116
          refine wpAnyH_ready (rs := [3]) (by kernel_rfl) (by simp) ?_
          refine AllReadyH.cons (o := _) rfl (fun K hK => ?_) AllReadyH.nil
          go_simp
          refine (token_any p m i s e n w116).mono ?_
          rintro x w117 ⟨rfl, hb117⟩
          have HB117 := Lib.hid (HB116.out.trans (hb117.mono HB116.out.size))
          have HA117 : Hid (w117.heap[gA]? = some (.cells #[.int .u32 0, .int .i64 0, .int .u64 0] 35 (0, 0))) := (hb117.block gA (lt_of_block HA116.out)).trans HA116.out
          have HC117 : Hid (w117.heap[gC]? = some (.cells #[.int .u32 0, .int .u32 0, .int .u16 0, .int .u8 0, .int .i64 0, .int .u64 0] 40 (0, 0))) := (hb117.block gC (lt_of_block HC116.out)).trans HC116.out
          clear hb117
          refine hK.out _ _ (HBOX.out _ HB117.out) (fun hHeld => ?_)
          clear hK K
          try simp only [Act.put, List.setIfInBounds_toArray, List.set_cons_zero, List.set_cons_succ]
          refine wpAnyH_ready (rs := [6]) (by kernel_rfl) (by simp) ?_
          refine AllReadyH.cons (o := _) rfl (fun K hK => ?_) AllReadyH.nil
          refine Sha.step_store_front rfl 35 (.tmp 7) (.tmp 10) rfl gA [.int .u32 (a : Int), .int .i64 b, .int .u64 (d : Int)] rfl rfl [.int .u32 0, .int .i64 0, .int .u64 0] [] 35 HA117.out rfl (by kernel_rfl) (by intro v hv; simp at hv; rcases hv with rfl | rfl | rfl <;> rfl) ?_
          intro w118 hrow118 hg118 hz118
          have HB118 := Lib.hid (HB117.out.grown hg118 HB117.out.size (fun k hk => by injection hk with hk; rw [← hk]; exact LgA.out))
          have HC118 := Lib.hid ((hg118.block gC (lt_of_block HC117.out) (fun e => by injection e with e; exact HNE.out e.symm)).trans HC117.out)
          have HA118 : Hid (w118.heap[gA]? = some (.cells #[.int .u32 (a : Int), .int .i64 b, .int .u64 (d : Int)] 35 (0, 0))) := hrow118.out
          clear hrow118 hg118 hz118
          refine hK.out _ _ (HBOX.out _ HB118.out) (fun hHeld => ?_)
          clear hK K
          try simp only [Act.put, List.setIfInBounds_toArray, List.set_cons_zero, List.set_cons_succ]
          refine wpAnyH_ready (rs := [7]) (by kernel_rfl) (by simp) ?_
          refine AllReadyH.cons (o := _) rfl (fun K hK => ?_) AllReadyH.nil
          refine Sha.step_store_front rfl 40 (.tmp 8) (.tmp 12) rfl gC [.int .u32 (p : Int), .int .u32 (m : Int), .int .u16 (i : Int), .int .u8 (s : Int), .int .i64 e, .int .u64 (n : Int)] rfl rfl [.int .u32 0, .int .u32 0, .int .u16 0, .int .u8 0, .int .i64 0, .int .u64 0] [] 40 HC118.out rfl (by kernel_rfl) (by intro v hv; simp at hv; rcases hv with rfl | rfl | rfl | rfl | rfl | rfl <;> rfl) ?_
          intro w119 hrow119 hg119 hz119
          have HB119 := Lib.hid (HB118.out.grown hg119 HB118.out.size (fun k hk => by injection hk with hk; rw [← hk]; exact LgC.out))
          have HA119 := Lib.hid ((hg119.block gA (lt_of_block HA118.out) (fun e => by injection e with e; exact HNE.out e)).trans HA118.out)
          have HC119 : Hid (w119.heap[gC]? = some (.cells #[.int .u32 (p : Int), .int .u32 (m : Int), .int .u16 (i : Int), .int .u8 (s : Int), .int .i64 e, .int .u64 (n : Int)] 40 (0, 0))) := hrow119.out
          clear hrow119 hg119 hz119
          refine hK.out _ _ (HBOX.out _ HB119.out) (fun hHeld => ?_)
          clear hK K
          try simp only [Act.put, List.setIfInBounds_toArray, List.set_cons_zero, List.set_cons_succ]
          refine wpAnyH_done (by kernel_rfl) ?_ _
          try go_wp2_with fail
          go_meet
          exact ⟨gA, gC, rfl, rfl, Lib.hid ⟨HA119.out, HC119.out, HB119.out⟩⟩
      · go_simp
        refine hK.out _ _ (HBOX.out _ (HB101.out.alloc HB101.out.size _)) (fun hHeld => ?_)
        clear hK K
        try simp only [Act.put, List.setIfInBounds_toArray, List.set_cons_zero, List.set_cons_succ]
        obtain ⟨gC, hg120⟩ : ∃ gC, gC = w101.heap.size := ⟨_, rfl⟩
        obtain ⟨w120, hw120⟩ : ∃ w120, w120 = w101.alloc (.cells #[.int .u32 0, .int .u32 0, .int .u16 0, .int .u8 0, .int .i64 0, .int .u64 0] 40) := ⟨_, rfl⟩
        have HC120 : Hid (w120.heap[gC]? = some (.cells #[.int .u32 0, .int .u32 0, .int .u16 0, .int .u8 0, .int .i64 0, .int .u64 0] 40 (0, 0))) := by rw [hw120, hg120]; exact heap_alloc_new w101 _
        have HB120 : Hid (Below w0.heap.size w0 w120) := by rw [hw120]; exact HB101.out.alloc HB101.out.size _
        have LgC : Hid (w0.heap.size ≤ gC) := by rw [hg120]; exact HB101.out.size
        rw [← hw120, ← hg120]
        clear hw120 hg120
        refine wpAnyH_ready (rs := [3, 4]) (by kernel_rfl) (by simp) ?_
        refine AllReadyH.cons (o := _) rfl (fun K hK => ?_) (AllReadyH.cons (o := _) rfl (fun K hK => ?_) AllReadyH.nil)
        · go_simp
          refine (token_any p m i s e n w120).mono ?_
          rintro x w121 ⟨rfl, hb121⟩
          have HB121 := Lib.hid (HB120.out.trans (hb121.mono HB120.out.size))
          have HC121 : Hid (w121.heap[gC]? = some (.cells #[.int .u32 0, .int .u32 0, .int .u16 0, .int .u8 0, .int .i64 0, .int .u64 0] 40 (0, 0))) := (hb121.block gC (lt_of_block HC120.out)).trans HC120.out
          clear hb121
          refine hK.out _ _ (HBOX.out _ HB121.out) (fun hHeld => ?_)
          clear hK K
          try simp only [Act.put, List.setIfInBounds_toArray, List.set_cons_zero, List.set_cons_succ]
          refine wpAnyH_ready (rs := [4]) (by kernel_rfl) (by simp) ?_
          refine AllReadyH.cons (o := _) rfl (fun K hK => ?_) AllReadyH.nil
          go_simp
          refine hK.out _ _ (HBOX.out _ (HB121.out.alloc HB121.out.size _)) (fun hHeld => ?_)
          clear hK K
          try simp only [Act.put, List.setIfInBounds_toArray, List.set_cons_zero, List.set_cons_succ]
          obtain ⟨gA, hg122⟩ : ∃ gA, gA = w121.heap.size := ⟨_, rfl⟩
          obtain ⟨w122, hw122⟩ : ∃ w122, w122 = w121.alloc (.cells #[.int .u32 0, .int .i64 0, .int .u64 0] 35) := ⟨_, rfl⟩
          have HA122 : Hid (w122.heap[gA]? = some (.cells #[.int .u32 0, .int .i64 0, .int .u64 0] 35 (0, 0))) := by rw [hw122, hg122]; exact heap_alloc_new w121 _
          have HB122 : Hid (Below w0.heap.size w0 w122) := by rw [hw122]; exact HB121.out.alloc HB121.out.size _
          have LgA : Hid (w0.heap.size ≤ gA) := by rw [hg122]; exact HB121.out.size
          have HNE : Hid (gA ≠ gC) := by have := lt_of_block HC121.out; simp only [Hid]; omega
          have HC122 : Hid (w122.heap[gC]? = some (.cells #[.int .u32 0, .int .u32 0, .int .u16 0, .int .u8 0, .int .i64 0, .int .u64 0] 40 (0, 0))) := by rw [hw122]; exact (Below.heap_alloc w121 _ _ (lt_of_block HC121.out)).trans HC121.out
          rw [← hw122, ← hg122]
          clear hw122 hg122
          refine wpAnyH_ready (rs := [6]) (by kernel_rfl) (by simp) ?_
          refine AllReadyH.cons (o := _) rfl (fun K hK => ?_) AllReadyH.nil
          refine Sha.step_store_front rfl 35 (.tmp 7) (.tmp 10) rfl gA [.int .u32 (a : Int), .int .i64 b, .int .u64 (d : Int)] rfl rfl [.int .u32 0, .int .i64 0, .int .u64 0] [] 35 HA122.out rfl (by kernel_rfl) (by intro v hv; simp at hv; rcases hv with rfl | rfl | rfl <;> rfl) ?_
          intro w123 hrow123 hg123 hz123
          have HB123 := Lib.hid (HB122.out.grown hg123 HB122.out.size (fun k hk => by injection hk with hk; rw [← hk]; exact LgA.out))
          have HC123 := Lib.hid ((hg123.block gC (lt_of_block HC122.out) (fun e => by injection e with e; exact HNE.out e.symm)).trans HC122.out)
          have HA123 : Hid (w123.heap[gA]? = some (.cells #[.int .u32 (a : Int), .int .i64 b, .int .u64 (d : Int)] 35 (0, 0))) := hrow123.out
          clear hrow123 hg123 hz123
          refine hK.out _ _ (HBOX.out _ HB123.out) (fun hHeld => ?_)
          clear hK K
          try simp only [Act.put, List.setIfInBounds_toArray, List.set_cons_zero, List.set_cons_succ]
          refine wpAnyH_ready (rs := [7]) (by kernel_rfl) (by simp) ?_
          refine AllReadyH.cons (o := _) rfl (fun K hK => ?_) AllReadyH.nil
          refine Sha.step_store_front rfl 40 (.tmp 8) (.tmp 12) rfl gC [.int .u32 (p : Int), .int .u32 (m : Int), .int .u16 (i : Int), .int .u8 (s : Int), .int .i64 e, .int .u64 (n : Int)] rfl rfl [.int .u32 0, .int .u32 0, .int .u16 0, .int .u8 0, .int .i64 0, .int .u64 0] [] 40 HC123.out rfl (by kernel_rfl) (by intro v hv; simp at hv; rcases hv with rfl | rfl | rfl | rfl | rfl | rfl <;> rfl) ?_
          intro w124 hrow124 hg124 hz124
          have HB124 := Lib.hid (HB123.out.grown hg124 HB123.out.size (fun k hk => by injection hk with hk; rw [← hk]; exact LgC.out))
          have HA124 := Lib.hid ((hg124.block gA (lt_of_block HA123.out) (fun e => by injection e with e; exact HNE.out e)).trans HA123.out)
          have HC124 : Hid (w124.heap[gC]? = some (.cells #[.int .u32 (p : Int), .int .u32 (m : Int), .int .u16 (i : Int), .int .u8 (s : Int), .int .i64 e, .int .u64 (n : Int)] 40 (0, 0))) := hrow124.out
          clear hrow124 hg124 hz124
          refine hK.out _ _ (HBOX.out _ HB124.out) (fun hHeld => ?_)
          clear hK K
          try simp only [Act.put, List.setIfInBounds_toArray, List.set_cons_zero, List.set_cons_succ]
          refine wpAnyH_done (by kernel_rfl) ?_ _
          try go_wp2_with fail
          go_meet
          exact ⟨gA, gC, rfl, rfl, Lib.hid ⟨HA124.out, HC124.out, HB124.out⟩⟩
        · go_simp
          refine hK.out _ _ (HBOX.out _ (HB120.out.alloc HB120.out.size _)) (fun hHeld => ?_)
          clear hK K
          try simp only [Act.put, List.setIfInBounds_toArray, List.set_cons_zero, List.set_cons_succ]
          obtain ⟨gA, hg125⟩ : ∃ gA, gA = w120.heap.size := ⟨_, rfl⟩
          obtain ⟨w125, hw125⟩ : ∃ w125, w125 = w120.alloc (.cells #[.int .u32 0, .int .i64 0, .int .u64 0] 35) := ⟨_, rfl⟩
          have HA125 : Hid (w125.heap[gA]? = some (.cells #[.int .u32 0, .int .i64 0, .int .u64 0] 35 (0, 0))) := by rw [hw125, hg125]; exact heap_alloc_new w120 _
          have HB125 : Hid (Below w0.heap.size w0 w125) := by rw [hw125]; exact HB120.out.alloc HB120.out.size _
          have LgA : Hid (w0.heap.size ≤ gA) := by rw [hg125]; exact HB120.out.size
          have HNE : Hid (gA ≠ gC) := by have := lt_of_block HC120.out; simp only [Hid]; omega
          have HC125 : Hid (w125.heap[gC]? = some (.cells #[.int .u32 0, .int .u32 0, .int .u16 0, .int .u8 0, .int .i64 0, .int .u64 0] 40 (0, 0))) := by rw [hw125]; exact (Below.heap_alloc w120 _ _ (lt_of_block HC120.out)).trans HC120.out
          rw [← hw125, ← hg125]
          clear hw125 hg125
          refine wpAnyH_ready (rs := [3]) (by kernel_rfl) (by simp) ?_
          refine AllReadyH.cons (o := _) rfl (fun K hK => ?_) AllReadyH.nil
          go_simp
          refine (token_any p m i s e n w125).mono ?_
          rintro x w126 ⟨rfl, hb126⟩
          have HB126 := Lib.hid (HB125.out.trans (hb126.mono HB125.out.size))
          have HA126 : Hid (w126.heap[gA]? = some (.cells #[.int .u32 0, .int .i64 0, .int .u64 0] 35 (0, 0))) := (hb126.block gA (lt_of_block HA125.out)).trans HA125.out
          have HC126 : Hid (w126.heap[gC]? = some (.cells #[.int .u32 0, .int .u32 0, .int .u16 0, .int .u8 0, .int .i64 0, .int .u64 0] 40 (0, 0))) := (hb126.block gC (lt_of_block HC125.out)).trans HC125.out
          clear hb126
          refine hK.out _ _ (HBOX.out _ HB126.out) (fun hHeld => ?_)
          clear hK K
          try simp only [Act.put, List.setIfInBounds_toArray, List.set_cons_zero, List.set_cons_succ]
          refine wpAnyH_ready (rs := [6]) (by kernel_rfl) (by simp) ?_
          refine AllReadyH.cons (o := _) rfl (fun K hK => ?_) AllReadyH.nil
          refine Sha.step_store_front rfl 35 (.tmp 7) (.tmp 10) rfl gA [.int .u32 (a : Int), .int .i64 b, .int .u64 (d : Int)] rfl rfl [.int .u32 0, .int .i64 0, .int .u64 0] [] 35 HA126.out rfl (by kernel_rfl) (by intro v hv; simp at hv; rcases hv with rfl | rfl | rfl <;> rfl) ?_
          intro w127 hrow127 hg127 hz127
          have HB127 := Lib.hid (HB126.out.grown hg127 HB126.out.size (fun k hk => by injection hk with hk; rw [← hk]; exact LgA.out))
          have HC127 := Lib.hid ((hg127.block gC (lt_of_block HC126.out) (fun e => by injection e with e; exact HNE.out e.symm)).trans HC126.out)
          have HA127 : Hid (w127.heap[gA]? = some (.cells #[.int .u32 (a : Int), .int .i64 b, .int .u64 (d : Int)] 35 (0, 0))) := hrow127.out
          clear hrow127 hg127 hz127
          refine hK.out _ _ (HBOX.out _ HB127.out) (fun hHeld => ?_)
          clear hK K
          try simp only [Act.put, List.setIfInBounds_toArray, List.set_cons_zero, List.set_cons_succ]
          refine wpAnyH_ready (rs := [7]) (by kernel_rfl) (by simp) ?_
          refine AllReadyH.cons (o := _) rfl (fun K hK => ?_) AllReadyH.nil
          refine Sha.step_store_front rfl 40 (.tmp 8) (.tmp 12) rfl gC [.int .u32 (p : Int), .int .u32 (m : Int), .int .u16 (i : Int), .int .u8 (s : Int), .int .i64 e, .int .u64 (n : Int)] rfl rfl [.int .u32 0, .int .u32 0, .int .u16 0, .int .u8 0, .int .i64 0, .int .u64 0] [] 40 HC127.out rfl (by kernel_rfl) (by intro v hv; simp at hv; rcases hv with rfl | rfl | rfl | rfl | rfl | rfl <;> rfl) ?_
          intro w128 hrow128 hg128 hz128
          have HB128 := Lib.hid (HB127.out.grown hg128 HB127.out.size (fun k hk => by injection hk with hk; rw [← hk]; exact LgC.out))
          have HA128 := Lib.hid ((hg128.block gA (lt_of_block HA127.out) (fun e => by injection e with e; exact HNE.out e)).trans HA127.out)
          have HC128 : Hid (w128.heap[gC]? = some (.cells #[.int .u32 (p : Int), .int .u32 (m : Int), .int .u16 (i : Int), .int .u8 (s : Int), .int .i64 e, .int .u64 (n : Int)] 40 (0, 0))) := hrow128.out
          clear hrow128 hg128 hz128
          refine hK.out _ _ (HBOX.out _ HB128.out) (fun hHeld => ?_)
          clear hK K
          try simp only [Act.put, List.setIfInBounds_toArray, List.set_cons_zero, List.set_cons_succ]
          refine wpAnyH_done (by kernel_rfl) ?_ _
          try go_wp2_with fail
          go_meet
          exact ⟨gA, gC, rfl, rfl, Lib.hid ⟨HA128.out, HC128.out, HB128.out⟩⟩
    · go_simp
      refine hK.out _ _ (HBOX.out _ (HB100.out.alloc HB100.out.size _)) (fun hHeld => ?_)
      clear hK K
      try simp only [Act.put, List.setIfInBounds_toArray, List.set_cons_zero, List.set_cons_succ]
      obtain ⟨gA, hg129⟩ : ∃ gA, gA = w100.heap.size := ⟨_, rfl⟩
      obtain ⟨w129, hw129⟩ : ∃ w129, w129 = w100.alloc (.cells #[.int .u32 0, .int .i64 0, .int .u64 0] 35) := ⟨_, rfl⟩
      have HA129 : Hid (w129.heap[gA]? = some (.cells #[.int .u32 0, .int .i64 0, .int .u64 0] 35 (0, 0))) := by rw [hw129, hg129]; exact heap_alloc_new w100 _
      have HB129 : Hid (Below w0.heap.size w0 w129) := by rw [hw129]; exact HB100.out.alloc HB100.out.size _
      have LgA : Hid (w0.heap.size ≤ gA) := by rw [hg129]; exact HB100.out.size
      rw [← hw129, ← hg129]
      clear hw129 hg129
      refine wpAnyH_ready (rs := [1, 5]) (by kernel_rfl) (by simp) ?_
      refine AllReadyH.cons (o := _) rfl (fun K hK => ?_) (AllReadyH.cons (o := _) rfl (fun K hK => ?_) AllReadyH.nil)
      · go_simp
        refine (ticket_any a b d w129).mono ?_
        rintro x w130 ⟨rfl, hb130⟩
        have HB130 := Lib.hid (HB129.out.trans (hb130.mono HB129.out.size))
        have HA130 : Hid (w130.heap[gA]? = some (.cells #[.int .u32 0, .int .i64 0, .int .u64 0] 35 (0, 0))) := (hb130.block gA (lt_of_block HA129.out)).trans HA129.out
        clear hb130
        refine hK.out _ _ (HBOX.out _ HB130.out) (fun hHeld => ?_)
        clear hK K
        try simp only [Act.put, List.setIfInBounds_toArray, List.set_cons_zero, List.set_cons_succ]
        refine wpAnyH_ready (rs := [3, 5]) (by kernel_rfl) (by simp) ?_
        refine AllReadyH.cons (o := _) rfl (fun K hK => ?_) (AllReadyH.cons (o := _) rfl (fun K hK => ?_) AllReadyH.nil)
        · go_simp
          refine (token_any p m i s e n w130).mono ?_
          rintro x w131 ⟨rfl, hb131⟩
          have HB131 := Lib.hid (HB130.out.trans (hb131.mono HB130.out.size))
          have HA131 : Hid (w131.heap[gA]? = some (.cells #[.int .u32 0, .int .i64 0, .int .u64 0] 35 (0, 0))) := (hb131.block gA (lt_of_block HA130.out)).trans HA130.out
          clear hb131
          refine hK.out _ _ (HBOX.out _ HB131.out) (fun hHeld => ?_)
          clear hK K
          try simp only [Act.put, List.setIfInBounds_toArray, List.set_cons_zero, List.set_cons_succ]
          refine wpAnyH_ready (rs := [5]) (by kernel_rfl) (by simp) ?_
          refine AllReadyH.cons (o := _) rfl (fun K hK => ?_) AllReadyH.nil
          go_simp
          refine hK.out _ _ (HBOX.out _ (HB131.out.alloc HB131.out.size _)) (fun hHeld => ?_)
          clear hK K
          try simp only [Act.put, List.setIfInBounds_toArray, List.set_cons_zero, List.set_cons_succ]
          obtain ⟨gC, hg132⟩ : ∃ gC, gC = w131.heap.size := ⟨_, rfl⟩
          obtain ⟨w132, hw132⟩ : ∃ w132, w132 = w131.alloc (.cells #[.int .u32 0, .int .u32 0, .int .u16 0, .int .u8 0, .int .i64 0, .int .u64 0] 40) := ⟨_, rfl⟩
          have HC132 : Hid (w132.heap[gC]? = some (.cells #[.int .u32 0, .int .u32 0, .int .u16 0, .int .u8 0, .int .i64 0, .int .u64 0] 40 (0, 0))) := by rw [hw132, hg132]; exact heap_alloc_new w131 _
          have HB132 : Hid (Below w0.heap.size w0 w132) := by rw [hw132]; exact HB131.out.alloc HB131.out.size _
          have LgC : Hid (w0.heap.size ≤ gC) := by rw [hg132]; exact HB131.out.size
          have HNE : Hid (gA ≠ gC) := by have := lt_of_block HA131.out; simp only [Hid]; omega
          have HA132 : Hid (w132.heap[gA]? = some (.cells #[.int .u32 0, .int .i64 0, .int .u64 0] 35 (0, 0))) := by rw [hw132]; exact (Below.heap_alloc w131 _ _ (lt_of_block HA131.out)).trans HA131.out
          rw [← hw132, ← hg132]
          clear hw132 hg132
          refine wpAnyH_ready (rs := [6]) (by kernel_rfl) (by simp) ?_
          refine AllReadyH.cons (o := _) rfl (fun K hK => ?_) AllReadyH.nil
          refine Sha.step_store_front rfl 35 (.tmp 7) (.tmp 10) rfl gA [.int .u32 (a : Int), .int .i64 b, .int .u64 (d : Int)] rfl rfl [.int .u32 0, .int .i64 0, .int .u64 0] [] 35 HA132.out rfl (by kernel_rfl) (by intro v hv; simp at hv; rcases hv with rfl | rfl | rfl <;> rfl) ?_
          intro w133 hrow133 hg133 hz133
          have HB133 := Lib.hid (HB132.out.grown hg133 HB132.out.size (fun k hk => by injection hk with hk; rw [← hk]; exact LgA.out))
          have HC133 := Lib.hid ((hg133.block gC (lt_of_block HC132.out) (fun e => by injection e with e; exact HNE.out e.symm)).trans HC132.out)
          have HA133 : Hid (w133.heap[gA]? = some (.cells #[.int .u32 (a : Int), .int .i64 b, .int .u64 (d : Int)] 35 (0, 0))) := hrow133.out
          clear hrow133 hg133 hz133
          refine hK.out _ _ (HBOX.out _ HB133.out) (fun hHeld => ?_)
          clear hK K
          try simp only [Act.put, List.setIfInBounds_toArray, List.set_cons_zero, List.set_cons_succ]
          refine wpAnyH_ready (rs := [7]) (by kernel_rfl) (by simp) ?_
          refine AllReadyH.cons (o := _) rfl (fun K hK => ?_) AllReadyH.nil
          refine Sha.step_store_front rfl 40 (.tmp 8) (.tmp 12) rfl gC [.int .u32 (p : Int), .int .u32 (m : Int), .int .u16 (i : Int), .int .u8 (s : Int), .int .i64 e, .int .u64 (n : Int)] rfl rfl [.int .u32 0, .int .u32 0, .int .u16 0, .int .u8 0, .int .i64 0, .int .u64 0] [] 40 HC133.out rfl (by kernel_rfl) (by intro v hv; simp at hv; rcases hv with rfl | rfl | rfl | rfl | rfl | rfl <;> rfl) ?_
          intro w134 hrow134 hg134 hz134
          have HB134 := Lib.hid (HB133.out.grown hg134 HB133.out.size (fun k hk => by injection hk with hk; rw [← hk]; exact LgC.out))
          have HA134 := Lib.hid ((hg134.block gA (lt_of_block HA133.out) (fun e => by injection e with e; exact HNE.out e)).trans HA133.out)
          have HC134 : Hid (w134.heap[gC]? = some (.cells #[.int .u32 (p : Int), .int .u32 (m : Int), .int .u16 (i : Int), .int .u8 (s : Int), .int .i64 e, .int .u64 (n : Int)] 40 (0, 0))) := hrow134.out
          clear hrow134 hg134 hz134
          refine hK.out _ _ (HBOX.out _ HB134.out) (fun hHeld => ?_)
          clear hK K
          try simp only [Act.put, List.setIfInBounds_toArray, List.set_cons_zero, List.set_cons_succ]
          refine wpAnyH_done (by kernel_rfl) ?_ _
          try go_wp2_with fail
          go_meet
          exact ⟨gA, gC, rfl, rfl, Lib.hid ⟨HA134.out, HC134.out, HB134.out⟩⟩
        · go_simp
          refine hK.out _ _ (HBOX.out _ (HB130.out.alloc HB130.out.size _)) (fun hHeld => ?_)
          clear hK K
          try simp only [Act.put, List.setIfInBounds_toArray, List.set_cons_zero, List.set_cons_succ]
          obtain ⟨gC, hg135⟩ : ∃ gC, gC = w130.heap.size := ⟨_, rfl⟩
          obtain ⟨w135, hw135⟩ : ∃ w135, w135 = w130.alloc (.cells #[.int .u32 0, .int .u32 0, .int .u16 0, .int .u8 0, .int .i64 0, .int .u64 0] 40) := ⟨_, rfl⟩
          have HC135 : Hid (w135.heap[gC]? = some (.cells #[.int .u32 0, .int .u32 0, .int .u16 0, .int .u8 0, .int .i64 0, .int .u64 0] 40 (0, 0))) := by rw [hw135, hg135]; exact heap_alloc_new w130 _
          have HB135 : Hid (Below w0.heap.size w0 w135) := by rw [hw135]; exact HB130.out.alloc HB130.out.size _
          have LgC : Hid (w0.heap.size ≤ gC) := by rw [hg135]; exact HB130.out.size
          have HNE : Hid (gA ≠ gC) := by have := lt_of_block HA130.out; simp only [Hid]; omega
          have HA135 : Hid (w135.heap[gA]? = some (.cells #[.int .u32 0, .int .i64 0, .int .u64 0] 35 (0, 0))) := by rw [hw135]; exact (Below.heap_alloc w130 _ _ (lt_of_block HA130.out)).trans HA130.out
          rw [← hw135, ← hg135]
          clear hw135 hg135
          refine wpAnyH_ready (rs := [3]) (by kernel_rfl) (by simp) ?_
          refine AllReadyH.cons (o := _) rfl (fun K hK => ?_) AllReadyH.nil
          go_simp
          refine (token_any p m i s e n w135).mono ?_
          rintro x w136 ⟨rfl, hb136⟩
          have HB136 := Lib.hid (HB135.out.trans (hb136.mono HB135.out.size))
          have HA136 : Hid (w136.heap[gA]? = some (.cells #[.int .u32 0, .int .i64 0, .int .u64 0] 35 (0, 0))) := (hb136.block gA (lt_of_block HA135.out)).trans HA135.out
          have HC136 : Hid (w136.heap[gC]? = some (.cells #[.int .u32 0, .int .u32 0, .int .u16 0, .int .u8 0, .int .i64 0, .int .u64 0] 40 (0, 0))) := (hb136.block gC (lt_of_block HC135.out)).trans HC135.out
          clear hb136
          refine hK.out _ _ (HBOX.out _ HB136.out) (fun hHeld => ?_)
          clear hK K
          try simp only [Act.put, List.setIfInBounds_toArray, List.set_cons_zero, List.set_cons_succ]
          refine wpAnyH_ready (rs := [6]) (by kernel_rfl) (by simp) ?_
          refine AllReadyH.cons (o := _) rfl (fun K hK => ?_) AllReadyH.nil
          refine Sha.step_store_front rfl 35 (.tmp 7) (.tmp 10) rfl gA [.int .u32 (a : Int), .int .i64 b, .int .u64 (d : Int)] rfl rfl [.int .u32 0, .int .i64 0, .int .u64 0] [] 35 HA136.out rfl (by kernel_rfl) (by intro v hv; simp at hv; rcases hv with rfl | rfl | rfl <;> rfl) ?_
          intro w137 hrow137 hg137 hz137
          have HB137 := Lib.hid (HB136.out.grown hg137 HB136.out.size (fun k hk => by injection hk with hk; rw [← hk]; exact LgA.out))
          have HC137 := Lib.hid ((hg137.block gC (lt_of_block HC136.out) (fun e => by injection e with e; exact HNE.out e.symm)).trans HC136.out)
          have HA137 : Hid (w137.heap[gA]? = some (.cells #[.int .u32 (a : Int), .int .i64 b, .int .u64 (d : Int)] 35 (0, 0))) := hrow137.out
          clear hrow137 hg137 hz137
          refine hK.out _ _ (HBOX.out _ HB137.out) (fun hHeld => ?_)
          clear hK K
          try simp only [Act.put, List.setIfInBounds_toArray, List.set_cons_zero, List.set_cons_succ]
          refine wpAnyH_ready (rs := [7]) (by kernel_rfl) (by simp) ?_
          refine AllReadyH.cons (o := _) rfl (fun K hK => ?_) AllReadyH.nil
          refine Sha.step_store_front rfl 40 (.tmp 8) (.tmp 12) rfl gC [.int .u32 (p : Int), .int .u32 (m : Int), .int .u16 (i : Int), .int .u8 (s : Int), .int .i64 e, .int .u64 (n : Int)] rfl rfl [.int .u32 0, .int .u32 0, .int .u16 0, .int .u8 0, .int .i64 0, .int .u64 0] [] 40 HC137.out rfl (by kernel_rfl) (by intro v hv; simp at hv; rcases hv with rfl | rfl | rfl | rfl | rfl | rfl <;> rfl) ?_
          intro w138 hrow138 hg138 hz138
          have HB138 := Lib.hid (HB137.out.grown hg138 HB137.out.size (fun k hk => by injection hk with hk; rw [← hk]; exact LgC.out))
          have HA138 := Lib.hid ((hg138.block gA (lt_of_block HA137.out) (fun e => by injection e with e; exact HNE.out e)).trans HA137.out)
          have HC138 : Hid (w138.heap[gC]? = some (.cells #[.int .u32 (p : Int), .int .u32 (m : Int), .int .u16 (i : Int), .int .u8 (s : Int), .int .i64 e, .int .u64 (n : Int)] 40 (0, 0))) := hrow138.out
          clear hrow138 hg138 hz138
          refine hK.out _ _ (HBOX.out _ HB138.out) (fun hHeld => ?_)
          clear hK K
          try simp only [Act.put, List.setIfInBounds_toArray, List.set_cons_zero, List.set_cons_succ]
          refine wpAnyH_done (by kernel_rfl) ?_ _
          try go_wp2_with fail
          go_meet
          exact ⟨gA, gC, rfl, rfl, Lib.hid ⟨HA138.out, HC138.out, HB138.out⟩⟩
      · go_simp
        refine hK.out _ _ (HBOX.out _ (HB129.out.alloc HB129.out.size _)) (fun hHeld => ?_)
        clear hK K
        try simp only [Act.put, List.setIfInBounds_toArray, List.set_cons_zero, List.set_cons_succ]
        obtain ⟨gC, hg139⟩ : ∃ gC, gC = w129.heap.size := ⟨_, rfl⟩
        obtain ⟨w139, hw139⟩ : ∃ w139, w139 = w129.alloc (.cells #[.int .u32 0, .int .u32 0, .int .u16 0, .int .u8 0, .int .i64 0, .int .u64 0] 40) := ⟨_, rfl⟩
        have HC139 : Hid (w139.heap[gC]? = some (.cells #[.int .u32 0, .int .u32 0, .int .u16 0, .int .u8 0, .int .i64 0, .int .u64 0] 40 (0, 0))) := by rw [hw139, hg139]; exact heap_alloc_new w129 _
        have HB139 : Hid (Below w0.heap.size w0 w139) := by rw [hw139]; exact HB129.out.alloc HB129.out.size _
        have LgC : Hid (w0.heap.size ≤ gC) := by rw [hg139]; exact HB129.out.size
        have HNE : Hid (gA ≠ gC) := by have := lt_of_block HA129.out; simp only [Hid]; omega
        have HA139 : Hid (w139.heap[gA]? = some (.cells #[.int .u32 0, .int .i64 0, .int .u64 0] 35 (0, 0))) := by rw [hw139]; exact (Below.heap_alloc w129 _ _ (lt_of_block HA129.out)).trans HA129.out
        rw [← hw139, ← hg139]
        clear hw139 hg139
        refine wpAnyH_ready (rs := [1]) (by kernel_rfl) (by simp) ?_
        refine AllReadyH.cons (o := _) rfl (fun K hK => ?_) AllReadyH.nil
        go_simp
        refine (ticket_any a b d w139).mono ?_
        rintro x w140 ⟨rfl, hb140⟩
        have HB140 := Lib.hid (HB139.out.trans (hb140.mono HB139.out.size))
        have HA140 : Hid (w140.heap[gA]? = some (.cells #[.int .u32 0, .int .i64 0, .int .u64 0] 35 (0, 0))) := (hb140.block gA (lt_of_block HA139.out)).trans HA139.out
        have HC140 : Hid (w140.heap[gC]? = some (.cells #[.int .u32 0, .int .u32 0, .int .u16 0, .int .u8 0, .int .i64 0, .int .u64 0] 40 (0, 0))) := (hb140.block gC (lt_of_block HC139.out)).trans HC139.out
        clear hb140
        refine hK.out _ _ (HBOX.out _ HB140.out) (fun hHeld => ?_)
        clear hK K
        try simp only [Act.put, List.setIfInBounds_toArray, List.set_cons_zero, List.set_cons_succ]
        refine wpAnyH_ready (rs := [3]) (by kernel_rfl) (by simp) ?_
        refine AllReadyH.cons (o := _) rfl (fun K hK => ?_) AllReadyH.nil
        go_simp
        refine (token_any p m i s e n w140).mono ?_
        rintro x w141 ⟨rfl, hb141⟩
        have HB141 := Lib.hid (HB140.out.trans (hb141.mono HB140.out.size))
        have HA141 : Hid (w141.heap[gA]? = some (.cells #[.int .u32 0, .int .i64 0, .int .u64 0] 35 (0, 0))) := (hb141.block gA (lt_of_block HA140.out)).trans HA140.out
        have HC141 : Hid (w141.heap[gC]? = some (.cells #[.int .u32 0, .int .u32 0, .int .u16 0, .int .u8 0, .int .i64 0, .int .u64 0] 40 (0, 0))) := (hb141.block gC (lt_of_block HC140.out)).trans HC140.out
        clear hb141
        refine hK.out _ _ (HBOX.out _ HB141.out) (fun hHeld => ?_)
        clear hK K
        try simp only [Act.put, List.setIfInBounds_toArray, List.set_cons_zero, List.set_cons_succ]
        refine wpAnyH_ready (rs := [6]) (by kernel_rfl) (by simp) ?_
        refine AllReadyH.cons (o := _) rfl (fun K hK => ?_) AllReadyH.nil
        refine Sha.step_store_front rfl 35 (.tmp 7) (.tmp 10) rfl gA [.int .u32 (a : Int), .int .i64 b, .int .u64 (d : Int)] rfl rfl [.int .u32 0, .int .i64 0, .int .u64 0] [] 35 HA141.out rfl (by kernel_rfl) (by intro v hv; simp at hv; rcases hv with rfl | rfl | rfl <;> rfl) ?_
        intro w142 hrow142 hg142 hz142
        have HB142 := Lib.hid (HB141.out.grown hg142 HB141.out.size (fun k hk => by injection hk with hk; rw [← hk]; exact LgA.out))
        have HC142 := Lib.hid ((hg142.block gC (lt_of_block HC141.out) (fun e => by injection e with e; exact HNE.out e.symm)).trans HC141.out)
        have HA142 : Hid (w142.heap[gA]? = some (.cells #[.int .u32 (a : Int), .int .i64 b, .int .u64 (d : Int)] 35 (0, 0))) := hrow142.out
        clear hrow142 hg142 hz142
        refine hK.out _ _ (HBOX.out _ HB142.out) (fun hHeld => ?_)
        clear hK K
        try simp only [Act.put, List.setIfInBounds_toArray, List.set_cons_zero, List.set_cons_succ]
        refine wpAnyH_ready (rs := [7]) (by kernel_rfl) (by simp) ?_
        refine AllReadyH.cons (o := _) rfl (fun K hK => ?_) AllReadyH.nil
        refine Sha.step_store_front rfl 40 (.tmp 8) (.tmp 12) rfl gC [.int .u32 (p : Int), .int .u32 (m : Int), .int .u16 (i : Int), .int .u8 (s : Int), .int .i64 e, .int .u64 (n : Int)] rfl rfl [.int .u32 0, .int .u32 0, .int .u16 0, .int .u8 0, .int .i64 0, .int .u64 0] [] 40 HC142.out rfl (by kernel_rfl) (by intro v hv; simp at hv; rcases hv with rfl | rfl | rfl | rfl | rfl | rfl <;> rfl) ?_
        intro w143 hrow143 hg143 hz143
        have HB143 := Lib.hid (HB142.out.grown hg143 HB142.out.size (fun k hk => by injection hk with hk; rw [← hk]; exact LgC.out))
        have HA143 := Lib.hid ((hg143.block gA (lt_of_block HA142.out) (fun e => by injection e with e; exact HNE.out e)).trans HA142.out)
        have HC143 : Hid (w143.heap[gC]? = some (.cells #[.int .u32 (p : Int), .int .u32 (m : Int), .int .u16 (i : Int), .int .u8 (s : Int), .int .i64 e, .int .u64 (n : Int)] 40 (0, 0))) := hrow143.out
        clear hrow143 hg143 hz143
        refine hK.out _ _ (HBOX.out _ HB143.out) (fun hHeld => ?_)
        clear hK K
        try simp only [Act.put, List.setIfInBounds_toArray, List.set_cons_zero, List.set_cons_succ]
        refine wpAnyH_done (by kernel_rfl) ?_ _
        try go_wp2_with fail
        go_meet
        exact ⟨gA, gC, rfl, rfl, Lib.hid ⟨HA143.out, HC143.out, HB143.out⟩⟩
    · go_simp
      refine hK.out _ _ (HBOX.out _ (HB100.out.alloc HB100.out.size _)) (fun hHeld => ?_)
      clear hK K
      try simp only [Act.put, List.setIfInBounds_toArray, List.set_cons_zero, List.set_cons_succ]
      obtain ⟨gC, hg144⟩ : ∃ gC, gC = w100.heap.size := ⟨_, rfl⟩
      obtain ⟨w144, hw144⟩ : ∃ w144, w144 = w100.alloc (.cells #[.int .u32 0, .int .u32 0, .int .u16 0, .int .u8 0, .int .i64 0, .int .u64 0] 40) := ⟨_, rfl⟩
      have HC144 : Hid (w144.heap[gC]? = some (.cells #[.int .u32 0, .int .u32 0, .int .u16 0, .int .u8 0, .int .i64 0, .int .u64 0] 40 (0, 0))) := by rw [hw144, hg144]; exact heap_alloc_new w100 _
      have HB144 : Hid (Below w0.heap.size w0 w144) := by rw [hw144]; exact HB100.out.alloc HB100.out.size _
      have LgC : Hid (w0.heap.size ≤ gC) := by rw [hg144]; exact HB100.out.size
      rw [← hw144, ← hg144]
      clear hw144 hg144
      refine wpAnyH_ready (rs := [1, 4]) (by kernel_rfl) (by simp) ?_
      refine AllReadyH.cons (o := _) rfl (fun K hK => ?_) (AllReadyH.cons (o := _) rfl (fun K hK => ?_) AllReadyH.nil)
      · go_simp
        refine (ticket_any a b d w144).mono ?_
        rintro x w145 ⟨rfl, hb145⟩
        have HB145 := Lib.hid (HB144.out.trans (hb145.mono HB144.out.size))
        have HC145 : Hid (w145.heap[gC]? = some (.cells #[.int .u32 0, .int .u32 0, .int .u16 0, .int .u8 0, .int .i64 0, .int .u64 0] 40 (0, 0))) := (hb145.block gC (lt_of_block HC144.out)).trans HC144.out
        clear hb145
        refine hK.out _ _ (HBOX.out _ HB145.out) (fun hHeld => ?_)
        clear hK K
        try simp only [Act.put, List.setIfInBounds_toArray, List.set_cons_zero, List.set_cons_succ]
        refine wpAnyH_ready (rs := [3, 4]) (by kernel_rfl) (by simp) ?_
        refine AllReadyH.cons (o := _) rfl (fun K hK => ?_) (AllReadyH.cons (o := _) rfl (fun K hK => ?_) AllReadyH.nil)
        · go_simp
          refine (token_any p m i s e n w145).mono ?_
          rintro x w146 ⟨rfl, hb146⟩
          have HB146 := Lib.hid (HB145.out.trans (hb146.mono HB145.out.size))
          have HC146 : Hid (w146.heap[gC]? = some (.cells #[.int .u32 0, .int .u32 0, .int .u16 0, .int .u8 0, .int .i64 0, .int .u64 0] 40 (0, 0))) := (hb146.block gC (lt_of_block HC145.out)).trans HC145.out
          clear hb146
          refine hK.out _ _ (HBOX.out _ HB146.out) (fun hHeld => ?_)
          clear hK K
          try simp only [Act.put, List.setIfInBounds_toArray, List.set_cons_zero, List.set_cons_succ]
          refine wpAnyH_ready (rs := [4]) (by kernel_rfl) (by simp) ?_
          refine AllReadyH.cons (o := _) rfl (fun K hK => ?_) AllReadyH.nil
          go_simp
          refine hK.out _ _ (HBOX.out _ (HB146.out.alloc HB146.out.size _)) (fun hHeld => ?_)
          clear hK K
          try simp only [Act.put, List.setIfInBounds_toArray, List.set_cons_zero, List.set_cons_succ]
          obtain ⟨gA, hg147⟩ : ∃ gA, gA = w146.heap.size := ⟨_, rfl⟩
          obtain ⟨w147, hw147⟩ : ∃ w147, w147 = w146.alloc (.cells #[.int .u32 0, .int .i64 0, .int .u64 0] 35) := ⟨_, rfl⟩
          have HA147 : Hid (w147.heap[gA]? = some (.cells #[.int .u32 0, .int .i64 0, .int .u64 0] 35 (0, 0))) := by rw [hw147, hg147]; exact heap_alloc_new w146 _
          have HB147 : Hid (Below w0.heap.size w0 w147) := by rw [hw147]; exact HB146.out.alloc HB146.out.size _
          have LgA : Hid (w0.heap.size ≤ gA) := by rw [hg147]; exact HB146.out.size
          have HNE : Hid (gA ≠ gC) := by have := lt_of_block HC146.out; simp only [Hid]; omega
          have HC147 : Hid (w147.heap[gC]? = some (.cells #[.int .u32 0, .int .u32 0, .int .u16 0, .int .u8 0, .int .i64 0, .int .u64 0] 40 (0, 0))) := by rw [hw147]; exact (Below.heap_alloc w146 _ _ (lt_of_block HC146.out)).trans HC146.out
          rw [← hw147, ← hg147]
          clear hw147 hg147
          refine wpAnyH_ready (rs := [6]) (by kernel_rfl) (by simp) ?_
          refine AllReadyH.cons (o := _) rfl (fun K hK => ?_) AllReadyH.nil
          refine Sha.step_store_front rfl 35 (.tmp 7) (.tmp 10) rfl gA [.int .u32 (a : Int), .int .i64 b, .int .u64 (d : Int)] rfl rfl [.int .u32 0, .int .i64 0, .int .u64 0] [] 35 HA147.out rfl (by kernel_rfl) (by intro v hv; simp at hv; rcases hv with rfl | rfl | rfl <;> rfl) ?_
          intro w148 hrow148 hg148 hz148
          have HB148 := Lib.hid (HB147.out.grown hg148 HB147.out.size (fun k hk => by injection hk with hk; rw [← hk]; exact LgA.out))
          have HC148 := Lib.hid ((hg148.block gC (lt_of_block HC147.out) (fun e => by injection e with e; exact HNE.out e.symm)).trans HC147.out)
          have HA148 : Hid (w148.heap[gA]? = some (.cells #[.int .u32 (a : Int), .int .i64 b, .int .u64 (d : Int)] 35 (0, 0))) := hrow148.out
          clear hrow148 hg148 hz148
          refine hK.out _ _ (HBOX.out _ HB148.out) (fun hHeld => ?_)
          clear hK K
          try simp only [Act.put, List.setIfInBounds_toArray, List.set_cons_zero, List.set_cons_succ]
          refine wpAnyH_ready (rs := [7]) (by kernel_rfl) (by simp) ?_
          refine AllReadyH.cons (o := _) rfl (fun K hK => ?_) AllReadyH.nil
          refine Sha.step_store_front rfl 40 (.tmp 8) (.tmp 12) rfl gC [.int .u32 (p : Int), .int .u32 (m : Int), .int .u16 (i : Int), .int .u8 (s : Int), .int .i64 e, .int .u64 (n : Int)] rfl rfl [.int .u32 0, .int .u32 0, .int .u16 0, .int .u8 0, .int .i64 0, .int .u64 0] [] 40 HC148.out rfl (by kernel_rfl) (by intro v hv; simp at hv; rcases hv with rfl | rfl | rfl | rfl | rfl | rfl <;> rfl) ?_
          intro w149 hrow149 hg149 hz149
          have HB149 := Lib.hid (HB148.out.grown hg149 HB148.out.size (fun k hk => by injection hk with hk; rw [← hk]; exact LgC.out))
          have HA149 := Lib.hid ((hg149.block gA (lt_of_block HA148.out) (fun e => by injection e with e; exact HNE.out e)).trans HA148.out)
          have HC149 : Hid (w149.heap[gC]? = some (.cells #[.int .u32 (p : Int), .int .u32 (m : Int), .int .u16 (i : Int), .int .u8 (s : Int), .int .i64 e, .int .u64 (n : Int)] 40 (0, 0))) := hrow149.out
          clear hrow149 hg149 hz149
          refine hK.out _ _ (HBOX.out _ HB149.out) (fun hHeld => ?_)
          clear hK K
          try simp only [Act.put, List.setIfInBounds_toArray, List.set_cons_zero, List.set_cons_succ]
          refine wpAnyH_done (by kernel_rfl) ?_ _
          try go_wp2_with fail
          go_meet
          exact ⟨gA, gC, rfl, rfl, Lib.hid ⟨HA149.out, HC149.out, HB149.out⟩⟩
        · go_simp
          refine hK.out _ _ (HBOX.out _ (HB145.out.alloc HB145.out.size _)) (fun hHeld => ?_)
          clear hK K
          try simp only [Act.put, List.setIfInBounds_toArray, List.set_cons_zero, List.set_cons_succ]
          obtain ⟨gA, hg150⟩ : ∃ gA, gA = w145.heap.size := ⟨_, rfl⟩
          obtain ⟨w150, hw150⟩ : ∃ w150, w150 = w145.alloc (.cells #[.int .u32 0, .int .i64 0, .int .u64 0] 35) := ⟨_, rfl⟩
          have HA150 : Hid (w150.heap[gA]? = some (.cells #[.int .u32 0, .int .i64 0, .int .u64 0] 35 (0, 0))) := by rw [hw150, hg150]; exact heap_alloc_new w145 _
          have HB150 : Hid (Below w0.heap.size w0 w150) := by rw [hw150]; exact HB145.out.alloc HB145.out.size _
          have LgA : Hid (w0.heap.size ≤ gA) := by rw [hg150]; exact HB145.out.size
          have HNE : Hid (gA ≠ gC) := by have := lt_of_block HC145.out; simp only [Hid]; omega
          have HC150 : Hid (w150.heap[gC]? = some (.cells #[.int .u32 0, .int .u32 0, .int .u16 0, .int .u8 0, .int .i64 0, .int .u64 0] 40 (0, 0))) := by rw [hw150]; exact (Below.heap_alloc w145 _ _ (lt_of_block HC145.out)).trans HC145.out
          rw [← hw150, ← hg150]
          clear hw150 hg150
          refine wpAnyH_ready (rs := [3]) (by kernel_rfl) (by simp) ?_
          refine AllReadyH.cons (o := _) rfl (fun K hK => ?_) AllReadyH.nil
          go_simp
          refine (token_any p m i s e n w150).mono ?_
          rintro x w151 ⟨rfl, hb151⟩
          have HB151 := Lib.hid (HB150.out.trans (hb151.mono HB150.out.size))
          have HA151 : Hid (w151.heap[gA]? = some (.cells #[.int .u32 0, .int .i64 0, .int .u64 0] 35 (0, 0))) := (hb151.block gA (lt_of_block HA150.out)).trans HA150.out
          have HC151 : Hid (w151.heap[gC]? = some (.cells #[.int .u32 0, .int .u32 0, .int .u16 0, .int .u8 0, .int .i64 0, .int .u64 0] 40 (0, 0))) := (hb151.block gC (lt_of_block HC150.out)).trans HC150.out
          clear hb151
          refine hK.out _ _ (HBOX.out _ HB151.out) (fun hHeld => ?_)
          clear hK K
          try simp only [Act.put, List.setIfInBounds_toArray, List.set_cons_zero, List.set_cons_succ]
          refine wpAnyH_ready (rs := [6]) (by kernel_rfl) (by simp) ?_
          refine AllReadyH.cons (o := _) rfl (fun K hK => ?_) AllReadyH.nil
          refine Sha.step_store_front rfl 35 (.tmp 7) (.tmp 10) rfl gA [.int .u32 (a : Int), .int .i64 b, .int .u64 (d : Int)] rfl rfl [.int .u32 0, .int .i64 0, .int .u64 0] [] 35 HA151.out rfl (by kernel_rfl) (by intro v hv; simp at hv; rcases hv with rfl | rfl | rfl <;> rfl) ?_
          intro w152 hrow152 hg152 hz152
          have HB152 := Lib.hid (HB151.out.grown hg152 HB151.out.size (fun k hk => by injection hk with hk; rw [← hk]; exact LgA.out))
          have HC152 := Lib.hid ((hg152.block gC (lt_of_block HC151.out) (fun e => by injection e with e; exact HNE.out e.symm)).trans HC151.out)
          have HA152 : Hid (w152.heap[gA]? = some (.cells #[.int .u32 (a : Int), .int .i64 b, .int .u64 (d : Int)] 35 (0, 0))) := hrow152.out
          clear hrow152 hg152 hz152
          refine hK.out _ _ (HBOX.out _ HB152.out) (fun hHeld => ?_)
          clear hK K
          try simp only [Act.put, List.setIfInBounds_toArray, List.set_cons_zero, List.set_cons_succ]
          refine wpAnyH_ready (rs := [7]) (by kernel_rfl) (by simp) ?_
          refine AllReadyH.cons (o := _) rfl (fun K hK => ?_) AllReadyH.nil
          refine Sha.step_store_front rfl 40 (.tmp 8) (.tmp 12) rfl gC [.int .u32 (p : Int), .int .u32 (m : Int), .int .u16 (i : Int), .int .u8 (s : Int), .int .i64 e, .int .u64 (n : Int)] rfl rfl [.int .u32 0, .int .u32 0, .int .u16 0, .int .u8 0, .int .i64 0, .int .u64 0] [] 40 HC152.out rfl (by kernel_rfl) (by intro v hv; simp at hv; rcases hv with rfl | rfl | rfl | rfl | rfl | rfl <;> rfl) ?_
          intro w153 hrow153 hg153 hz153
          have HB153 := Lib.hid (HB152.out.grown hg153 HB152.out.size (fun k hk => by injection hk with hk; rw [← hk]; exact LgC.out))
          have HA153 := Lib.hid ((hg153.block gA (lt_of_block HA152.out) (fun e => by injection e with e; exact HNE.out e)).trans HA152.out)
          have HC153 : Hid (w153.heap[gC]? = some (.cells #[.int .u32 (p : Int), .int .u32 (m : Int), .int .u16 (i : Int), .int .u8 (s : Int), .int .i64 e, .int .u64 (n : Int)] 40 (0, 0))) := hrow153.out
          clear hrow153 hg153 hz153
          refine hK.out _ _ (HBOX.out _ HB153.out) (fun hHeld => ?_)
          clear hK K
          try simp only [Act.put, List.setIfInBounds_toArray, List.set_cons_zero, List.set_cons_succ]
          refine wpAnyH_done (by kernel_rfl) ?_ _
          try go_wp2_with fail
          go_meet
          exact ⟨gA, gC, rfl, rfl, Lib.hid ⟨HA153.out, HC153.out, HB153.out⟩⟩
      · go_simp
        refine hK.out _ _ (HBOX.out _ (HB144.out.alloc HB144.out.size _)) (fun hHeld => ?_)
        clear hK K
        try simp only [Act.put, List.setIfInBounds_toArray, List.set_cons_zero, List.set_cons_succ]
        obtain ⟨gA, hg154⟩ : ∃ gA, gA = w144.heap.size := ⟨_, rfl⟩
        obtain ⟨w154, hw154⟩ : ∃ w154, w154 = w144.alloc (.cells #[.int .u32 0, .int .i64 0, .int .u64 0] 35) := ⟨_, rfl⟩
        have HA154 : Hid (w154.heap[gA]? = some (.cells #[.int .u32 0, .int .i64 0, .int .u64 0] 35 (0, 0))) := by rw [hw154, hg154]; exact heap_alloc_new w144 _
        have HB154 : Hid (Below w0.heap.size w0 w154) := by rw [hw154]; exact HB144.out.alloc HB144.out.size _
        have LgA : Hid (w0.heap.size ≤ gA) := by rw [hg154]; exact HB144.out.size
        have HNE : Hid (gA ≠ gC) := by have := lt_of_block HC144.out; simp only [Hid]; omega
        have HC154 : Hid (w154.heap[gC]? = some (.cells #[.int .u32 0, .int .u32 0, .int .u16 0, .int .u8 0, .int .i64 0, .int .u64 0] 40 (0, 0))) := by rw [hw154]; exact (Below.heap_alloc w144 _ _ (lt_of_block HC144.out)).trans HC144.out
        rw [← hw154, ← hg154]
        clear hw154 hg154
        refine wpAnyH_ready (rs := [1]) (by kernel_rfl) (by simp) ?_
        refine AllReadyH.cons (o := _) rfl (fun K hK => ?_) AllReadyH.nil
        go_simp
        refine (ticket_any a b d w154).mono ?_
        rintro x w155 ⟨rfl, hb155⟩
        have HB155 := Lib.hid (HB154.out.trans (hb155.mono HB154.out.size))
        have HA155 : Hid (w155.heap[gA]? = some (.cells #[.int .u32 0, .int .i64 0, .int .u64 0] 35 (0, 0))) := (hb155.block gA (lt_of_block HA154.out)).trans HA154.out
        have HC155 : Hid (w155.heap[gC]? = some (.cells #[.int .u32 0, .int .u32 0, .int .u16 0, .int .u8 0, .int .i64 0, .int .u64 0] 40 (0, 0))) := (hb155.block gC (lt_of_block HC154.out)).trans HC154.out
        clear hb155
        refine hK.out _ _ (HBOX.out _ HB155.out) (fun hHeld => ?_)
        clear hK K
        try simp only [Act.put, List.setIfInBounds_toArray, List.set_cons_zero, List.set_cons_succ]
        refine wpAnyH_ready (rs := [3]) (by kernel_rfl) (by simp) ?_
        refine AllReadyH.cons (o := _) rfl (fun K hK => ?_) AllReadyH.nil
        go_simp
        refine (token_any p m i s e n w155).mono ?_
        rintro x w156 ⟨rfl, hb156⟩
        have HB156 := Lib.hid (HB155.out.trans (hb156.mono HB155.out.size))
        have HA156 : Hid (w156.heap[gA]? = some (.cells #[.int .u32 0, .int .i64 0, .int .u64 0] 35 (0, 0))) := (hb156.block gA (lt_of_block HA155.out)).trans HA155.out
        have HC156 : Hid (w156.heap[gC]? = some (.cells #[.int .u32 0, .int .u32 0, .int .u16 0, .int .u8 0, .int .i64 0, .int .u64 0] 40 (0, 0))) := (hb156.block gC (lt_of_block HC155.out)).trans HC155.out
        clear hb156
        refine hK.out _ _ (HBOX.out _ HB156.out) (fun hHeld => ?_)
        clear hK K
        try simp only [Act.put, List.setIfInBounds_toArray, List.set_cons_zero, List.set_cons_succ]
        refine wpAnyH_ready (rs := [6]) (by kernel_rfl) (by simp) ?_
        refine AllReadyH.cons (o := _) rfl (fun K hK => ?_) AllReadyH.nil
        refine Sha.step_store_front rfl 35 (.tmp 7) (.tmp 10) rfl gA [.int .u32 (a : Int), .int .i64 b, .int .u64 (d : Int)] rfl rfl [.int .u32 0, .int .i64 0, .int .u64 0] [] 35 HA156.out rfl (by kernel_rfl) (by intro v hv; simp at hv; rcases hv with rfl | rfl | rfl <;> rfl) ?_
        intro w157 hrow157 hg157 hz157
        have HB157 := Lib.hid (HB156.out.grown hg157 HB156.out.size (fun k hk => by injection hk with hk; rw [← hk]; exact LgA.out))
        have HC157 := Lib.hid ((hg157.block gC (lt_of_block HC156.out) (fun e => by injection e with e; exact HNE.out e.symm)).trans HC156.out)
        have HA157 : Hid (w157.heap[gA]? = some (.cells #[.int .u32 (a : Int), .int .i64 b, .int .u64 (d : Int)] 35 (0, 0))) := hrow157.out
        clear hrow157 hg157 hz157
        refine hK.out _ _ (HBOX.out _ HB157.out) (fun hHeld => ?_)
        clear hK K
        try simp only [Act.put, List.setIfInBounds_toArray, List.set_cons_zero, List.set_cons_succ]
        refine wpAnyH_ready (rs := [7]) (by kernel_rfl) (by simp) ?_
        refine AllReadyH.cons (o := _) rfl (fun K hK => ?_) AllReadyH.nil
        refine Sha.step_store_front rfl 40 (.tmp 8) (.tmp 12) rfl gC [.int .u32 (p : Int), .int .u32 (m : Int), .int .u16 (i : Int), .int .u8 (s : Int), .int .i64 e, .int .u64 (n : Int)] rfl rfl [.int .u32 0, .int .u32 0, .int .u16 0, .int .u8 0, .int .i64 0, .int .u64 0] [] 40 HC157.out rfl (by kernel_rfl) (by intro v hv; simp at hv; rcases hv with rfl | rfl | rfl | rfl | rfl | rfl <;> rfl) ?_
        intro w158 hrow158 hg158 hz158
        have HB158 := Lib.hid (HB157.out.grown hg158 HB157.out.size (fun k hk => by injection hk with hk; rw [← hk]; exact LgC.out))
        have HA158 := Lib.hid ((hg158.block gA (lt_of_block HA157.out) (fun e => by injection e with e; exact HNE.out e)).trans HA157.out)
        have HC158 : Hid (w158.heap[gC]? = some (.cells #[.int .u32 (p : Int), .int .u32 (m : Int), .int .u16 (i : Int), .int .u8 (s : Int), .int .i64 e, .int .u64 (n : Int)] 40 (0, 0))) := hrow158.out
        clear hrow158 hg158 hz158
        refine hK.out _ _ (HBOX.out _ HB158.out) (fun hHeld => ?_)
        clear hK K
        try simp only [Act.put, List.setIfInBounds_toArray, List.set_cons_zero, List.set_cons_succ]
        refine wpAnyH_done (by kernel_rfl) ?_ _
        try go_wp2_with fail
        go_meet
        exact ⟨gA, gC, rfl, rfl, Lib.hid ⟨HA158.out, HC158.out, HB158.out⟩⟩
  case rest =>
    obtain ⟨G1, G2, rfl, rfl, HC⟩ := hcut
    rename World => wd
    have HBC := Lib.hid (HB0.out.trans (HC.out.2.2.mono HB0.out.size))
    have HCELL : Hid (∀ W, Below wd.heap.size wd W → W.cell? ⟨G1, 1, none⟩ = some (.int .i64 b) ∧ W.cell? ⟨G1, 2, none⟩ = some (.int .u64 (d : Int)) ∧ W.cell? ⟨G2, 4, none⟩ = some (.int .i64 e) ∧ W.cell? ⟨G2, 5, none⟩ = some (.int .u64 (n : Int)) ∧ W.cell? ⟨w.heap.size, 1, none⟩ = some (.int .i64 b) ∧ W.cell? ⟨w.heap.size + 1, 4, none⟩ = some (.int .i64 e)) := fun W hW => by
      have e1 := (hW.block G1 (lt_of_block HC.out.1)).trans HC.out.1
      have e2 := (hW.block G2 (lt_of_block HC.out.2.1)).trans HC.out.2.1
      obtain ⟨e3, e4⟩ := HBOX.out W (HC.out.2.2.trans (hW.mono HC.out.2.2.size))
      exact ⟨cell_of_row W _ 1 _ _ _ e1, cell_of_row W _ 2 _ _ _ e1, cell_of_row W _ 4 _ _ _ e2, cell_of_row W _ 5 _ _ _ e2, cell_of_row W _ 1 _ _ _ e3, cell_of_row W _ 4 _ _ _ e4⟩
    have HD : Hid (Below wd.heap.size wd wd.drew) := (Below.refl _ _).drew
    have HSW : Hid (∀ W, Below wd.heap.size wd W → Sh W ∧ Below w.heap.size w W) := fun W hW => ⟨(HS.out.below HBC.out).below hW, HBC.out.trans (hW.mono HBC.out.size)⟩
    go_upto_region 2 with (fail)
    go_region_held3 (fun W => W.cell? ⟨G1, 1, none⟩ = some (.int .i64 b) ∧ W.cell? ⟨G1, 2, none⟩ = some (.int .u64 (d : Int)) ∧ W.cell? ⟨G2, 4, none⟩ = some (.int .i64 e) ∧ W.cell? ⟨G2, 5, none⟩ = some (.int .u64 (n : Int)) ∧ W.cell? ⟨w.heap.size, 1, none⟩ = some (.int .i64 b) ∧ W.cell? ⟨w.heap.size + 1, 4, none⟩ = some (.int .i64 e))
      (first | exact HCELL.out _ hc5 | exact HCELL.out _ hc4 | exact HCELL.out _ hc3 | exact HCELL.out _ hc2 | exact HCELL.out _ hc1 | exact HCELL.out _ HD.out | go_keep)
      (first
        | (go_at_call 17; refine (pawake wD (HSW.out wD hc4).1).mono ?_; rintro x wE ⟨rfl, hbE⟩; have hc5 := hc4.trans (hbE.mono hc4.size))
        | (go_at_call 23; refine (HO1.out wC).mono ?_; rintro x wD ⟨rfl, hbD⟩; have hc4 := hc3.trans (hbD.mono hc3.size))
        | (go_at_call 23; refine (HO1.out wB).mono ?_; rintro x wC ⟨rfl, hbC⟩; have hc3 := hc2.trans (hbC.mono hc2.size))
        | (go_at_call 23; refine (HO2.out wA).mono ?_; rintro x wB ⟨rfl, hbB⟩; have hc2 := hc1.trans (hbB.mono hc1.size))
        | (go_at_call 23; refine (HO1.out wd.drew).mono ?_; rintro x wA ⟨rfl, hbA⟩; have hc1 := HD.out.trans hbA)
        | fail)
    go_wp2
    go_ret
    exact ⟨rfl, (HSW.out _ hc5).2⟩
end Go.Proofs.YtaefgieodehceaaDoor
