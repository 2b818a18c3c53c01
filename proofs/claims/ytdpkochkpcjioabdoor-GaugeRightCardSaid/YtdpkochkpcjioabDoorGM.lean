/- Layer 15: awake. -/
import Derived.Test.YtdpkochkpcjioabDoorGL
namespace Go.Proofs.YtdpkochkpcjioabDoor
open Go.RowKit

theorem rps2_lit (w : World) (r : Rp) : Rps (w.alloc (.cells #[.int .i64 r.dy, .int .i64 r.dp, .int .i64 r.ht, .int .i64 r.st, .int .i64 r.vl, .int .i64 r.vh, .int .i64 r.al, .int .i64 r.ah, .int .i64 r.dy, .int .i64 r.dp, .int .i64 r.ht, .int .i64 r.st, .int .i64 r.vl, .int .i64 r.vh, .int .i64 r.al, .int .i64 r.ah] 36)) (.slice (some ⟨w.heap.size, 0, none⟩) 2 2) [r, r] := by
  refine ⟨_, 2, rfl, ⟨by simp, by simp⟩, .inr ⟨w.heap.size, 0, rfl, by simp, fun j hj => ?_⟩⟩
  have hj2 : j < 2 := hj
  match j, hj2 with
  | 0, _ => exact ⟨by simp [go_sem, gP], by simp [go_sem, gP], by simp [go_sem, gP], by simp [go_sem, gP], by simp [go_sem, gP], by simp [go_sem, gP], by simp [go_sem, gP], by simp [go_sem, gP]⟩
  | 1, _ => exact ⟨by simp [go_sem, gP], by simp [go_sem, gP], by simp [go_sem, gP], by simp [go_sem, gP], by simp [go_sem, gP], by simp [go_sem, gP], by simp [go_sem, gP], by simp [go_sem, gP]⟩
set_option maxHeartbeats 32000000 in
set_option maxRecDepth 100000 in
theorem gawake_any (w : World) (hw : WordsIs w) : Calls Tryd.prog 10 #[] w fun e w' => e = .returned (.bool true) ∧ Below w.heap.size w w' := by
  have HW := Lib.hid (fun W (h : Below w.heap.size w W) => hw.below h)
  have Q1 : ∀ (p q : Int) W, (binOp .eql 30 (.agg #[.int .i64 p, .int .i64 q]) (.agg #[.int .i64 p, .int .i64 q])).run Tryd.prog W = .ok (.bool true) W := fun p q W => by rw [run_eql_bounds, show samB p q p q = true by simp [samB]]
  have HS := Lib.hid (fun W => gsteps_any W)
  have C1 : Hid (∀ v W, TbV W v gxT 2 → Calls Tryd.prog 12 #[v, .int .i64 15] W fun e w' => e = .returned (.tuple #[.agg #[.int .i64 100, .int .i64 252], .int .i64 0]) ∧ Below W.heap.size W w') := Lib.hid fun v W h => by
    have := gWet_any v gxT 2 15 W h
    rw [gx_wet.1, gx_wet.2.1, gx_wet.2.2] at this; exact this
  have C2 : Hid (∀ v W, TbV W v gxT 2 → WordsIs W → Calls Tryd.prog 15 #[v, .agg #[.int .i64 0, .int .i64 10, .int .i64 200, .int .i64 4000], .int .i64 110] W fun e w' => e = .returned (.tuple #[.agg #[.int .i64 0, .int .i64 10, .int .i64 200, .int .i64 4000, .int .i64 100, .int .i64 102, .int .i64 400000, .int .i64 408000], .int .i64 0]) ∧ Below W.heap.size W w') := Lib.hid fun v W h hW => by
    have := gRep_any v gxT 2 0 10 200 4000 110 W h hW
    rw [gx_rep.1, gx_rep.2] at this; exact this
  have C3 : Hid (∀ W, Calls Tryd.prog 26 #[.agg #[.int .i64 0, .int .i64 10, .int .i64 200, .int .i64 4000, .int .i64 100, .int .i64 102, .int .i64 400000, .int .i64 408000], .int .i64 410000] W fun e w' => e = .returned (.tuple #[.agg #[.int .i64 2000, .int .i64 10000], .int .i64 2, .int .i64 0]) ∧ Below W.heap.size W w') := Lib.hid fun W => by
    have := gDiff_any gxR 410000 W
    obtain ⟨h1, h2, h3, h4, _⟩ := gx_dif
    rw [h1, h2, h3, h4] at this; exact this
  have C4 : Hid (∀ v W, Rps W v [gxR, gxR] → Calls Tryd.prog 19 #[v] W fun e w' => e = .returned (.tuple #[.agg #[.int .i64 100, .int .i64 102], .agg #[.int .i64 400000, .int .i64 408000], .int .i64 0]) ∧ Below W.heap.size W w') := Lib.hid fun v W h => by
    have := gTog_any v [gxR, gxR] W h
    obtain ⟨h0, h1, h2, h3, h4⟩ := gx_tog
    rw [show ([gxR, gxR] : List Rp).length = 2 from rfl, h0, h1, h2, h3, h4] at this; exact this
  have C5 : Hid (∀ v W, Rps W v [gxR, gxR] → Calls Tryd.prog 22 #[v] W fun e w' => e = .returned (.tuple #[.agg #[.int .i64 200, .int .i64 204], .agg #[.int .i64 800000, .int .i64 816000], .int .i64 0]) ∧ Below W.heap.size W w') := Lib.hid fun v W h => by
    have := gTot_any v [gxR, gxR] W h
    obtain ⟨h0, h1, h2, h3, h4⟩ := gx_tot
    rw [show ([gxR, gxR] : List Rp).length = 2 from rfl, h0, h1, h2, h3, h4] at this; exact this
  have C6 : Hid (∀ W, Calls Tryd.prog 28 #[.agg #[.int .i64 0, .int .i64 10, .int .i64 200, .int .i64 4000, .int .i64 100, .int .i64 102, .int .i64 400000, .int .i64 408000]] W fun e w' => e = .returned (.bool true) ∧ Below W.heap.size W w') := Lib.hid fun W => by
    have := gRight_any gxR W
    rw [gx_dif.2.2.2.2] at this; exact this
  have C7 : Hid (∀ W, Calls Tryd.prog 17 #[.agg #[.int .i64 0, .int .i64 10, .int .i64 200, .int .i64 4000]] W fun e w' => e = .returned (.int .i64 0) ∧ Below W.heap.size W w') := Lib.hid fun W => by
    have := gChk_any 0 10 200 4000 W
    rw [gx_chk] at this; exact this
  have LT : Hid (∀ W : World, Rps (W.alloc (.cells #[.int .i64 0, .int .i64 10, .int .i64 200, .int .i64 4000, .int .i64 100, .int .i64 102, .int .i64 400000, .int .i64 408000, .int .i64 0, .int .i64 10, .int .i64 200, .int .i64 4000, .int .i64 100, .int .i64 102, .int .i64 400000, .int .i64 408000] 36)) (.slice (some ⟨W.heap.size, 0, none⟩) 2 2) [gxR, gxR]) := Lib.hid fun W => rps2_lit W gxR
  clear hw
  go_enter Tryd.func10, Tryd.ntmps10
  go_wp2_with fail
  refine (HS.out _).mono ?_
  rintro e w1 ⟨v1, rfl, hv, h1⟩
  have HB := Lib.hid h1; clear h1
  replace hv := Lib.hid hv
  go_wp2_with fail
  refine (C1.out _ _ hv.out).mono ?_
  rintro e w2 ⟨rfl, h1⟩
  have T1 := Lib.hid (Two.new w2 (.int .i64 100) (.int .i64 252) 30)
  replace HB := Lib.hid (bel_trans (bel_trans HB.out h1) (bel_alloc (o := .cells #[.int .i64 100, .int .i64 252] 30) (Below.refl _ _))); clear h1 hv
  go_wp2_with fail
  refine (HS.out _).mono ?_
  rintro e w3 ⟨v3, rfl, hv, h1⟩
  replace T1 := Lib.hid (T1.out.below h1)
  replace HB := Lib.hid (bel_trans HB.out h1); clear h1
  replace hv := Lib.hid hv
  generalize w2.heap.size = p1 at *
  go_wp2_with fail
  refine (C2.out _ _ hv.out (HW.out _ HB.out)).mono ?_
  rintro e w4 ⟨rfl, h1⟩
  replace T1 := Lib.hid ((T1.out.below h1).alloc (.cells #[.int .i64 0, .int .i64 10, .int .i64 200, .int .i64 4000, .int .i64 100, .int .i64 102, .int .i64 400000, .int .i64 408000] 36))
  have E3 := Lib.hid (Eig.new w4 (.int .i64 0) (.int .i64 10) (.int .i64 200) (.int .i64 4000) (.int .i64 100) (.int .i64 102) (.int .i64 400000) (.int .i64 408000) 36)
  replace HB := Lib.hid (bel_trans (bel_trans HB.out h1) (bel_alloc (o := .cells #[.int .i64 0, .int .i64 10, .int .i64 200, .int .i64 4000, .int .i64 100, .int .i64 102, .int .i64 400000, .int .i64 408000] 36) (Below.refl _ _))); clear h1 hv
  obtain ⟨e0, e1, e2, e3, e4, e5, e6, e7, _, _⟩ := E3.out
  go_wp2_with fail
  refine (C3.out _).mono ?_
  rintro e w5 ⟨rfl, h1⟩
  replace T1 := Lib.hid ((T1.out.below h1).alloc (.cells #[.int .i64 2000, .int .i64 10000] 30))
  replace E3 := Lib.hid ((E3.out.below h1).alloc (.cells #[.int .i64 2000, .int .i64 10000] 30))
  have T5 := Lib.hid (Two.new w5 (.int .i64 2000) (.int .i64 10000) 30)
  replace HB := Lib.hid (bel_trans (bel_trans HB.out h1) (bel_alloc (o := .cells #[.int .i64 2000, .int .i64 10000] 30) (Below.refl _ _))); clear h1 e0 e1 e2 e3 e4 e5 e6 e7
  generalize hp3 : w4.heap.size = p3 at *
  replace hp3 := Lib.hid hp3
  obtain ⟨e0, e1, e2, e3, e4, e5, e6, e7, _, _⟩ := E3.out
  have L5 := Lib.hid (LT.out (w5.alloc (.cells #[.int .i64 2000, .int .i64 10000] 30)))
  simp only [World.size_alloc] at L5
  have BL : ∀ W : World, Below W.heap.size W (W.alloc (.cells #[.int .i64 0, .int .i64 10, .int .i64 200, .int .i64 4000, .int .i64 100, .int .i64 102, .int .i64 400000, .int .i64 408000, .int .i64 0, .int .i64 10, .int .i64 200, .int .i64 4000, .int .i64 100, .int .i64 102, .int .i64 400000, .int .i64 408000] 36)) := fun W => bel_alloc (Below.refl _ _)
  go_wp2_with fail
  refine (C4.out _ _ L5.out).mono ?_
  rintro e w6 ⟨rfl, h1⟩
  have BX := Lib.hid (bel_trans (bel_trans (BL _) h1) (bel_alloc (o := .cells #[.int .i64 100, .int .i64 102] 30) (bel_alloc (o := .cells #[.int .i64 400000, .int .i64 408000] 30) (Below.refl _ _))))
  have T8 := Lib.hid ((Two.new w6 (.int .i64 100) (.int .i64 102) 30).alloc (.cells #[.int .i64 400000, .int .i64 408000] 30))
  have T9 := Two.new (w6.alloc (.cells #[.int .i64 100, .int .i64 102] 30)) (.int .i64 400000) (.int .i64 408000) 30
  rw [World.size_alloc] at T9
  replace T9 := Lib.hid T9
  replace T1 := Lib.hid (T1.out.below BX.out)
  replace E3 := Lib.hid (E3.out.below BX.out)
  replace T5 := Lib.hid (T5.out.below BX.out)
  replace HB := Lib.hid (bel_trans HB.out BX.out)
  clear h1 BX e0 e1 e2 e3 e4 e5 e6 e7 L5
  generalize hp5 : w5.heap.size = p5 at *
  replace hp5 := Lib.hid hp5
  obtain ⟨e0, e1, e2, e3, e4, e5, e6, e7, _, _⟩ := E3.out
  have L6 := Lib.hid (LT.out ((w6.alloc (.cells #[.int .i64 100, .int .i64 102] 30)).alloc (.cells #[.int .i64 400000, .int .i64 408000] 30)))
  simp only [World.size_alloc] at L6
  go_wp2_with fail
  refine (C5.out _ _ L6.out).mono ?_
  rintro e w7 ⟨rfl, h1⟩
  have BX := Lib.hid (bel_trans (bel_trans (BL _) h1) (bel_alloc (o := .cells #[.int .i64 200, .int .i64 204] 30) (bel_alloc (o := .cells #[.int .i64 800000, .int .i64 816000] 30) (Below.refl _ _))))
  have TB := Lib.hid ((Two.new w7 (.int .i64 200) (.int .i64 204) 30).alloc (.cells #[.int .i64 800000, .int .i64 816000] 30))
  have TC := Two.new (w7.alloc (.cells #[.int .i64 200, .int .i64 204] 30)) (.int .i64 800000) (.int .i64 816000) 30
  rw [World.size_alloc] at TC
  replace TC := Lib.hid TC
  replace T1 := Lib.hid (T1.out.below BX.out)
  replace E3 := Lib.hid (E3.out.below BX.out)
  replace T5 := Lib.hid (T5.out.below BX.out)
  replace T8 := Lib.hid (T8.out.below BX.out)
  replace T9 := Lib.hid (T9.out.below BX.out)
  replace HB := Lib.hid (bel_trans HB.out BX.out)
  clear h1 BX e0 e1 e2 e3 e4 e5 e6 e7 L6 BL
  generalize hp8 : w6.heap.size = p8 at *
  replace hp8 := Lib.hid hp8
  obtain ⟨e0, e1, e2, e3, e4, e5, e6, e7, _, _⟩ := E3.out
  obtain ⟨a0, a1, _, _, _⟩ := T1.out
  obtain ⟨b0, b1, _, _, _⟩ := T5.out
  obtain ⟨c0, c1, _, _, _⟩ := T8.out
  obtain ⟨d0, d1, _, _, _⟩ := T9.out
  obtain ⟨f0, f1, _, _, _⟩ := TB.out
  obtain ⟨g0, g1, _, _, _⟩ := TC.out
  go_wp2_with fail
  refine (C6.out _).mono ?_
  rintro e w8 ⟨rfl, h1⟩
  replace E3 := Lib.hid (E3.out.below h1)
  replace HB := Lib.hid (bel_trans HB.out h1)
  clear h1 e0 e1 e2 e3 e4 e5 e6 e7 a0 a1 b0 b1 c0 c1 d0 d1 f0 f1 g0 g1
  obtain ⟨e0, e1, e2, e3, e4, e5, e6, e7, _, _⟩ := E3.out
  go_wp2_with fail
  refine (C7.out _).mono ?_
  rintro e w9 ⟨rfl, h1⟩
  replace HB := Lib.hid (bel_trans HB.out h1)
  clear h1
  go_wp2
  go_returns
  exact ⟨rfl, HB.out⟩
end Go.Proofs.YtdpkochkpcjioabDoor

