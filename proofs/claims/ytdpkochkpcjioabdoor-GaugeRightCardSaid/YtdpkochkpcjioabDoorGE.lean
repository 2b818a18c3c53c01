/- Package gauge: Report. -/
import Derived.Test.YtdpkochkpcjioabDoorGD
import Derived.Test.YtdpkochkpcjioabDoorTD
namespace Go.Proofs.YtdpkochkpcjioabDoor
open Go.RowKit

/-- what stands in Report -/
def ReI (w : World) (z : Nat) (a : Option Addr) (n cap : Nat) (tol d p h s : Int) (W : World) : Prop := Below w.heap.size w W ∧ Two w.heap.size W (.slice a n cap) (.int .i64 tol) ∧ Quad (w.heap.size + 1) W (.int .i64 d) (.int .i64 p) (.int .i64 h) (.int .i64 s) ∧ Eig z W (.int .i64 0) (.int .i64 0) (.int .i64 0) (.int .i64 0) (.int .i64 0) (.int .i64 0) (.int .i64 0) (.int .i64 0)
theorem ReI.below {w : World} {z : Nat} {a : Option Addr} {n cap : Nat} {tol d p h s : Int} {W W' : World} (hh : ReI w z a n cap tol d p h s W) (hb : Below W.heap.size W W') : ReI w z a n cap tol d p h s W' := ⟨bel_trans hh.1 hb, hh.2.1.below hb, hh.2.2.1.below hb, hh.2.2.2.below hb⟩
theorem ReI.init (w : World) (a : Option Addr) (n cap : Nat) (tol d p h s : Int) : ReI w (w.heap.size + 1 + 1) a n cap tol d p h s (((w.alloc (.cells #[.slice a n cap, .int .i64 tol] 24)).alloc (.cells #[.int .i64 d, .int .i64 p, .int .i64 h, .int .i64 s] 26)).alloc (.cells #[.int .i64 0, .int .i64 0, .int .i64 0, .int .i64 0, .int .i64 0, .int .i64 0, .int .i64 0, .int .i64 0] 36)) := by
  have h2 := Quad.new (w.alloc (.cells #[.slice a n cap, .int .i64 tol] 24)) (.int .i64 d) (.int .i64 p) (.int .i64 h) (.int .i64 s) 26
  have h3 := Eig.new ((w.alloc (.cells #[.slice a n cap, .int .i64 tol] 24)).alloc (.cells #[.int .i64 d, .int .i64 p, .int .i64 h, .int .i64 s] 26)) (.int .i64 0) (.int .i64 0) (.int .i64 0) (.int .i64 0) (.int .i64 0) (.int .i64 0) (.int .i64 0) (.int .i64 0) 36
  rw [World.size_alloc] at h2
  rw [World.size_alloc, World.size_alloc] at h3
  exact ⟨bel_alloc (bel_alloc (bel_alloc (Below.refl _ _))), ((Two.new w _ _ _).alloc _).alloc _, h2.alloc _, h3⟩
theorem Eig.fr {b : Nat} {W : World} {x0 x1 x2 x3 x4 x5 x6 x7 : Value} (h : Eig b W x0 x1 x2 x3 x4 x5 x6 x7) : W.frozen? ⟨b, 0, none⟩ = false ∧ W.frozen? ⟨b, 1, none⟩ = false ∧ W.frozen? ⟨b, 2, none⟩ = false ∧ W.frozen? ⟨b, 3, none⟩ = false ∧ W.frozen? ⟨b, 4, none⟩ = false ∧ W.frozen? ⟨b, 5, none⟩ = false ∧ W.frozen? ⟨b, 6, none⟩ = false ∧ W.frozen? ⟨b, 7, none⟩ = false := by
  obtain ⟨_, _, _, _, _, _, _, _, zf, _⟩ := h
  exact ⟨zf 0 (by omega), zf 1 (by omega), zf 2 (by omega), zf 3 (by omega), zf 4 (by omega), zf 5 (by omega), zf 6 (by omega), zf 7 (by omega)⟩
set_option maxHeartbeats 32000000 in
set_option maxRecDepth 100000 in
theorem gRep_core (a : Option Addr) (n cap : Nat) (tol d p h s rise WL WH E1 E2 BL BH E3 E R0 R1 R2 R3 R4 R5 R6 R7 : Int) (w : World)
    (hR0 : Hid (E ≠ 0 → R0 = 0 ∧ R1 = 0 ∧ R2 = 0 ∧ R3 = 0 ∧ R4 = 0 ∧ R5 = 0 ∧ R6 = 0 ∧ R7 = 0)) (hR1 : Hid (E = 0 → R0 = d ∧ R1 = p ∧ R2 = h ∧ R3 = s ∧ R4 = BL ∧ R5 = BH ∧ R6 = BL * s ∧ R7 = BH * s))
    (hE : ((E1 != 0) = true ∧ E = E1) ∨ (E1 = 0 ∧ (E2 != 0) = true ∧ E = E2) ∨ (E1 = 0 ∧ E2 = 0 ∧ (E3 != 0) = true ∧ E = E3) ∨ (E1 = 0 ∧ E2 = 0 ∧ E3 = 0 ∧ E = 0 ∧ (-9223372036854775808 ≤ BL * s ∧ BL * s ≤ 9223372036854775807) ∧ -9223372036854775808 ≤ BH * s ∧ BH * s ≤ 9223372036854775807))
    (H1 : Hid (∀ W, Below w.heap.size w W → Calls Tryd.prog 12 #[.agg #[.slice a n cap, .int .i64 tol], .int .i64 p] W fun e w' => e = .returned (.tuple #[.agg #[.int .i64 WL, .int .i64 WH], .int .i64 E1]) ∧ Below W.heap.size W w'))
    (H2 : Hid (∀ W, Calls Tryd.prog 17 #[.agg #[.int .i64 d, .int .i64 p, .int .i64 h, .int .i64 s]] W fun e w' => e = .returned (.int .i64 E2) ∧ Below W.heap.size W w'))
    (H3 : Hid (∀ W, Below w.heap.size w W → Calls Tryd.prog 47 #[.agg #[.int .i64 WL, .int .i64 WH], .agg #[.int .i64 h, .int .i64 h], .int .i64 rise] W fun e w' => e = .returned (.tuple #[.agg #[.int .i64 BL, .int .i64 BH], .int .i64 E3]) ∧ Below W.heap.size W w')) :
    Calls Tryd.prog 15 #[.agg #[.slice a n cap, .int .i64 tol], .agg #[.int .i64 d, .int .i64 p, .int .i64 h, .int .i64 s], .int .i64 rise] w fun e w' => e = .returned (.tuple #[.agg #[.int .i64 R0, .int .i64 R1, .int .i64 R2, .int .i64 R3, .int .i64 R4, .int .i64 R5, .int .i64 R6, .int .i64 R7], .int .i64 E]) ∧ Below w.heap.size w w' := by
  have S0 := Lib.hid (ReI.init w a n cap tol d p h s)
  obtain ⟨_, ⟨t0, t1, _, _, _⟩, ⟨q0, q1, q2, q3, _, _⟩, _⟩ := S0.out
  go_enter Tryd.func15, Tryd.ntmps15
  go_wp2_with fail
  have hz1 : w.heap.size ≤ w.heap.size + 1 + 1 := by omega
  have hz2 : w.heap.size + 1 < w.heap.size + 1 + 1 := by omega
  generalize w.heap.size + 1 + 1 = z at *
  replace hz1 := Lib.hid hz1
  replace hz2 := Lib.hid hz2
  refine (H1.out _ S0.out.1).mono ?_
  rintro e w1 ⟨rfl, gg⟩
  replace S0 := Lib.hid (S0.out.below gg); clear gg t0 t1 q0 q1 q2 q3
  have T1 := Lib.hid (Two.new w1 (.int .i64 WL) (.int .i64 WH) 30)
  have SZ := S0.out.2.2.2.2.2.2.2.2.2.2.2.2
  have m1 : z ≠ w1.heap.size := by omega
  have m2 : w1.heap.size ≠ z := by omega
  have zz := hz2.out
  have m3 : w.heap.size + 1 ≠ w1.heap.size := by omega
  have m4 : w1.heap.size ≠ w.heap.size + 1 := by omega
  clear zz
  by_cases e1 : E1 = 0
  · subst e1
    have hE' : (E2 != 0) = true ∧ E = E2 ∨ E2 = 0 ∧ (((E3 != 0) = true ∧ E = E3) ∨ (E3 = 0 ∧ E = 0 ∧ (-9223372036854775808 ≤ BL * s ∧ BL * s ≤ 9223372036854775807) ∧ -9223372036854775808 ≤ BH * s ∧ BH * s ≤ 9223372036854775807)) := by
      rcases hE with ⟨q, _⟩ | ⟨_, q, r⟩ | ⟨_, q, r, t⟩ | ⟨_, q, r, t, u⟩
      · simp at q
      · exact .inl ⟨q, r⟩
      · exact .inr ⟨q, .inl ⟨r, t⟩⟩
      · exact .inr ⟨q, .inr ⟨r, t, u⟩⟩
    clear hE
    have S1 := Lib.hid (S0.out.below (bel_alloc (o := .cells #[.int .i64 WL, .int .i64 WH] 30) (Below.refl _ _)))
    obtain ⟨_, _, ⟨q0, q1, q2, q3, _, _⟩, _⟩ := S1.out
    go_wp2_with fail
    refine (H2.out _).mono ?_
    rintro e w2 ⟨rfl, gg⟩
    replace S1 := Lib.hid (S1.out.below gg)
    replace T1 := Lib.hid (T1.out.below gg); clear gg q0 q1 q2 q3 S0
    generalize hq1 : w1.heap.size = u1 at *
    replace hq1 := Lib.hid hq1
    rcases hE' with ⟨q, rfl⟩ | ⟨rfl, hE'⟩
    · obtain ⟨rfl, rfl, rfl, rfl, rfl, rfl, rfl, rfl⟩ := hR0.out (by simpa using q)
      clear hR0 hR1
      obtain ⟨_, _, _, z0, z1, z2, z3, z4, z5, z6, z7, _, _⟩ := S1.out
      obtain ⟨f0, f1, f2, f3, f4, f5, f6, f7⟩ := S1.out.2.2.2.fr
      have P := Lib.hid (S1.out.2.2.2.put (.int .i64 0) (.int .i64 0) (.int .i64 0) (.int .i64 0) (.int .i64 0) (.int .i64 0) (.int .i64 0) (.int .i64 0))
      have BB := Lib.hid (Eig.putB S1.out.1 hz1.out (.int .i64 0) (.int .i64 0) (.int .i64 0) (.int .i64 0) (.int .i64 0) (.int .i64 0) (.int .i64 0) (.int .i64 0))
      go_wp2
      obtain ⟨p0, p1, p2, p3, p4, p5, p6, p7, _, _⟩ := P.out
      have BB2 := BB.out
      refine bodyPost_ret (v := .tuple #[.agg #[.int .i64 0, .int .i64 0, .int .i64 0, .int .i64 0, .int .i64 0, .int .i64 0, .int .i64 0, .int .i64 0], .int .i64 E]) (by simp [results, Tryd.results15, go_sem, p0, p1, p2, p3, p4, p5, p6, p7]) rfl ?_
      exact ⟨rfl, BB2⟩
    · obtain ⟨_, _, ⟨q0, q1, q2, q3, _, _⟩, _⟩ := S1.out
      obtain ⟨t0, t1, _, _, _⟩ := T1.out
      have X := Lib.hid S1.out.1
      go_wp2_with fail
      refine (H3.out _ X.out).mono ?_
      rintro e w3 ⟨rfl, gg⟩
      replace S1 := Lib.hid (S1.out.below gg); clear gg q0 q1 q2 q3 t0 t1 T1
      have SZ := S1.out.2.2.2.2.2.2.2.2.2.2.2.2
      have zz := hz2.out
      have k1 : z ≠ w3.heap.size := by omega
      have k2 : w3.heap.size ≠ z := by omega
      have k3 : w.heap.size + 1 ≠ w3.heap.size := by omega
      have k4 : w3.heap.size ≠ w.heap.size + 1 := by omega
      clear SZ zz
      rcases hE' with ⟨q, rfl⟩ | ⟨rfl, rfl, hb1, hb2⟩
      · obtain ⟨rfl, rfl, rfl, rfl, rfl, rfl, rfl, rfl⟩ := hR0.out (by simpa using q)
        clear hR0 hR1
        replace S1 := Lib.hid (S1.out.below (bel_alloc (o := .cells #[.int .i64 BL, .int .i64 BH] 30) (Below.refl _ _)))
        go_upto_region 9 with fail
        generalize w3.alloc (.cells #[.int .i64 BL, .int .i64 BH] 30) = WW at *
        obtain ⟨_, _, _, z0, z1, z2, z3, z4, z5, z6, z7, _, _⟩ := S1.out
        obtain ⟨f0, f1, f2, f3, f4, f5, f6, f7⟩ := S1.out.2.2.2.fr
        have P := Lib.hid (S1.out.2.2.2.put (.int .i64 0) (.int .i64 0) (.int .i64 0) (.int .i64 0) (.int .i64 0) (.int .i64 0) (.int .i64 0) (.int .i64 0))
        have BB := Lib.hid (Eig.putB S1.out.1 hz1.out (.int .i64 0) (.int .i64 0) (.int .i64 0) (.int .i64 0) (.int .i64 0) (.int .i64 0) (.int .i64 0) (.int .i64 0))
        go_wp2
        obtain ⟨p0, p1, p2, p3, p4, p5, p6, p7, _, _⟩ := P.out
        have BB2 := BB.out
        refine bodyPost_ret (v := .tuple #[.agg #[.int .i64 0, .int .i64 0, .int .i64 0, .int .i64 0, .int .i64 0, .int .i64 0, .int .i64 0, .int .i64 0], .int .i64 E]) (by simp [results, Tryd.results15, go_sem, p0, p1, p2, p3, p4, p5, p6, p7]) rfl ?_
        exact ⟨rfl, BB2⟩
      · have HT := Lib.hid (fun W => gTimes_any BL BH s W hb1 hb2)
        have S2 := Lib.hid ((S1.out.below (bel_alloc (o := .cells #[.int .i64 BL, .int .i64 BH] 30) (Below.refl _ _))).below (bel_drew _))
        have T3 := Lib.hid ((Two.new w3 (.int .i64 BL) (.int .i64 BH) 30).below (bel_drew _))
        obtain ⟨_, _, ⟨q0, q1, q2, q3, _, _⟩, _⟩ := S1.out.below (bel_alloc (o := .cells #[.int .i64 BL, .int .i64 BH] 30) (Below.refl _ _))
        obtain ⟨t0, t1, _, _, _⟩ := Two.new w3 (.int .i64 BL) (.int .i64 BH) 30
        have hR := Lib.hid (hR1.out rfl)
        have zz := hz2.out
        have y1 : w.heap.size + 1 ≠ z := by omega
        have y2 : z ≠ w.heap.size + 1 := by omega
        clear zz
        clear hb1 hb2 hR0 hR1
        go_upto_region 10 with fail
        go_region_held3 (fun w' => w'.cell? ⟨w.heap.size + 1, 0, none⟩ = some (.int .i64 d) ∧ w'.cell? ⟨w.heap.size + 1, 1, none⟩ = some (.int .i64 p) ∧ w'.cell? ⟨w.heap.size + 1, 2, none⟩ = some (.int .i64 h) ∧ w'.cell? ⟨w.heap.size + 1, 3, none⟩ = some (.int .i64 s) ∧ w'.cell? ⟨w3.heap.size, 0, none⟩ = some (.int .i64 BL) ∧ w'.cell? ⟨w3.heap.size, 1, none⟩ = some (.int .i64 BH)) (go_keep) (first
          | (go_at_call 48; (refine (HT.out _).mono ?_); rintro e w4 ⟨rfl, gg⟩; replace S2 := Lib.hid (S2.out.below gg); replace T3 := Lib.hid (T3.out.below gg); obtain ⟨_, _, ⟨q0, q1, q2, q3, _, _⟩, z0, z1, z2, z3, z4, z5, z6, z7, _, _⟩ := S2.out; obtain ⟨f0, f1, f2, f3, f4, f5, f6, f7⟩ := S2.out.2.2.2.fr; obtain ⟨t0, t1, _, _, _⟩ := T3.out; clear gg))
        have P := Lib.hid (S2.out.2.2.2.put (.int .i64 d) (.int .i64 p) (.int .i64 h) (.int .i64 s) (.int .i64 BL) (.int .i64 BH) (.int .i64 (BL * s)) (.int .i64 (BH * s)))
        have BB := Lib.hid (Eig.putB S2.out.1 hz1.out (.int .i64 d) (.int .i64 p) (.int .i64 h) (.int .i64 s) (.int .i64 BL) (.int .i64 BH) (.int .i64 (BL * s)) (.int .i64 (BH * s)))
        go_wp2
        obtain ⟨p0, p1, p2, p3, p4, p5, p6, p7, _, _⟩ := P.out
        refine bodyPost_ret (v := .tuple #[.agg #[.int .i64 d, .int .i64 p, .int .i64 h, .int .i64 s, .int .i64 BL, .int .i64 BH, .int .i64 (BL * s), .int .i64 (BH * s)], .int .i64 0]) (by simp [results, Tryd.results15, go_sem, p0, p1, p2, p3, p4, p5, p6, p7]) rfl ?_
        obtain ⟨r0, r1, r2, r3, r4, r5, r6, r7⟩ := hR.out
        exact ⟨by rw [r0, r1, r2, r3, r4, r5, r6, r7], BB.out⟩
  · have q : (E1 != 0) = true := by simpa using e1
    have eE : E = E1 := by
      rcases hE with ⟨_, r⟩ | ⟨r, _⟩ | ⟨r, _⟩ | ⟨r, _⟩
      · exact r
      · exact absurd r e1
      · exact absurd r e1
      · exact absurd r e1
    subst eE
    clear hE e1
    obtain ⟨rfl, rfl, rfl, rfl, rfl, rfl, rfl, rfl⟩ := hR0.out (by simpa using q)
    clear hR0 hR1
    replace S0 := Lib.hid (S0.out.below (bel_alloc (o := .cells #[.int .i64 WL, .int .i64 WH] 30) (Below.refl _ _)))
    go_upto_region 3 with fail
    generalize w1.alloc (.cells #[.int .i64 WL, .int .i64 WH] 30) = WW at *
    obtain ⟨_, _, _, z0, z1, z2, z3, z4, z5, z6, z7, _, _⟩ := S0.out
    obtain ⟨f0, f1, f2, f3, f4, f5, f6, f7⟩ := S0.out.2.2.2.fr
    have P := Lib.hid (S0.out.2.2.2.put (.int .i64 0) (.int .i64 0) (.int .i64 0) (.int .i64 0) (.int .i64 0) (.int .i64 0) (.int .i64 0) (.int .i64 0))
    have BB := Lib.hid (Eig.putB S0.out.1 hz1.out (.int .i64 0) (.int .i64 0) (.int .i64 0) (.int .i64 0) (.int .i64 0) (.int .i64 0) (.int .i64 0) (.int .i64 0))
    go_wp2
    obtain ⟨p0, p1, p2, p3, p4, p5, p6, p7, _, _⟩ := P.out
    have BB2 := BB.out
    refine bodyPost_ret (v := .tuple #[.agg #[.int .i64 0, .int .i64 0, .int .i64 0, .int .i64 0, .int .i64 0, .int .i64 0, .int .i64 0, .int .i64 0], .int .i64 E]) (by simp [results, Tryd.results15, go_sem, p0, p1, p2, p3, p4, p5, p6, p7]) rfl ?_
    exact ⟨rfl, BB2⟩
end Go.Proofs.YtdpkochkpcjioabDoor

