/- Package gauge: Wet. -/
import Derived.Test.YtdpkochkpcjioabDoorGC
import Derived.Test.YtdpkochkpcjioabDoorRDD
namespace Go.Proofs.YtdpkochkpcjioabDoor
open Go.RowKit

set_option maxHeartbeats 8000000 in
theorem gWet1_any (i q1 q2 b off n cap : Nat) (x tol : Int) (l : List (Int × Int)) (w : World) (hi : i < n) (n1 : n ≤ 1000) (c1 : w.cell? ⟨q1, 0, none⟩ = some (.slice (some ⟨b, off, none⟩) n cap)) (c2 : w.cell? ⟨q2, 0, none⟩ = some (.int .i64 x))
    (c3 : w.cell? ⟨b, off + i * 2, none⟩ = some (.int .i64 (gX l i))) :
    Calls Tryd.prog 45 #[.int .i64 i, .pointer (some ⟨q1, 0, none⟩), .pointer (some ⟨q2, 0, none⟩)] w fun e w' => e = .returned (.bool (decide (x ≤ gX l i))) ∧ Below w.heap.size w w' := by
  have l0 : (i : Int) < (n : Int) := by omega
  have X1 : Hid (∀ m, Below w.heap.size w (w.drewN m)) := Lib.hid fun m => bel_drewN _ _
  generalize gX l i = y at *
  go_enter Tryd.func45, Tryd.ntmps45
  go_wp2_with fail
  go_quiet (fail)
  go_wp2
  go_returns
  exact ⟨rfl, X1.out _⟩
/-- what stands in Wet -/
def WtI (w : World) (z : Nat) (a : Option Addr) (n cap : Nat) (tol x : Int) (W : World) : Prop := Below w.heap.size w W ∧ Two w.heap.size W (.slice a n cap) (.int .i64 tol) ∧ Boxed W (w.heap.size + 1) 3 (.int .i64 x) ∧ Two z W (.int .i64 0) (.int .i64 0)
theorem WtI.below {w : World} {z : Nat} {a : Option Addr} {n cap : Nat} {tol x : Int} {W W' : World} (h : WtI w z a n cap tol x W) (hb : Below W.heap.size W W') : WtI w z a n cap tol x W' := ⟨bel_trans h.1 hb, h.2.1.below hb, rbx_below h.2.2.1 hb, h.2.2.2.below hb⟩
theorem WtI.init (w : World) (a : Option Addr) (n cap : Nat) (tol x : Int) : WtI w (w.heap.size + 1 + 1) a n cap tol x (((w.alloc (.cells #[.slice a n cap, .int .i64 tol] 24)).alloc (.cells #[.int .i64 x] 3)).alloc (.cells #[.int .i64 0, .int .i64 0] 30)) := by
  have h2 := Boxed.new (w.alloc (.cells #[.slice a n cap, .int .i64 tol] 24)) 3 (.int .i64 x)
  have h3 := Two.new ((w.alloc (.cells #[.slice a n cap, .int .i64 tol] 24)).alloc (.cells #[.int .i64 x] 3)) (.int .i64 0) (.int .i64 0) 30
  rw [World.size_alloc] at h2
  rw [World.size_alloc, World.size_alloc] at h3
  exact ⟨bel_alloc (bel_alloc (bel_alloc (Below.refl _ _))), ((Two.new w _ _ _).alloc _).alloc _, h2.alloc _, h3⟩
theorem WtI.put {w : World} {z : Nat} {a : Option Addr} {n cap : Nat} {tol x : Int} {W : World} (h : WtI w z a n cap tol x W) (hz : w.heap.size ≤ z) (p q : Value) :
    Two z ((W.setCell ⟨z, 0, none⟩ p).setCell ⟨z, 1, none⟩ q) p q ∧ Below w.heap.size w ((W.setCell ⟨z, 0, none⟩ p).setCell ⟨z, 1, none⟩ q) :=
  ⟨(h.2.2.2.set0 p).set1 q, (h.1.setCell (p := ⟨z, 0, none⟩) hz _).setCell (p := ⟨z, 1, none⟩) hz _⟩
set_option maxHeartbeats 8000000 in
theorem gWet_bad (a : Option Addr) (n cap : Nat) (tol x E : Int) (w : World) (e2 : (E != 0) = true)
    (H1 : Hid (∀ W, Below w.heap.size w W → Calls Tryd.prog 42 #[.agg #[.slice a n cap, .int .i64 tol]] W fun e w' => e = .returned (.int .i64 E) ∧ Below W.heap.size W w')) :
    Calls Tryd.prog 12 #[.agg #[.slice a n cap, .int .i64 tol], .int .i64 x] w fun e w' => e = .returned (.tuple #[.agg #[.int .i64 0, .int .i64 0], .int .i64 1]) ∧ Below w.heap.size w w' := by
  have S0 := Lib.hid (WtI.init w a n cap tol x)
  obtain ⟨_, ⟨t0, t1, _, _, _⟩, _⟩ := S0.out
  go_enter Tryd.func12, Tryd.ntmps12
  go_wp2_with fail
  have hz1 : w.heap.size ≤ w.heap.size + 1 + 1 := by omega
  have hz2 : w.heap.size + 1 < w.heap.size + 1 + 1 := by omega
  generalize w.heap.size + 1 + 1 = z at *
  replace hz1 := Lib.hid hz1
  replace hz2 := Lib.hid hz2
  refine (H1.out _ S0.out.1).mono ?_
  rintro e w1 ⟨rfl, gg⟩
  replace S0 := Lib.hid (S0.out.below gg); clear gg t0 t1
  obtain ⟨_, _, _, z0, z1, f0, f1, _⟩ := S0.out
  go_wp2
  obtain ⟨⟨p0, p1, _, _, _⟩, BB⟩ := S0.out.put hz1.out (.int .i64 0) (.int .i64 0)
  refine bodyPost_ret (v := .tuple #[.agg #[.int .i64 0, .int .i64 0], .int .i64 1]) (by simp [results, Tryd.results12, go_sem, p0, p1]) rfl ?_
  exact ⟨rfl, BB⟩
set_option maxHeartbeats 16000000 in
set_option maxRecDepth 100000 in
theorem gWet_core (b off m cap k : Nat) (tol x X0 X1 H V A Q L R E : Int) (l : List (Int × Int)) (w : World) (m1 : m ≤ 1000) (hb : b < w.heap.size) (hk : k < m + 1)
    (hc : Hid (∀ j, j < m + 1 → w.cell? ⟨b, off + j * 2, none⟩ = some (.int .i64 (gX l j)) ∧ w.cell? ⟨b, off + j * 2 + 1, none⟩ = some (.int .i64 (gR l j))))
    (hx : Hid (gX l 0 = X0 ∧ gX l m = X1)) (hk1 : Hid (gX l k = H ∧ gR l k = V)) (hk2 : Hid (k ≠ 0 → gX l (k - 1) = A ∧ gR l (k - 1) = Q)) (bt : 0 ≤ tol ∧ tol ≤ 4294967296) (bV : 0 ≤ V ∧ V ≤ 4294967296)
    (hE : ((decide (X0 ≤ x) && decide (x ≤ X1)) = false ∧ L = 0 ∧ R = 0 ∧ E = 2) ∨ ((decide (X0 ≤ x) && decide (x ≤ X1)) = true ∧ R = V + tol ∧ E = 0 ∧ ((H ≤ x ∧ L = V) ∨ (x < H ∧ k ≠ 0 ∧ L = Q))))
    (H1 : Hid (∀ W, Below w.heap.size w W → Calls Tryd.prog 42 #[.agg #[.slice (some ⟨b, off, none⟩) (m + 1) cap, .int .i64 tol]] W fun e w' => e = .returned (.int .i64 0) ∧ Below W.heap.size W w'))
    (HS : Hid ((decide (X0 ≤ x) && decide (x ≤ X1)) = true → ∀ W z, WtI w z (some ⟨b, off, none⟩) (m + 1) cap tol x W → Calls Tryd.prog 44 #[.int .i64 ((m : Int) + 1), .func (.func 45) #[] #[.pointer (some ⟨w.heap.size, 0, none⟩), .pointer (some ⟨w.heap.size + 1, 0, none⟩)]] W fun e w' => e = .returned (.int .i64 k) ∧ Below W.heap.size W w')) :
    Calls Tryd.prog 12 #[.agg #[.slice (some ⟨b, off, none⟩) (m + 1) cap, .int .i64 tol], .int .i64 x] w fun e w' => e = .returned (.tuple #[.agg #[.int .i64 L, .int .i64 R], .int .i64 E]) ∧ Below w.heap.size w w' := by
  have hmf : ∀ (fn : Fn) (first cap : Array Value) (w : World), (Instr.makeFunc fn first cap).run Tryd.prog w = .ok (.func fn first cap) w := fun _ _ _ _ => rfl
  have S0 := Lib.hid (WtI.init w (some ⟨b, off, none⟩) (m + 1) cap tol x)
  have HF := Lib.hid (fun n x y W => isFrom_any n x y W)
  have CC : Hid (∀ W, Below w.heap.size w W → ∀ j, j < m + 1 → W.cell? ⟨b, off + j * 2, none⟩ = some (.int .i64 (gX l j)) ∧ W.cell? ⟨b, off + j * 2 + 1, none⟩ = some (.int .i64 (gR l j))) := Lib.hid fun W hW j hj => ⟨cell_bel (hc.out j hj).1 hW, cell_bel (hc.out j hj).2 hW⟩
  have wk : IntKind.i64.wrap (((m + 1 : Nat) : Int) - 1) = (m : Int) := by rw [wrap_in _ ⟨by omega, by omega⟩]; omega
  have wk1 : IntKind.i64.wrap ((m : Int) + 1 - 1) = (m : Int) := by rw [wrap_in _ ⟨by omega, by omega⟩]; omega
  have wk1' : IntKind.i64.wrap (m : Int) = (m : Int) := wrap_in _ ⟨by omega, by omega⟩
  have wk2 : (m : Int) < ((m + 1 : Nat) : Int) := by omega
  have wk3 : (m : Int) < (m : Int) + 1 := by omega
  have wk4 : (0 : Int) < (m : Int) + 1 := by omega
  have wk5 : (0 : Int) < ((m + 1 : Nat) : Int) := by omega
  clear hc
  obtain ⟨_, ⟨t0, t1, _, _, _⟩, _⟩ := S0.out
  go_enter Tryd.func12, Tryd.ntmps12
  go_wp2_with fail
  have hz1 : w.heap.size ≤ w.heap.size + 1 + 1 := by omega
  have hz2 : w.heap.size + 1 < w.heap.size + 1 + 1 := by omega
  generalize w.heap.size + 1 + 1 = z at *
  replace hz1 := Lib.hid hz1
  replace hz2 := Lib.hid hz2
  refine (H1.out _ S0.out.1).mono ?_
  rintro e w1 ⟨rfl, gg⟩
  replace S0 := Lib.hid (S0.out.below gg); clear gg t0 t1
  obtain ⟨_, ⟨t0, t1, _, _, _⟩, y0', _⟩ := S0.out
  have y0 := y0'.cell
  have d0 := (CC.out _ S0.out.1 0 (by omega)).1
  have d1 := (CC.out _ S0.out.1 m (by omega)).1
  rw [hx.out.1, show off + 0 * 2 = off by omega] at d0
  rw [hx.out.2] at d1
  rcases hE with ⟨hq, rfl, rfl, rfl⟩ | ⟨hq, rfl, rfl, hL⟩
  · have HQ0 : Hid (∀ W, Calls Tryd.prog 43 #[.int .i64 x, .int .i64 X0, .int .i64 X1] W fun e w' => e = .returned (.bool false) ∧ w' = W) := Lib.hid fun W => by have := isFrom_any x X0 X1 W; rwa [hq] at this
    clear hq
    go_upto_region 3 with fail
    have SW := S0
    replace S0 := Lib.hid (S0.out.below (bel_drew _))
    go_region_held3 (fun w' => w'.cell? ⟨w.heap.size, 0, none⟩ = some (.slice (some ⟨b, off, none⟩) (m + 1) cap) ∧ w'.cell? ⟨w.heap.size + 1, 0, none⟩ = some (.int .i64 x) ∧ w'.cell? ⟨b, off, none⟩ = some (.int .i64 X0) ∧ w'.cell? ⟨b, off + m * 2, none⟩ = some (.int .i64 X1)) (go_keep) (first
      | (go_at_call 43; (refine (HQ0.out _).mono ?_); rintro e w2 ⟨rfl, gg⟩; rw [gg]; clear gg))
    clear y0 y0' d0 d1 t0 t1
    obtain ⟨_, _, _, z0, z1, f0, f1, _⟩ := SW.out
    go_wp2
    obtain ⟨TT, BB⟩ := SW.out.put hz1.out (.int .i64 0) (.int .i64 0)
    obtain ⟨p0, p1, _, _, _⟩ := TT.below (bel_drew _)
    replace BB := bel_trans BB (bel_drew _)
    refine bodyPost_ret (v := .tuple #[.agg #[.int .i64 0, .int .i64 0], .int .i64 2]) (by simp [results, Tryd.results12, go_sem, p0, p1]) rfl ?_
    exact ⟨rfl, BB⟩
  · have HQ0 : Hid (∀ W, Calls Tryd.prog 43 #[.int .i64 x, .int .i64 X0, .int .i64 X1] W fun e w' => e = .returned (.bool true) ∧ w' = W) := Lib.hid fun W => by have := isFrom_any x X0 X1 W; rwa [hq] at this
    replace HS := Lib.hid (HS.out hq)
    clear hq
    go_upto_region 3 with fail
    have SW := S0
    replace S0 := Lib.hid (S0.out.below (bel_drew _))
    go_region_held3 (fun w' => w'.cell? ⟨w.heap.size, 0, none⟩ = some (.slice (some ⟨b, off, none⟩) (m + 1) cap) ∧ w'.cell? ⟨w.heap.size + 1, 0, none⟩ = some (.int .i64 x) ∧ w'.cell? ⟨b, off, none⟩ = some (.int .i64 X0) ∧ w'.cell? ⟨b, off + m * 2, none⟩ = some (.int .i64 X1)) (go_keep) (first
      | (go_at_call 43; (refine (HQ0.out _).mono ?_); rintro e w2 ⟨rfl, gg⟩; rw [gg]; clear gg))
    clear y0 y0' d0 d1 t0 t1
    have HQ := Lib.hid (HS.out _ _ S0.out)
    obtain ⟨_, ⟨t0, t1, _, _, _⟩, y0', _⟩ := S0.out
    have y0 := y0'.cell
    go_wp2_with fail
    refine HQ.out.mono ?_
    rintro e w3 ⟨rfl, gg⟩
    replace S0 := Lib.hid (S0.out.below gg); clear gg y0 y0' t0 t1 HQ
    obtain ⟨d0, d1⟩ := CC.out _ S0.out.1 k hk
    rw [hk1.out.1] at d0
    rw [hk1.out.2] at d1
    have lk : (k : Int) < (m : Int) + 1 := by omega
    have wV : IntKind.i64.wrap (V + tol) = V + tol := wrap_in _ ⟨by omega, by omega⟩
    have S1 := Lib.hid ((S0.out.below (bel_alloc (o := .cells #[.int .i64 H, .int .i64 V] 54) (Below.refl _ _))).below (bel_alloc (o := .cells #[.int .i64 H, .int .i64 V] 54) (Below.refl _ _)))
    have SZ := S0.out.2.2.2.2.2.2.2
    have z2 := hz2.out
    have m1 : w.heap.size + 1 ≠ w3.heap.size := by omega
    have m2 : w3.heap.size ≠ w.heap.size + 1 := by omega
    have m3 : w.heap.size ≠ w3.heap.size := by omega
    have m4 : w3.heap.size ≠ w.heap.size := by omega
    have m5 : w.heap.size ≠ w3.heap.size + 1 := by omega
    have m6 : w3.heap.size + 1 ≠ w.heap.size := by omega
    have n1 : z ≠ w3.heap.size := by omega
    have n2 : w3.heap.size ≠ z := by omega
    have n3 : z ≠ w3.heap.size + 1 := by omega
    have n4 : w3.heap.size + 1 ≠ z := by omega
    have P1 := Lib.hid ((Two.new w3 (.int .i64 H) (.int .i64 V) 54).alloc (.cells #[.int .i64 H, .int .i64 V] 54))
    have hb3 : b < w3.heap.size := Nat.lt_of_lt_of_le hb S0.out.1.size
    obtain ⟨_, ⟨t0, t1, _, _, _⟩, y0', z0, z1, f0, f1, _⟩ := S0.out
    have y0 := y0'.cell
    have ya : ∀ o, (w3.alloc o).cell? ⟨w.heap.size + 1, 0, none⟩ = some (.int .i64 x) := fun o => cell_bel y0 (bel_alloc (Below.refl _ _))
    have yb : ∀ o o2, ((w3.alloc o).alloc o2).cell? ⟨w.heap.size + 1, 0, none⟩ = some (.int .i64 x) := fun o o2 => cell_bel y0 (bel_alloc (bel_alloc (Below.refl _ _)))
    have ta : ∀ o o2, ((w3.alloc o).alloc o2).cell? ⟨w.heap.size, 0, none⟩ = some (.slice (some ⟨b, off, none⟩) (m + 1) cap) := fun o o2 => cell_bel t0 (bel_alloc (bel_alloc (Below.refl _ _)))
    have tb : ∀ o o2, ((w3.alloc o).alloc o2).cell? ⟨w.heap.size, 1, none⟩ = some (.int .i64 tol) := fun o o2 => cell_bel t1 (bel_alloc (bel_alloc (Below.refl _ _)))
    rcases hL with ⟨g, rfl⟩ | ⟨g, k0, rfl⟩
    · have dg : decide (x < H) = false := decide_eq_false (by omega)
      clear g SZ z2
      go_wp2
      obtain ⟨TT, BB⟩ := S0.out.put hz1.out (.int .i64 L) (.int .i64 (L + tol))
      obtain ⟨p0, p1, _, _, _⟩ := (TT.alloc (.cells #[.int .i64 H, .int .i64 L] 54)).alloc (.cells #[.int .i64 H, .int .i64 L] 54)
      replace BB := bel_trans BB (bel_alloc (o := .cells #[.int .i64 H, .int .i64 L] 54) (bel_alloc (o := .cells #[.int .i64 H, .int .i64 L] 54) (Below.refl _ _)))
      refine bodyPost_ret (v := .tuple #[.agg #[.int .i64 L, .int .i64 (L + tol)], .int .i64 0]) (by simp [results, Tryd.results12, go_sem, p0, p1]) rfl ?_
      exact ⟨rfl, BB⟩
    · obtain ⟨j, rfl⟩ : ∃ j, k = j + 1 := ⟨k - 1, by omega⟩
      have dg : decide (x < H) = true := decide_eq_true g
      have hj := hk2.out (by omega)
      rw [Nat.add_sub_cancel] at hj
      obtain ⟨d2, d3⟩ := CC.out _ S0.out.1 j (by omega)
      rw [hj.1] at d2
      rw [hj.2] at d3
      have e2 : ∀ o o2, ((w3.alloc o).alloc o2).cell? ⟨b, off + j * 2, none⟩ = some (.int .i64 A) := fun o o2 => cell_bel d2 (bel_alloc (bel_alloc (Below.refl _ _)))
      have e3 : ∀ o o2, ((w3.alloc o).alloc o2).cell? ⟨b, off + j * 2 + 1, none⟩ = some (.int .i64 L) := fun o o2 => cell_bel d3 (bel_alloc (bel_alloc (Below.refl _ _)))
      have wj : IntKind.i64.wrap ((j : Int) + 1 - 1) = (j : Int) := by rw [wrap_in _ ⟨by omega, by omega⟩]; omega
      have wj2 : IntKind.i64.wrap (j : Int) = (j : Int) := wrap_in _ ⟨by omega, by omega⟩
      have l2 : (j : Int) < (m : Int) + 1 := by omega
      have l4 : 0 ≤ (j : Int) + 1 := by omega
      have l5 : ((j : Int) + 1).toNat = j + 1 := by omega
      have l6 : (j : Int) + 1 < (m : Int) + 1 := by omega
      clear g SZ z2 hj
      go_wp2
      obtain ⟨TT, BB⟩ := S0.out.put hz1.out (.int .i64 L) (.int .i64 (V + tol))
      obtain ⟨p0, p1, _, _, _⟩ := (TT.alloc (.cells #[.int .i64 H, .int .i64 V] 54)).alloc (.cells #[.int .i64 A, .int .i64 L] 54)
      replace BB := bel_trans BB (bel_alloc (o := .cells #[.int .i64 H, .int .i64 V] 54) (bel_alloc (o := .cells #[.int .i64 A, .int .i64 L] 54) (Below.refl _ _)))
      refine bodyPost_ret (v := .tuple #[.agg #[.int .i64 L, .int .i64 (V + tol)], .int .i64 0]) (by simp [results, Tryd.results12, go_sem, p0, p1]) rfl ?_
      exact ⟨rfl, BB⟩
/-- the first mark that is not below a height; the bounds of the wet volume -/
def wtK (l : List (Int × Int)) (x : Int) : Nat := fst (fun i => decide (x ≤ gX l i)) l.length
def wtL (l : List (Int × Int)) (tol x : Int) : Int := if rdE l tol x = 0 then (if gX l (wtK l x) ≤ x then gR l (wtK l x) else gR l (wtK l x - 1)) else 0
def wtH (l : List (Int × Int)) (tol x : Int) : Int := if rdE l tol x = 0 then gR l (wtK l x) + tol else 0
theorem gWet_any (v : Value) (l : List (Int × Int)) (tol x : Int) (w : World) (hv : TbV w v l tol) :
    Calls Tryd.prog 12 #[v, .int .i64 x] w fun e w' => e = .returned (.tuple #[.agg #[.int .i64 (wtL l tol x), .int .i64 (wtH l tol x)], .int .i64 (rdE l tol x)]) ∧ Below w.heap.size w w' := by
  have H1 : Hid (∀ W, Below w.heap.size w W → _) := Lib.hid fun W hW => dipChk_any v l tol W (hv.below hW)
  obtain ⟨a, cap, rfl, hp⟩ := hv
  by_cases h : tbE l tol = 0
  · rw [h] at H1
    obtain ⟨hR, ht⟩ := tbE_iff.1 h
    have n0 := hR.n0
    have n1 := hR.n1
    have eE : rdE l tol x = if x < gX l 0 ∨ gX l (l.length - 1) < x then 2 else 0 := by unfold rdE; rw [if_neg (by omega)]
    obtain ⟨b, off, rfl, hb, hc⟩ := hp.at (by omega)
    obtain ⟨m, hm⟩ : ∃ m, l.length = m + 1 := ⟨l.length - 1, by omega⟩
    have el : l.length - 1 = m := by omega
    rw [el] at eE
    have hcut : (decide (gX l 0 ≤ x) && decide (x ≤ gX l m)) = true ↔ ¬ (x < gX l 0 ∨ gX l m < x) := by
      rw [Bool.and_eq_true, decide_eq_true_eq, decide_eq_true_eq]; omega
    have hf := fun g : x ≤ gX l m => hR.find (x := x) (by rw [el]; exact g)
    have hle : (decide (gX l 0 ≤ x) && decide (x ≤ gX l m)) = true → wtK l x < m + 1 := fun g => by
      have := (hf (by have := hcut.1 g; omega)).1
      unfold wtK; omega
    rw [hm] at H1 ⊢
    by_cases g : (decide (gX l 0 ≤ x) && decide (x ≤ gX l m)) = true
    · have g' := hcut.1 g
      rw [if_neg g'] at eE
      have f := hf (by omega)
      have bk := hR.bv (wtK l x) (by have := hle g; omega)
      have eL : wtL l tol x = if gX l (wtK l x) ≤ x then gR l (wtK l x) else gR l (wtK l x - 1) := by unfold wtL; rw [if_pos eE]
      have eH : wtH l tol x = gR l (wtK l x) + tol := by unfold wtH; rw [if_pos eE]
      rw [eE, eH, eL]
      refine gWet_core b off m cap (wtK l x) tol x (gX l 0) (gX l m) (gX l (wtK l x)) (gR l (wtK l x)) (gX l (wtK l x - 1)) (gR l (wtK l x - 1)) _ _ 0 l w (by omega) hb (hle g) (Lib.hid fun j hj => hc j (by omega)) (Lib.hid ⟨rfl, rfl⟩) (Lib.hid ⟨rfl, rfl⟩) (Lib.hid fun _ => ⟨rfl, rfl⟩) ht bk (.inr ⟨g, rfl, rfl, ?_⟩) H1 (Lib.hid fun _ W z hW => ?_)
      · by_cases q : gX l (wtK l x) ≤ x
        · left; exact ⟨q, if_pos q⟩
        · right
          refine ⟨by omega, fun e => ?_, if_neg q⟩
          rw [e] at q
          omega
      · have e1 : ((m : Int) + 1) = ((m + 1 : Nat) : Int) := by omega
        rw [e1]
        unfold wtK
        rw [hm]
        refine search_bel 45 #[.pointer (some ⟨w.heap.size, 0, none⟩), .pointer (some ⟨w.heap.size + 1, 0, none⟩)] (m + 1) (fun i => decide (x ≤ gX l i)) W (enters_of Tryd.func45 (by kernel_rfl) rfl) (by omega) (Lib.hid fun i W2 hi hW2 => ?_) (Lib.hid fun i j hij hj hi => ?_)
        · have S := hW.below hW2
          exact gWet1_any i _ _ b off (m + 1) cap x tol l W2 (by omega) (by omega) S.2.1.1 S.2.2.1.cell (cell_bel (hc i (by omega)).1 S.1)
        · have := of_decide_eq_true hi
          have := hR.le (i := i) (j := j) hij (by omega)
          exact decide_eq_true (by omega)
    · have g' : (x < gX l 0 ∨ gX l m < x) := by
        rcases Classical.em (x < gX l 0 ∨ gX l m < x) with q | q
        · exact q
        · exact absurd (hcut.2 q) g
      rw [if_pos g'] at eE
      have eL : wtL l tol x = 0 := by unfold wtL; rw [eE]; rfl
      have eH : wtH l tol x = 0 := by unfold wtH; rw [eE]; rfl
      rw [eE, eH, eL]
      have bk := hR.bv 0 (by omega)
      exact gWet_core b off m cap 0 tol x (gX l 0) (gX l m) (gX l 0) (gR l 0) (gX l 0) (gR l 0) 0 0 2 l w (by omega) hb (by omega) (Lib.hid fun j hj => hc j (by omega)) (Lib.hid ⟨rfl, rfl⟩) (Lib.hid ⟨rfl, rfl⟩) (Lib.hid fun h => absurd rfl h) ht bk (.inl ⟨by simpa using g, rfl, rfl, rfl⟩) H1 (Lib.hid fun q => absurd q g)
  · have e : rdE l tol x = 1 := by unfold rdE; rw [if_pos (by omega)]
    have eL : wtL l tol x = 0 := by unfold wtL; rw [e]; rfl
    have eH : wtH l tol x = 0 := by unfold wtH; rw [e]; rfl
    rw [e, eL, eH]
    exact gWet_bad a _ cap tol x _ w (by simpa using h) H1
end Go.Proofs.YtdpkochkpcjioabDoor

