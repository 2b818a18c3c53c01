/- Package gauge: common, sum; the closures of Together and Total; folds. -/
import Derived.Test.YtdpkochkpcjioabDoorGF
namespace Go.Proofs.YtdpkochkpcjioabDoor
open Go.RowKit

theorem Quad.put {b : Nat} {W : World} {x y z u : Value} (h : Quad b W x y z u) (x' y' z' u' : Value) : Quad b ((((W.setCell ⟨b, 0, none⟩ x').setCell ⟨b, 1, none⟩ y').setCell ⟨b, 2, none⟩ z').setCell ⟨b, 3, none⟩ u') x' y' z' u' := by
  obtain ⟨h0, h1, h2, h3, hf, hl⟩ := h
  obtain ⟨p0, p1, p2, p3⟩ := quad_read W b x' y' z' u' h0 h1 h2 h3
  exact ⟨p0, p1, p2, p3, fun k hk => by simp only [World.frozen?_setCell]; exact hf k hk, by simpa [World.setCell] using hl⟩
theorem Quad.other {b : Nat} {W : World} {x y z u : Value} (h : Quad b W x y z u) (p : Addr) (hp : p.block ≠ b) (v : Value) : Quad b (W.setCell p v) x y z u := by
  obtain ⟨h0, h1, h2, h3, hf, hl⟩ := h
  have o : ∀ i, (W.setCell p v).cell? ⟨b, i, none⟩ = W.cell? ⟨b, i, none⟩ := fun i => World.cell?_setCell_other _ _ _ _ (by intro e; apply hp; rw [e])
  exact ⟨by rw [o]; exact h0, by rw [o]; exact h1, by rw [o]; exact h2, by rw [o]; exact h3, fun k hk => by rw [World.frozen?_setCell]; exact hf k hk, by simpa [World.setCell] using hl⟩
theorem Quad.putB {b B : Nat} {w W : World} (h : Below B w W) (hb : B ≤ b) (x y z u : Value) : Below B w ((((W.setCell ⟨b, 0, none⟩ x).setCell ⟨b, 1, none⟩ y).setCell ⟨b, 2, none⟩ z).setCell ⟨b, 3, none⟩ u) :=
  (((h.setCell (p := ⟨b, 0, none⟩) hb _).setCell (p := ⟨b, 1, none⟩) hb _).setCell (p := ⟨b, 2, none⟩) hb _).setCell (p := ⟨b, 3, none⟩) hb _
set_option maxHeartbeats 4000000 in
theorem gCom_any (a b c d : Int) (w : World) :
    Calls Tryd.prog 57 #[.agg #[.int .i64 a, .int .i64 b], .agg #[.int .i64 c, .int .i64 d]] w fun e w' => e = .returned (.agg #[.int .i64 (max a c), .int .i64 (min b d)]) ∧ Below w.heap.size w w' := by
  generalize hm : max a c = m
  generalize hn : min b d = n
  go_enter Tryd.func57, Tryd.ntmps57
  go_wp2
  exact bodyPost_ret (v := .agg #[.int .i64 m, .int .i64 n]) (by simp [results, Tryd.results57, go_sem]) rfl ⟨rfl, bel_alloc (bel_alloc (bel_alloc (Below.refl _ _)))⟩
set_option maxHeartbeats 4000000 in
theorem gSum_any (a b c d : Int) (w : World) (h1 : -9223372036854775808 ≤ a + c ∧ a + c ≤ 9223372036854775807) (h2 : -9223372036854775808 ≤ b + d ∧ b + d ≤ 9223372036854775807) :
    Calls Tryd.prog 59 #[.agg #[.int .i64 a, .int .i64 b], .agg #[.int .i64 c, .int .i64 d]] w fun e w' => e = .returned (.agg #[.int .i64 (a + c), .int .i64 (b + d)]) ∧ Below w.heap.size w w' := by
  have w1 : IntKind.i64.wrap (a + c) = a + c := wrap_in _ h1
  have w2 : IntKind.i64.wrap (b + d) = b + d := wrap_in _ h2
  go_enter Tryd.func59, Tryd.ntmps59
  go_wp2
  exact bodyPost_ret (v := .agg #[.int .i64 (a + c), .int .i64 (b + d)]) (by simp [results, Tryd.results59, go_sem, w1, w2]) rfl ⟨rfl, by first | exact bel_alloc (bel_alloc (bel_alloc (Below.refl _ _))) | (rw [w1, w2]; exact bel_alloc (bel_alloc (bel_alloc (Below.refl _ _))))⟩
/-- what stands in a closure of a fold -/
def CbI (w : World) (z : Nat) (a b c d : Int) (x0 x1 x2 x3 x4 x5 x6 x7 : Int) (W : World) : Prop := Below w.heap.size w W ∧ Quad w.heap.size W (.int .i64 a) (.int .i64 b) (.int .i64 c) (.int .i64 d) ∧ Eig (w.heap.size + 1) W (.int .i64 x0) (.int .i64 x1) (.int .i64 x2) (.int .i64 x3) (.int .i64 x4) (.int .i64 x5) (.int .i64 x6) (.int .i64 x7) ∧ Quad z W (.int .i64 0) (.int .i64 0) (.int .i64 0) (.int .i64 0)
theorem CbI.below {w : World} {z : Nat} {a b c d x0 x1 x2 x3 x4 x5 x6 x7 : Int} {W W' : World} (h : CbI w z a b c d x0 x1 x2 x3 x4 x5 x6 x7 W) (hb : Below W.heap.size W W') : CbI w z a b c d x0 x1 x2 x3 x4 x5 x6 x7 W' := ⟨bel_trans h.1 hb, h.2.1.below hb, h.2.2.1.below hb, h.2.2.2.below hb⟩
theorem CbI.init (w : World) (a b c d x0 x1 x2 x3 x4 x5 x6 x7 : Int) : CbI w (w.heap.size + 1 + 1) a b c d x0 x1 x2 x3 x4 x5 x6 x7 (((w.alloc (.cells #[.int .i64 a, .int .i64 b, .int .i64 c, .int .i64 d] 79)).alloc (.cells #[.int .i64 x0, .int .i64 x1, .int .i64 x2, .int .i64 x3, .int .i64 x4, .int .i64 x5, .int .i64 x6, .int .i64 x7] 36)).alloc (.cells #[.int .i64 0, .int .i64 0, .int .i64 0, .int .i64 0] 79)) := by
  have h2 := Eig.new (w.alloc (.cells #[.int .i64 a, .int .i64 b, .int .i64 c, .int .i64 d] 79)) (.int .i64 x0) (.int .i64 x1) (.int .i64 x2) (.int .i64 x3) (.int .i64 x4) (.int .i64 x5) (.int .i64 x6) (.int .i64 x7) 36
  have h3 := Quad.new ((w.alloc (.cells #[.int .i64 a, .int .i64 b, .int .i64 c, .int .i64 d] 79)).alloc (.cells #[.int .i64 x0, .int .i64 x1, .int .i64 x2, .int .i64 x3, .int .i64 x4, .int .i64 x5, .int .i64 x6, .int .i64 x7] 36)) (.int .i64 0) (.int .i64 0) (.int .i64 0) (.int .i64 0) 79
  rw [World.size_alloc] at h2
  rw [World.size_alloc, World.size_alloc] at h3
  exact ⟨bel_alloc (bel_alloc (bel_alloc (Below.refl _ _))), ((Quad.new w _ _ _ _ _).alloc _).alloc _, h2.alloc _, h3⟩
set_option maxHeartbeats 16000000 in
set_option maxRecDepth 100000 in
theorem gTog2_any (a b c d : Int) (r : Rp) (w : World) :
    Calls Tryd.prog 56 #[.agg #[.int .i64 a, .int .i64 b, .int .i64 c, .int .i64 d], .agg #[.int .i64 r.dy, .int .i64 r.dp, .int .i64 r.ht, .int .i64 r.st, .int .i64 r.vl, .int .i64 r.vh, .int .i64 r.al, .int .i64 r.ah]] w fun e w' => e = .returned (.agg #[.int .i64 (max a r.vl), .int .i64 (min b r.vh), .int .i64 (max c r.al), .int .i64 (min d r.ah)]) ∧ Below w.heap.size w w' := by
  have H1 := Lib.hid (fun W => gCom_any a b r.vl r.vh W)
  have H2 := Lib.hid (fun W => gCom_any c d r.al r.ah W)
  obtain ⟨d', p, h, s, vl, vh, al, ah⟩ := r
  show Calls _ _ _ _ fun e w' => e = .returned (.agg #[.int .i64 (max a vl), .int .i64 (min b vh), .int .i64 (max c al), .int .i64 (min d ah)]) ∧ _
  have S0 := Lib.hid (CbI.init w a b c d d' p h s vl vh al ah)
  generalize max a vl = R0 at *
  generalize min b vh = R1 at *
  generalize max c al = R2 at *
  generalize min d ah = R3 at *
  obtain ⟨_, ⟨q0, q1, q2, q3, _, _⟩, ⟨e0, e1, e2, e3, e4, e5, e6, e7, _, _⟩, z0, z1, z2, z3, zf, _⟩ := S0.out
  go_enter Tryd.func56, Tryd.ntmps56
  go_upto_region 1 with fail
  have hz1 : w.heap.size ≤ w.heap.size + 1 + 1 := by omega
  have hz2 : w.heap.size + 1 < w.heap.size + 1 + 1 := by omega
  generalize w.heap.size + 1 + 1 = z at *
  replace S0 := Lib.hid (S0.out.below (bel_drew _))
  have y1 : w.heap.size + 1 ≠ z := by omega
  have y2 : z ≠ w.heap.size + 1 := by omega
  have y3 : w.heap.size ≠ z := by omega
  have y4 : z ≠ w.heap.size := by omega
  have f0 := zf 0 (by omega); have f1 := zf 1 (by omega); have f2 := zf 2 (by omega); have f3 := zf 3 (by omega)
  clear zf
  go_region_held3 (fun w' => w'.cell? ⟨w.heap.size, 0, none⟩ = some (.int .i64 a) ∧ w'.cell? ⟨w.heap.size, 1, none⟩ = some (.int .i64 b) ∧ w'.cell? ⟨w.heap.size, 2, none⟩ = some (.int .i64 c) ∧ w'.cell? ⟨w.heap.size, 3, none⟩ = some (.int .i64 d) ∧ w'.cell? ⟨w.heap.size + 1, 4, none⟩ = some (.int .i64 vl) ∧ w'.cell? ⟨w.heap.size + 1, 5, none⟩ = some (.int .i64 vh) ∧ w'.cell? ⟨w.heap.size + 1, 6, none⟩ = some (.int .i64 al) ∧ w'.cell? ⟨w.heap.size + 1, 7, none⟩ = some (.int .i64 ah)) (go_keep) (first
    | (go_at_call 57; (with_reducible refine (H1.out _).mono ?_); rintro e w4 ⟨rfl, gg⟩; replace S0 := Lib.hid (S0.out.below gg); obtain ⟨_, ⟨q0, q1, q2, q3, _, _⟩, ⟨e0, e1, e2, e3, e4, e5, e6, e7, _, _⟩, z0, z1, z2, z3, zf, _⟩ := S0.out; have f0 := zf 0 (by omega); have f1 := zf 1 (by omega); have f2 := zf 2 (by omega); have f3 := zf 3 (by omega); clear gg zf)
    | (go_at_call 57; (with_reducible refine (H2.out _).mono ?_); rintro e w5 ⟨rfl, gg⟩; replace S0 := Lib.hid (S0.out.below gg); obtain ⟨_, ⟨q0, q1, q2, q3, _, _⟩, ⟨e0, e1, e2, e3, e4, e5, e6, e7, _, _⟩, z0, z1, z2, z3, zf, _⟩ := S0.out; have f0 := zf 0 (by omega); have f1 := zf 1 (by omega); have f2 := zf 2 (by omega); have f3 := zf 3 (by omega); clear gg zf))
  all_goals
    have P := Lib.hid (S0.out.2.2.2.put (.int .i64 R0) (.int .i64 R1) (.int .i64 R2) (.int .i64 R3))
    have BB := Lib.hid (Quad.putB S0.out.1 hz1 (.int .i64 R0) (.int .i64 R1) (.int .i64 R2) (.int .i64 R3))
    go_wp2
    obtain ⟨p0, p1, p2, p3, _, _⟩ := P.out
    refine bodyPost_ret (v := .agg #[.int .i64 R0, .int .i64 R1, .int .i64 R2, .int .i64 R3]) (by simp [results, Tryd.results56, go_sem, p0, p1, p2, p3]) rfl ?_
    exact ⟨rfl, BB.out⟩
/-- what stands in a fold -/
def FbI (w : World) (a b c d : Int) (W : World) : Prop := Below w.heap.size w W ∧ Quad w.heap.size W (.int .i64 a) (.int .i64 b) (.int .i64 c) (.int .i64 d) ∧ Quad (w.heap.size + 1) W (.int .i64 0) (.int .i64 0) (.int .i64 0) (.int .i64 0)
theorem FbI.below {w : World} {a b c d : Int} {W W' : World} (h : FbI w a b c d W) (hb : Below W.heap.size W W') : FbI w a b c d W' := ⟨bel_trans h.1 hb, h.2.1.below hb, h.2.2.below hb⟩
theorem FbI.put {w : World} {a b c d : Int} {W : World} (h : FbI w a b c d W) (a' b' c' d' : Int) : FbI w a' b' c' d' ((((W.setCell ⟨w.heap.size, 0, none⟩ (.int .i64 a')).setCell ⟨w.heap.size, 1, none⟩ (.int .i64 b')).setCell ⟨w.heap.size, 2, none⟩ (.int .i64 c')).setCell ⟨w.heap.size, 3, none⟩ (.int .i64 d')) :=
  ⟨Quad.putB h.1 (Nat.le_refl _) _ _ _ _, h.2.1.put _ _ _ _, (((h.2.2.other _ (by show w.heap.size ≠ w.heap.size + 1; omega) _).other _ (by show w.heap.size ≠ w.heap.size + 1; omega) _).other _ (by show w.heap.size ≠ w.heap.size + 1; omega) _).other _ (by show w.heap.size ≠ w.heap.size + 1; omega) _⟩
theorem FbI.init (w : World) (a b c d : Int) : FbI w a b c d ((w.alloc (.cells #[.int .i64 a, .int .i64 b, .int .i64 c, .int .i64 d] 79)).alloc (.cells #[.int .i64 0, .int .i64 0, .int .i64 0, .int .i64 0] 79)) := by
  have h3 := Quad.new (w.alloc (.cells #[.int .i64 a, .int .i64 b, .int .i64 c, .int .i64 d] 79)) (.int .i64 0) (.int .i64 0) (.int .i64 0) (.int .i64 0) 79
  rw [World.size_alloc] at h3
  exact ⟨bel_alloc (bel_alloc (Below.refl _ _)), (Quad.new w _ _ _ _ _).alloc _, h3⟩
set_option maxHeartbeats 16000000 in
set_option maxRecDepth 100000 in
theorem foldF_some (f : Nat) (eg : ∀ args w, (callFunc f args).run Tryd.prog w = .ok (.enter f args) w) (a0 : Option Addr) (n cap : Nat) (l : List Rp) (A B C D : Nat → Int) (w : World) (n1 : n ≤ 1000000)
    (hc : Hid (0 < n → ∃ b off, a0 = some ⟨b, off, none⟩ ∧ b < w.heap.size ∧ ∀ j, j < n → RpC w b (off + j * 8) (gP l j)))
    (hf : Hid (∀ k W, k < n → Calls Tryd.prog f #[.agg #[.int .i64 (A k), .int .i64 (B k), .int .i64 (C k), .int .i64 (D k)], .agg #[.int .i64 (gP l k).dy, .int .i64 (gP l k).dp, .int .i64 (gP l k).ht, .int .i64 (gP l k).st, .int .i64 (gP l k).vl, .int .i64 (gP l k).vh, .int .i64 (gP l k).al, .int .i64 (gP l k).ah]] W fun e w' => e = .returned (.agg #[.int .i64 (A (k + 1)), .int .i64 (B (k + 1)), .int .i64 (C (k + 1)), .int .i64 (D (k + 1))]) ∧ Below W.heap.size W w')) :
    Calls Tryd.prog 55 #[.slice a0 n cap, .agg #[.int .i64 (A 0), .int .i64 (B 0), .int .i64 (C 0), .int .i64 (D 0)], .func (.func f) #[] #[]] w fun e w' => e = .returned (.agg #[.int .i64 (A n), .int .i64 (B n), .int .i64 (C n), .int .i64 (D n)]) ∧ Below w.heap.size w w' := by
  have S0 := Lib.hid (FbI.init w (A 0) (B 0) (C 0) (D 0))
  go_enter Tryd.func55, Tryd.ntmps55
  go_wp2_with fail
  go_loopw [11] (fun ii wr => ∃ k : Nat, k ≤ n ∧ ii = .int .i64 (k : Int) ∧ Hid (FbI w (A k) (B k) (C k) (D k) wr)) (fun ii _ => n - (intOf ii).toNat)
  case atStart => exact ⟨0, by omega, rfl, S0⟩
  case round =>
    clear S0
    obtain ⟨k, hk, rfl, S0⟩ := hrel
    by_cases hlt : k < n
    · obtain ⟨b, off, rfl, hb, hcc⟩ := hc.out (by omega)
      obtain ⟨c0, c1, c2, c3, c4, c5, c6, c7⟩ := (hcc k hlt).below S0.out.1
      have lk : (k : Int) < (n : Int) := by omega
      have HP := Lib.hid (fun W => hf.out k W hlt)
      have S2 := Lib.hid (fun W (h : FbI w (A k) (B k) (C k) (D k) W) => h.put (A (k + 1)) (B (k + 1)) (C (k + 1)) (D (k + 1)))
      generalize eA1 : A (k + 1) = A1 at *
      replace eA1 := Lib.hid eA1
      generalize eB1 : B (k + 1) = B1 at *
      replace eB1 := Lib.hid eB1
      generalize eC1 : C (k + 1) = C1 at *
      replace eC1 := Lib.hid eC1
      generalize eD1 : D (k + 1) = D1 at *
      replace eD1 := Lib.hid eD1
      generalize A k = A0 at *
      generalize B k = B0 at *
      generalize C k = C0 at *
      generalize D k = D0 at *
      generalize gP l k = r at *
      obtain ⟨d, p, h, s, vl, vh, al, ah⟩ := r
      clear hc hcc hf
      obtain ⟨_, ⟨q0, q1, q2, q3, _, _⟩, _⟩ := S0.out.below (bel_alloc (o := .cells #[.int .i64 d, .int .i64 p, .int .i64 h, .int .i64 s, .int .i64 vl, .int .i64 vh, .int .i64 al, .int .i64 ah] 36) (Below.refl _ _))
      obtain ⟨d0, d1, d2, d3, d4, d5, d6, d7, _, _⟩ := Eig.new wr (.int .i64 d) (.int .i64 p) (.int .i64 h) (.int .i64 s) (.int .i64 vl) (.int .i64 vh) (.int .i64 al) (.int .i64 ah) 36
      go_wp2_with fail
      refine (HP.out _).mono ?_
      rintro e w1 ⟨rfl, gg⟩
      replace S0 := Lib.hid (S0.out.below (bel_alloc gg)); clear gg q0 q1 q2 q3 d0 d1 d2 d3 d4 d5 d6 d7
      replace S2 := Lib.hid (S2.out _ S0.out)
      obtain ⟨_, ⟨q0, q1, q2, q3, qf, _⟩, _⟩ := S0.out
      have f0 := qf 0 (by omega); have f1 := qf 1 (by omega); have f2 := qf 2 (by omega); have f3 := qf 3 (by omega)
      clear qf
      go_wp2
      go_roundw
      case rel => exact ⟨k + 1, by omega, by go_num, by rw [eA1.out, eB1.out, eC1.out, eD1.out]; exact S2⟩
      case measure => simp [intOf]; omega
    · obtain rfl : k = n := by omega
      obtain ⟨_, ⟨q0, q1, q2, q3, _, _⟩, z0, z1, z2, z3, zf, _⟩ := S0.out
      have f0 := zf 0 (by omega); have f1 := zf 1 (by omega); have f2 := zf 2 (by omega); have f3 := zf 3 (by omega)
      have P := Lib.hid (S0.out.2.2.put (.int .i64 (A k)) (.int .i64 (B k)) (.int .i64 (C k)) (.int .i64 (D k)))
      have BB := Lib.hid (Quad.putB S0.out.1 (Nat.le_succ _) (.int .i64 (A k)) (.int .i64 (B k)) (.int .i64 (C k)) (.int .i64 (D k)))
      clear zf hc hf
      generalize eA0 : A k = A0 at *
      replace eA0 := Lib.hid eA0
      generalize eB0 : B k = B0 at *
      replace eB0 := Lib.hid eB0
      generalize eC0 : C k = C0 at *
      replace eC0 := Lib.hid eC0
      generalize eD0 : D k = D0 at *
      replace eD0 := Lib.hid eD0
      go_wp2
      obtain ⟨p0, p1, p2, p3, _, _⟩ := P.out
      refine bodyPost_ret (v := .agg #[.int .i64 A0, .int .i64 B0, .int .i64 C0, .int .i64 D0]) (by simp [results, Tryd.results55, go_sem, p0, p1, p2, p3]) rfl ?_
      exact ⟨by rw [eA0.out, eB0.out, eC0.out, eD0.out], BB.out⟩
end Go.Proofs.YtdpkochkpcjioabDoor

