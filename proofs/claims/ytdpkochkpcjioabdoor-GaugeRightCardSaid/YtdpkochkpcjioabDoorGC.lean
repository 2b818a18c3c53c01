/- Package gauge: Differ; Wet. -/
import Derived.Test.YtdpkochkpcjioabDoorGB
import Derived.Test.YtdpkochkpcjioabDoorDPB
namespace Go.Proofs.YtdpkochkpcjioabDoor
open Go.RowKit

/-- what Differ returns -/
def dfE (r : Rp) (a : Int) : Int := if rgtB r = false then 1 else if a < 0 ∨ 343597383680000 < a then 2 else 0
def dfL (r : Rp) (a : Int) : Int := if dfE r a = 0 then a - r.ah else 0
def dfH (r : Rp) (a : Int) : Int := if dfE r a = 0 then a - r.al else 0
def dfN (r : Rp) (a : Int) : Int := if dfE r a = 0 then (if dfL r a ≤ 0 ∧ 0 ≤ dfH r a then 1 else 2) else 0
/-- what stands in Differ -/
def DfI (w : World) (x0 x1 x2 x3 x4 x5 x6 x7 : Int) (W : World) : Prop := Below w.heap.size w W ∧ Eig w.heap.size W (.int .i64 x0) (.int .i64 x1) (.int .i64 x2) (.int .i64 x3) (.int .i64 x4) (.int .i64 x5) (.int .i64 x6) (.int .i64 x7) ∧ Two (w.heap.size + 1) W (.int .i64 0) (.int .i64 0)
theorem DfI.below {w : World} {x0 x1 x2 x3 x4 x5 x6 x7 : Int} {W W' : World} (h : DfI w x0 x1 x2 x3 x4 x5 x6 x7 W) (hb : Below W.heap.size W W') : DfI w x0 x1 x2 x3 x4 x5 x6 x7 W' := ⟨bel_trans h.1 hb, h.2.1.below hb, h.2.2.below hb⟩
theorem DfI.put {w : World} {x0 x1 x2 x3 x4 x5 x6 x7 : Int} {W : World} (h : DfI w x0 x1 x2 x3 x4 x5 x6 x7 W) (a b : Value) :
    Two (w.heap.size + 1) ((W.setCell ⟨w.heap.size + 1, 0, none⟩ a).setCell ⟨w.heap.size + 1, 1, none⟩ b) a b ∧ Below w.heap.size w ((W.setCell ⟨w.heap.size + 1, 0, none⟩ a).setCell ⟨w.heap.size + 1, 1, none⟩ b) :=
  ⟨(h.2.2.set0 a).set1 b, (h.1.setCell (p := ⟨w.heap.size + 1, 0, none⟩) (Nat.le_succ _) _).setCell (p := ⟨w.heap.size + 1, 1, none⟩) (Nat.le_succ _) _⟩
set_option maxHeartbeats 16000000 in
set_option maxRecDepth 100000 in
theorem gDiff_core (d p h s vl vh al ah a : Int) (B : Bool) (L H N E : Int) (w : World)
    (hB : (B = false ∧ L = 0 ∧ H = 0 ∧ N = 0 ∧ E = 1) ∨ (B = true ∧ (decide (0 ≤ a) && decide (a ≤ 343597383680000)) = false ∧ L = 0 ∧ H = 0 ∧ N = 0 ∧ E = 2) ∨
      (B = true ∧ (decide (0 ≤ a) && decide (a ≤ 343597383680000)) = true ∧ L = a - ah ∧ H = a - al ∧ E = 0 ∧ (((decide (a - ah ≤ 0) && decide (0 ≤ a - al)) = true ∧ N = 1) ∨ ((decide (a - ah ≤ 0) && decide (0 ≤ a - al)) = false ∧ N = 2)) ∧ (0 ≤ al ∧ al ≤ 343597383680000) ∧ 0 ≤ ah ∧ ah ≤ 343597383680000 ∧ 0 ≤ a ∧ a ≤ 343597383680000))
    (H1 : Hid (∀ W, Calls Tryd.prog 28 #[.agg #[.int .i64 d, .int .i64 p, .int .i64 h, .int .i64 s, .int .i64 vl, .int .i64 vh, .int .i64 al, .int .i64 ah]] W fun e w' => e = .returned (.bool B) ∧ Below W.heap.size W w')) :
    Calls Tryd.prog 26 #[.agg #[.int .i64 d, .int .i64 p, .int .i64 h, .int .i64 s, .int .i64 vl, .int .i64 vh, .int .i64 al, .int .i64 ah], .int .i64 a] w fun e w' => e = .returned (.tuple #[.agg #[.int .i64 L, .int .i64 H], .int .i64 N, .int .i64 E]) ∧ Below w.heap.size w w' := by
  have E0 := (Eig.new w (.int .i64 d) (.int .i64 p) (.int .i64 h) (.int .i64 s) (.int .i64 vl) (.int .i64 vh) (.int .i64 al) (.int .i64 ah) 36).alloc (.cells #[.int .i64 0, .int .i64 0] 30)
  have T0 := Two.new (w.alloc (.cells #[.int .i64 d, .int .i64 p, .int .i64 h, .int .i64 s, .int .i64 vl, .int .i64 vh, .int .i64 al, .int .i64 ah] 36)) (.int .i64 0) (.int .i64 0) 30
  rw [World.size_alloc] at T0
  have S0 : Hid (DfI w d p h s vl vh al ah ((w.alloc (.cells #[.int .i64 d, .int .i64 p, .int .i64 h, .int .i64 s, .int .i64 vl, .int .i64 vh, .int .i64 al, .int .i64 ah] 36)).alloc (.cells #[.int .i64 0, .int .i64 0] 30))) := Lib.hid ⟨bel_alloc (bel_alloc (Below.refl _ _)), E0, T0⟩
  have HF := Lib.hid (fun n x y W => isFrom_any n x y W)
  obtain ⟨_, ⟨c0, c1, c2, c3, c4, c5, c6, c7, _, _⟩, _⟩ := S0.out
  clear E0 T0
  go_enter Tryd.func26, Tryd.ntmps26
  go_wp2_with fail
  refine (H1.out _).mono ?_
  rintro e w1 ⟨rfl, gg⟩
  replace S0 := Lib.hid (S0.out.below gg); clear gg c0 c1 c2 c3 c4 c5 c6 c7
  obtain ⟨_, ⟨c0, c1, c2, c3, c4, c5, c6, c7, _, _⟩, t0, t1, f0, f1, _⟩ := S0.out
  rcases hB with ⟨rfl, rfl, rfl, rfl, rfl⟩ | ⟨rfl, hq, rfl, rfl, rfl, rfl⟩ | ⟨rfl, hq, rfl, rfl, rfl, hN, ba, bh, bb⟩
  · go_wp2
    obtain ⟨⟨p0, p1, _, _, _⟩, BB⟩ := S0.out.put (.int .i64 0) (.int .i64 0)
    refine bodyPost_ret (v := .tuple #[.agg #[.int .i64 0, .int .i64 0], .int .i64 0, .int .i64 1]) (by simp [results, Tryd.results26, go_sem, p0, p1]) rfl ?_
    exact ⟨rfl, BB⟩
  · go_wp2_with fail
    refine (HF.out _ _ _ _).mono ?_
    rintro e w2 ⟨rfl, hw2⟩
    rw [hw2]; clear hw2
    rw [hq]
    go_wp2
    obtain ⟨⟨p0, p1, _, _, _⟩, BB⟩ := S0.out.put (.int .i64 0) (.int .i64 0)
    refine bodyPost_ret (v := .tuple #[.agg #[.int .i64 0, .int .i64 0], .int .i64 0, .int .i64 2]) (by simp [results, Tryd.results26, go_sem, p0, p1]) rfl ?_
    exact ⟨rfl, BB⟩
  · have k1 : IntKind.i64.wrap (a - ah) = a - ah := wrap_in _ ⟨by omega, by omega⟩
    have k2 : IntKind.i64.wrap (a - al) = a - al := wrap_in _ ⟨by omega, by omega⟩
    go_wp2_with fail
    refine (HF.out _ _ _ _).mono ?_
    rintro e w2 ⟨rfl, hw2⟩
    rw [hw2]; clear hw2
    rw [hq]
    have S1 := Lib.hid (S0.out.below (bel_alloc (o := .cells #[.int .i64 (a - ah), .int .i64 (a - al)] 30) (Below.refl _ _)))
    obtain ⟨y0, y1, _, _, _⟩ := Two.new w1 (.int .i64 (a - ah)) (.int .i64 (a - al)) 30
    go_wp2_with fail
    refine (HF.out _ _ _ _).mono ?_
    rintro e w2 ⟨rfl, hw2⟩
    rw [hw2]; clear hw2
    obtain ⟨_, _, t0, t1, f0, f1, _⟩ := S1.out
    rcases hN with ⟨hN, rfl⟩ | ⟨hN, rfl⟩
    · rw [hN]
      go_wp2
      obtain ⟨TT, BB⟩ := S0.out.put (.int .i64 (a - ah)) (.int .i64 (a - al))
      obtain ⟨p0, p1, _, _, _⟩ := TT.alloc (.cells #[.int .i64 (a - ah), .int .i64 (a - al)] 30)
      replace BB := bel_trans BB (bel_alloc (o := .cells #[.int .i64 (a - ah), .int .i64 (a - al)] 30) (Below.refl _ _))
      refine bodyPost_ret (v := .tuple #[.agg #[.int .i64 (a - ah), .int .i64 (a - al)], .int .i64 1, .int .i64 0]) (by simp [results, Tryd.results26, go_sem, p0, p1]) rfl ?_
      exact ⟨rfl, BB⟩
    · rw [hN]
      go_wp2
      obtain ⟨TT, BB⟩ := S0.out.put (.int .i64 (a - ah)) (.int .i64 (a - al))
      obtain ⟨p0, p1, _, _, _⟩ := TT.alloc (.cells #[.int .i64 (a - ah), .int .i64 (a - al)] 30)
      replace BB := bel_trans BB (bel_alloc (o := .cells #[.int .i64 (a - ah), .int .i64 (a - al)] 30) (Below.refl _ _))
      refine bodyPost_ret (v := .tuple #[.agg #[.int .i64 (a - ah), .int .i64 (a - al)], .int .i64 2, .int .i64 0]) (by simp [results, Tryd.results26, go_sem, p0, p1]) rfl ?_
      exact ⟨rfl, BB⟩
theorem rgt_bd {r : Rp} (h : rgtB r = true) : (0 ≤ r.al ∧ r.al ≤ 343597383680000) ∧ 0 ≤ r.ah ∧ r.ah ≤ 343597383680000 := by
  obtain ⟨h0, h1, h2, h3, h4, h5⟩ := rgtB_iff.1 h
  have hs := (rdgB_iff.1 h0).2.2.2
  have a := mul_fit (v := r.vl) (s := r.st) ⟨h1, by omega⟩ hs
  have b := mul_fit (v := r.vh) (s := r.st) ⟨by omega, h3⟩ hs
  omega
theorem gDiff_any (r : Rp) (a : Int) (w : World) :
    Calls Tryd.prog 26 #[.agg #[.int .i64 r.dy, .int .i64 r.dp, .int .i64 r.ht, .int .i64 r.st, .int .i64 r.vl, .int .i64 r.vh, .int .i64 r.al, .int .i64 r.ah], .int .i64 a] w fun e w' => e = .returned (.tuple #[.agg #[.int .i64 (dfL r a), .int .i64 (dfH r a)], .int .i64 (dfN r a), .int .i64 (dfE r a)]) ∧ Below w.heap.size w w' := by
  refine gDiff_core r.dy r.dp r.ht r.st r.vl r.vh r.al r.ah a (rgtB r) _ _ _ _ w ?_ (Lib.hid fun W => gRight_any r W)
  cases h : rgtB r with
  | false =>
    left
    have e : dfE r a = 1 := by unfold dfE; rw [if_pos h]
    exact ⟨rfl, by unfold dfL; rw [e]; rfl, by unfold dfH; rw [e]; rfl, by unfold dfN; rw [e]; rfl, e⟩
  | true =>
    right
    by_cases g : a < 0 ∨ 343597383680000 < a
    · left
      have e : dfE r a = 2 := by unfold dfE; rw [if_neg (by rw [h]; simp), if_pos g]
      refine ⟨rfl, ?_, by unfold dfL; rw [e]; rfl, by unfold dfH; rw [e]; rfl, by unfold dfN; rw [e]; rfl, e⟩
      rw [Bool.and_eq_false_iff, decide_eq_false_iff_not, decide_eq_false_iff_not]; omega
    · right
      have e : dfE r a = 0 := by unfold dfE; rw [if_neg (by rw [h]; simp), if_neg g]
      have e1 : dfL r a = a - r.ah := by unfold dfL; rw [if_pos e]
      have e2 : dfH r a = a - r.al := by unfold dfH; rw [if_pos e]
      have e3 : dfN r a = if a - r.ah ≤ 0 ∧ 0 ≤ a - r.al then 1 else 2 := by unfold dfN; rw [if_pos e, e1, e2]
      obtain ⟨b1, b2⟩ := rgt_bd h
      refine ⟨rfl, ?_, e1, e2, e, ?_, b1, b2.1, b2.2, by omega, by omega⟩
      · rw [Bool.and_eq_true, decide_eq_true_eq, decide_eq_true_eq]; omega
      · rw [e3]
        by_cases q : a - r.ah ≤ 0 ∧ 0 ≤ a - r.al
        · left; exact ⟨by rw [Bool.and_eq_true, decide_eq_true_eq, decide_eq_true_eq]; exact q, if_pos q⟩
        · right; refine ⟨?_, if_neg q⟩
          rw [Bool.and_eq_false_iff, decide_eq_false_iff_not, decide_eq_false_iff_not]; omega
end Go.Proofs.YtdpkochkpcjioabDoor

