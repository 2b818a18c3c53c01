/- Package gauge: Right, Differ, Wet. -/
import Derived.Test.YtdpkochkpcjioabDoorGA
import Derived.Deep.RegionHeld3
import Derived.Test.YtdpkochkpcjioabDoorDPC
namespace Go.Proofs.YtdpkochkpcjioabDoor
open Go.RowKit

/-- a report: day, dip, heat, strength, bounds of the volume and of the alcohol -/
structure Rp where
  dy : Int
  dp : Int
  ht : Int
  st : Int
  vl : Int
  vh : Int
  al : Int
  ah : Int
def rgtB (r : Rp) : Bool := rdgB r.dy r.dp r.ht r.st && (decide (0 ≤ r.vl) && (decide (r.vl ≤ r.vh) && (decide (r.vh ≤ 34359738368) && (decide (r.al = r.vl * r.st) && decide (r.ah = r.vh * r.st)))))
theorem rgtB_iff {r : Rp} : rgtB r = true ↔ rdgB r.dy r.dp r.ht r.st = true ∧ 0 ≤ r.vl ∧ r.vl ≤ r.vh ∧ r.vh ≤ 34359738368 ∧ r.al = r.vl * r.st ∧ r.ah = r.vh * r.st := by
  unfold rgtB
  simp only [Bool.and_eq_true, decide_eq_true_eq]
def EigR (b : Nat) (W : World) (r : Rp) : Prop := Eig b W (.int .i64 r.dy) (.int .i64 r.dp) (.int .i64 r.ht) (.int .i64 r.st) (.int .i64 r.vl) (.int .i64 r.vh) (.int .i64 r.al) (.int .i64 r.ah)
theorem mul_fit {v s : Int} (hv : 0 ≤ v ∧ v ≤ 34359738368) (hs : 0 ≤ s ∧ s ≤ 10000) : 0 ≤ v * s ∧ v * s ≤ 343597383680000 := by
  have a := Int.mul_nonneg hv.1 hs.1
  have b := Int.mul_le_mul hv.2 hs.2 hs.1 (by omega)
  omega
/-- what stands in Right -/
def RgI8 (w : World) (x0 x1 x2 x3 x4 x5 x6 x7 : Int) (W : World) : Prop := Below w.heap.size w W ∧ Eig w.heap.size W (.int .i64 x0) (.int .i64 x1) (.int .i64 x2) (.int .i64 x3) (.int .i64 x4) (.int .i64 x5) (.int .i64 x6) (.int .i64 x7) ∧ Two (w.heap.size + 1) W (.int .i64 x4) (.int .i64 x5)
theorem RgI8.below {w : World} {x0 x1 x2 x3 x4 x5 x6 x7 : Int} {W W' : World} (h : RgI8 w x0 x1 x2 x3 x4 x5 x6 x7 W) (hb : Below W.heap.size W W') : RgI8 w x0 x1 x2 x3 x4 x5 x6 x7 W' := ⟨bel_trans h.1 hb, h.2.1.below hb, h.2.2.below hb⟩
set_option maxHeartbeats 16000000 in
set_option maxRecDepth 100000 in
theorem gRight_core (d p h s vl vh al ah : Int) (B : Bool) (w : World)
    (hB : ((rdgE d p h s != 0) = true ∧ B = false) ∨ (rdgE d p h s = 0 ∧ vl < 0 ∧ B = false) ∨ (rdgE d p h s = 0 ∧ ¬ vl < 0 ∧ vh < vl ∧ B = false) ∨ (rdgE d p h s = 0 ∧ ¬ vl < 0 ∧ ¬ vh < vl ∧ 34359738368 < vh ∧ B = false) ∨
      (rdgE d p h s = 0 ∧ ¬ vl < 0 ∧ ¬ vh < vl ∧ ¬ 34359738368 < vh ∧ Hid (B = samB al ah (vl * s) (vh * s))))
    (hs : Hid (rdgE d p h s = 0 → 0 ≤ s ∧ s ≤ 10000)) :
    Calls Tryd.prog 28 #[.agg #[.int .i64 d, .int .i64 p, .int .i64 h, .int .i64 s, .int .i64 vl, .int .i64 vh, .int .i64 al, .int .i64 ah]] w fun e w' => e = .returned (.bool B) ∧ Below w.heap.size w w' := by
  have E0 := (Eig.new w (.int .i64 d) (.int .i64 p) (.int .i64 h) (.int .i64 s) (.int .i64 vl) (.int .i64 vh) (.int .i64 al) (.int .i64 ah) 36).alloc (.cells #[.int .i64 vl, .int .i64 vh] 30)
  have T0 := Two.new (w.alloc (.cells #[.int .i64 d, .int .i64 p, .int .i64 h, .int .i64 s, .int .i64 vl, .int .i64 vh, .int .i64 al, .int .i64 ah] 36)) (.int .i64 vl) (.int .i64 vh) 30
  rw [World.size_alloc] at T0
  have S0 : Hid (RgI8 w d p h s vl vh al ah ((w.alloc (.cells #[.int .i64 d, .int .i64 p, .int .i64 h, .int .i64 s, .int .i64 vl, .int .i64 vh, .int .i64 al, .int .i64 ah] 36)).alloc (.cells #[.int .i64 vl, .int .i64 vh] 30))) := Lib.hid ⟨bel_alloc (bel_alloc (Below.refl _ _)), E0, T0⟩
  have HC := Lib.hid (fun W => gChk_any d p h s W)
  obtain ⟨e0, e1, e2, e3, e4, e5, e6, e7, _, _⟩ := Eig.new w (.int .i64 d) (.int .i64 p) (.int .i64 h) (.int .i64 s) (.int .i64 vl) (.int .i64 vh) (.int .i64 al) (.int .i64 ah) 36
  obtain ⟨_, ⟨c0, c1, c2, c3, c4, c5, c6, c7, _, _⟩, t0, t1, _, _, _⟩ := S0.out
  clear E0 T0
  go_enter Tryd.func28, Tryd.ntmps28
  go_wp2_with fail
  refine (HC.out _).mono ?_
  rintro e w1 ⟨rfl, gg⟩
  replace S0 := Lib.hid (S0.out.below gg); clear gg c0 c1 c2 c3 c4 c5 c6 c7 t0 t1 e0 e1 e2 e3 e4 e5 e6 e7
  have X := Lib.hid S0.out.1
  obtain ⟨_, ⟨c0, c1, c2, c3, c4, c5, c6, c7, _, _⟩, t0, t1, _, _, _⟩ := S0.out
  generalize rdgE d p h s = E at *
  rcases hB with ⟨g, rfl⟩ | ⟨rfl, g, rfl⟩ | ⟨rfl, g, g2, rfl⟩ | ⟨rfl, g, g2, g3, rfl⟩ | ⟨rfl, g, g2, g3, hB⟩
  · go_wp2
    go_returns
    exact ⟨rfl, X.out⟩
  · have d1 : decide (vl < 0) = true := decide_eq_true (by omega)
    go_wp2
    go_returns
    exact ⟨rfl, X.out⟩
  · have d1 : decide (vl < 0) = false := decide_eq_false (by omega)
    have d2 : decide (vh < vl) = true := decide_eq_true (by omega)
    go_wp2
    go_returns
    exact ⟨rfl, X.out⟩
  · have d1 : decide (vl < 0) = false := decide_eq_false (by omega)
    have d2 : decide (vh < vl) = false := decide_eq_false (by omega)
    have d3 : decide (34359738368 < vh) = true := decide_eq_true (by omega)
    go_wp2
    go_returns
    exact ⟨rfl, X.out⟩
  · have d1 : decide (vl < 0) = false := decide_eq_false (by omega)
    have d2 : decide (vh < vl) = false := decide_eq_false (by omega)
    have d3 : decide (34359738368 < vh) = false := decide_eq_false (by omega)
    have hs' := hs.out (by trivial)
    have m1 := mul_fit (v := vl) (s := s) ⟨by omega, by omega⟩ hs'
    have m2 := mul_fit (v := vh) (s := s) ⟨by omega, by omega⟩ hs'
    have HT := Lib.hid (fun W => gTimes_any vl vh s W ⟨by omega, by omega⟩ ⟨by omega, by omega⟩)
    have Q1 : ∀ (a b c d : Int) W, _ := fun a b c d W => run_eql_bounds a b c d W
    clear hs hs' m1 m2 g g2 g3
    generalize vl * s = pl at *
    generalize vh * s = ph at *
    go_wp2_with fail
    replace S0 := Lib.hid (S0.out.below (bel_drew _))
    go_region_held3 (fun w' => w'.cell? ⟨w.heap.size, 3, none⟩ = some (.int .i64 s) ∧ w'.cell? ⟨w.heap.size, 6, none⟩ = some (.int .i64 al) ∧ w'.cell? ⟨w.heap.size, 7, none⟩ = some (.int .i64 ah) ∧ w'.cell? ⟨w.heap.size + 1, 0, none⟩ = some (.int .i64 vl) ∧ w'.cell? ⟨w.heap.size + 1, 1, none⟩ = some (.int .i64 vh)) (go_keep) (first
      | (go_at_call 48; (refine (HT.out _).mono ?_); rintro e w2 ⟨rfl, gg⟩; replace S0 := Lib.hid (S0.out.below gg); obtain ⟨_, ⟨c0, c1, c2, c3, c4, c5, c6, c7, _, _⟩, t0, t1, _, _, _⟩ := S0.out; clear gg))
    have X := Lib.hid S0.out.1
    obtain rfl := hB.out
    go_wp2
    go_returns
    exact ⟨rfl, X.out⟩
theorem gRight_any (r : Rp) (w : World) :
    Calls Tryd.prog 28 #[.agg #[.int .i64 r.dy, .int .i64 r.dp, .int .i64 r.ht, .int .i64 r.st, .int .i64 r.vl, .int .i64 r.vh, .int .i64 r.al, .int .i64 r.ah]] w fun e w' => e = .returned (.bool (rgtB r)) ∧ Below w.heap.size w w' := by
  have no : ¬ rgtB r = true → rgtB r = false := fun h => by simpa using h
  refine gRight_core r.dy r.dp r.ht r.st r.vl r.vh r.al r.ah _ w ?_ (Lib.hid fun h => ((rdgB_iff.1 (rdgE_zero.1 h)).2.2.2))
  by_cases h : rdgE r.dy r.dp r.ht r.st = 0
  · right
    by_cases g : r.vl < 0
    · left; exact ⟨h, g, no fun q => by have := (rgtB_iff.1 q).2.1; omega⟩
    · right
      by_cases g2 : r.vh < r.vl
      · left; exact ⟨h, g, g2, no fun q => by have := (rgtB_iff.1 q).2.2.1; omega⟩
      · right
        by_cases g3 : 34359738368 < r.vh
        · left; exact ⟨h, g, g2, g3, no fun q => by have := (rgtB_iff.1 q).2.2.2.1; omega⟩
        · right
          refine ⟨h, g, g2, g3, Lib.hid ?_⟩
          rw [Bool.eq_iff_iff, rgtB_iff]
          simp only [samB, Bool.and_eq_true, beq_iff_eq]
          constructor
          · rintro ⟨_, _, _, _, h1, h2⟩; exact ⟨h1, h2⟩
          · rintro ⟨h1, h2⟩; exact ⟨rdgE_zero.1 h, by omega, by omega, by omega, h1, h2⟩
  · left
    exact ⟨by simpa using h, no fun q => h (rdgE_zero.2 (rgtB_iff.1 q).1)⟩
end Go.Proofs.YtdpkochkpcjioabDoor

