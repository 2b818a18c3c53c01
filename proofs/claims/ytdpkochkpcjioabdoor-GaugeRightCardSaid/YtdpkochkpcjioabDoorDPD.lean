/- Package dip: Check, ends, Read. -/
import Derived.Test.YtdpkochkpcjioabDoorDPC
import Derived.Deep.RegionHeld3
import Derived.Deep.RegionLaw
namespace Go.Proofs.YtdpkochkpcjioabDoor
open Go.RowKit

/-- a value that reads as a table -/
def TbV (w : World) (v : Value) (l : List (Int × Int)) (tol : Int) : Prop := ∃ a cap, v = .agg #[.slice a l.length cap, .int .i64 tol] ∧ Pts w (.slice a l.length cap) l
theorem TbV.below {w w' : World} {v : Value} {l : List (Int × Int)} {tol : Int} (h : TbV w v l tol) (hb : Below w.heap.size w w') : TbV w' v l tol := by
  obtain ⟨a, cap, e, hp⟩ := h
  exact ⟨a, cap, e, hp.below hb⟩
set_option maxHeartbeats 8000000 in
theorem dipChk_len (a : Option Addr) (n cap : Nat) (tol V : Int) (w : World) (h : (n < 2 ∧ V = 9) ∨ (¬ n < 2 ∧ 128 < n ∧ n ≤ 9223372036854775807 ∧ V = 8)) :
    Calls Tryd.prog 42 #[.agg #[.slice a n cap, .int .i64 tol]] w fun e w' => e = .returned (.int .i64 V) ∧ Below w.heap.size w w' := by
  have X1 : Hid (Below w.heap.size w (w.alloc (.cells #[.slice a n cap, .int .i64 tol] 24))) := Lib.hid (bel_alloc (Below.refl _ _))
  rcases h with ⟨h, rfl⟩ | ⟨h, h2, h3, rfl⟩
  all_goals
    go_enter Tryd.func42, Tryd.ntmps42
    go_wp2
    go_returns
    exact ⟨rfl, X1.out⟩
set_option maxHeartbeats 8000000 in
theorem dipChk_tol (a : Option Addr) (n cap : Nat) (tol : Int) (w : World) (n0 : 2 ≤ n) (n1 : n ≤ 128) (h : tol < 0 ∨ (¬ tol < 0 ∧ 4294967296 < tol)) :
    Calls Tryd.prog 42 #[.agg #[.slice a n cap, .int .i64 tol]] w fun e w' => e = .returned (.int .i64 2) ∧ Below w.heap.size w w' := by
  have X1 : Hid (Below w.heap.size w (w.alloc (.cells #[.slice a n cap, .int .i64 tol] 24))) := Lib.hid (bel_alloc (Below.refl _ _))
  rcases h with h | ⟨h, h2⟩
  · have d1 : decide (tol < 0) = true := decide_eq_true h
    go_enter Tryd.func42, Tryd.ntmps42
    go_wp2
    go_returns
    exact ⟨rfl, X1.out⟩
  · have d1 : decide (tol < 0) = false := decide_eq_false h
    have d2 : decide (4294967296 < tol) = true := decide_eq_true h2
    go_enter Tryd.func42, Tryd.ntmps42
    go_wp2
    go_returns
    exact ⟨rfl, X1.out⟩
set_option maxHeartbeats 8000000 in
theorem dipChk_core (a : Option Addr) (n cap : Nat) (tol V : Int) (O A : Bool) (w : World) (n0 : 2 ≤ n) (n1 : n ≤ 128) (h0 : ¬ tol < 0) (h1 : ¬ 4294967296 < tol) (hV : (O = true ∧ V = 2) ∨ (O = false ∧ A = false ∧ V = 5) ∨ (O = false ∧ A = true ∧ V = 0))
    (H3 : Hid (∀ W, Below w.heap.size w W → Calls Tryd.prog 70 #[.slice a n cap, .func (.func 71) #[] #[]] W fun e w' => e = .returned (.bool O) ∧ Below W.heap.size W w'))
    (H4 : Hid (∀ W, Below w.heap.size w W → Calls Tryd.prog 72 #[.slice a n cap] W fun e w' => e = .returned (.bool A) ∧ Below W.heap.size W w')) :
    Calls Tryd.prog 42 #[.agg #[.slice a n cap, .int .i64 tol]] w fun e w' => e = .returned (.int .i64 V) ∧ Below w.heap.size w w' := by
  have d1 : decide (tol < 0) = false := decide_eq_false h0
  have d2 : decide (4294967296 < tol) = false := decide_eq_false h1
  have T0 := Lib.hid (Two.new w (.slice a n cap) (.int .i64 tol) 24)
  clear h0 h1
  go_enter Tryd.func42, Tryd.ntmps42
  go_wp2_with fail
  refine (H3.out _ (bel_alloc (Below.refl _ _))).mono ?_
  rintro e w1 ⟨rfl, gg⟩
  replace T0 := Lib.hid (T0.out.below gg)
  have X1 := Lib.hid (bel_alloc gg); clear gg
  obtain ⟨t0, t1, _, _, _⟩ := T0.out
  rcases hV with ⟨rfl, rfl⟩ | hV
  · go_wp2
    go_returns
    exact ⟨rfl, X1.out⟩
  rcases hV with ⟨rfl, rfl, rfl⟩ | ⟨rfl, rfl, rfl⟩
  all_goals
    go_wp2_with fail
    refine (H4.out _ X1.out).mono ?_
    rintro e w2 ⟨rfl, gg⟩
    replace X1 := Lib.hid (bel_trans X1.out gg); clear gg t0 t1
    go_wp2
    go_returns
    exact ⟨rfl, X1.out⟩
theorem dipChk_any (v : Value) (l : List (Int × Int)) (tol : Int) (w : World) (hv : TbV w v l tol) :
    Calls Tryd.prog 42 #[v] w fun e w' => e = .returned (.int .i64 (tbE l tol)) ∧ Below w.heap.size w w' := by
  obtain ⟨a, cap, rfl, hp⟩ := hv
  unfold tbE
  by_cases g1 : l.length < 2
  · rw [if_pos g1]
    exact dipChk_len a _ cap tol _ w (.inl ⟨g1, rfl⟩)
  · rw [if_neg g1]
    by_cases g2 : 128 < l.length
    · rw [if_pos g2]
      obtain ⟨_, _, e, hc, _⟩ := hp
      simp only [Value.slice.injEq, true_and] at e
      obtain ⟨rfl, rfl⟩ := e
      exact dipChk_len _ _ cap tol _ w (.inr ⟨g1, g2, by omega, rfl⟩)
    · rw [if_neg g2]
      by_cases g3 : tol < 0 ∨ 4294967296 < tol
      · rw [if_pos (by rw [Bool.or_eq_true, Bool.or_eq_true, decide_eq_true_eq, decide_eq_true_eq]; exact .inl g3)]
        exact dipChk_tol a _ cap tol w (by omega) (by omega) (by omega)
      · have e3 : (decide (tol < 0) || decide (4294967296 < tol)) = false := by rw [Bool.or_eq_false_iff, decide_eq_false_iff_not, decide_eq_false_iff_not]; omega
        rw [e3, Bool.false_or]
        have H3 : Hid (∀ W, Below w.heap.size w W → Calls Tryd.prog 70 #[.slice a l.length cap, .func (.func 71) #[] #[]] W fun e w' => e = .returned (.bool (l.any mkOut)) ∧ Below W.heap.size W w') := Lib.hid fun W hW => by
          refine conm_of _ _ a _ cap rfl (fun j => mkOut (gX l j, gR l j)) _ W (Lib.hid (idxm_any 71 #[] _ (enters_of Tryd.func71 (by kernel_rfl) rfl) _ l W (by omega) (hp.below hW) (Lib.hid fun j W2 hj hW2 => dipOut_any _ _ W2))) (Lib.hid ?_)
          exact anyq_at
        obtain ⟨b, off, rfl, hb, hc⟩ := hp.at (by omega)
        have hcp : l.length ≤ cap := by
          obtain ⟨_, _, e, hcp, _⟩ := hp
          simp only [Value.slice.injEq, true_and] at e
          omega
        obtain ⟨q, hq⟩ : ∃ q, l.length = q + 1 := ⟨l.length - 1, by omega⟩
        rw [hq] at H3 hc hcp ⊢
        rw [Nat.add_sub_cancel]
        refine dipChk_core _ _ cap tol _ (l.any mkOut) (risB l q) w (by omega) (by omega) (by omega) (by omega) ?_ H3 (Lib.hid fun W hW => dipRis_some b off q cap l _ W (by omega) (by omega) (Nat.lt_of_lt_of_le hb hW.size) hcp (Lib.hid fun j hj => ⟨by rw [(bcell hW).1 _ _ hb]; exact (hc j hj).1, by rw [(bcell hW).1 _ _ hb]; exact (hc j hj).2⟩) (Lib.hid fun ⟨i, hi, hx⟩ => ?_) (Lib.hid fun h => (risB_iff l q).2 h))
        · cases l.any mkOut with
          | true => left; simp
          | false =>
            right
            cases risB l q with
            | false => left; simp
            | true => right; simp
        · rw [Bool.eq_false_iff]
          intro h
          exact hx ((risB_iff l q).1 h i hi)
/-! ### ends -/
def EnI (w : World) (x y : Value) (W : World) : Prop :=
  Two w.heap.size W x y ∧ Two (w.heap.size + 1) W (.int .i64 0) (.int .i64 0) ∧ Two (w.heap.size + 1 + 1) W (.int .i64 0) (.int .i64 0) ∧ Below w.heap.size w W
theorem EnI.below {w : World} {x y : Value} {W W' : World} (h : EnI w x y W) (hb : Below W.heap.size W W') : EnI w x y W' := ⟨h.1.below hb, h.2.1.below hb, h.2.2.1.below hb, bel_trans h.2.2.2 hb⟩
theorem EnI.init (w : World) (x y : Value) (T U : TypeId) : EnI w x y (((w.alloc (.cells #[x, y] T)).alloc (.cells #[.int .i64 0, .int .i64 0] U)).alloc (.cells #[.int .i64 0, .int .i64 0] U)) := by
  have h2 := Two.new (w.alloc (.cells #[x, y] T)) (.int .i64 0) (.int .i64 0) U
  have h3 := Two.new ((w.alloc (.cells #[x, y] T)).alloc (.cells #[.int .i64 0, .int .i64 0] U)) (.int .i64 0) (.int .i64 0) U
  rw [World.size_alloc] at h2
  rw [World.size_alloc, World.size_alloc] at h3
  exact ⟨((Two.new w x y T).alloc _).alloc _, h2.alloc _, h3, bel_alloc (bel_alloc (bel_alloc (Below.refl _ _)))⟩
/-- the two marks are written -/
theorem EnI.put {w : World} {x y : Value} {W : World} (h : EnI w x y W) (p q r s : Value) :
    Two (w.heap.size + 1) ((((W.setCell ⟨w.heap.size + 1, 0, none⟩ p).setCell ⟨w.heap.size + 1, 1, none⟩ q).setCell ⟨w.heap.size + 1 + 1, 0, none⟩ r).setCell ⟨w.heap.size + 1 + 1, 1, none⟩ s) p q ∧
    Two (w.heap.size + 1 + 1) ((((W.setCell ⟨w.heap.size + 1, 0, none⟩ p).setCell ⟨w.heap.size + 1, 1, none⟩ q).setCell ⟨w.heap.size + 1 + 1, 0, none⟩ r).setCell ⟨w.heap.size + 1 + 1, 1, none⟩ s) r s ∧
    Below w.heap.size w ((((W.setCell ⟨w.heap.size + 1, 0, none⟩ p).setCell ⟨w.heap.size + 1, 1, none⟩ q).setCell ⟨w.heap.size + 1 + 1, 0, none⟩ r).setCell ⟨w.heap.size + 1 + 1, 1, none⟩ s) := by
  refine ⟨(((h.2.1.set0 p).set1 q).other ⟨w.heap.size + 1 + 1, 0, none⟩ (by show w.heap.size + 1 + 1 ≠ w.heap.size + 1; omega) r).other ⟨w.heap.size + 1 + 1, 1, none⟩ (by show w.heap.size + 1 + 1 ≠ w.heap.size + 1; omega) s, (((h.2.2.1.other ⟨w.heap.size + 1, 0, none⟩ (by show w.heap.size + 1 ≠ w.heap.size + 1 + 1; omega) p).other ⟨w.heap.size + 1, 1, none⟩ (by show w.heap.size + 1 ≠ w.heap.size + 1 + 1; omega) q).set0 r).set1 s, ?_⟩
  exact (((h.2.2.2.setCell (p := ⟨w.heap.size + 1, 0, none⟩) (by show w.heap.size ≤ w.heap.size + 1; omega) _).setCell (p := ⟨w.heap.size + 1, 1, none⟩) (by show w.heap.size ≤ w.heap.size + 1; omega) _).setCell (p := ⟨w.heap.size + 1 + 1, 0, none⟩) (by show w.heap.size ≤ w.heap.size + 1 + 1; omega) _).setCell (p := ⟨w.heap.size + 1 + 1, 1, none⟩) (by show w.heap.size ≤ w.heap.size + 1 + 1; omega) _
/-- what ends returns -/
def enF (l : List (Int × Int)) (tol : Int) : Int × Int := if tbE l tol = 0 then (gX l 0, gR l 0) else (0, 0)
def enZ (l : List (Int × Int)) (tol : Int) : Int × Int := if tbE l tol = 0 then (gX l (l.length - 1), gR l (l.length - 1)) else (0, 0)
def enE (l : List (Int × Int)) (tol : Int) : Int := if tbE l tol = 0 then 0 else 1
/-! ### Read -/
end Go.Proofs.YtdpkochkpcjioabDoor

