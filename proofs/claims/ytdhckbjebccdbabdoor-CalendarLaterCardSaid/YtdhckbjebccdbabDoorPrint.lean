/- Package calendar and its reference: Print. -/
import Derived.Test.YtdhckbjebccdbabDoorPad
import Derived.Test.YtdhckbjebccdbabDoorRefE
namespace Go.Proofs.YtdhckbjebccdbabDoor
open Go.RowKit
attribute [local go_sem ↓] Go.wp_at_zero Go.wp_at_succ

/-- a block in which a date lies -/
def BoxAt (w : World) (B : Nat) (W : World) (y m d : Int) : Prop := W.cell? ⟨B, 0, none⟩ = some (.int .i64 y) ∧ W.cell? ⟨B, 1, none⟩ = some (.int .i64 m) ∧ W.cell? ⟨B, 2, none⟩ = some (.int .i64 d) ∧ Below w.heap.size w W
theorem BoxAt.below {w W W' : World} {B : Nat} {y m d : Int} (h : BoxAt w B W y m d) (hb : Below W.heap.size W W') : BoxAt w B W' y m d := by
  have hz := World.block_lt_of_cell? W ⟨B, 0, none⟩ h.1
  exact ⟨((bcell hb).1 _ _ hz).trans h.1, ((bcell hb).1 _ _ hz).trans h.2.1, ((bcell hb).1 _ _ hz).trans h.2.2.1, bel_trans h.2.2.2 hb⟩

/-- the text of a day -/
noncomputable def txt (n : Int) : List UInt8 := four (yr n) ++ [45] ++ two (mo n) ++ [45] ++ two (da n)
noncomputable def prV (n : Int) : List UInt8 := if dayB n = true then txt n else []
theorem txt_mk (y m d : Int) : (⟨(four y).toArray⟩ : ByteArray) ++ ⟨#[45]⟩ ++ ⟨(two m).toArray⟩ ++ ⟨#[45]⟩ ++ ⟨(two d).toArray⟩ = ⟨(four y ++ [45] ++ two m ++ [45] ++ two d).toArray⟩ := by
  rw [show (⟨#[45]⟩ : ByteArray) = ⟨[45].toArray⟩ from rfl, app_mk, app_mk, app_mk, app_mk]

theorem print_no (n y m d E : Int) (w : World) (hE : E ≠ 0)
    (HD : Hid (Calls Tryd.prog 11 #[.int .i64 n] w fun e w' => e = .returned (.tuple #[.agg #[.int .i64 y, .int .i64 m, .int .i64 d], .int .i64 E]) ∧ Below w.heap.size w w')) :
    Calls Tryd.prog 23 #[.int .i64 n] w fun e w' => e = .returned (.tuple #[.string ⟨#[]⟩, .int .i64 E]) ∧ Below w.heap.size w w' := by
  have hq : (E != 0) = true := by simpa using hE
  clear hE
  go_enter Tryd.func23, Tryd.ntmps23
  go_wp2_with fail
  refine HD.out.mono ?_
  rintro e w1 ⟨rfl, hb⟩
  have HB := Lib.hid hb; clear hb
  go_wp2
  go_returns
  exact ⟨rfl, bel_trans HB.out (bel_alloc (Below.refl _ _))⟩

set_option maxHeartbeats 1000000 in
theorem print_yes (n y m d : Int) (A B C X : ByteArray) (w : World) (hw : LaidC w)
    (HD : Hid (Calls Tryd.prog 11 #[.int .i64 n] w fun e w' => e = .returned (.tuple #[.agg #[.int .i64 y, .int .i64 m, .int .i64 d], .int .i64 0]) ∧ Below w.heap.size w w'))
    (H1 : Hid (∀ W, LaidC W → Calls Tryd.prog 35 #[.int .i64 y, .int .i64 4] W fun e w' => e = .returned (.string A) ∧ Below W.heap.size W w'))
    (H2 : Hid (∀ W, Calls Tryd.prog 35 #[.int .i64 m, .int .i64 2] W fun e w' => e = .returned (.string B) ∧ Below W.heap.size W w'))
    (H3 : Hid (∀ W, Calls Tryd.prog 35 #[.int .i64 d, .int .i64 2] W fun e w' => e = .returned (.string C) ∧ Below W.heap.size W w'))
    (hX : A ++ ⟨#[45]⟩ ++ B ++ ⟨#[45]⟩ ++ C = X) (sA : A.size = 4) (sB : B.size = 2) (sC : C.size = 2) :
    Calls Tryd.prog 23 #[.int .i64 n] w fun e w' => e = .returned (.tuple #[.string X, .int .i64 0]) ∧ Below w.heap.size w w' := by
  have HW := Lib.hid hw
  have HX := Lib.hid hX
  clear hw hX
  go_enter Tryd.func23, Tryd.ntmps23
  go_wp2_with fail
  refine HD.out.mono ?_
  rintro e w1 ⟨rfl, hb⟩
  have HB : Hid (BoxAt w w1.heap.size (w1.alloc (.cells #[.int .i64 y, .int .i64 m, .int .i64 d] 23)).drew y m d) := ⟨by simp [go_sem], by simp [go_sem], by simp [go_sem], bel_trans hb (bel_alloc (bel_drew _))⟩
  have K1 : Hid (∀ W, BoxAt w w1.heap.size W y m d → Calls Tryd.prog 35 #[.int .i64 y, .int .i64 4] W fun e w' => e = .returned (.string A) ∧ BoxAt w w1.heap.size w' y m d) :=
    fun W h => (H1.out W (HW.out.below h.2.2.2)).mono fun _ _ g => ⟨g.1, h.below g.2⟩
  have K2 : Hid (∀ W, BoxAt w w1.heap.size W y m d → Calls Tryd.prog 35 #[.int .i64 m, .int .i64 2] W fun e w' => e = .returned (.string B) ∧ BoxAt w w1.heap.size w' y m d) :=
    fun W h => (H2.out W).mono fun _ _ g => ⟨g.1, h.below g.2⟩
  have K3 : Hid (∀ W, BoxAt w w1.heap.size W y m d → Calls Tryd.prog 35 #[.int .i64 d, .int .i64 2] W fun e w' => e = .returned (.string C) ∧ BoxAt w w1.heap.size w' y m d) :=
    fun W h => (H3.out W).mono fun _ _ g => ⟨g.1, h.below g.2⟩
  clear hb
  go_wp2_with fail
  go_region_held3 (fun w' => w'.cell? ⟨w1.heap.size, 0, none⟩ = some (.int .i64 y) ∧ w'.cell? ⟨w1.heap.size, 1, none⟩ = some (.int .i64 m) ∧ w'.cell? ⟨w1.heap.size, 2, none⟩ = some (.int .i64 d)) (go_keep)
    (first | (go_at_call 35; (with_reducible refine (K1.out _ HB.out).mono ?_); rintro e w2 ⟨rfl, B2⟩; have c0 := B2.1; have c1 := B2.2.1; have c2 := B2.2.2.1; replace B2 := Lib.hid B2) | (go_at_call 35; (with_reducible refine (K2.out _ B2.out).mono ?_); rintro e w3 ⟨rfl, B3⟩; have k0 := B3.1; have k1 := B3.2.1; have k2 := B3.2.2.1; replace B3 := Lib.hid B3) | (go_at_call 35; (with_reducible refine (K3.out _ B3.out).mono ?_); rintro e w4 ⟨rfl, B4⟩; have j0 := B4.1; have j1 := B4.2.1; have j2 := B4.2.2.1; replace B4 := Lib.hid B4))
  have H4 := Lib.hid B4.out.2.2.2
  go_wp2
  go_returns
  rw [HX.out]
  exact ⟨rfl, H4.out⟩

theorem print_any (n : Int) (w : World) (hw : LaidC w) :
    Calls Tryd.prog 23 #[.int .i64 n] w fun e w' => e = .returned (.tuple #[str (prV n), .int .i64 (dE n)]) ∧ Below w.heap.size w w' := by
  have HD := date_any n w hw
  unfold prV
  cases h : dayB n with
  | false =>
    simp only [Bool.false_eq_true, if_false]
    exact print_no n _ _ _ _ w (by simp [dE, h]) HD
  | true =>
    obtain ⟨n0, n1⟩ := (dayB_iff n).1 h
    obtain ⟨⟨m0, m1, d0, d1⟩, _⟩ := dt_spec n n0
    have hl := ml_bd (yr n) (mo n)
    have y0 := yr_ge n n0
    have y1 := yr_le n n0 n1
    simp only [dY, dM, dD, dE, h, if_true] at HD ⊢
    exact print_yes n _ _ _ _ _ _ _ w hw HD (fun W hW => padded_four (yr n) W hW (by omega) (by omega)) (fun W => padded_two (mo n) W (by omega) (by omega)) (fun W => padded_two (da n) W (by omega) (by omega)) (txt_mk _ _ _) (str_size _) (str_size _) (str_size _)
set_option maxHeartbeats 1000000 in
theorem refPrint_yes (n y m d : Int) (A B C X : ByteArray) (w : World) (hd : Hid (dayB n = true))
    (HD : Hid (∀ W, Calls Tryd.prog 31 #[.int .i64 n] W fun e w' => e = .returned (.agg #[.int .i64 y, .int .i64 m, .int .i64 d]) ∧ Below W.heap.size W w'))
    (H1 : Hid (∀ W, Calls Tryd.prog 36 #[.int .i64 y, .int .i64 4] W fun e w' => e = .returned (.string A) ∧ Below W.heap.size W w'))
    (H2 : Hid (∀ W, Calls Tryd.prog 36 #[.int .i64 m, .int .i64 2] W fun e w' => e = .returned (.string B) ∧ Below W.heap.size W w'))
    (H3 : Hid (∀ W, Calls Tryd.prog 36 #[.int .i64 d, .int .i64 2] W fun e w' => e = .returned (.string C) ∧ Below W.heap.size W w'))
    (hX : A ++ ⟨#[45]⟩ ++ B ++ ⟨#[45]⟩ ++ C = X) (sA : A.size = 4) (sB : B.size = 2) (sC : C.size = 2) :
    Calls Tryd.prog 24 #[.int .i64 n] w fun e w' => e = .returned (.tuple #[.string X, .int .i64 0]) ∧ Below w.heap.size w w' := by
  have HX := Lib.hid hX
  clear hX
  go_enter Tryd.func24, Tryd.ntmps24
  go_wp2_with fail
  refine (refIsDay_any _ _).mono ?_; rw [hd.out]; rintro e w' ⟨rfl, hw⟩; subst hw
  go_wp2_with fail
  refine (HD.out _).mono ?_
  rintro e w1 ⟨rfl, hb⟩
  have HB : Hid (BoxAt w w1.heap.size (w1.alloc (.cells #[.int .i64 y, .int .i64 m, .int .i64 d] 23)).drew y m d) := ⟨by simp [go_sem], by simp [go_sem], by simp [go_sem], bel_trans hb (bel_alloc (bel_drew _))⟩
  have K1 : Hid (∀ W, BoxAt w w1.heap.size W y m d → Calls Tryd.prog 36 #[.int .i64 y, .int .i64 4] W fun e w' => e = .returned (.string A) ∧ BoxAt w w1.heap.size w' y m d) :=
    fun W h => (H1.out W).mono fun _ _ g => ⟨g.1, h.below g.2⟩
  have K2 : Hid (∀ W, BoxAt w w1.heap.size W y m d → Calls Tryd.prog 36 #[.int .i64 m, .int .i64 2] W fun e w' => e = .returned (.string B) ∧ BoxAt w w1.heap.size w' y m d) :=
    fun W h => (H2.out W).mono fun _ _ g => ⟨g.1, h.below g.2⟩
  have K3 : Hid (∀ W, BoxAt w w1.heap.size W y m d → Calls Tryd.prog 36 #[.int .i64 d, .int .i64 2] W fun e w' => e = .returned (.string C) ∧ BoxAt w w1.heap.size w' y m d) :=
    fun W h => (H3.out W).mono fun _ _ g => ⟨g.1, h.below g.2⟩
  clear hb
  go_wp2_with fail
  go_region_held3 (fun w' => w'.cell? ⟨w1.heap.size, 0, none⟩ = some (.int .i64 y) ∧ w'.cell? ⟨w1.heap.size, 1, none⟩ = some (.int .i64 m) ∧ w'.cell? ⟨w1.heap.size, 2, none⟩ = some (.int .i64 d)) (go_keep)
    (first | (go_at_call 36; (with_reducible refine (K1.out _ HB.out).mono ?_); rintro e w2 ⟨rfl, B2⟩; have c0 := B2.1; have c1 := B2.2.1; have c2 := B2.2.2.1; replace B2 := Lib.hid B2) | (go_at_call 36; (with_reducible refine (K2.out _ B2.out).mono ?_); rintro e w3 ⟨rfl, B3⟩; have k0 := B3.1; have k1 := B3.2.1; have k2 := B3.2.2.1; replace B3 := Lib.hid B3) | (go_at_call 36; (with_reducible refine (K3.out _ B3.out).mono ?_); rintro e w4 ⟨rfl, B4⟩; have j0 := B4.1; have j1 := B4.2.1; have j2 := B4.2.2.1; replace B4 := Lib.hid B4))
  have H4 := Lib.hid B4.out.2.2.2
  go_wp2
  go_returns
  rw [HX.out]
  exact ⟨rfl, H4.out⟩

theorem refPrint_no (n : Int) (w : World) (hd : Hid (dayB n = false)) :
    Calls Tryd.prog 24 #[.int .i64 n] w fun e w' => e = .returned (.tuple #[.string ⟨#[]⟩, .int .i64 2]) ∧ Below w.heap.size w w' := by
  go_enter Tryd.func24, Tryd.ntmps24
  go_wp2_with fail
  refine (refIsDay_any _ _).mono ?_; rw [hd.out]; rintro e w' ⟨rfl, hw⟩; subst hw
  go_wp2
  go_returns
  exact ⟨rfl, Below.refl _ _⟩

theorem refPrint_any (n : Int) (w : World) :
    Calls Tryd.prog 24 #[.int .i64 n] w fun e w' => e = .returned (.tuple #[str (prV n), .int .i64 (dE n)]) ∧ Below w.heap.size w w' := by
  unfold prV dE
  cases h : dayB n with
  | false =>
    simp only [Bool.false_eq_true, if_false]
    exact refPrint_no n w h
  | true =>
    obtain ⟨n0, n1⟩ := (dayB_iff n).1 h
    obtain ⟨hv, hn⟩ := dt_spec n n0
    have HD := Lib.hid (fun W => refOf_yes n _ _ _ W n0 n1 hv hn)
    obtain ⟨m0, m1, d0, d1⟩ := hv
    have hl := ml_bd (yr n) (mo n)
    have y0 := yr_ge n n0
    have y1 := yr_le n n0 n1
    simp only [if_true]
    exact refPrint_yes n _ _ _ _ _ _ _ w h HD (fun W => refDigits_four (yr n) W (by omega) (by omega)) (fun W => refDigits_two (mo n) W (by omega) (by omega)) (fun W => refDigits_two (da n) W (by omega) (by omega)) (txt_mk _ _ _) (str_size _) (str_size _) (str_size _)
end Go.Proofs.YtdhckbjebccdbabDoor
