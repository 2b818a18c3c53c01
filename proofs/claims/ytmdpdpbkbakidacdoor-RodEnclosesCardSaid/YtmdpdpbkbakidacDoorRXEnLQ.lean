/-
  The statement RodEncloses of spile/spilelaw14 holds: for every input the call returns true, and each argument reads afterwards as it read before. (The listed package variables hold what the program lays: the card ties them.)
-/
import Derived.Test.YtmdpdpbkbakidacDoorM1
import Derived.Test.YtmdpdpbkbakidacDoorM2
import Derived.Test.YtmdpdpbkbakidacDoorCards
import Derived.Test.YtmdpdpbkbakidacDoorTie
import Derived.Below
import Derived.Carry
import Derived.Lib.LaidTab
import Derived.Deep.DeepHandedRow
import Derived.SevenTiedPlain
import Derived.Lay
set_option linter.unusedVariables false
set_option linter.unusedSimpArgs false
namespace Go.Proofs.YtmdpdpbkbakidacDoor.rodEncloses
open Go.ChangeShapes Go.WideShapes Go.ChangeAt Go.RowKit
open Go.ChangeMaps (open_string shut_string)
set_option linter.unusedVariables false

set_option maxHeartbeats 32000000 in
set_option maxRecDepth 100000 in
theorem core (st x tol E Q E2 A B E3 X1 : Int) (a : Option Addr) (n cap : Nat) (t l : List (Int × Int)) (w : World) (B1 : Bool) (hn : n = t.length) (hw : Hid (CV w)) (hP : Hid (Pts w (.slice a n cap) t)) (hs : Hid (B1 = true → t.length ≤ 1000)) (hl1 : Hid (l.length ≤ 1000))
    (hE : ((E == 0) = false ∧ (E != 0) = true ∧ Hid (l = [])) ∨ (E = 0 ∧ Hid (1 ≤ l.length ∧ gX l (l.length - 1) = X1) ∧ (((E2 == 0) = false ∧ (E2 != 0) = true ∧ Q = 0) ∨ (E2 = 0 ∧ ((E3 = 2 ∧ decide (X1 < x) = true ∧ A = 0 ∧ B = 0) ∨ (E3 = 0 ∧ decide (A ≤ Q) = true ∧ (decide (Q ≤ B) = true ∨ (decide (Q ≤ B) = false ∧ (x == X1) = true))))))))
    (HF : Hid (∀ v W, TbV W v t tol → Calls Tryd.prog 11 #[.slice none 0 0, v] W fun e w' => e = .returned (.bool B1) ∧ Below W.heap.size W w'))
    (HM : Hid (∀ v W, TbV W v t tol → Calls Tryd.prog 12 #[v, .int .i64 st] W fun e w' => ∃ u, e = .returned (.tuple #[u, .int .i64 E]) ∧ Pts w' u l ∧ Below W.heap.size W w'))
    (HR : Hid (∀ v W, TbV W v t tol → Calls Tryd.prog 27 #[v, .int .i64 x] W fun e w' => e = .returned (.tuple #[.int .i64 Q, .int .i64 E2]) ∧ Below W.heap.size W w'))
    (HG : Hid (∀ v W, Pts W v l → Calls Tryd.prog 16 #[v, .int .i64 x] W fun e w' => e = .returned (.tuple #[.agg #[.int .i64 A, .int .i64 B], .int .i64 E3]) ∧ Below W.heap.size W w')) :
    Calls Tryd.prog 7 #[.agg #[.slice a n cap, .int .i64 tol], .int .i64 st, .int .i64 x] w fun e w' => e = .returned (.bool true) ∧ Below w.heap.size w w' := by
  subst hn
  have Q1 : ∀ (p q : Int) W, (binOp .eql 34 (.agg #[.int .i64 p, .int .i64 q]) (.agg #[.int .i64 p, .int .i64 q])).run Tryd.prog W = .ok (.bool true) W := fun p q W => by rw [run_eql_bounds, show samB p q p q = true by simp [samB]]
  have T0 := Lib.hid (Two.new w (.slice a t.length cap) (.int .i64 tol) 24)
  have HB : Hid (Below w.heap.size w (w.alloc (.cells #[.slice a t.length cap, .int .i64 tol] 24))) := Lib.hid (bel_alloc (Below.refl _ _))
  have HV : Hid (∀ W, Below w.heap.size w W → TbV W (.agg #[.slice a t.length cap, .int .i64 tol]) t tol) := Lib.hid fun W hW => ⟨a, cap, rfl, hP.out.below hW⟩
  have HA : Hid (∀ W, Below w.heap.size w W → _) := Lib.hid fun W hW => awake_any W (hw.out.below hW)
  generalize hN : t.length = n at *
  replace hN := Lib.hid hN
  go_enter Tryd.func7, Tryd.ntmps7
  go_wp2_with fail
  refine (HA.out _ HB.out).mono ?_
  rintro e w1 ⟨rfl, h1⟩
  replace T0 := Lib.hid (T0.out.below h1)
  replace HB := Lib.hid (bel_trans HB.out h1); clear h1
  obtain ⟨t0, t1, _, _, _⟩ := T0.out
  go_wp2_with fail
  refine (HF.out _ _ (HV.out _ HB.out)).mono ?_
  rintro e w2 ⟨rfl, h1⟩
  replace T0 := Lib.hid (T0.out.below h1)
  replace HB := Lib.hid (bel_trans HB.out h1); clear h1 t0 t1
  cases B1 with
  | false =>
    go_wp2
    go_returns
    exact ⟨rfl, HB.out⟩
  | true =>
    have HC := Lib.hid (fun v W (h : TbV W v t tol) => copy_any v t tol W h (by rw [hN.out]; exact hs.out rfl))
    obtain ⟨t0, t1, _, _, _⟩ := T0.out
    go_wp2_with fail
    refine (HC.out _ _ (HV.out _ HB.out)).mono ?_
    rintro e w3 ⟨V3, rfl, hx, h1⟩
    replace T0 := Lib.hid (T0.out.below h1)
    replace HB := Lib.hid (bel_trans HB.out h1); clear h1 t0 t1
    have N3 := Lib.hid hx; clear hx
    go_wp2_with fail
    refine (HM.out _ _ N3.out).mono ?_
    rintro e w4 ⟨V4, rfl, hx, h1⟩
    replace T0 := Lib.hid (T0.out.below h1)
    replace HB := Lib.hid (bel_trans HB.out h1); clear h1 N3
    have NL := Lib.hid hx
    obtain ⟨a4, cap4, rfl, _, _⟩ := hx
    rcases hE with ⟨e1, e2, hl⟩ | ⟨rfl, hL, hE⟩
    · have hl0 : l.length = 0 := by rw [hl.out]; rfl
      rw [hl0]
      go_wp2
      go_returns
      exact ⟨rfl, HB.out⟩
    · obtain ⟨m, hm⟩ : ∃ m, l.length = m + 1 := ⟨l.length - 1, by have := hL.out.1; omega⟩
      have m1 : m ≤ 1000 := by have := hl1.out; omega
      obtain ⟨b4, off4, ea, hb4, hc4⟩ := NL.out.at (by omega)
      subst ea
      have cX : w4.cell? ⟨b4, off4 + m * 2, none⟩ = some (.int .i64 X1) := by
        have := (hc4 m (by omega)).1
        have e := hL.out.2
        rw [hm, Nat.add_sub_cancel] at e
        rwa [e] at this
      have CX : Hid (∀ W, Below w4.heap.size w4 W → W.cell? ⟨b4, off4 + m * 2, none⟩ = some (.int .i64 X1)) := Lib.hid fun W hW => cell_bel cX hW
      have NV : Hid (∀ W, Below w4.heap.size w4 W → Pts W (.slice (some ⟨b4, off4, none⟩) (m + 1) cap4) l) := Lib.hid fun W hW => by
        have := NL.out.below hW
        rwa [hm] at this
      have HK := Lib.hid (fun v W (h : Pts W v l) => cloneM_any v l W h hl1.out)
      clear hc4 cX
      rw [hm]
      have wk1 : IntKind.i64.wrap ((m : Int) + 1 - 1) = (m : Int) := by rw [wrap_in _ ⟨by omega, by omega⟩]; omega
      have wk2 : IntKind.i64.wrap (m : Int) = (m : Int) := wrap_in _ ⟨by omega, by omega⟩
      have lk : (m : Int) < (m : Int) + 1 := by omega
      have lz : (((m : Int) + 1) == 0) = false := by simp; omega
      have BW : Hid (Below w4.heap.size w4 w4) := Lib.hid (Below.refl _ _)
      replace hm := Lib.hid hm
      obtain ⟨t0, t1, _, _, _⟩ := T0.out
      go_wp2_with fail
      refine (HC.out _ _ (HV.out _ HB.out)).mono ?_
      rintro e w5 ⟨V5, rfl, hx, h1⟩
      replace T0 := Lib.hid (T0.out.below h1)
      replace BW := Lib.hid (bel_trans BW.out h1)
      replace HB := Lib.hid (bel_trans HB.out h1); clear h1 t0 t1
      have N5 := Lib.hid hx; clear hx
      go_wp2_with fail
      refine (HR.out _ _ N5.out).mono ?_
      rintro e w6 ⟨rfl, h1⟩
      replace BW := Lib.hid (bel_trans BW.out h1)
      replace HB := Lib.hid (bel_trans HB.out h1); clear h1 N5
      rcases hE with ⟨e1, e2, rfl⟩ | ⟨rfl, hE⟩
      · go_wp2
        go_returns
        exact ⟨rfl, HB.out⟩
      · go_wp2_with fail
        refine (HK.out _ _ (NV.out _ BW.out)).mono ?_
        rintro e w7 ⟨V7, rfl, hx, h1⟩
        replace BW := Lib.hid (bel_trans BW.out h1)
        replace HB := Lib.hid (bel_trans HB.out h1); clear h1
        have N7 := Lib.hid hx; clear hx
        go_wp2_with fail
        refine (HG.out _ _ N7.out).mono ?_
        rintro e w8 ⟨rfl, h1⟩
        have T8 := Lib.hid (Two.new w8 (.int .i64 A) (.int .i64 B) 34)
        have BW8 := Lib.hid (bel_trans (bel_trans BW.out h1) (bel_alloc (o := .cells #[.int .i64 A, .int .i64 B] 34) (Below.refl _ _)))
        have HB8 := Lib.hid (bel_trans (bel_trans HB.out h1) (bel_alloc (o := .cells #[.int .i64 A, .int .i64 B] 34) (Below.refl _ _))); clear h1 N7
        have cX := CX.out _ BW8.out
        obtain ⟨u0, u1, _, _, _⟩ := T8.out
        rcases hE with ⟨rfl, g1, rfl, rfl⟩ | ⟨rfl, g1, g2 | ⟨g2, g3⟩⟩
        · go_wp2
          go_returns
          exact ⟨rfl, HB8.out⟩
        · go_wp2
          go_returns
          exact ⟨rfl, HB8.out⟩
        · go_wp2
          go_returns
          exact ⟨rfl, HB8.out⟩
noncomputable def laidWorld (os : Os) : World := World.laidAll Tryd.prog os Rows.rodEnclosesRow.laid
theorem laid_met (os : Os) : laidMet Tryd.prog Rows.rodEnclosesRow.laid ((laidWorld os).forCall (fun _ _ => 0) ⟨#[], #[.agg #[.slice none 0 0, .int .i64 0], .int .i64 0, .int .i64 0], []⟩).memory :=
  laidMet_laidAll _ (by kernel_rfl) (by kernel_rfl)
theorem reads (os : Os) {H : Type} (enc : TypeId × Value → H) : ∃ places, DataW.whole enc Tryd.prog ((laidWorld os).forCall (fun _ _ => 0) ⟨#[], #[.agg #[.slice none 0 0, .int .i64 0], .int .i64 0, .int .i64 0], []⟩).memory Tryd.f7.params.toList Rows.rodEnclosesSpec.vars false (#[.agg #[.slice none 0 0, .int .i64 0], .int .i64 0, .int .i64 0] : Array Value).toList 8 = some ([.agg [.nil, .lit (.int .i64 0)], .lit (.int .i64 0), .lit (.int .i64 0)], [], places) :=
  ⟨[], by kernel_rfl⟩

theorem plain (f : FuncId) (fn : Func) (hf : Tryd.pinned.checked.prog.funcNamed "spile/spilelaw14.RodEncloses" = some f) (hfn : Tryd.pinned.checked.prog.funcs[f]? = some fn) :
    false = Tryd.pinned.checked.prog.looks [] ∧ ∀ (j : Nat) t, fn.params[j]? = some t → Tryd.pinned.checked.prog.wantsStandIn t = false := by
  obtain rfl : f = 7 := Option.some.inj ((show Tryd.prog.funcNamed "spile/spilelaw14.RodEncloses" = some 7 by kernel_rfl).symm.trans hf) |>.symm
  obtain rfl : fn = Tryd.f7 := (Option.some.inj (Tryd.func7.symm.trans hfn)).symm
  refine ⟨by kernel_rfl, fun j t ht => ?_⟩
  rw [Tryd.params7] at ht
  rcases j with _ | _ | _ | j
  · obtain rfl : t = 24 := by simpa using ht.symm
    exact (show Tryd.prog.wantsStandIn 24 = false by kernel_rfl)
  · obtain rfl : t = 3 := by simpa using ht.symm
    exact (show Tryd.prog.wantsStandIn 3 = false by kernel_rfl)
  · obtain rfl : t = 3 := by simpa using ht.symm
    exact (show Tryd.prog.wantsStandIn 3 = false by kernel_rfl)
  · simp at ht

end Go.Proofs.YtmdpdpbkbakidacDoor.rodEncloses

