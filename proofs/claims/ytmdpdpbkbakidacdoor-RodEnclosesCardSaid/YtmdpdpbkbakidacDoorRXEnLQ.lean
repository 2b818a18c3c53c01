/-
  The statement RodEncloses of spile/spilelaw14 holds: for every input the call returns true, and each argument reads afterwards as it read before. (The listed package variables hold what the program lays: the card ties them.)
-/
import Derived.Test.YtmdpdpbkbakidacDoorM1
import Derived.Test.YtmdpdpbkbakidacDoorM2
import Derived.Test.YtmdpdpbkbakidacDoorCards
import Derived.Test.YtmdpdpbkbakidacDoorTie
import Derived.Below
import Derived.Carry
import Derived.Lib.LaidTab
import Derived.Deep.DeepHandedRow
import Derived.SevenTiedPlain
import Derived.Lay
set_option linter.unusedVariables false
set_option linter.unusedSimpArgs false
namespace Go.Proofs.YtmdpdpbkbakidacDoor.rodEncloses
open Go.ChangeShapes Go.WideShapes Go.ChangeAt Go.RowKit
open Go.ChangeMaps (open_string shut_string)
set_option linter.unusedVariables false

set_option maxHeartbeats 32000000 in
set_option maxRecDepth 100000 in
theorem core (st x tol E Q E2 A B E3 X1 : Int) (a : Option Addr) (n cap : Nat) (t l : List (Int × Int)) (w : World) (B1 : Bool) (hn : n = t.length) (hw : Hid (CV w)) (hP : Hid (Pts w (.slice a n cap) t)) (hs : Hid (B1 = true → t.length ≤ 1000)) (hl1 : Hid (l.length ≤ 1000))
    (hE : ((E == 0) = false ∧ (E != 0) = true ∧ Hid (l = [])) ∨ (E = 0 ∧ Hid (1 ≤ l.length ∧ gX l (l.length - 1) = X1) ∧ (((E2 == 0) = false ∧ (E2 != 0) = true ∧ Q = 0) ∨ (E2 = 0 ∧ ((E3 = 2 ∧ decide (X1 < x) = true ∧ A = 0 ∧ B = 0) ∨ (E3 = 0 ∧ decide (A ≤ Q) = true ∧ (decide (Q ≤ B) = true ∨ (decide (Q ≤ B) = false ∧ (x == X1) = true))))))))
    (HF : Hid (∀ v W, TbV W v t tol → Calls Tryd.prog 11 #[.slice none 0 0, v] W fun e w' => e = .returned (.bool B1) ∧ Below W.heap.size W w'))
    (HM : Hid (∀ v W, TbV W v t tol → Calls Tryd.prog 12 #[v, .int .i64 st] W fun e w' => ∃ u, e = .returned (.tuple #[u, .int .i64 E]) ∧ Pts w' u l ∧ Below W.heap.size W w'))
    (HR : Hid (∀ v W, TbV W v t tol → Calls Tryd.prog 27 #[v, .int .i64 x] W fun e w' => e = .returned (.tuple #[.int .i64 Q, .int .i64 E2]) ∧ Below W.heap.size W w'))
    (HG : Hid (∀ v W, Pts W v l → Calls Tryd.prog 16 #[v, .int .i64 x] W fun e w' => e = .returned (.tuple #[.agg #[.int .i64 A, .int .i64 B], .int .i64 E3]) ∧ Below W.heap.size W w')) :
    Calls Tryd.prog 7 #[.agg #[.slice a n cap, .int .i64 tol], .int .i64 st, .int .i64 x] w fun e w' => e = .returned (.bool true) ∧ Below w.heap.size w w' := by
  subst hn
  have Q1 : ∀ (p q : Int) W, (binOp .eql 34 (.agg #[.int .i64 p, .int .i64 q]) (.agg #[.int .i64 p, .int .i64 q])).run Tryd.prog W = .ok (.bool true) W := fun p q W => by rw [run_eql_bounds, show samB p q p q = true by simp [samB]]
  have T0 := Lib.hid (Two.new w (.slice a t.length cap) (.int .i64 tol) 24)
  have HB : Hid (Below w.heap.size w (w.alloc (.cells #[.slice a t.length cap, .int .i64 tol] 24))) := Lib.hid (bel_alloc (Below.refl _ _))
  have HV : Hid (∀ W, Below w.heap.size w W → TbV W (.agg #[.slice a t.length cap, .int .i64 tol]) t tol) := Lib.hid fun W hW => ⟨a, cap, rfl, hP.out.below hW⟩
  have HA : Hid (∀ W, Below w.heap.size w W → _) := Lib.hid fun W hW => awake_any W (hw.out.below hW)
  generalize hN : t.length = n at *
  replace hN := Lib.hid hN
  go_enter Tryd.func7, Tryd.ntmps7
  go_wp2_with fail
  refine (HA.out _ HB.out).mono ?_
  rintro e w1 ⟨rfl, h1⟩
  replace T0 := Lib.hid (T0.out.below h1)
  replace HB := Lib.hid (bel_trans HB.out h1); clear h1
  obtain ⟨t0, t1, _, _, _⟩ := T0.out
  go_wp2_with fail
  refine (HF.out _ _ (HV.out _ HB.out)).mono ?_
  rintro e w2 ⟨rfl, h1⟩
  replace T0 := Lib.hid (T0.out.below h1)
  replace HB := Lib.hid (bel_trans HB.out h1); clear h1 t0 t1
  cases B1 with
  | false =>
    go_wp2
    go_returns
    exact ⟨rfl, HB.out⟩
  | true =>
    have HC := Lib.hid (fun v W (h : TbV W v t tol) => copy_any v t tol W h (by rw [hN.out]; exact hs.out rfl))
    obtain ⟨t0, t1, _, _, _⟩ := T0.out
    go_wp2_with fail
    refine (HC.out _ _ (HV.out _ HB.out)).mono ?_
    rintro e w3 ⟨V3, rfl, hx, h1⟩
    replace T0 := Lib.hid (T0.out.below h1)
    replace HB := Lib.hid (bel_trans HB.out h1); clear h1 t0 t1
    have N3 := Lib.hid hx; clear hx
    go_wp2_with fail
    refine (HM.out _ _ N3.out).mono ?_
    rintro e w4 ⟨V4, rfl, hx, h1⟩
    replace T0 := Lib.hid (T0.out.below h1)
    replace HB := Lib.hid (bel_trans HB.out h1); clear h1 N3
    have NL := Lib.hid hx
    obtain ⟨a4, cap4, rfl, _, _⟩ := hx
    rcases hE with ⟨e1, e2, hl⟩ | ⟨rfl, hL, hE⟩
    · have hl0 : l.length = 0 := by rw [hl.out]; rfl
      rw [hl0]
      go_wp2
      go_returns
      exact ⟨rfl, HB.out⟩
    · obtain ⟨m, hm⟩ : ∃ m, l.length = m + 1 := ⟨l.length - 1, by have := hL.out.1; omega⟩
      have m1 : m ≤ 1000 := by have := hl1.out; omega
      obtain ⟨b4, off4, ea, hb4, hc4⟩ := NL.out.at (by omega)
      subst ea
      have cX : w4.cell? ⟨b4, off4 + m * 2, none⟩ = some (.int .i64 X1) := by
        have := (hc4 m (by omega)).1
        have e := hL.out.2
        rw [hm, Nat.add_sub_cancel] at e
        rwa [e] at this
      have CX : Hid (∀ W, Below w4.heap.size w4 W → W.cell? ⟨b4, off4 + m * 2, none⟩ = some (.int .i64 X1)) := Lib.hid fun W hW => cell_bel cX hW
      have NV : Hid (∀ W, Below w4.heap.size w4 W → Pts W (.slice (some ⟨b4, off4, none⟩) (m + 1) cap4) l) := Lib.hid fun W hW => by
        have := NL.out.below hW
        rwa [hm] at this
      have HK := Lib.hid (fun v W (h : Pts W v l) => cloneM_any v l W h hl1.out)
      clear hc4 cX
      rw [hm]
      have wk1 : IntKind.i64.wrap ((m : Int) + 1 - 1) = (m : Int) := by rw [wrap_in _ ⟨by omega, by omega⟩]; omega
      have wk2 : IntKind.i64.wrap (m : Int) = (m : Int) := wrap_in _ ⟨by omega, by omega⟩
      have lk : (m : Int) < (m : Int) + 1 := by omega
      have lz : (((m : Int) + 1) == 0) = false := by simp; omega
      have BW : Hid (Below w4.heap.size w4 w4) := Lib.hid (Below.refl _ _)
      replace hm := Lib.hid hm
      obtain ⟨t0, t1, _, _, _⟩ := T0.out
      go_wp2_with fail
      refine (HC.out _ _ (HV.out _ HB.out)).mono ?_
      rintro e w5 ⟨V5, rfl, hx, h1⟩
      replace T0 := Lib.hid (T0.out.below h1)
      replace BW := Lib.hid (bel_trans BW.out h1)
      replace HB := Lib.hid (bel_trans HB.out h1); clear h1 t0 t1
      have N5 := Lib.hid hx; clear hx
      go_wp2_with fail
      refine (HR.out _ _ N5.out).mono ?_
      rintro e w6 ⟨rfl, h1⟩
      replace BW := Lib.hid (bel_trans BW.out h1)
      replace HB := Lib.hid (bel_trans HB.out h1); clear h1 N5
      rcases hE with ⟨e1, e2, rfl⟩ | ⟨rfl, hE⟩
      · go_wp2
        go_returns
        exact ⟨rfl, HB.out⟩
      · go_wp2_with fail
        refine (HK.out _ _ (NV.out _ BW.out)).mono ?_
        rintro e w7 ⟨V7, rfl, hx, h1⟩
        replace BW := Lib.hid (bel_trans BW.out h1)
        replace HB := Lib.hid (bel_trans HB.out h1); clear h1
        have N7 := Lib.hid hx; clear hx
        go_wp2_with fail
        refine (HG.out _ _ N7.out).mono ?_
        rintro e w8 ⟨rfl, h1⟩
        have T8 := Lib.hid (Two.new w8 (.int .i64 A) (.int .i64 B) 34)
        have BW8 := Lib.hid (bel_trans (bel_trans BW.out h1) (bel_alloc (o := .cells #[.int .i64 A, .int .i64 B] 34) (Below.refl _ _)))
        have HB8 := Lib.hid (bel_trans (bel_trans HB.out h1) (bel_alloc (o := .cells #[.int .i64 A, .int .i64 B] 34) (Below.refl _ _))); clear h1 N7
        have cX := CX.out _ BW8.out
        obtain ⟨u0, u1, _, _, _⟩ := T8.out
        rcases hE with ⟨rfl, g1, rfl, rfl⟩ | ⟨rfl, g1, g2 | ⟨g2, g3⟩⟩
        · go_wp2
          go_returns
          exact ⟨rfl, HB8.out⟩
        · go_wp2
          go_returns
          exact ⟨rfl, HB8.out⟩
        · go_wp2
          go_returns
          exact ⟨rfl, HB8.out⟩
theorem few14_any (v : Value) (l : List (Int × Int)) (tol : Int) (w : World) (hv : TbV w v l tol) :
    Calls Tryd.prog 11 #[.slice none 0 0, v] w fun e w' => e = .returned (.bool (decide (l.length ≤ 129))) ∧ Below w.heap.size w w' := by
  have H : Hid (∀ W, Below w.heap.size w W → _) := Lib.hid fun W hW => few13_any v l tol W (hv.below hW)
  obtain ⟨a, cap, rfl, _⟩ := hv
  generalize decide (l.length ≤ 129) = B at *
  go_enter Tryd.func11, Tryd.ntmps11
  go_wp2_with fail
  refine (H.out _ (bel_alloc (Below.refl _ _))).mono ?_
  rintro e w1 ⟨rfl, gg⟩
  have X1 := Lib.hid (bel_alloc gg); clear gg
  go_wp2
  go_returns
  exact ⟨rfl, X1.out⟩
theorem walk (z : Value) (tt : List (Int × Int) × Int) (st x : Int) (w : World) (hz : TbV w z tt.1 tt.2) (hcv : CV w) :
    Calls Tryd.prog 7 #[z, .int .i64 st, .int .i64 x] w fun e w' => e = .returned (.bool true) ∧ Below w.heap.size w w' := by
  obtain ⟨t, tol⟩ := tt
  obtain ⟨a, cap, rfl, hp⟩ := hz
  have hl : (rmL t tol st).length ≤ 1000 := by
    unfold rmL
    by_cases g : rmE t tol st = 0
    · rw [if_pos g, rdS_len]; have := (rmE_zero.1 g).2.2.2; omega
    · rw [if_neg g]; simp
  refine core st x tol (rmE t tol st) (rdQ t tol x) (rdE t tol x) (rgL (rmL t tol st) x) (rgH (rmL t tol st) x) (rgE (rmL t tol st) x) (gX (rmL t tol st) ((rmL t tol st).length - 1)) a _ cap t (rmL t tol st) w (decide (t.length ≤ 129)) rfl (Lib.hid hcv) (Lib.hid hp) (Lib.hid fun h => by have := of_decide_eq_true h; omega) (Lib.hid hl) ?_ (Lib.hid fun v W h => few14_any v t tol W h) (Lib.hid fun v W h => mk_any v t tol st W h) (Lib.hid fun v W h => dipRead_any v t tol x W h) (Lib.hid fun v W h => rodRg_any v _ x W h)
  by_cases e : rmE t tol st = 0
  · right
    by_cases e2 : rdE t tol x = 0
    · obtain ⟨h0, h1⟩ := rd_read e e2
      refine ⟨e, Lib.hid ⟨h0, rfl⟩, .inr ⟨e2, ?_⟩⟩
      rcases h1 with ⟨g1, g2⟩ | ⟨g1, g2, g3⟩
      · left
        exact ⟨g1, decide_eq_true g2, by unfold rgL; rw [if_pos (by omega)], by unfold rgH; rw [if_pos (by omega)]⟩
      · right
        refine ⟨g1, decide_eq_true g2, ?_⟩
        rcases Int.lt_or_le (rgH (rmL t tol st) x) (rdQ t tol x) with q | q
        · right
          exact ⟨decide_eq_false (by omega), by simp; omega⟩
        · left; exact decide_eq_true q
    · refine ⟨e, Lib.hid ⟨?_, rfl⟩, .inl ⟨by simpa using e2, by simpa using e2, by unfold rdQ; rw [if_neg e2]⟩⟩
      unfold rmL
      rw [if_pos e, rdS_len]
      have := (rmE_zero.1 e).2.2.1; omega
  · left
    exact ⟨by simpa using e, by simpa using e, Lib.hid (by unfold rmL; rw [if_neg e])⟩

set_option maxRecDepth 100000 in
theorem contract (H : Type) (enc : TypeId × Value → H) (W : World) (base : Nat) (args : Array Value) (ds gs : List (DataW H)) (before : List MemPlace)
    (hval : ∀ (j : Nat) t v, Tryd.f7.params[j]? = some t → args[j]? = some v → Value.okWide Tryd.prog W .any base t v)
    (hW : DataW.Whole enc Tryd.prog Tryd.f7.params.toList Rows.rodEnclosesSpec.vars false W args.toList ds gs before) (hL : laidMetH Tryd.prog Rows.rodEnclosesRow.laid W) (hSh : W.ShapedOpen Tryd.prog) :
    Calls Tryd.prog 7 args W fun e W' => ∃ v, e = .returned v ∧ Rows.rodEnclosesSpec.post enc Tryd.prog Tryd.f7 false true false false W args v W' := by
  have hW' := hW
  obtain ⟨p, q, hA0, hV, rfl, hfz, hnd⟩ := hW
  have hA : DataW.TrodAll enc Tryd.prog W 0 (fun _ => true) true Tryd.f7.params.toList args.toList ds p := hA0
  rw [Tryd.params7] at hA hval
  obtain ⟨v0, vs0, d0, ds0, p0, q0, hargs, rfl, rfl, h0, r0⟩ := trodAll_cons hA
  obtain ⟨v1, vs1, d1, ds1, p1, q1, rfl, rfl, rfl, h1, r1⟩ := trodAll_cons r0
  obtain ⟨v2, vs2, d2, ds2, p2, q2, rfl, rfl, rfl, h2, r2⟩ := trodAll_cons r1
  obtain ⟨rfl, rfl, rfl⟩ := trodAll_nil r2
  obtain rfl : args = #[v0, v1, v2] := by cases args; simp_all
  obtain ⟨rfl, rfl⟩ := trodVars_none hV
  have k0 := h0
  have lt0 : ∀ x ∈ p0, x.block < W.heap.size := by obtain ⟨m, hm⟩ := k0; exact DataW.trod_lt m _ _ _ hm
  have k1 := h1
  have lt1 : ∀ x ∈ p1, x.block < W.heap.size := by obtain ⟨m, hm⟩ := k1; exact DataW.trod_lt m _ _ _ hm
  have k2 := h2
  have lt2 : ∀ x ∈ p2, x.block < W.heap.size := by obtain ⟨m, hm⟩ := k2; exact DataW.trod_lt m _ _ _ hm
  obtain ⟨z0, w0, wt0⟩ := open_tbl (hval 0 24 v0 rfl rfl) h0
  obtain ⟨a1, rfl, rfl, rfl, w1⟩ := open_int Tryd.underlying3 (hval 1 3 v1 rfl rfl) h1
  obtain ⟨a2, rfl, rfl, rfl, w2⟩ := open_int Tryd.underlying3 (hval 2 3 v2 rfl rfl) h2
  clear hA0
  refine (walk v0 z0 a1 a2 W w0   (laid_of rfl hL hSh)).mono fun e W' ⟨he, bel⟩ => ?_
  subst he
  exact ⟨_, rfl, _, _, _, [], _, [], hW', trodAll_mk1 (shut_bool Tryd.underlying4 _), (trodAll_cons_mk (Below.trod laidOut (by kernel_rfl) (of_decide_eq_true (by kernel_rfl)) k0 bel lt0) (trodAll_cons_mk (Below.trod laidOut (by kernel_rfl) (of_decide_eq_true (by kernel_rfl)) k1 bel lt1) (trodAll_cons_mk (Below.trod laidOut (by kernel_rfl) (of_decide_eq_true (by kernel_rfl)) k2 bel lt2) trodAll_mk0))), rfl, bel.frame _, fun h => by cases h⟩

noncomputable def laidWorld (os : Os) : World := World.laidAll Tryd.prog os Rows.rodEnclosesRow.laid
theorem laid_met (os : Os) : laidMet Tryd.prog Rows.rodEnclosesRow.laid ((laidWorld os).forCall (fun _ _ => 0) ⟨#[], #[.agg #[.slice none 0 0, .int .i64 0], .int .i64 0, .int .i64 0], []⟩).memory :=
  laidMet_laidAll _ (by kernel_rfl) (by kernel_rfl)
theorem reads (os : Os) {H : Type} (enc : TypeId × Value → H) : ∃ places, DataW.whole enc Tryd.prog ((laidWorld os).forCall (fun _ _ => 0) ⟨#[], #[.agg #[.slice none 0 0, .int .i64 0], .int .i64 0, .int .i64 0], []⟩).memory Tryd.f7.params.toList Rows.rodEnclosesSpec.vars false (#[.agg #[.slice none 0 0, .int .i64 0], .int .i64 0, .int .i64 0] : Array Value).toList 8 = some ([.agg [.nil, .lit (.int .i64 0)], .lit (.int .i64 0), .lit (.int .i64 0)], [], places) :=
  ⟨[], by kernel_rfl⟩

set_option maxRecDepth 100000 in
theorem lifted (os : Os) (started : os.Started) (H : Type) (enc : TypeId × Value → H) (F : Stop.Interp) :
    ReturnsInHanded {} Tryd.checked os 7 .any ((OpenSpec.ofChange Rows.rodEnclosesSpec).preRow enc Tryd.prog Tryd.f7 Rows.rodEnclosesRow.domain false Rows.rodEnclosesRow.laid) (((OpenSpec.ofChange Rows.rodEnclosesSpec).at F).post enc Tryd.prog Tryd.f7 false true false false) := by
  obtain ⟨places, hx⟩ := reads os enc
  refine returnsInHanded_of_row (C := Tryd.checked) (s := OpenSpec.ofChange Rows.rodEnclosesSpec) own started (by kernel_rfl) Tryd.func7
    (witness_row_at (enc := enc) (C := Tryd.checked) false (laidWorld os) #[.agg #[.slice none 0 0, .int .i64 0], .int .i64 0, .int .i64 0] (World.laidAll_os _ _ _) (by kernel_rfl) (by kernel_rfl) (by kernel_rfl)
      (OpenSpec.preRow_of_cond 8 hx (by kernel_rfl) (fun k hk => by cases hk) (by kernel_rfl) (laid_met os))) ?_
  intro W base args ds gs before hval hW _ _ _ hL hSh _
  exact contract H enc W base args ds gs before hval hW hL hSh

theorem said : Rows.RodEnclosesSaid :=
  OpenClaim.holds_of_cond 7 Tryd.f7 rfl rfl rfl rfl rfl rfl rfl ⟨rfl, rfl, rfl, rfl, rfl⟩ rfl rfl rfl rfl rfl (by kernel_rfl) Tryd.func7 (by kernel_rfl)
    (of_decide_eq_true (by kernel_rfl)) (by unfold Func.isWrapper; first | (rw [if_pos (by decide +kernel)]; kernel_rfl) | (rw [if_neg (by decide +kernel)]; exact ⟨rfl, rfl⟩))
    (fun os started H enc _ F => by rw [OpenClaim.pre_eq_preRow]; exact lifted os started H enc F)

theorem plain (f : FuncId) (fn : Func) (hf : Tryd.pinned.checked.prog.funcNamed "spile/spilelaw14.RodEncloses" = some f) (hfn : Tryd.pinned.checked.prog.funcs[f]? = some fn) :
    false = Tryd.pinned.checked.prog.looks [] ∧ ∀ (j : Nat) t, fn.params[j]? = some t → Tryd.pinned.checked.prog.wantsStandIn t = false := by
  obtain rfl : f = 7 := Option.some.inj ((show Tryd.prog.funcNamed "spile/spilelaw14.RodEncloses" = some 7 by kernel_rfl).symm.trans hf) |>.symm
  obtain rfl : fn = Tryd.f7 := (Option.some.inj (Tryd.func7.symm.trans hfn)).symm
  refine ⟨by kernel_rfl, fun j t ht => ?_⟩
  rw [Tryd.params7] at ht
  rcases j with _ | _ | _ | j
  · obtain rfl : t = 24 := by simpa using ht.symm
    exact (show Tryd.prog.wantsStandIn 24 = false by kernel_rfl)
  · obtain rfl : t = 3 := by simpa using ht.symm
    exact (show Tryd.prog.wantsStandIn 3 = false by kernel_rfl)
  · obtain rfl : t = 3 := by simpa using ht.symm
    exact (show Tryd.prog.wantsStandIn 3 = false by kernel_rfl)
  · simp at ht

theorem proved : Rows.RodEnclosesCardSaid :=
  Claim7.holds_tied_plain_at .later [] _ _ _ _ said (fun _ h => by cases h) (by kernel_rfl) (fun _ h => by cases h) rodEncloses_row_tie rfl ⟨rfl, rfl⟩ (by kernel_rfl) rfl plain (by kernel_rfl)
#print axioms proved
end Go.Proofs.YtmdpdpbkbakidacDoor.rodEncloses
