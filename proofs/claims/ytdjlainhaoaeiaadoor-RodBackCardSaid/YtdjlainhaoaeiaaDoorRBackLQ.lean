/-
  The statement RodBack of spile/spilelaw14 holds: for every input the call returns true, and each argument reads afterwards as it read before. (The listed package variables hold what the program lays: the card ties them.)
-/
import Derived.Test.YtdjlainhaoaeiaaDoorM2
import Derived.Test.YtdjlainhaoaeiaaDoorCards
import Derived.Test.YtdjlainhaoaeiaaDoorTie
import Derived.Below
import Derived.Carry
import Derived.Lib.LaidTab
import Derived.Deep.DeepHandedRow
import Derived.SevenTiedPlain
import Derived.Lay
set_option linter.unusedVariables false
set_option linter.unusedSimpArgs false
namespace Go.Proofs.YtdjlainhaoaeiaaDoor.rodBack
open Go.ChangeShapes Go.WideShapes Go.ChangeAt Go.RowKit
open Go.ChangeMaps (open_string shut_string)
set_option linter.unusedVariables false

set_option maxHeartbeats 32000000 in
set_option maxRecDepth 100000 in
theorem core (tx S2 : ByteArray) (E1 N1 E2 : Int) (a : Option Addr) (n cap : Nat) (l M : List (Int × Int)) (w : World) (B1 : Bool) (hn : n = l.length) (hw : Hid (CV w)) (hP : Hid (Pts w (.slice a n cap) l)) (hl : Hid (B1 = true → l.length ≤ 1000))
    (hM : E1 = 0 ∨ ((E1 == 0) = false ∧ Hid (M.length = 0)))
    (hS : E2 = 0 ∨ ((E2 == 0) = false ∧ (E2 != 0) = true ∧ S2 = ⟨#[]⟩))
    (HF : Hid (∀ v u W, Pts W v l → TbV W u [] 0 → Calls Tryd.prog 11 #[v, u] W fun e w' => e = .returned (.bool B1) ∧ Below W.heap.size W w'))
    (HP : Hid (∀ W, Below w.heap.size w W → Calls Tryd.prog 25 #[.string tx] W fun e w' => ∃ v, e = .returned (.tuple #[v, .int .i64 N1, .int .i64 E1]) ∧ Pts w' v M ∧ Below W.heap.size W w'))
    (HR : Hid (E1 = 0 → ∀ v W, Below w.heap.size w W → Pts W v M → Calls Tryd.prog 23 #[v] W fun e w' => e = .returned (.tuple #[.string tx, .int .i64 0]) ∧ Below W.heap.size W w'))
    (HR2 : Hid (∀ v W, Below w.heap.size w W → Pts W v l → Calls Tryd.prog 23 #[v] W fun e w' => e = .returned (.tuple #[.string S2, .int .i64 E2]) ∧ Below W.heap.size W w'))
    (HP2 : Hid (E2 = 0 → ∀ W, Below w.heap.size w W → Calls Tryd.prog 25 #[.string S2] W fun e w' => ∃ v, e = .returned (.tuple #[v, .int .i64 0, .int .i64 0]) ∧ Pts w' v l ∧ Below W.heap.size W w'))
    (HG : Hid (∀ v W, Pts W v l → Calls Tryd.prog 21 #[v] W fun e w' => e = .returned (.int .i64 E2) ∧ Below W.heap.size W w')) :
    Calls Tryd.prog 8 #[.slice a n cap, .string tx] w fun e w' => e = .returned (.bool true) ∧ Below w.heap.size w w' := by
  subst hn
  have HA : Hid (∀ W, Below w.heap.size w W → _) := Lib.hid fun W hW => awake_any W (hw.out.below hW)
  have HV : Hid (∀ W, Below w.heap.size w W → Pts W (.slice a l.length cap) l) := Lib.hid fun W hW => hP.out.below hW
  have HCl : Hid (B1 = true → ∀ v W, Pts W v l → _) := Lib.hid fun h v W hv => cloneM_any v l W hv (hl.out h)
  have HS : Hid (∀ u v W, Pts W u l → Pts W v l → _) := Lib.hid fun u v W h1 h2 => same14_eq u v l W h1 h2
  have HB : Hid (Below w.heap.size w w) := Lib.hid (Below.refl _ _)
  have HT : Hid (∀ W, TbV W (.agg #[.slice none 0 0, .int .i64 0]) [] 0) := Lib.hid fun W => ⟨none, 0, rfl, pts_nil _⟩
  clear hP hl hw
  generalize hN : l.length = n at *
  replace hN := Lib.hid hN
  go_enter Tryd.func8, Tryd.ntmps8
  go_wp2_with fail
  refine (HA.out _ HB.out).mono ?_
  rintro e w1 ⟨rfl, h1⟩
  replace HB := Lib.hid (bel_trans HB.out h1); clear h1
  go_wp2_with fail
  refine (HF.out _ _ _ (HV.out _ HB.out) (HT.out _)).mono ?_
  rintro e w2 ⟨rfl, h1⟩
  replace HB := Lib.hid (bel_trans HB.out h1); clear h1
  cases B1 with
  | false =>
    go_wp2
    go_returns
    exact ⟨rfl, HB.out⟩
  | true =>
    replace HCl := Lib.hid (HCl.out rfl)
    by_cases g : (1000 : Int) < (tx.size : Int)
    · have d : decide ((1000 : Int) < (tx.size : Int)) = true := decide_eq_true g
      go_wp2
      go_returns
      exact ⟨rfl, HB.out⟩
    · have d : decide ((1000 : Int) < (tx.size : Int)) = false := decide_eq_false g
      replace g := Lib.hid g
      go_wp2_with fail
      refine (HP.out _ HB.out).mono ?_
      rintro e w3 ⟨V3, rfl, hx, h1⟩
      replace HB := Lib.hid (bel_trans HB.out h1); clear h1
      have N3 := Lib.hid hx; clear hx
      rcases hM with rfl | ⟨e1, hM⟩
      · replace HR := Lib.hid (HR.out rfl)
        go_wp2_with fail
        refine (HR.out _ _ HB.out N3.out).mono ?_
        rintro e w4 ⟨rfl, h1⟩
        replace HB := Lib.hid (bel_trans HB.out h1); clear h1
        go_wp2_with fail
        refine (HCl.out _ _ (HV.out _ HB.out)).mono ?_
        rintro e w5 ⟨V5, rfl, hx, h1⟩
        replace HB := Lib.hid (bel_trans HB.out h1); clear h1
        have N5 := Lib.hid hx; clear hx
        go_wp2_with fail
        refine (HR2.out _ _ HB.out N5.out).mono ?_
        rintro e w6 ⟨rfl, h1⟩
        replace HB := Lib.hid (bel_trans HB.out h1); clear h1
        rcases hS with rfl | ⟨e1, e2, rfl⟩
        · replace HP2 := Lib.hid (HP2.out rfl)
          go_wp2_with fail
          refine (HP2.out _ HB.out).mono ?_
          rintro e w7 ⟨V7, rfl, hx, h1⟩
          replace HB := Lib.hid (bel_trans HB.out h1); clear h1
          have N7 := Lib.hid hx; clear hx
          go_wp2_with fail
          refine (HS.out _ _ _ N7.out (HV.out _ HB.out)).mono ?_
          rintro e w8 ⟨rfl, h1⟩
          replace HB := Lib.hid (bel_trans HB.out h1); clear h1
          go_wp2
          go_returns
          exact ⟨rfl, HB.out⟩
        · go_wp2_with fail
          refine (HCl.out _ _ (HV.out _ HB.out)).mono ?_
          rintro e w7 ⟨V7, rfl, hx, h1⟩
          replace HB := Lib.hid (bel_trans HB.out h1); clear h1
          have N7 := Lib.hid hx; clear hx
          go_wp2_with fail
          refine (HG.out _ _ N7.out).mono ?_
          rintro e w8 ⟨rfl, h1⟩
          replace HB := Lib.hid (bel_trans HB.out h1); clear h1
          go_wp2
          go_returns
          exact ⟨by simp, HB.out⟩
      · obtain ⟨a3, c3, rfl, _, _⟩ := N3.out
        rw [hM.out]
        go_wp2_with fail
        refine (HCl.out _ _ (HV.out _ HB.out)).mono ?_
        rintro e w5 ⟨V5, rfl, hx, h1⟩
        replace HB := Lib.hid (bel_trans HB.out h1); clear h1
        have N5 := Lib.hid hx; clear hx
        go_wp2_with fail
        refine (HR2.out _ _ HB.out N5.out).mono ?_
        rintro e w6 ⟨rfl, h1⟩
        replace HB := Lib.hid (bel_trans HB.out h1); clear h1
        rcases hS with rfl | ⟨e1, e2, rfl⟩
        · replace HP2 := Lib.hid (HP2.out rfl)
          go_wp2_with fail
          refine (HP2.out _ HB.out).mono ?_
          rintro e w7 ⟨V7, rfl, hx, h1⟩
          replace HB := Lib.hid (bel_trans HB.out h1); clear h1
          have N7 := Lib.hid hx; clear hx
          go_wp2_with fail
          refine (HS.out _ _ _ N7.out (HV.out _ HB.out)).mono ?_
          rintro e w8 ⟨rfl, h1⟩
          replace HB := Lib.hid (bel_trans HB.out h1); clear h1
          go_wp2
          go_returns
          exact ⟨rfl, HB.out⟩
        · go_wp2_with fail
          refine (HCl.out _ _ (HV.out _ HB.out)).mono ?_
          rintro e w7 ⟨V7, rfl, hx, h1⟩
          replace HB := Lib.hid (bel_trans HB.out h1); clear h1
          have N7 := Lib.hid hx; clear hx
          go_wp2_with fail
          refine (HG.out _ _ N7.out).mono ?_
          rintro e w8 ⟨rfl, h1⟩
          replace HB := Lib.hid (bel_trans HB.out h1); clear h1
          go_wp2
          go_returns
          exact ⟨by simp, HB.out⟩
theorem walk (z : Value) (l : List (Int × Int)) (tx : ByteArray) (w : World) (hz : Pts w z l) (ht : tx.size ≤ maxLen) (hcv : CV w) :
    Calls Tryd.prog 8 #[z, .string tx] w fun e w' => e = .returned (.bool true) ∧ Below w.heap.size w w' := by
  have hz' := hz
  obtain ⟨a, cap, rfl, _⟩ := hz'
  have et : pnE tx = 0 → (⟨(rpS (pnL tx)).toArray⟩ : ByteArray) = tx := fun h => by rw [(text_back h).2]
  refine core tx ⟨(rpS l).toArray⟩ (pnE tx) (pnN tx) (roE l) a _ cap l (pnL tx) w (decide (l.length ≤ 129) && decide (([] : List (Int × Int)).length ≤ 129)) rfl (Lib.hid hcv) (Lib.hid hz) (Lib.hid fun h => ?_) ?_ ?_ (Lib.hid fun v u W h1 h2 => few14_all v u l [] 0 W h1 h2) (Lib.hid fun W hW => rodPar_any tx W (hcv.below hW)) (Lib.hid fun h v W hW hv => ?_) (Lib.hid fun v W hW hv => rodPr_any v l W (hcv.below hW) hv) (Lib.hid fun h W hW => ?_) (Lib.hid fun v W hv => rodChk_any v l W hv)
  · rw [Bool.and_eq_true] at h
    have := of_decide_eq_true h.1; omega
  · by_cases h : pnE tx = 0
    · exact .inl h
    · exact .inr ⟨by simpa using h, Lib.hid (by unfold pnL; rw [if_neg h]; rfl)⟩
  · by_cases h : roE l = 0
    · exact .inl h
    · exact .inr ⟨by simpa using h, by simpa using h, by unfold rpS; rw [if_neg h]⟩
  · have := rodPr_any v (pnL tx) W (hcv.below hW) hv
    rw [(text_back h).1] at this
    unfold str at this
    rw [et h] at this
    exact this
  · obtain ⟨p1, p2, p3⟩ := rod_back h
    have := rodPar_any ⟨(rpS l).toArray⟩ W (hcv.below hW)
    rw [p1, p2, p3] at this
    exact this

set_option maxRecDepth 100000 in
theorem contract (H : Type) (enc : TypeId × Value → H) (W : World) (base : Nat) (args : Array Value) (ds gs : List (DataW H)) (before : List MemPlace)
    (hval : ∀ (j : Nat) t v, Tryd.f8.params[j]? = some t → args[j]? = some v → Value.okWide Tryd.prog W .any base t v)
    (hW : DataW.Whole enc Tryd.prog Tryd.f8.params.toList Rows.rodBackSpec.vars false W args.toList ds gs before) (hL : laidMetH Tryd.prog Rows.rodBackRow.laid W) (hSh : W.ShapedOpen Tryd.prog) :
    Calls Tryd.prog 8 args W fun e W' => ∃ v, e = .returned v ∧ Rows.rodBackSpec.post enc Tryd.prog Tryd.f8 false true false false W args v W' := by
  have hW' := hW
  obtain ⟨p, q, hA0, hV, rfl, hfz, hnd⟩ := hW
  have hA : DataW.TrodAll enc Tryd.prog W 0 (fun _ => true) true Tryd.f8.params.toList args.toList ds p := hA0
  rw [Tryd.params8] at hA hval
  obtain ⟨v0, vs0, d0, ds0, p0, q0, hargs, rfl, rfl, h0, r0⟩ := trodAll_cons hA
  obtain ⟨v1, vs1, d1, ds1, p1, q1, rfl, rfl, rfl, h1, r1⟩ := trodAll_cons r0
  obtain ⟨rfl, rfl, rfl⟩ := trodAll_nil r1
  obtain rfl : args = #[v0, v1] := by cases args; simp_all
  obtain ⟨rfl, rfl⟩ := trodVars_none hV
  have k0 := h0
  have lt0 : ∀ x ∈ p0, x.block < W.heap.size := by obtain ⟨m, hm⟩ := k0; exact DataW.trod_lt m _ _ _ hm
  have k1 := h1
  have lt1 : ∀ x ∈ p1, x.block < W.heap.size := by obtain ⟨m, hm⟩ := k1; exact DataW.trod_lt m _ _ _ hm
  obtain ⟨z0, w0⟩ := open_mks (hval 0 22 v0 rfl rfl) h0
  obtain ⟨a1, rfl, rfl, rfl, w1⟩ := open_string Tryd.underlying9 (hval 1 9 v1 rfl rfl) h1
  clear hA0
  refine (walk v0 z0 a1 W w0 w1 (laid_of rfl hL hSh)).mono fun e W' ⟨he, bel⟩ => ?_
  subst he
  exact ⟨_, rfl, _, _, _, [], _, [], hW', trodAll_mk1 (shut_bool Tryd.underlying4 _), (trodAll_cons_mk (Below.trod laidOut (by kernel_rfl) (of_decide_eq_true (by kernel_rfl)) k0 bel lt0) (trodAll_cons_mk (Below.trod laidOut (by kernel_rfl) (of_decide_eq_true (by kernel_rfl)) k1 bel lt1) trodAll_mk0)), rfl, bel.frame _, fun h => by cases h⟩

noncomputable def laidWorld (os : Os) : World := World.laidAll Tryd.prog os Rows.rodBackRow.laid
theorem laid_met (os : Os) : laidMet Tryd.prog Rows.rodBackRow.laid ((laidWorld os).forCall (fun _ _ => 0) ⟨#[], #[.slice none 0 0, .string ByteArray.empty], []⟩).memory :=
  laidMet_laidAll _ (by kernel_rfl) (by kernel_rfl)
theorem reads (os : Os) {H : Type} (enc : TypeId × Value → H) : ∃ places, DataW.whole enc Tryd.prog ((laidWorld os).forCall (fun _ _ => 0) ⟨#[], #[.slice none 0 0, .string ByteArray.empty], []⟩).memory Tryd.f8.params.toList Rows.rodBackSpec.vars false (#[.slice none 0 0, .string ByteArray.empty] : Array Value).toList 8 = some ([.nil, .lit (.string [])], [], places) :=
  ⟨[], by kernel_rfl⟩

set_option maxRecDepth 100000 in
theorem lifted (os : Os) (started : os.Started) (H : Type) (enc : TypeId × Value → H) (F : Stop.Interp) :
    ReturnsInHanded {} Tryd.checked os 8 .any ((OpenSpec.ofChange Rows.rodBackSpec).preRow enc Tryd.prog Tryd.f8 Rows.rodBackRow.domain false Rows.rodBackRow.laid) (((OpenSpec.ofChange Rows.rodBackSpec).at F).post enc Tryd.prog Tryd.f8 false true false false) := by
  obtain ⟨places, hx⟩ := reads os enc
  refine returnsInHanded_of_row (C := Tryd.checked) (s := OpenSpec.ofChange Rows.rodBackSpec) own started (by kernel_rfl) Tryd.func8
    (witness_row_at (enc := enc) (C := Tryd.checked) false (laidWorld os) #[.slice none 0 0, .string ByteArray.empty] (World.laidAll_os _ _ _) (by kernel_rfl) (by kernel_rfl) (by kernel_rfl)
      (OpenSpec.preRow_of_cond 8 hx (by kernel_rfl) (fun k hk => by cases hk) (by kernel_rfl) (laid_met os))) ?_
  intro W base args ds gs before hval hW _ _ _ hL hSh _
  exact contract H enc W base args ds gs before hval hW hL hSh

theorem said : Rows.RodBackSaid :=
  OpenClaim.holds_of_cond 8 Tryd.f8 rfl rfl rfl rfl rfl rfl rfl ⟨rfl, rfl, rfl, rfl, rfl⟩ rfl rfl rfl rfl rfl (by kernel_rfl) Tryd.func8 (by kernel_rfl)
    (of_decide_eq_true (by kernel_rfl)) (by unfold Func.isWrapper; first | (rw [if_pos (by decide +kernel)]; kernel_rfl) | (rw [if_neg (by decide +kernel)]; exact ⟨rfl, rfl⟩))
    (fun os started H enc _ F => by rw [OpenClaim.pre_eq_preRow]; exact lifted os started H enc F)

theorem plain (f : FuncId) (fn : Func) (hf : Tryd.pinned.checked.prog.funcNamed "spile/spilelaw14.RodBack" = some f) (hfn : Tryd.pinned.checked.prog.funcs[f]? = some fn) :
    false = Tryd.pinned.checked.prog.looks [] ∧ ∀ (j : Nat) t, fn.params[j]? = some t → Tryd.pinned.checked.prog.wantsStandIn t = false := by
  obtain rfl : f = 8 := Option.some.inj ((show Tryd.prog.funcNamed "spile/spilelaw14.RodBack" = some 8 by kernel_rfl).symm.trans hf) |>.symm
  obtain rfl : fn = Tryd.f8 := (Option.some.inj (Tryd.func8.symm.trans hfn)).symm
  refine ⟨by kernel_rfl, fun j t ht => ?_⟩
  rw [Tryd.params8] at ht
  rcases j with _ | _ | j
  · obtain rfl : t = 22 := by simpa using ht.symm
    exact (show Tryd.prog.wantsStandIn 22 = false by kernel_rfl)
  · obtain rfl : t = 9 := by simpa using ht.symm
    exact (show Tryd.prog.wantsStandIn 9 = false by kernel_rfl)
  · simp at ht

theorem proved : Rows.RodBackCardSaid :=
  Claim7.holds_tied_plain_at .later [] _ _ _ _ said (fun _ h => by cases h) (by kernel_rfl) (fun _ h => by cases h) rodBack_row_tie rfl ⟨rfl, rfl⟩ (by kernel_rfl) rfl plain (by kernel_rfl)
#print axioms proved
end Go.Proofs.YtdjlainhaoaeiaaDoor.rodBack

