/-
  The statement UnitBest of spile/spilelaw03 holds: for every input the call returns true, and each argument reads afterwards as it read before. (The listed package variables hold what the program lays: the card ties them.)
-/
import Derived.Test.YtdhckbjebccdbaaDoorULaw
import Derived.Test.YtdhckbjebccdbaaDoorOpenU
import Derived.Test.YtdhckbjebccdbaaDoorCards
import Derived.Test.YtdhckbjebccdbaaDoorTie
import Derived.Below
import Derived.Carry
import Derived.Lib.LaidTab
import Derived.Deep.DeepHandedRow
import Derived.SevenTiedPlain
import Derived.Lay
namespace Go.Proofs.YtdhckbjebccdbaaDoor.unitBest
open Go.ChangeShapes Go.WideShapes Go.ChangeAt Go.RowKit
open Go.ChangeMaps (open_string shut_string)
set_option linter.unusedVariables false

theorem bad_not (k s : Int) (x : List UInt8 × Int × Int) (hx : IsBest k s x) (y : List UInt8 × Int × Int) (hy : y ∈ unitTab) :
    (y.2.1 == k) = false ∨ (y.2.1 = k ∧ x.2.2 < y.2.2 ∧ s < y.2.2 ∧ s < x.2.2) ∨ (y.2.1 = k ∧ x.2.2 < y.2.2 ∧ s < y.2.2 ∧ x.2.2 ≤ s) ∨ (y.2.1 = k ∧ y.2.2 ≤ x.2.2 ∧ x.2.2 ≤ s) ∨ (y.2.1 = k ∧ y.2.2 = x.2.2 ∧ s < x.2.2) := by
  by_cases h : y.2.1 = k
  · right
    rcases hx.2.2 y hy h with rfl | g
    · omega
    · rw [betB_iff] at g; omega
  · left; simpa using h

set_option maxRecDepth 100000 in
set_option maxHeartbeats 4000000 in
theorem walk (k a : Int) (w : World) (wk : -9223372036854775808 ≤ k ∧ k ≤ 9223372036854775807) (wa : -9223372036854775808 ≤ a ∧ a ≤ 9223372036854775807) (hw : LaidU w) :
    Calls Tryd.prog 8 #[.agg #[.int .i64 k, .int .i64 a]] w fun e w' => e = .returned (.bool true) ∧ Below w.heap.size w w' := by
  have HW := Lib.hid hw; clear hw
  have HA := Lib.hid (fun W h => awake_any W (HW.out.below h))
  have HB := Lib.hid (fun W h => best_any k a W (HW.out.below h))
  have HC : Hid ((qE k a ≠ 0 ∧ beL k a = [] ∧ beE k a = 1) ∨ (qE k a = 0 ∧ beE k a = 0 ∧ ∃ x, IsBest k (max a (-a)) x ∧ beL k a = x.1)) := by
    show _
    by_cases h : qE k a = 0
    · obtain ⟨x, hx, e⟩ := best_is k a h
      exact .inr ⟨h, by unfold beE; rw [if_pos h], x, hx, by unfold beL; rw [if_pos h]; exact e⟩
    · exact .inl ⟨h, by unfold beL; rw [if_neg h], by unfold beE; rw [if_neg h]⟩
  have HD : Hid (qE k a = 0 → -400 ≤ a ∧ a ≤ 1125899906842624) := fun h => qE_bd k a h
  generalize beL k a = L at *
  generalize beE k a = E at *
  go_enter Tryd.func8, Tryd.ntmps8
  go_wp2_with fail
  have T1 := Lib.hid (Two.new w (.int .i64 k) (.int .i64 a) 23)
  have X1 := Lib.hid (bel_alloc (Below.refl (w.alloc (.cells #[.int .i64 k, .int .i64 a] 23)).heap.size (w.alloc (.cells #[.int .i64 k, .int .i64 a] 23))))
  refine (HA.out _ X1.out).mono ?_
  rintro e w1 ⟨rfl, gg⟩
  replace T1 := Lib.hid (T1.out.below gg)
  replace X1 := Lib.hid (bel_trans X1.out gg); clear gg
  obtain ⟨p0, p1, _, _, _⟩ := T1.out
  go_wp2_with fail
  refine (HB.out _ X1.out).mono ?_
  rintro e w2 ⟨rfl, gg⟩
  clear p0 p1
  replace T1 := Lib.hid (T1.out.below gg)
  replace X1 := Lib.hid (bel_trans X1.out gg); clear gg
  rcases HC.out with ⟨hq, rfl, rfl⟩ | ⟨hq, rfl, x, hx, rfl⟩
  · have hs : (⟨([] : List UInt8).toArray⟩ : ByteArray).toList = [] := by kernel_rfl
    unfold str
    clear HC HD HB hq
    go_wp2
    go_returns
    exact ⟨rfl, X1.out⟩
  · replace HD := HD.out hq
    clear HC HB hq
    have hU := unit_any ⟨x.1.toArray⟩
    have hu := tab_unit x hx.1
    have hb : -1 ≤ x.2.2 ∧ x.2.2 ≤ 100000000 := tab_all (P := fun x => -1 ≤ x.2.2 ∧ x.2.2 ≤ 100000000) (by decide) x hx.1
    rw [show (⟨x.1.toArray⟩ : ByteArray).data.toList = x.1 from rfl, hu.1, hu.2.1, hu.2.2, hx.2.1] at hU
    have HU := Lib.hid hU
    have HX := Lib.hid (fun y hy => bad_not k _ x hx y hy)
    clear hU hu hx
    generalize hS : max a (-a) = S at *
    have hS1 : 0 ≤ S := by omega
    have hS2 : S ≤ 1125899906842624 := by omega
    generalize x.2.2 = F at *
    obtain ⟨p0, p1, _, _, _⟩ := T1.out
    unfold str
    go_wp2_with fail
    refine (HU.out _).mono ?_
    rintro e w3 ⟨rfl, gg⟩
    clear p0 p1
    replace T1 := Lib.hid (T1.out.below gg)
    replace X1 := Lib.hid (bel_trans X1.out gg); clear gg
    obtain ⟨p0, p1, _, _, _⟩ := T1.out
    go_wp2_with fail
    refine (names_any _).mono ?_
    rintro e w4 ⟨rfl, gg, hn⟩
    have HN := Lib.hid hn
    clear p0 p1 hn
    have hz3 : w3.heap.size < w4.heap.size := World.block_lt_of_cell? w4 _ (HN.out 0 (by omega))
    have X4 := Lib.hid (bel_trans X1.out gg); clear gg
    go_wp2_with fail
    go_loopw [47] (fun i wr => ∃ m : Nat, m ≤ 15 ∧ i = .int .i64 m ∧ Hid (Below w4.heap.size w4 wr)) (fun i _ => 15 - (intOf i).toNat)
    case atStart => exact ⟨0, by omega, rfl, Below.refl _ _⟩
    case round =>
      obtain ⟨m, hm, rfl, hB⟩ := hrel
      by_cases hlt : m < 15
      · have c0 : wr.cell? ⟨w3.heap.size, m, none⟩ = some (str (nameAt m)) := by rw [(bcell hB.out).1 _ _ hz3]; exact HN.out m hlt
        obtain ⟨y, _, hy, hye⟩ := name_at m hlt
        have hV := unit_any ⟨(nameAt m).toArray⟩
        have hu := tab_unit y hy
        rw [hye, show (⟨y.1.toArray⟩ : ByteArray).data.toList = y.1 from rfl, hu.1, hu.2.1, hu.2.2] at hV
        rw [hye] at c0
        have HV := Lib.hid hV
        have HY := HX.out y hy
        clear hV hu hye hy
        generalize y.1 = N at *
        generalize y.2.1 = K2 at *
        generalize y.2.2 = F2 at *
        unfold str at c0
        go_wp2_with fail
        refine (HV.out _).mono ?_
        rintro e w5 ⟨rfl, gg⟩
        replace hB := Lib.hid (bel_trans hB.out gg); clear gg c0
        rcases HY with h | ⟨rfl, h1, h2, h3⟩ | ⟨rfl, h1, h2, h3⟩ | ⟨rfl, h1, h2⟩ | ⟨rfl, rfl, h2⟩
        all_goals
          go_wp2
          go_roundw
          case rel => exact ⟨m + 1, by omega, by go_num, hB⟩
          case measure => simp [intOf]; omega
      · go_wp2
        go_returns
        exact ⟨rfl, bel_trans X4.out hB.out⟩

set_option maxRecDepth 100000 in
theorem contract (H : Type) (enc : TypeId × Value → H) (W : World) (base : Nat) (args : Array Value) (ds gs : List (DataW H)) (before : List MemPlace)
    (hval : ∀ (j : Nat) t v, Tryd.f8.params[j]? = some t → args[j]? = some v → Value.okWide Tryd.prog W .any base t v)
    (hW : DataW.Whole enc Tryd.prog Tryd.f8.params.toList Rows.unitBestSpec.vars false W args.toList ds gs before) (hL : laidMetH Tryd.prog Rows.unitBestRow.laid W) (hSh : W.ShapedOpen Tryd.prog) :
    Calls Tryd.prog 8 args W fun e W' => ∃ v, e = .returned v ∧ Rows.unitBestSpec.post enc Tryd.prog Tryd.f8 false true false false W args v W' := by
  have hW' := hW
  obtain ⟨p, q, hA0, hV, rfl, hfz, hnd⟩ := hW
  have hA : DataW.TrodAll enc Tryd.prog W 0 (fun _ => true) true Tryd.f8.params.toList args.toList ds p := hA0
  rw [Tryd.params8] at hA hval
  obtain ⟨v0, vs0, d0, ds0, p0, q0, hargs, rfl, rfl, h0, r0⟩ := trodAll_cons hA
  obtain ⟨rfl, rfl, rfl⟩ := trodAll_nil r0
  obtain rfl : args = #[v0] := by cases args; simp_all
  obtain ⟨rfl, rfl⟩ := trodVars_none hV
  have k0 := h0
  have lt0 : ∀ x ∈ p0, x.block < W.heap.size := by obtain ⟨m, hm⟩ := k0; exact DataW.trod_lt m _ _ _ hm
  obtain ⟨y0, m0, rfl, wy0, wm0⟩ := open_qty (hval 0 23 v0 rfl rfl) h0
  clear hA0
  refine (walk y0 m0 W wy0 wm0 (laid_of rfl hL hSh)).mono fun e W' ⟨he, bel⟩ => ?_
  subst he
  exact ⟨_, rfl, _, _, _, [], _, [], hW', trodAll_mk1 (shut_bool Tryd.underlying4 _), (trodAll_cons_mk (Below.trod laidOut (by kernel_rfl) (of_decide_eq_true (by kernel_rfl)) k0 bel lt0) trodAll_mk0), rfl, bel.frame _, fun h => by cases h⟩

noncomputable def laidWorld (os : Os) : World := World.laidAll Tryd.prog os Rows.unitBestRow.laid
theorem laid_met (os : Os) : laidMet Tryd.prog Rows.unitBestRow.laid ((laidWorld os).forCall (fun _ _ => 0) ⟨#[], #[.agg #[.int .i64 0, .int .i64 0]], []⟩).memory :=
  laidMet_laidAll _ (by kernel_rfl) (by kernel_rfl)
theorem reads (os : Os) {H : Type} (enc : TypeId × Value → H) : ∃ places, DataW.whole enc Tryd.prog ((laidWorld os).forCall (fun _ _ => 0) ⟨#[], #[.agg #[.int .i64 0, .int .i64 0]], []⟩).memory Tryd.f8.params.toList Rows.unitBestSpec.vars false (#[.agg #[.int .i64 0, .int .i64 0]] : Array Value).toList 8 = some ([.agg [.lit (.int .i64 0), .lit (.int .i64 0)]], [], places) :=
  ⟨[], by kernel_rfl⟩

set_option maxRecDepth 100000 in
theorem lifted (os : Os) (started : os.Started) (H : Type) (enc : TypeId × Value → H) (F : Stop.Interp) :
    ReturnsInHanded {} Tryd.checked os 8 .any ((OpenSpec.ofChange Rows.unitBestSpec).preRow enc Tryd.prog Tryd.f8 Rows.unitBestRow.domain false Rows.unitBestRow.laid) (((OpenSpec.ofChange Rows.unitBestSpec).at F).post enc Tryd.prog Tryd.f8 false true false false) := by
  obtain ⟨places, hx⟩ := reads os enc
  refine returnsInHanded_of_row (C := Tryd.checked) (s := OpenSpec.ofChange Rows.unitBestSpec) own started (by kernel_rfl) Tryd.func8
    (witness_row_at (enc := enc) (C := Tryd.checked) false (laidWorld os) #[.agg #[.int .i64 0, .int .i64 0]] (World.laidAll_os _ _ _) (by kernel_rfl) (by kernel_rfl) (by kernel_rfl)
      (OpenSpec.preRow_of_cond 8 hx (by kernel_rfl) (fun k hk => by cases hk) (by kernel_rfl) (laid_met os))) ?_
  intro W base args ds gs before hval hW _ _ _ hL hSh _
  exact contract H enc W base args ds gs before hval hW hL hSh

theorem said : Rows.UnitBestSaid :=
  OpenClaim.holds_of_cond 8 Tryd.f8 rfl rfl rfl rfl rfl rfl rfl ⟨rfl, rfl, rfl, rfl, rfl⟩ rfl rfl rfl rfl rfl (by kernel_rfl) Tryd.func8 (by kernel_rfl)
    (of_decide_eq_true (by kernel_rfl)) (by unfold Func.isWrapper; first | (rw [if_pos (by decide +kernel)]; kernel_rfl) | (rw [if_neg (by decide +kernel)]; exact ⟨rfl, rfl⟩))
    (fun os started H enc _ F => by rw [OpenClaim.pre_eq_preRow]; exact lifted os started H enc F)

theorem plain (f : FuncId) (fn : Func) (hf : Tryd.pinned.checked.prog.funcNamed "spile/spilelaw03.UnitBest" = some f) (hfn : Tryd.pinned.checked.prog.funcs[f]? = some fn) :
    false = Tryd.pinned.checked.prog.looks [] ∧ ∀ (j : Nat) t, fn.params[j]? = some t → Tryd.pinned.checked.prog.wantsStandIn t = false := by
  obtain rfl : f = 8 := Option.some.inj ((show Tryd.prog.funcNamed "spile/spilelaw03.UnitBest" = some 8 by kernel_rfl).symm.trans hf) |>.symm
  obtain rfl : fn = Tryd.f8 := (Option.some.inj (Tryd.func8.symm.trans hfn)).symm
  refine ⟨by kernel_rfl, fun j t ht => ?_⟩
  rw [Tryd.params8] at ht
  rcases j with _ | j
  · obtain rfl : t = 23 := by simpa using ht.symm
    exact (show Tryd.prog.wantsStandIn 23 = false by kernel_rfl)
  · simp at ht

theorem proved : Rows.UnitBestCardSaid :=
  Claim7.holds_tied_plain_at .later [] _ _ _ _ said (fun _ h => by cases h) (by kernel_rfl) (fun _ h => by cases h) unitBest_row_tie rfl ⟨rfl, rfl⟩ (by kernel_rfl) rfl plain (by kernel_rfl)
#print axioms proved
end Go.Proofs.YtdhckbjebccdbaaDoor.unitBest
