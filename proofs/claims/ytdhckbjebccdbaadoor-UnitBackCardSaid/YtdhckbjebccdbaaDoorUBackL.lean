/-
  The statement UnitBack of spile/spilelaw03 holds: for every input the call returns true, and each argument reads afterwards as it read before. (The listed package variables hold what the program lays: the card ties them.)
-/
import Derived.Test.YtdhckbjebccdbaaDoorULaw
import Derived.Test.YtdhckbjebccdbaaDoorUBk
import Derived.Test.YtdhckbjebccdbaaDoorOpenU
import Derived.Test.YtdhckbjebccdbaaDoorCards
import Derived.Test.YtdhckbjebccdbaaDoorTie
import Derived.Below
import Derived.Carry
import Derived.Lib.LaidTab
import Derived.Deep.DeepHandedRow
import Derived.SevenTiedPlain
import Derived.Lay
namespace Go.Proofs.YtdhckbjebccdbaaDoor.unitBack
open Go.ChangeShapes Go.WideShapes Go.ChangeAt Go.RowKit
open Go.ChangeMaps (open_string shut_string)
set_option linter.unusedVariables false

theorem space_app (N : List UInt8) : (⟨#[32]⟩ : ByteArray) ++ ⟨N.toArray⟩ = ⟨(32 :: N).toArray⟩ := app_mk [32] N

/-- what is asked of each unit -/
theorem each (k a : Int) (u : List UInt8) (hu : isU u = true) :
    (qE k a ≠ 0 ∧ prE k a u ≠ 0 ∧ prL k a u = []) ∨ (qE k a = 0 ∧ ((uK u == k) = false ∧ (uK u != k) = true) ∧ prE k a u ≠ 0 ∧ prL k a u = []) ∨
    (qE k a = 0 ∧ uK u = k ∧ prE k a u = 0 ∧ psE (prL k a u) = 0 ∧ psK (prL k a u) = k ∧ psA (prL k a u) = a ∧ Lib.hasSuffix (prL k a u) (32 :: u) = true) := by
  by_cases hq : qE k a = 0
  · right
    by_cases hk : uK u = k
    · right
      obtain ⟨h1, h2, h3, h4, h5⟩ := back k a u hq hu hk
      exact ⟨hq, hk, h1, h2, h3, h4, h5⟩
    · left
      have he : prE k a u = 10 := by unfold prE; rw [if_pos hq, if_pos hu, if_neg hk]
      exact ⟨hq, ⟨by simpa using hk, by simpa using hk⟩, by rw [he]; decide, by unfold prL; rw [if_neg (by rw [he]; decide)]⟩
  · left
    have he : prE k a u = 1 := by unfold prE; rw [if_neg hq]
    exact ⟨hq, by rw [he]; decide, by unfold prL; rw [if_neg (by rw [he]; decide)]⟩

set_option maxRecDepth 100000 in
set_option maxHeartbeats 4000000 in
theorem walk (k a : Int) (w : World) (wk : -9223372036854775808 ≤ k ∧ k ≤ 9223372036854775807) (wa : -9223372036854775808 ≤ a ∧ a ≤ 9223372036854775807) (hw : LaidU w) :
    Calls Tryd.prog 6 #[.agg #[.int .i64 k, .int .i64 a]] w fun e w' => e = .returned (.bool true) ∧ Below w.heap.size w w' := by
  have HW := Lib.hid hw; clear hw
  have HA := Lib.hid (fun W h => awake_any W (HW.out.below h))
  have HQ := fun W => run_neq_qty k a k a W
  rw [show samQ k a k a = true by simp [samQ]] at HQ
  have HC := Lib.hid (fun W h => check_any k a W (HW.out.below h))
  go_enter Tryd.func6, Tryd.ntmps6
  go_wp2_with fail
  have T1 := Lib.hid (Two.new w (.int .i64 k) (.int .i64 a) 23)
  have X1 := Lib.hid (bel_alloc (Below.refl (w.alloc (.cells #[.int .i64 k, .int .i64 a] 23)).heap.size (w.alloc (.cells #[.int .i64 k, .int .i64 a] 23))))
  refine (HA.out _ X1.out).mono ?_
  rintro e w1 ⟨rfl, gg⟩
  replace T1 := Lib.hid (T1.out.below gg)
  replace X1 := Lib.hid (bel_trans X1.out gg); clear gg
  go_wp2_with fail
  refine (names_any _).mono ?_
  rintro e w2 ⟨rfl, gg, hn⟩
  have HN := Lib.hid hn
  clear hn
  have hz3 : w1.heap.size < w2.heap.size := World.block_lt_of_cell? w2 _ (HN.out 0 (by omega))
  have T2 := Lib.hid (T1.out.below gg)
  have X2 := Lib.hid (bel_trans X1.out gg); clear gg
  go_wp2_with fail
  go_loopw [16] (fun i wr => ∃ m : Nat, m ≤ 15 ∧ i = .int .i64 m ∧ Hid (Below w2.heap.size w2 wr)) (fun i _ => 15 - (intOf i).toNat)
  case atStart => exact ⟨0, by omega, rfl, Below.refl _ _⟩
  case round =>
    obtain ⟨m, hm, rfl, hB⟩ := hrel
    have XB := Lib.hid (bel_trans X2.out hB.out)
    have TB := Lib.hid (T2.out.below hB.out)
    by_cases hlt : m < 15
    · have c0 : wr.cell? ⟨w1.heap.size, m, none⟩ = some (str (nameAt m)) := by rw [(bcell hB.out).1 _ _ hz3]; exact HN.out m hlt
      obtain ⟨y, _, hy, hye⟩ := name_at m hlt
      have hlen := nameAt_len m hlt
      rw [hye] at c0 hlen
      have hu := tab_unit y hy
      have huI : isU y.1 = true := by
        have := hu.2.2
        unfold uE at this
        split at this
        · assumption
        · omega
      have hV := unit_any ⟨y.1.toArray⟩
      rw [show (⟨y.1.toArray⟩ : ByteArray).data.toList = y.1 from rfl, hu.2.2] at hV
      have HV := Lib.hid hV
      have HE := each k a y.1 huI
      have HP := Lib.hid (fun W h => print_any k a ⟨y.1.toArray⟩ W (HW.out.below h))
      rw [show (⟨y.1.toArray⟩ : ByteArray).data.toList = y.1 from rfl] at HP
      have HR := Lib.hid (fun W h => parse_any ⟨(prL k a y.1).toArray⟩ W (HW.out.below h))
      rw [show (⟨(prL k a y.1).toArray⟩ : ByteArray).data.toList = prL k a y.1 from rfl] at HR
      have HS := Lib.hid (fun W h => Tryd.strings_HasSuffix ⟨(prL k a y.1).toArray⟩ ⟨(32 :: y.1).toArray⟩ W h)
      rw [show (⟨(prL k a y.1).toArray⟩ : ByteArray).data.toList = prL k a y.1 from rfl, show (⟨(32 :: y.1).toArray⟩ : ByteArray).data.toList = 32 :: y.1 from rfl] at HS
      have hsp := space_app y.1
      have hsz : (⟨y.1.toArray⟩ : ByteArray).size ≤ 5 := by rw [str_size]; exact hlen
      have hsz2 : (⟨(prL k a y.1).toArray⟩ : ByteArray).size ≤ 100 := by
        rw [str_size]
        unfold prL
        split
        · rename_i h0
          have hq0 : qE k a = 0 := by
            apply Classical.byContradiction; intro hq0
            unfold prE at h0; rw [if_neg hq0] at h0; omega
          have b := unit_bd _ huI
          have q := qE_bd k a hq0
          have := dec_bd a (uF y.1) (by omega) (by omega) b.2.2.1 b.2.2.2
          simp only [List.length_append, List.length_singleton]
          omega
        · simp
      have hl0 : (⟨(prL k a y.1).toArray⟩ : ByteArray).toList = prL k a y.1 := toList_mk _
      clear hV hu huI hye hy
      generalize y.1 = N at *
      generalize prL k a N = L at *
      generalize prE k a N = E at *
      generalize uK N = K2 at *
      generalize uF N = F2 at *
      unfold str at c0
      go_wp2_with fail
      refine (HV.out _).mono ?_
      rintro e w3 ⟨rfl, gg⟩
      replace hB := Lib.hid (bel_trans hB.out gg)
      replace XB := Lib.hid (bel_trans XB.out gg)
      replace TB := Lib.hid (TB.out.below gg); clear gg c0
      obtain ⟨p0, p1, _, _, _⟩ := TB.out
      go_wp2_with fail
      refine (HP.out _ XB.out).mono ?_
      rintro e w4 ⟨rfl, gg⟩
      clear p0 p1
      replace hB := Lib.hid (bel_trans hB.out gg)
      replace XB := Lib.hid (bel_trans XB.out gg)
      replace TB := Lib.hid (TB.out.below gg); clear gg
      obtain ⟨p0, p1, _, _, _⟩ := TB.out
      go_wp2_with fail
      refine (HC.out _ XB.out).mono ?_
      rintro e w5 ⟨rfl, gg⟩
      clear p0 p1
      replace hB := Lib.hid (bel_trans hB.out gg)
      replace XB := Lib.hid (bel_trans XB.out gg)
      replace TB := Lib.hid (TB.out.below gg); clear gg
      obtain ⟨p0, p1, _, _, _⟩ := TB.out
      rcases HE with ⟨hq, he, rfl⟩ | ⟨hq, ⟨hk1, hk2⟩, he, rfl⟩ | ⟨hq, rfl, rfl, e1, e2, e3, e4⟩
      · have hq1 : (qE k a == 0) = false := by simpa using hq
        have hq2 : (qE k a != 0) = true := by simpa using hq
        have he1 : (E == 0) = false := by simpa using he
        have he2 : (E != 0) = true := by simpa using he
        have hl1 : ((⟨([] : List UInt8).toArray⟩ : ByteArray).toList != []) = false := by rw [hl0]; rfl
        clear hq he
        generalize qE k a = q at *
        unfold str
        go_wp2
        go_roundw
        case rel => exact ⟨m + 1, by omega, by go_num, hB⟩
        case measure => simp [intOf]; omega
      · rw [hq]
        have he1 : (E == 0) = false := by simpa using he
        have he2 : (E != 0) = true := by simpa using he
        have hl1 : ((⟨([] : List UInt8).toArray⟩ : ByteArray).toList != []) = false := by rw [hl0]; rfl
        clear hq he
        unfold str
        go_wp2
        go_roundw
        case rel => exact ⟨m + 1, by omega, by go_num, hB⟩
        case measure => simp [intOf]; omega
      · rw [hq]
        rw [e1, e2, e3] at HR
        rw [e4] at HS
        clear hq e1 e2 e3 e4
        unfold str
        go_wp2_with fail
        refine (HR.out _ XB.out (by omega)).mono ?_
        rintro e w6 ⟨rfl, gg⟩
        clear p0 p1
        replace hB := Lib.hid (bel_trans hB.out gg)
        replace XB := Lib.hid (bel_trans XB.out gg)
        replace TB := Lib.hid (TB.out.below gg); clear gg
        have q0 := fun o => (TB.out.alloc o).1
        have q1 := fun o => (TB.out.alloc o).2.1
        have HS2 := Lib.hid (fun W => HS.out W (by omega))
        go_wp2_with (go_at_call 25; refine (HS2.out _).mono ?_; rintro e w' ⟨rfl, hw⟩; subst hw)
        go_roundw
        case rel => exact ⟨m + 1, by omega, by go_num, bel_trans hB.out (bel_alloc (Below.refl _ _))⟩
        case measure => simp [intOf]; omega
    · go_wp2
      go_returns
      exact ⟨rfl, XB.out⟩

set_option maxRecDepth 100000 in
theorem contract (H : Type) (enc : TypeId × Value → H) (W : World) (base : Nat) (args : Array Value) (ds gs : List (DataW H)) (before : List MemPlace)
    (hval : ∀ (j : Nat) t v, Tryd.f6.params[j]? = some t → args[j]? = some v → Value.okWide Tryd.prog W .any base t v)
    (hW : DataW.Whole enc Tryd.prog Tryd.f6.params.toList Rows.unitBackSpec.vars false W args.toList ds gs before) (hL : laidMetH Tryd.prog Rows.unitBackRow.laid W) (hSh : W.ShapedOpen Tryd.prog) :
    Calls Tryd.prog 6 args W fun e W' => ∃ v, e = .returned v ∧ Rows.unitBackSpec.post enc Tryd.prog Tryd.f6 false true false false W args v W' := by
  have hW' := hW
  obtain ⟨p, q, hA0, hV, rfl, hfz, hnd⟩ := hW
  have hA : DataW.TrodAll enc Tryd.prog W 0 (fun _ => true) true Tryd.f6.params.toList args.toList ds p := hA0
  rw [Tryd.params6] at hA hval
  obtain ⟨v0, vs0, d0, ds0, p0, q0, hargs, rfl, rfl, h0, r0⟩ := trodAll_cons hA
  obtain ⟨rfl, rfl, rfl⟩ := trodAll_nil r0
  obtain rfl : args = #[v0] := by cases args; simp_all
  obtain ⟨rfl, rfl⟩ := trodVars_none hV
  have k0 := h0
  have lt0 : ∀ x ∈ p0, x.block < W.heap.size := by obtain ⟨m, hm⟩ := k0; exact DataW.trod_lt m _ _ _ hm
  obtain ⟨y0, m0, rfl, wy0, wm0⟩ := open_qty (hval 0 23 v0 rfl rfl) h0
  clear hA0
  refine (walk y0 m0 W wy0 wm0 (laid_of rfl hL hSh)).mono fun e W' ⟨he, bel⟩ => ?_
  subst he
  exact ⟨_, rfl, _, _, _, [], _, [], hW', trodAll_mk1 (shut_bool Tryd.underlying4 _), (trodAll_cons_mk (Below.trod laidOut (by kernel_rfl) (of_decide_eq_true (by kernel_rfl)) k0 bel lt0) trodAll_mk0), rfl, bel.frame _, fun h => by cases h⟩

noncomputable def laidWorld (os : Os) : World := World.laidAll Tryd.prog os Rows.unitBackRow.laid
theorem laid_met (os : Os) : laidMet Tryd.prog Rows.unitBackRow.laid ((laidWorld os).forCall (fun _ _ => 0) ⟨#[], #[.agg #[.int .i64 0, .int .i64 0]], []⟩).memory :=
  laidMet_laidAll _ (by kernel_rfl) (by kernel_rfl)
theorem reads (os : Os) {H : Type} (enc : TypeId × Value → H) : ∃ places, DataW.whole enc Tryd.prog ((laidWorld os).forCall (fun _ _ => 0) ⟨#[], #[.agg #[.int .i64 0, .int .i64 0]], []⟩).memory Tryd.f6.params.toList Rows.unitBackSpec.vars false (#[.agg #[.int .i64 0, .int .i64 0]] : Array Value).toList 8 = some ([.agg [.lit (.int .i64 0), .lit (.int .i64 0)]], [], places) :=
  ⟨[], by kernel_rfl⟩

set_option maxRecDepth 100000 in
theorem lifted (os : Os) (started : os.Started) (H : Type) (enc : TypeId × Value → H) (F : Stop.Interp) :
    ReturnsInHanded {} Tryd.checked os 6 .any ((OpenSpec.ofChange Rows.unitBackSpec).preRow enc Tryd.prog Tryd.f6 Rows.unitBackRow.domain false Rows.unitBackRow.laid) (((OpenSpec.ofChange Rows.unitBackSpec).at F).post enc Tryd.prog Tryd.f6 false true false false) := by
  obtain ⟨places, hx⟩ := reads os enc
  refine returnsInHanded_of_row (C := Tryd.checked) (s := OpenSpec.ofChange Rows.unitBackSpec) own started (by kernel_rfl) Tryd.func6
    (witness_row_at (enc := enc) (C := Tryd.checked) false (laidWorld os) #[.agg #[.int .i64 0, .int .i64 0]] (World.laidAll_os _ _ _) (by kernel_rfl) (by kernel_rfl) (by kernel_rfl)
      (OpenSpec.preRow_of_cond 8 hx (by kernel_rfl) (fun k hk => by cases hk) (by kernel_rfl) (laid_met os))) ?_
  intro W base args ds gs before hval hW _ _ _ hL hSh _
  exact contract H enc W base args ds gs before hval hW hL hSh

theorem said : Rows.UnitBackSaid :=
  OpenClaim.holds_of_cond 6 Tryd.f6 rfl rfl rfl rfl rfl rfl rfl ⟨rfl, rfl, rfl, rfl, rfl⟩ rfl rfl rfl rfl rfl (by kernel_rfl) Tryd.func6 (by kernel_rfl)
    (of_decide_eq_true (by kernel_rfl)) (by unfold Func.isWrapper; first | (rw [if_pos (by decide +kernel)]; kernel_rfl) | (rw [if_neg (by decide +kernel)]; exact ⟨rfl, rfl⟩))
    (fun os started H enc _ F => by rw [OpenClaim.pre_eq_preRow]; exact lifted os started H enc F)

theorem plain (f : FuncId) (fn : Func) (hf : Tryd.pinned.checked.prog.funcNamed "spile/spilelaw03.UnitBack" = some f) (hfn : Tryd.pinned.checked.prog.funcs[f]? = some fn) :
    false = Tryd.pinned.checked.prog.looks [] ∧ ∀ (j : Nat) t, fn.params[j]? = some t → Tryd.pinned.checked.prog.wantsStandIn t = false := by
  obtain rfl : f = 6 := Option.some.inj ((show Tryd.prog.funcNamed "spile/spilelaw03.UnitBack" = some 6 by kernel_rfl).symm.trans hf) |>.symm
  obtain rfl : fn = Tryd.f6 := (Option.some.inj (Tryd.func6.symm.trans hfn)).symm
  refine ⟨by kernel_rfl, fun j t ht => ?_⟩
  rw [Tryd.params6] at ht
  rcases j with _ | j
  · obtain rfl : t = 23 := by simpa using ht.symm
    exact (show Tryd.prog.wantsStandIn 23 = false by kernel_rfl)
  · simp at ht

theorem proved : Rows.UnitBackCardSaid :=
  Claim7.holds_tied_plain_at .later [] _ _ _ _ said (fun _ h => by cases h) (by kernel_rfl) (fun _ h => by cases h) unitBack_row_tie rfl ⟨rfl, rfl⟩ (by kernel_rfl) rfl plain (by kernel_rfl)
#print axioms proved
end Go.Proofs.YtdhckbjebccdbaaDoor.unitBack
