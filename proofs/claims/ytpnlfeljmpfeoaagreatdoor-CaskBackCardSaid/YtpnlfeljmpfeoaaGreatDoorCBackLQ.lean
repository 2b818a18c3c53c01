/-
  The statement CaskBack of spile/spilelaw09 holds: for every input the call returns true, and each argument reads afterwards as it read before. (The listed package variables hold what the program lays: the card ties them.)
-/
import Derived.Test.YtpnlfeljmpfeoaaGreatDoorM4
import Derived.Test.YtpnlfeljmpfeoaaGreatDoorCards
import Derived.Test.YtpnlfeljmpfeoaaGreatDoorTie
import Derived.Below
import Derived.Carry
import Derived.Lib.LaidTab
import Derived.Deep.DeepHandedRow
import Derived.SevenTiedPlain
import Derived.Lay
set_option linter.unusedVariables false
set_option linter.unusedSimpArgs false
namespace Go.Proofs.YtpnlfeljmpfeoaaGreatDoor.caskBack
open Go.ChangeShapes Go.WideShapes Go.ChangeAt Go.RowKit
open Go.ChangeMaps (open_string shut_string)
set_option linter.unusedVariables false

set_option maxRecDepth 100000 in
set_option maxHeartbeats 8000000 in
theorem core (a : Option Addr) (n cap : Nat) (B1 : Bool) (E : Int) (t : ByteArray) (l : List Ck) (w : World)
    (hE : (E = 0) ∨ ((E != 0) = true ∧ (E == 0) = false ∧ (t.toList == []) = true))
    (HV : Hid (Cks w (.slice a n cap) l))
    (HA : Hid (Calls Tryz.prog 10 #[] w fun e w' => e = .returned (.bool true) ∧ Below w.heap.size w w'))
    (HF : Hid (∀ W, Below w.heap.size w W → Calls Tryz.prog 11 #[.slice a n cap] W fun e w' => e = .returned (.bool B1) ∧ w' = W))
    (HC : Hid (B1 = true → ∀ W, Below w.heap.size w W → Calls Tryz.prog 13 #[.slice a n cap] W fun e w' => ∃ u, e = .returned u ∧ Cks w' u l ∧ Below W.heap.size W w'))
    (H1 : Hid (∀ v W, Below w.heap.size w W → Cks W v l → Calls Tryz.prog 22 #[v] W fun e w' => e = .returned (.tuple #[.string t, .int .i64 E]) ∧ Below W.heap.size W w'))
    (H2 : Hid (∀ v W, Cks W v l → Calls Tryz.prog 16 #[v] W fun e w' => e = .returned (.int .i64 E) ∧ Below W.heap.size W w'))
    (H3 : Hid (E = 0 → ∀ W, Below w.heap.size w W → Calls Tryz.prog 24 #[.string t] W fun e w' => ∃ v, e = .returned (.tuple #[v, .int .i64 0, .int .i64 0]) ∧ Cks w' v l ∧ Below W.heap.size W w'))
    (H4 : Hid (B1 = true → ∀ v u W, Cks W v l → Cks W u l → Calls Tryz.prog 26 #[v, u] W fun e w' => e = .returned (.bool true) ∧ Below W.heap.size W w')) :
    Calls Tryz.prog 6 #[.slice a n cap] w fun e w' => e = .returned (.bool true) ∧ Below w.heap.size w w' := by
  have e2 : ((E == E) = true) := by simp
  go_enter Tryz.func6, Tryz.ntmps6
  go_wp2_with fail
  refine HA.out.mono ?_
  rintro e w1 ⟨rfl, gg⟩
  have X := Lib.hid gg; clear gg HA
  go_wp2_with fail
  refine (HF.out _ X.out).mono ?_
  rintro e w2 ⟨rfl, hw⟩
  subst hw
  clear HF
  cases B1 with
  | false =>
    clear hE
    go_wp2
    go_returns
    exact ⟨rfl, X.out⟩
  | true =>
    have HC2 := Lib.hid (fun W => HC.out rfl W)
    have H42 := Lib.hid (fun v u W => H4.out rfl v u W)
    clear HC H4
    rcases hE with rfl | ⟨f1, f2, f3⟩
    · have H32 := Lib.hid (fun W => H3.out rfl W)
      clear H3 H2
      go_wp2_with fail
      refine (HC2.out _ X.out).mono ?_
      rintro e w3 ⟨u, rfl, hu, gg⟩
      replace X := Lib.hid (bel_trans X.out gg); clear gg HC2
      have C1 := Lib.hid hu
      obtain ⟨a2, cap2, rfl, _⟩ := hu
      go_wp2_with fail
      refine (H1.out _ _ X.out C1.out).mono ?_
      rintro e w4 ⟨rfl, gg⟩
      replace X := Lib.hid (bel_trans X.out gg); clear gg H1 C1
      go_wp2_with fail
      refine (H32.out _ X.out).mono ?_
      rintro e w5 ⟨v, rfl, hv, gg⟩
      replace X := Lib.hid (bel_trans X.out gg); clear gg H32
      have C3 := Lib.hid hv
      obtain ⟨a3, cap3, rfl, _⟩ := hv
      go_wp2_with fail
      refine (H42.out _ _ _ C3.out (HV.out.below X.out)).mono ?_
      rintro e w6 ⟨rfl, gg⟩
      replace X := Lib.hid (bel_trans X.out gg); clear gg H42
      go_wp2
      go_returns
      exact ⟨rfl, X.out⟩
    · clear H3 H42
      go_wp2_with fail
      refine (HC2.out _ X.out).mono ?_
      rintro e w3 ⟨u, rfl, hu, gg⟩
      replace X := Lib.hid (bel_trans X.out gg); clear gg
      have C1 := Lib.hid hu
      obtain ⟨a2, cap2, rfl, _⟩ := hu
      go_wp2_with fail
      refine (H1.out _ _ X.out C1.out).mono ?_
      rintro e w4 ⟨rfl, gg⟩
      replace X := Lib.hid (bel_trans X.out gg); clear gg H1 C1
      go_wp2_with fail
      refine (HC2.out _ X.out).mono ?_
      rintro e w5 ⟨u, rfl, hu, gg⟩
      replace X := Lib.hid (bel_trans X.out gg); clear gg HC2
      have C3 := Lib.hid hu
      obtain ⟨a3, cap3, rfl, _⟩ := hu
      go_wp2_with fail
      refine (H2.out _ _ C3.out).mono ?_
      rintro e w6 ⟨rfl, gg⟩
      replace X := Lib.hid (bel_trans X.out gg); clear gg H2
      go_wp2
      go_returns
      exact ⟨rfl, X.out⟩
theorem walk (v : Value) (l : List Ck) (w : World) (hv : Cks w v l) (hw : CV w) :
    Calls Tryz.prog 6 #[v] w fun e w' => e = .returned (.bool true) ∧ Below w.heap.size w w' := by
  have HA := Lib.hid (awake_any w hw)
  have hv' := hv
  obtain ⟨a, cap, rfl, _⟩ := hv'
  refine core a l.length cap (fewB l) (liE l) ⟨(prS l).toArray⟩ l w ?_ (Lib.hid hv) HA (Lib.hid fun W hW => refFew_any _ l W (hv.below hW)) (Lib.hid fun h W hW => copy_is _ l W (hv.below hW) h)
    (Lib.hid fun u W hW hu => cPr_any u l W (hw.below hW) hu) (Lib.hid fun u W hu => cLi_any u l W hu) (Lib.hid fun h W hW => ?_) (Lib.hid fun h v u W h1 h2 => ?_)
  · by_cases h : liE l = 0
    · exact .inl h
    · refine .inr ⟨by simpa using h, by simpa using h, ?_⟩
      have : prS l = [] := by unfold prS; rw [if_neg h]
      rw [this, beq_lit]; exact decide_eq_true rfl
  · obtain ⟨b1, b2, b3, b4⟩ := back h
    have := parse_is ⟨(prS l).toArray⟩ W (hw.below hW) b1
    rwa [b2, b3, b4] at this
  · obtain ⟨f1, f2⟩ := fewB_small h
    have := refSame_any v u l l W h1 h2 (by omega) f2
    simpa using this

set_option maxRecDepth 100000 in
theorem contract (H : Type) (enc : TypeId × Value → H) (W : World) (base : Nat) (args : Array Value) (ds gs : List (DataW H)) (before : List MemPlace)
    (hval : ∀ (j : Nat) t v, Tryz.f6.params[j]? = some t → args[j]? = some v → Value.okWide Tryz.prog W .any base t v)
    (hW : DataW.Whole enc Tryz.prog Tryz.f6.params.toList Rows.caskBackSpec.vars false W args.toList ds gs before) (hL : laidMetH Tryz.prog Rows.caskBackRow.laid W) (hSh : W.ShapedOpen Tryz.prog) :
    Calls Tryz.prog 6 args W fun e W' => ∃ v, e = .returned v ∧ Rows.caskBackSpec.post enc Tryz.prog Tryz.f6 false true false false W args v W' := by
  have hW' := hW
  obtain ⟨p, q, hA0, hV, rfl, hfz, hnd⟩ := hW
  have hA : DataW.TrodAll enc Tryz.prog W 0 (fun _ => true) true Tryz.f6.params.toList args.toList ds p := hA0
  rw [Tryz.params6] at hA hval
  obtain ⟨v0, vs0, d0, ds0, p0, q0, hargs, rfl, rfl, h0, r0⟩ := trodAll_cons hA
  obtain ⟨rfl, rfl, rfl⟩ := trodAll_nil r0
  obtain rfl : args = #[v0] := by cases args; simp_all
  obtain ⟨rfl, rfl⟩ := trodVars_none hV
  have k0 := h0
  have lt0 : ∀ x ∈ p0, x.block < W.heap.size := by obtain ⟨m, hm⟩ := k0; exact DataW.trod_lt m _ _ _ hm
  obtain ⟨z0, w0⟩ := open_cks (hval 0 22 v0 rfl rfl) h0
  clear hA0
  refine (walk v0 z0 W w0 (laid_of rfl hL hSh)).mono fun e W' ⟨he, bel⟩ => ?_
  subst he
  exact ⟨_, rfl, _, _, _, [], _, [], hW', trodAll_mk1 (shut_bool Tryz.underlying4 _), (trodAll_cons_mk (Below.trod laidOut (by kernel_rfl) (of_decide_eq_true (by kernel_rfl)) k0 bel lt0) trodAll_mk0), rfl, bel.frame _, fun h => by cases h⟩

noncomputable def laidWorld (os : Os) : World := World.laidAll Tryz.prog os Rows.caskBackRow.laid
theorem laid_met (os : Os) : laidMet Tryz.prog Rows.caskBackRow.laid ((laidWorld os).forCall (fun _ _ => 0) ⟨#[], #[.slice none 0 0], []⟩).memory :=
  laidMet_laidAll _ (by kernel_rfl) (by kernel_rfl)
theorem reads (os : Os) {H : Type} (enc : TypeId × Value → H) : ∃ places, DataW.whole enc Tryz.prog ((laidWorld os).forCall (fun _ _ => 0) ⟨#[], #[.slice none 0 0], []⟩).memory Tryz.f6.params.toList Rows.caskBackSpec.vars false (#[.slice none 0 0] : Array Value).toList 8 = some ([.nil], [], places) :=
  ⟨[], by kernel_rfl⟩

set_option maxRecDepth 100000 in
theorem lifted (os : Os) (started : os.Started) (H : Type) (enc : TypeId × Value → H) (F : Stop.Interp) :
    ReturnsInHanded {} Tryz.checked os 6 .any ((OpenSpec.ofChange Rows.caskBackSpec).preRow enc Tryz.prog Tryz.f6 Rows.caskBackRow.domain false Rows.caskBackRow.laid) (((OpenSpec.ofChange Rows.caskBackSpec).at F).post enc Tryz.prog Tryz.f6 false true false false) := by
  obtain ⟨places, hx⟩ := reads os enc
  refine returnsInHanded_of_row (C := Tryz.checked) (s := OpenSpec.ofChange Rows.caskBackSpec) own started (by kernel_rfl) Tryz.func6
    (witness_row_at (enc := enc) (C := Tryz.checked) false (laidWorld os) #[.slice none 0 0] (World.laidAll_os _ _ _) (by kernel_rfl) (by kernel_rfl) (by kernel_rfl)
      (OpenSpec.preRow_of_cond 8 hx (by kernel_rfl) (fun k hk => by cases hk) (by kernel_rfl) (laid_met os))) ?_
  intro W base args ds gs before hval hW _ _ _ hL hSh _
  exact contract H enc W base args ds gs before hval hW hL hSh

theorem said : Rows.CaskBackSaid :=
  OpenClaim.holds_of_cond 6 Tryz.f6 rfl rfl rfl rfl rfl rfl rfl ⟨rfl, rfl, rfl, rfl, rfl⟩ rfl rfl rfl rfl rfl (by kernel_rfl) Tryz.func6 (by kernel_rfl)
    (of_decide_eq_true (by kernel_rfl)) (by unfold Func.isWrapper; first | (rw [if_pos (by decide +kernel)]; kernel_rfl) | (rw [if_neg (by decide +kernel)]; exact ⟨rfl, rfl⟩))
    (fun os started H enc _ F => by rw [OpenClaim.pre_eq_preRow]; exact lifted os started H enc F)

theorem plain (f : FuncId) (fn : Func) (hf : Tryz.pinned.checked.prog.funcNamed "spile/spilelaw09.CaskBack" = some f) (hfn : Tryz.pinned.checked.prog.funcs[f]? = some fn) :
    true = Tryz.pinned.checked.prog.looks [] ∧ ∀ (j : Nat) t, fn.params[j]? = some t → Tryz.pinned.checked.prog.wantsStandIn t = false := by
  obtain rfl : f = 6 := Option.some.inj ((show Tryz.prog.funcNamed "spile/spilelaw09.CaskBack" = some 6 by kernel_rfl).symm.trans hf) |>.symm
  obtain rfl : fn = Tryz.f6 := (Option.some.inj (Tryz.func6.symm.trans hfn)).symm
  refine ⟨by kernel_rfl, fun j t ht => ?_⟩
  rw [Tryz.params6] at ht
  rcases j with _ | j
  · obtain rfl : t = 22 := by simpa using ht.symm
    exact (show Tryz.prog.wantsStandIn 22 = false by kernel_rfl)
  · simp at ht

theorem proved : Rows.CaskBackCardSaid :=
  Claim7.holds_tied_plain_at .later [] _ _ _ _ said (fun _ h => by cases h) (by kernel_rfl) (fun _ h => by cases h) caskBack_row_tie rfl ⟨rfl, rfl⟩ (by kernel_rfl) rfl plain (by kernel_rfl)
#print axioms proved
end Go.Proofs.YtpnlfeljmpfeoaaGreatDoor.caskBack
