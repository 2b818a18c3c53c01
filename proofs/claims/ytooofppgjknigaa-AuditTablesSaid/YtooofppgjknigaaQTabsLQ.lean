/-
  The statement AuditTables of spile/spilelaw17 holds: for every input the call returns true, and each argument reads afterwards as it read before.
-/
import Derived.Test.YtooofppgjknigaaM2
import Derived.Below
import Derived.Carry
set_option linter.unusedVariables false
set_option linter.unusedSimpArgs false
namespace Go.Proofs.Ytooofppgjknigaa.auditTables
open Go.ChangeShapes Go.WideShapes Go.ChangeAt Go.RowKit
open Go.ChangeMaps (open_string shut_string)
set_option linter.unusedVariables false

set_option maxHeartbeats 4000000 in
theorem long (a : Option Addr) (n cap : Nat) (w : World)
    (FW : Hid (∀ W, Below w.heap.size w W → Calls Try.prog 11 #[.slice a n cap] W fun e w' => e = .returned (.bool false) ∧ w' = W)) :
    Calls Try.prog 5 #[.slice a n cap] w fun e w' => e = .returned (.bool true) ∧ Below w.heap.size w w' := by
  have HA := Lib.hid (fun W => awake_any W)
  have HB := Lib.hid (Below.refl w.heap.size w)
  go_enter Try.func5, Try.ntmps5
  go_wp2_with fail
  refine (HA.out _).mono ?_
  rintro e w2 ⟨rfl, h1⟩
  replace HB := Lib.hid (bel_trans HB.out h1); clear h1
  go_wp2_with fail
  refine (FW.out _ HB.out).mono ?_
  rintro e w90 ⟨rfl, hw⟩
  subst hw
  go_wp2
  go_returns
  exact ⟨rfl, HB.out⟩
set_option maxHeartbeats 8000000 in
theorem core (a : Option Addr) (n cap : Nat) (TE : Int) (TL l : List (Int × Int)) (w : World) (NV : Hid (Pts w (.slice a n cap) l)) (zr : TL.length ≤ 1000)
    (FW : Hid (∀ W, Below w.heap.size w W → Calls Try.prog 11 #[.slice a n cap] W fun e w' => e = .returned (.bool true) ∧ w' = W))
    (C1 : Hid (∀ W, Pts W (.slice a n cap) l → Calls Try.prog 25 #[.slice a n cap] W fun e w' => ∃ u, e = .returned (.tuple #[u, .int .i64 TE]) ∧ Pts w' u TL ∧ Below W.heap.size W w'))
    (C2 : Hid (∀ W, Pts W (.slice a n cap) l → Calls Try.prog 26 #[.slice a n cap] W fun e w' => ∃ u, e = .returned (.tuple #[u, .int .i64 TE]) ∧ Pts w' u TL ∧ Below W.heap.size W w')) :
    Calls Try.prog 5 #[.slice a n cap] w fun e w' => e = .returned (.bool true) ∧ Below w.heap.size w w' := by
  have HA := Lib.hid (fun W => awake_any W)
  have ES := Lib.hid (fun v u W h1 h2 => same_any v u TL TL W h1 h2 zr)
  rw [show (TL == TL) = true by simp] at ES
  have HB := Lib.hid (Below.refl w.heap.size w)
  go_enter Try.func5, Try.ntmps5
  go_wp2_with fail
  refine (HA.out _).mono ?_
  rintro e w5 ⟨rfl, h1⟩
  replace NV := Lib.hid (NV.out.below h1)
  replace HB := Lib.hid (bel_trans HB.out h1); clear h1
  go_wp2_with fail
  refine (FW.out _ HB.out).mono ?_
  rintro e w90 ⟨rfl, hw⟩
  subst hw
  clear FW
  go_wp2_with fail
  refine (C1.out _ NV.out).mono ?_
  rintro e w6 ⟨V1, rfl, hx, h1⟩
  replace NV := Lib.hid (NV.out.below h1)
  replace HB := Lib.hid (bel_trans HB.out h1); clear h1
  have N1 := Lib.hid hx; clear hx
  go_wp2_with fail
  refine (C2.out _ NV.out).mono ?_
  rintro e w7 ⟨V2, rfl, hx, h1⟩
  replace NV := Lib.hid (NV.out.below h1)
  replace N1 := Lib.hid (N1.out.below h1)
  replace HB := Lib.hid (bel_trans HB.out h1); clear h1
  have N2 := Lib.hid hx; clear hx
  go_wp2_with fail
  refine (ES.out _ _ _ N1.out N2.out).mono ?_
  rintro e w8 ⟨rfl, h1⟩
  replace NV := Lib.hid (NV.out.below h1)
  replace N1 := Lib.hid (N1.out.below h1)
  replace N2 := Lib.hid (N2.out.below h1)
  replace HB := Lib.hid (bel_trans HB.out h1); clear h1
  go_wp2
  go_returns
  exact ⟨rfl, HB.out⟩
theorem walk (v : Value) (l : List (Int × Int)) (w : World) (hv : Pts w v l) :
    Calls Try.prog 5 #[v] w fun e w' => e = .returned (.bool true) ∧ Below w.heap.size w w' := by
  have hv2 := hv
  obtain ⟨a, cap, rfl, _, _⟩ := hv.shape
  cases h : fwB l.length with
  | true =>
    refine core a l.length cap _ _ l w hv2 ?_ (Lib.hid fun W hW => ?_) (Lib.hid fun W h => auTb_any _ l W h) (Lib.hid fun W h => raTb_any _ l W h)
    · have h1 := coF_len l l.length
      unfold tbL
      split
      · rename_i g
        have hA : auE l = 0 := by
          apply Classical.byContradiction
          intro hh
          unfold tbE at g
          rw [if_pos hh] at g
          exact absurd g (by decide)
        have := (auE_zero.1 hA).n1
        omega
      · simp
    · have := few_any _ l W (hv2.below hW)
      rwa [h] at this
  | false =>
    refine long a l.length cap w (Lib.hid fun W hW => ?_)
    have := few_any _ l W (hv2.below hW)
    rwa [h] at this

set_option maxRecDepth 100000 in
theorem lifted (os : Os) (started : os.Started) (H : Type) (enc : TypeId × Value → H) :
    ReturnsInHanded {} Try.checked os 5 .any (Rows.auditTablesSpec.pre6 enc Try.prog Try.f5 Rows.auditTablesRow.domain false) (Rows.auditTablesSpec.post enc Try.prog Try.f5 false true false false) := by
  refine returnsInHanded_of_change (C := Try.checked) own started (by kernel_rfl) Try.func5
    (ChangeSpec.witness6 (enc := enc) (C := Try.checked) false ⟨#[], #[.slice none 0 0], []⟩ 8 (by kernel_rfl) (by kernel_rfl) (by kernel_rfl) (by kernel_rfl)) ?_
  intro W base args ds gs before hval0 hW hcnd _
  have hval : ∀ (j : Nat) t v, Try.f5.params[j]? = some t → args[j]? = some v → Value.okWide Try.prog W .any base t v := hval0
  clear hval0
  have hW' := hW
  obtain ⟨p, q, hA0, hV, rfl, hfz, hnd⟩ := hW
  have hA : DataW.TrodAll enc Try.prog W 0 (fun _ => true) true Try.f5.params.toList args.toList ds p := hA0
  rw [Try.params5] at hA hval
  obtain ⟨v0, vs0, d0, ds0, p0, q0, hargs, rfl, rfl, h0, r0⟩ := trodAll_cons hA
  obtain ⟨rfl, rfl, rfl⟩ := trodAll_nil r0
  obtain rfl : args = #[v0] := by cases args; simp_all
  obtain ⟨rfl, rfl⟩ := trodVars_none hV
  have k0 := h0
  have lt0 : ∀ x ∈ p0, x.block < W.heap.size := by obtain ⟨m, hm⟩ := k0; exact DataW.trod_lt m _ _ _ hm
  obtain ⟨z0, w0⟩ := open_pts (hval 0 22 v0 rfl rfl) h0
  clear hA0
  refine (walk v0 z0 W w0).mono fun e W' ⟨he, bel⟩ => ?_
  subst he
  exact ⟨_, rfl, _, _, _, [], _, [], hW', trodAll_mk1 (shut_bool Try.underlying4 _), (trodAll_cons_mk (Below.trod laidOut (by kernel_rfl) (of_decide_eq_true (by kernel_rfl)) k0 bel lt0) trodAll_mk0), rfl, bel.frame _, fun h => by cases h⟩

theorem over : Rows.auditTablesRow.holds Try.pinned (OpenSpec.ofChange Rows.auditTablesSpec) :=
  OpenClaim.holds_of_wide 5 Try.f5 rfl rfl rfl rfl rfl rfl rfl ⟨rfl, rfl, rfl, rfl, rfl⟩ rfl rfl rfl rfl rfl (by kernel_rfl) Try.func5 (by kernel_rfl)
    (of_decide_eq_true (by kernel_rfl)) (by unfold Func.isWrapper; first | (rw [if_pos (by decide +kernel)]; kernel_rfl) | (rw [if_neg (by decide +kernel)]; exact ⟨rfl, rfl⟩))
    (fun os started H enc _ => lifted os started H enc)

theorem proved : Rows.AuditTablesSaid := over
#print axioms proved
end Go.Proofs.Ytooofppgjknigaa.auditTables

