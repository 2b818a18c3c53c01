/-
  The statement ShareJoins of spile/spilelaw23 holds: for every input the call returns true, and each argument reads afterwards as it read before.
-/
import Derived.Test.YtmoeccghkpjbgaaM4
import Derived.Test.YtmoeccghkpjbgaaM2
import Derived.Below
import Derived.Carry
set_option linter.unusedVariables false
set_option linter.unusedSimpArgs false
namespace Go.Proofs.Ytmoeccghkpjbgaa.shareJoins
open Go.ChangeShapes Go.WideShapes Go.ChangeAt Go.RowKit
open Go.ChangeMaps (open_string shut_string)
set_option linter.unusedVariables false

set_option maxHeartbeats 4000000 in
theorem few1 (a a2 : Option Addr) (n cap n2 cap2 : Nat) (w : World) (h : fwS n = false) :
    Calls Try.prog 4 #[.slice a n cap, .slice a2 n2 cap2] w fun e w' => e = .returned (.bool true) ∧ Below w.heap.size w w' := by
  have HF := Lib.hid (fun W => rlFs_any a n cap W)
  rw [h] at HF
  have HB := Lib.hid (Below.refl w.heap.size w)
  go_enter Try.func4, Try.ntmps4
  go_wp2_with fail
  refine (awakeS_any w).mono ?_
  rintro e w1 ⟨rfl, h1⟩
  replace HB := Lib.hid (bel_trans HB.out h1); clear h1
  go_wp2_with fail
  refine (HF.out _).mono ?_
  rintro e w2 ⟨rfl, h1⟩
  replace HB := Lib.hid (bel_trans HB.out h1); clear h1
  go_wp2
  go_returns
  exact ⟨rfl, HB.out⟩
set_option maxHeartbeats 4000000 in
theorem few2 (a a2 : Option Addr) (n cap n2 cap2 : Nat) (w : World) (h : fwS n = true) (h2 : fwS n2 = false) :
    Calls Try.prog 4 #[.slice a n cap, .slice a2 n2 cap2] w fun e w' => e = .returned (.bool true) ∧ Below w.heap.size w w' := by
  have HF := Lib.hid (fun W => rlFs_any a n cap W)
  have HF2 := Lib.hid (fun W => rlFs_any a2 n2 cap2 W)
  rw [h] at HF
  rw [h2] at HF2
  have HB := Lib.hid (Below.refl w.heap.size w)
  go_enter Try.func4, Try.ntmps4
  go_wp2_with fail
  refine (awakeS_any w).mono ?_
  rintro e w1 ⟨rfl, h1⟩
  replace HB := Lib.hid (bel_trans HB.out h1); clear h1
  go_wp2_with fail
  refine (HF.out _).mono ?_
  rintro e w2 ⟨rfl, h1⟩
  replace HB := Lib.hid (bel_trans HB.out h1); clear h1
  go_wp2_with fail
  refine (HF2.out _).mono ?_
  rintro e w3 ⟨rfl, h1⟩
  replace HB := Lib.hid (bel_trans HB.out h1); clear h1
  go_wp2
  go_returns
  exact ⟨rfl, HB.out⟩
set_option maxHeartbeats 16000000 in
set_option maxRecDepth 100000 in
theorem core (a a2 : Option Addr) (n cap n2 cap2 : Nat) (E : Int) (J s z : List (Int × Int)) (w : World) (N1 : Hid (Pts w (.slice a n cap) s)) (N2 : Hid (Pts w (.slice a2 n2 cap2) z)) (h : fwS n = true) (h2 : fwS n2 = true) (zJ : J.length ≤ 1000)
    (C1 : Hid (∀ W, Pts W (.slice a n cap) s → Pts W (.slice a2 n2 cap2) z → Calls Try.prog 22 #[.slice a n cap, .slice a2 n2 cap2] W fun e w' => ∃ u, e = .returned (.tuple #[u, .int .i64 E]) ∧ RH.Sh w' W.heap.size u J ∧ Below W.heap.size W w'))
    (C2 : Hid (∀ W, Pts W (.slice a n cap) s → Pts W (.slice a2 n2 cap2) z → Calls Try.prog 23 #[.slice a n cap, .slice a2 n2 cap2] W fun e w' => ∃ u, e = .returned (.tuple #[u, .int .i64 E]) ∧ RH.Sh w' W.heap.size u J ∧ Below W.heap.size W w')) :
    Calls Try.prog 4 #[.slice a n cap, .slice a2 n2 cap2] w fun e w' => e = .returned (.bool true) ∧ Below w.heap.size w w' := by
  have HF := Lib.hid (fun W => rlFs_any a n cap W)
  have HF2 := Lib.hid (fun W => rlFs_any a2 n2 cap2 W)
  rw [h] at HF
  rw [h2] at HF2
  have EJ := Lib.hid (fun v u W h h' => rlSs_any v u J J W h h' zJ)
  rw [show (J == J) = true by simp] at EJ
  have HB := Lib.hid (Below.refl w.heap.size w)
  go_enter Try.func4, Try.ntmps4
  go_wp2_with fail
  refine (awakeS_any w).mono ?_
  rintro e w1 ⟨rfl, h1⟩
  replace N1 := Lib.hid (N1.out.below h1)
  replace N2 := Lib.hid (N2.out.below h1)
  replace HB := Lib.hid (bel_trans HB.out h1); clear h1
  go_wp2_with fail
  refine (HF.out _).mono ?_
  rintro e w2 ⟨rfl, h1⟩
  replace N1 := Lib.hid (N1.out.below h1)
  replace N2 := Lib.hid (N2.out.below h1)
  replace HB := Lib.hid (bel_trans HB.out h1); clear h1
  go_wp2_with fail
  refine (HF2.out _).mono ?_
  rintro e w3 ⟨rfl, h1⟩
  replace N1 := Lib.hid (N1.out.below h1)
  replace N2 := Lib.hid (N2.out.below h1)
  replace HB := Lib.hid (bel_trans HB.out h1); clear h1
  go_wp2_with fail
  refine (C1.out _ N1.out N2.out).mono ?_
  rintro e w4 ⟨u1, rfl, g1, h1⟩
  replace N1 := Lib.hid (N1.out.below h1)
  replace N2 := Lib.hid (N2.out.below h1)
  replace HB := Lib.hid (bel_trans HB.out h1); clear h1
  have J1 := Lib.hid g1.pts
  clear g1
  go_wp2_with fail
  refine (C2.out _ N1.out N2.out).mono ?_
  rintro e w5 ⟨u2, rfl, g1, h1⟩
  replace N1 := Lib.hid (N1.out.below h1)
  replace N2 := Lib.hid (N2.out.below h1)
  replace J1 := Lib.hid (J1.out.below h1)
  replace HB := Lib.hid (bel_trans HB.out h1); clear h1
  have J2 := Lib.hid g1.pts
  clear g1
  go_wp2_with fail
  refine (EJ.out _ _ _ J1.out J2.out).mono ?_
  rintro e w6 ⟨rfl, h1⟩
  replace N1 := Lib.hid (N1.out.below h1)
  replace N2 := Lib.hid (N2.out.below h1)
  replace J1 := Lib.hid (J1.out.below h1)
  replace J2 := Lib.hid (J2.out.below h1)
  replace HB := Lib.hid (bel_trans HB.out h1); clear h1
  go_wp2
  go_returns
  exact ⟨rfl, HB.out⟩
theorem walk (v : Value) (s : List (Int × Int)) (v2 : Value) (z : List (Int × Int)) (w : World) (hv : Pts w v s) (hv2 : Pts w v2 z) :
    Calls Try.prog 4 #[v, v2] w fun e w' => e = .returned (.bool true) ∧ Below w.heap.size w w' := by
  have q1 := Lib.hid hv
  have q2 := Lib.hid hv2
  obtain ⟨a, cap, rfl, _, _⟩ := hv.shape
  obtain ⟨a2, cap2, rfl, _, _⟩ := hv2.shape
  cases h : fwS s.length with
  | false => exact few1 a a2 _ cap _ cap2 w h
  | true =>
    cases h2 : fwS z.length with
    | false => exact few2 a a2 _ cap _ cap2 w h h2
    | true =>
      have zJ : (jnL s z).length ≤ 1000 := by
        by_cases e1 : scE s = 0
        · by_cases e2 : scE z = 0
          · have := jn_len (scE_zero.1 e1) (scE_zero.1 e2)
            unfold jnL; split
            · omega
            · simp
          · have e : jnE s z = 1 := by unfold jnE; rw [if_pos (.inr e2)]
            unfold jnL; rw [e, if_neg (by decide)]; simp
        · have e : jnE s z = 1 := by unfold jnE; rw [if_pos (.inl e1)]
          unfold jnL; rw [e, if_neg (by decide)]; simp
      exact core a a2 _ cap _ cap2 _ _ s z w q1 q2 h h2 zJ (Lib.hid fun W g g' => shJn_any _ _ s z W g g') (Lib.hid fun W g g' => rsJn_any _ _ s z W g g')

set_option maxRecDepth 100000 in
theorem lifted (os : Os) (started : os.Started) (H : Type) (enc : TypeId × Value → H) :
    ReturnsInHanded {} Try.checked os 4 .any (Rows.shareJoinsSpec.pre6 enc Try.prog Try.f4 Rows.shareJoinsRow.domain false) (Rows.shareJoinsSpec.post enc Try.prog Try.f4 false true false false) := by
  refine returnsInHanded_of_change (C := Try.checked) own started (by kernel_rfl) Try.func4
    (ChangeSpec.witness6 (enc := enc) (C := Try.checked) false ⟨#[], #[.slice none 0 0, .slice none 0 0], []⟩ 8 (by kernel_rfl) (by kernel_rfl) (by kernel_rfl) (by kernel_rfl)) ?_
  intro W base args ds gs before hval0 hW hcnd _
  have hval : ∀ (j : Nat) t v, Try.f4.params[j]? = some t → args[j]? = some v → Value.okWide Try.prog W .any base t v := hval0
  clear hval0
  have hW' := hW
  obtain ⟨p, q, hA0, hV, rfl, hfz, hnd⟩ := hW
  have hA : DataW.TrodAll enc Try.prog W 0 (fun _ => true) true Try.f4.params.toList args.toList ds p := hA0
  rw [Try.params4] at hA hval
  obtain ⟨v0, vs0, d0, ds0, p0, q0, hargs, rfl, rfl, h0, r0⟩ := trodAll_cons hA
  obtain ⟨v1, vs1, d1, ds1, p1, q1, rfl, rfl, rfl, h1, r1⟩ := trodAll_cons r0
  obtain ⟨rfl, rfl, rfl⟩ := trodAll_nil r1
  obtain rfl : args = #[v0, v1] := by cases args; simp_all
  obtain ⟨rfl, rfl⟩ := trodVars_none hV
  have k0 := h0
  have lt0 : ∀ x ∈ p0, x.block < W.heap.size := by obtain ⟨m, hm⟩ := k0; exact DataW.trod_lt m _ _ _ hm
  have k1 := h1
  have lt1 : ∀ x ∈ p1, x.block < W.heap.size := by obtain ⟨m, hm⟩ := k1; exact DataW.trod_lt m _ _ _ hm
  obtain ⟨z0, w0⟩ := open_shs (hval 0 22 v0 rfl rfl) h0
  obtain ⟨z1, w1⟩ := open_shs (hval 1 22 v1 rfl rfl) h1
  clear hA0
  refine (walk v0 z0 v1 z1 W w0 w1).mono fun e W' ⟨he, bel⟩ => ?_
  subst he
  exact ⟨_, rfl, _, _, _, [], _, [], hW', trodAll_mk1 (shut_bool Try.underlying4 _), (trodAll_cons_mk (Below.trod laidOut (by kernel_rfl) (of_decide_eq_true (by kernel_rfl)) k0 bel lt0) (trodAll_cons_mk (Below.trod laidOut (by kernel_rfl) (of_decide_eq_true (by kernel_rfl)) k1 bel lt1) trodAll_mk0)), rfl, bel.frame _, fun h => by cases h⟩

theorem over : Rows.shareJoinsRow.holds Try.pinned (OpenSpec.ofChange Rows.shareJoinsSpec) :=
  OpenClaim.holds_of_wide 4 Try.f4 rfl rfl rfl rfl rfl rfl rfl ⟨rfl, rfl, rfl, rfl, rfl⟩ rfl rfl rfl rfl rfl (by kernel_rfl) Try.func4 (by kernel_rfl)
    (of_decide_eq_true (by kernel_rfl)) (by unfold Func.isWrapper; first | (rw [if_pos (by decide +kernel)]; kernel_rfl) | (rw [if_neg (by decide +kernel)]; exact ⟨rfl, rfl⟩))
    (fun os started H enc _ => lifted os started H enc)

theorem proved : Rows.ShareJoinsSaid := over
#print axioms proved
end Go.Proofs.Ytmoeccghkpjbgaa.shareJoins

