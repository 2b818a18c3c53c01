/-
  The statement AuditTolerates of spile/spilelaw17 holds: for every input the call returns true, and each argument reads afterwards as it read before.
-/
import Derived.Test.YtooofppgjknigaaM2
import Derived.Below
import Derived.Carry
set_option linter.unusedVariables false
set_option linter.unusedSimpArgs false
namespace Go.Proofs.Ytooofppgjknigaa.auditTolerates
open Go.ChangeShapes Go.WideShapes Go.ChangeAt Go.RowKit
open Go.ChangeMaps (open_string shut_string)
set_option linter.unusedVariables false

set_option maxHeartbeats 4000000 in
theorem long (a : Option Addr) (n cap : Nat) (u : Int) (w : World) (h : 20 < n) :
    Calls Try.prog 8 #[.slice a n cap, .int .u16 u] w fun e w' => e = .returned (.bool true) ∧ Below w.heap.size w w' := by
  have HA := Lib.hid (fun W => awake_any W)
  have dn : decide (20 < (n : Int)) = true := decide_eq_true (by omega)
  have HB := Lib.hid (Below.refl w.heap.size w)
  go_enter Try.func8, Try.ntmps8
  go_wp2_with fail
  refine (HA.out _).mono ?_
  rintro e w2 ⟨rfl, h1⟩
  replace HB := Lib.hid (bel_trans HB.out h1); clear h1
  go_wp2
  go_returns
  exact ⟨rfl, HB.out⟩
set_option maxHeartbeats 4000000 in
theorem bad (a : Option Addr) (n cap : Nat) (u : Int) (l : List (Int × Int)) (w : World) (h : n ≤ 20) (NV : Hid (Pts w (.slice a n cap) l)) (he : leE l = 1) (hv : leV l = 0) :
    Calls Try.prog 8 #[.slice a n cap, .int .u16 u] w fun e w' => e = .returned (.bool true) ∧ Below w.heap.size w w' := by
  have HA := Lib.hid (fun W => awake_any W)
  have CL := Lib.hid (fun v W h => auLe_any v l W h)
  rw [he, hv] at CL
  have dn : decide (20 < (n : Int)) = false := decide_eq_false (by omega)
  have HB := Lib.hid (Below.refl w.heap.size w)
  go_enter Try.func8, Try.ntmps8
  go_wp2_with fail
  refine (HA.out _).mono ?_
  rintro e w5 ⟨rfl, h1⟩
  replace NV := Lib.hid (NV.out.below h1)
  replace HB := Lib.hid (bel_trans HB.out h1); clear h1
  go_wp2_with fail
  refine (CL.out _ _ NV.out).mono ?_
  rintro e w6 ⟨rfl, h1⟩
  replace NV := Lib.hid (NV.out.below h1)
  replace HB := Lib.hid (bel_trans HB.out h1); clear h1
  go_wp2
  go_returns
  exact ⟨rfl, HB.out⟩
set_option maxHeartbeats 16000000 in
set_option maxRecDepth 100000 in
theorem good (a : Option Addr) (n cap : Nat) (u L t : Int) (LA LB LC LD : List (Int × Int)) (l : List (Int × Int)) (w : World) (h : n ≤ 20) (NV : Hid (Pts w (.slice a n cap) l)) (hu : 0 ≤ u ∧ u ≤ 65535) (hL : 0 ≤ L ∧ L ≤ 70000)
    (ht : u % 1000 = t) (la : LA.length = 0) (lb : 0 < L → LB.length ≠ 0) (lc : LC.length = 0 ↔ L ≤ t) (lcd : Hid (∀ c ∈ LD, c ∈ LC)) (zc : LC.length ≤ 1000) (zd : LD.length ≤ 1000)
    (C1 : Hid (∀ v W, Pts W v l → Calls Try.prog 16 #[v] W fun e w' => e = .returned (.tuple #[.int .i64 L, .int .i64 0]) ∧ Below W.heap.size W w'))
    (CA : Hid (∀ v W, Pts W v l → Calls Try.prog 14 #[v, .int .i64 L] W fun e w' => ∃ u, e = .returned (.tuple #[u, .int .i64 0]) ∧ Pts w' u LA ∧ Below W.heap.size W w'))
    (CB : Hid (0 < L → ∀ v W, Pts W v l → Calls Try.prog 14 #[v, .int .i64 (L - 1)] W fun e w' => ∃ u, e = .returned (.tuple #[u, .int .i64 0]) ∧ Pts w' u LB ∧ Below W.heap.size W w'))
    (CC : Hid (∀ v W, Pts W v l → Calls Try.prog 14 #[v, .int .i64 t] W fun e w' => ∃ u, e = .returned (.tuple #[u, .int .i64 0]) ∧ Pts w' u LC ∧ Below W.heap.size W w'))
    (CD : Hid (∀ v W, Pts W v l → Calls Try.prog 14 #[v, .int .i64 (t + 1)] W fun e w' => ∃ u, e = .returned (.tuple #[u, .int .i64 0]) ∧ Pts w' u LD ∧ Below W.heap.size W w')) :
    Calls Try.prog 8 #[.slice a n cap, .int .u16 u] w fun e w' => e = .returned (.bool true) ∧ Below w.heap.size w w' := by
  have HA := Lib.hid (fun W => awake_any W)
  have hmf : ∀ (fn : Fn) (first cap : Array Value) (w : World), (Instr.makeFunc fn first cap).run Try.prog w = .ok (.func fn first cap) w := fun _ _ _ _ => rfl
  have dn : decide (20 < (n : Int)) = false := decide_eq_false (by omega)
  have wu : IntKind.i64.wrap u = u := wrap_in _ ⟨by omega, by omega⟩
  have wL : IntKind.i64.wrap (L - 1) = L - 1 := wrap_in _ ⟨by omega, by omega⟩
  have wt0 : 0 ≤ t ∧ t ≤ 1000 := by omega
  have wt : IntKind.i64.wrap (t + 1) = t + 1 := wrap_in _ ⟨by omega, by omega⟩
  have wt2 : IntKind.i64.wrap t = t := wrap_in _ ⟨by omega, by omega⟩
  have wr1 : u.tmod 1000 = t := by rw [Int.tmod_eq_emod_of_nonneg (by omega)]; exact ht
  by_cases h0 : 0 < L
  · have d0 : decide (0 < L) = true := decide_eq_true h0
    replace CB := Lib.hid (CB.out h0)
    have lb := lb h0
    clear h0
    have HB := Lib.hid (Below.refl w.heap.size w)
    go_enter Try.func8, Try.ntmps8
    go_wp2_with fail
    refine (HA.out _).mono ?_
    rintro e w9 ⟨rfl, h1⟩
    replace NV := Lib.hid (NV.out.below h1)
    replace HB := Lib.hid (bel_trans HB.out h1); clear h1
    go_wp2_with fail
    refine (C1.out _ _ NV.out).mono ?_
    rintro e w10 ⟨rfl, h1⟩
    replace NV := Lib.hid (NV.out.below h1)
    replace HB := Lib.hid (bel_trans HB.out h1); clear h1
    go_wp2_with fail
    refine (CA.out _ _ NV.out).mono ?_
    rintro e w11 ⟨V1, rfl, hx, h1⟩
    replace NV := Lib.hid (NV.out.below h1)
    replace HB := Lib.hid (bel_trans HB.out h1); clear h1
    have N1 := Lib.hid hx; clear hx
    obtain ⟨a1, c1, e1, _, _⟩ := N1.out.shape
    rw [la] at e1
    subst e1
    clear N1
    go_wp2_with fail
    refine (CB.out _ _ NV.out).mono ?_
    rintro e w13 ⟨V2, rfl, hx, h1⟩
    replace NV := Lib.hid (NV.out.below h1)
    replace HB := Lib.hid (bel_trans HB.out h1); clear h1
    have N2 := Lib.hid hx; clear hx
    obtain ⟨a2, c2, e2, _, _⟩ := N2.out.shape
    have d2 : ((LB.length : Int) == 0) = false := by rw [beq_eq_false_iff_ne]; omega
    subst e2
    clear N2
    generalize LB.length = nb at *
    go_wp2_with fail
    refine (CC.out _ _ NV.out).mono ?_
    rintro e w15 ⟨V3, rfl, hx, h1⟩
    replace NV := Lib.hid (NV.out.below h1)
    replace HB := Lib.hid (bel_trans HB.out h1); clear h1
    have N3 := Lib.hid hx; clear hx
    have N3B := Lib.hid (N3.out.below (bel_alloc (o := .cells #[V3] 28) (Below.refl _ _)))
    have NVB := Lib.hid (NV.out.below (bel_alloc (o := .cells #[V3] 28) (Below.refl _ _)))
    have BX := Lib.hid (Boxed.new (w15) 28 V3)
    have BS := Lib.hid (bel_alloc (w := (w15)) (o := .cells #[V3] 28) (Below.refl _ _))
    replace HB := Lib.hid (bel_trans HB.out BS.out)
    obtain ⟨a3, c3, e3, _, _⟩ := N3.out.shape
    subst e3
    go_wp2_with fail
    refine (CD.out _ _ NVB.out).mono ?_
    rintro e w70 ⟨V4, rfl, hx, h1⟩
    replace N3B := Lib.hid (N3B.out.below h1)
    replace BX := Lib.hid (bxd_below BX.out h1)
    replace HB := Lib.hid (bel_trans HB.out h1); clear h1
    have N4 := Lib.hid hx; clear hx
    have TC := Lib.hid (tol_any _ _ _ LC LD w70 zc zd N4.out N3B.out BX.out.cell BX.out.lt lcd.out)
    have cb := BX.out.cell
    have dE : (((LC.length : Int) == 0) == decide (L ≤ t)) = true := by
      rw [beq_iff_eq, Bool.eq_iff_iff, beq_iff_eq, decide_eq_true_eq]; omega
    clear lc la BX N3B N4 N3 NV NVB CD CC CA C1
    generalize LC.length = nc at *
    go_wp2_with fail
    refine TC.out.mono ?_
    rintro e w71 ⟨rfl, h1⟩
    replace HB := Lib.hid (bel_trans HB.out h1); clear h1
    go_wp2
    go_returns
    exact ⟨rfl, HB.out⟩
  · have d0 : decide (0 < L) = false := decide_eq_false h0
    clear CB lb h0
    have HB := Lib.hid (Below.refl w.heap.size w)
    go_enter Try.func8, Try.ntmps8
    go_wp2_with fail
    refine (HA.out _).mono ?_
    rintro e w18 ⟨rfl, h1⟩
    replace NV := Lib.hid (NV.out.below h1)
    replace HB := Lib.hid (bel_trans HB.out h1); clear h1
    go_wp2_with fail
    refine (C1.out _ _ NV.out).mono ?_
    rintro e w19 ⟨rfl, h1⟩
    replace NV := Lib.hid (NV.out.below h1)
    replace HB := Lib.hid (bel_trans HB.out h1); clear h1
    go_wp2_with fail
    refine (CA.out _ _ NV.out).mono ?_
    rintro e w20 ⟨V1, rfl, hx, h1⟩
    replace NV := Lib.hid (NV.out.below h1)
    replace HB := Lib.hid (bel_trans HB.out h1); clear h1
    have N1 := Lib.hid hx; clear hx
    obtain ⟨a1, c1, e1, _, _⟩ := N1.out.shape
    rw [la] at e1
    subst e1
    clear N1
    go_wp2_with fail
    refine (CC.out _ _ NV.out).mono ?_
    rintro e w22 ⟨V3, rfl, hx, h1⟩
    replace NV := Lib.hid (NV.out.below h1)
    replace HB := Lib.hid (bel_trans HB.out h1); clear h1
    have N3 := Lib.hid hx; clear hx
    have N3B := Lib.hid (N3.out.below (bel_alloc (o := .cells #[V3] 28) (Below.refl _ _)))
    have NVB := Lib.hid (NV.out.below (bel_alloc (o := .cells #[V3] 28) (Below.refl _ _)))
    have BX := Lib.hid (Boxed.new (w22) 28 V3)
    have BS := Lib.hid (bel_alloc (w := (w22)) (o := .cells #[V3] 28) (Below.refl _ _))
    replace HB := Lib.hid (bel_trans HB.out BS.out)
    obtain ⟨a3, c3, e3, _, _⟩ := N3.out.shape
    subst e3
    go_wp2_with fail
    refine (CD.out _ _ NVB.out).mono ?_
    rintro e w70 ⟨V4, rfl, hx, h1⟩
    replace N3B := Lib.hid (N3B.out.below h1)
    replace BX := Lib.hid (bxd_below BX.out h1)
    replace HB := Lib.hid (bel_trans HB.out h1); clear h1
    have N4 := Lib.hid hx; clear hx
    have TC := Lib.hid (tol_any _ _ _ LC LD w70 zc zd N4.out N3B.out BX.out.cell BX.out.lt lcd.out)
    have cb := BX.out.cell
    have dE : (((LC.length : Int) == 0) == decide (L ≤ t)) = true := by
      rw [beq_iff_eq, Bool.eq_iff_iff, beq_iff_eq, decide_eq_true_eq]; omega
    clear lc la BX N3B N4 N3 NV NVB CD CC CA C1
    generalize LC.length = nc at *
    go_wp2_with fail
    refine TC.out.mono ?_
    rintro e w71 ⟨rfl, h1⟩
    replace HB := Lib.hid (bel_trans HB.out h1); clear h1
    go_wp2
    go_returns
    exact ⟨rfl, HB.out⟩
theorem walk (v : Value) (l : List (Int × Int)) (u : Int) (w : World) (hv : Pts w v l) (hu : 0 ≤ u ∧ u ≤ 65535) :
    Calls Try.prog 8 #[v, .int .u16 u] w fun e w' => e = .returned (.bool true) ∧ Below w.heap.size w w' := by
  have hv2 := hv
  obtain ⟨a, cap, rfl, _, _⟩ := hv.shape
  by_cases hn : 20 < l.length
  · exact long a l.length cap u w hn
  by_cases he : auE l = 0
  · have hA := auE_zero.1 he
    have lb := leV_bd hA
    have e1 : leE l = 0 := by unfold leE; rw [if_pos he]
    have HL := fun v W h => auLe_any v l W h
    rw [e1] at HL
    have cc : ∀ t, 0 ≤ t → t ≤ 120000 → ∀ v W, Pts W v l → Calls Try.prog 14 #[v, .int .i64 t] W fun e w' => ∃ u, e = .returned (.tuple #[u, .int .i64 0]) ∧ Pts w' u (ccL l t) ∧ Below W.heap.size W w' := fun t t0 t1 v W h => by
      have := auCc_any v l t W h
      rwa [ccE_ok hA t0 t1] at this
    refine good a l.length cap u (leV l) (u % 1000) (ccL l (leV l)) (ccL l (leV l - 1)) (ccL l (u % 1000)) (ccL l (u % 1000 + 1)) l w (by omega) hv2 hu lb rfl ((ccL_nil hA lb.1 (by omega)).2 (Int.le_refl _)) (fun h0 => ?_) (ccL_nil hA (by omega) (by omega)) (Lib.hid (ccL_sub hA (by omega) (by omega))) (Nat.le_trans (ccL_len l _ (by omega)) (by omega)) (Nat.le_trans (ccL_len l _ (by omega)) (by omega)) (Lib.hid HL) (Lib.hid (cc _ lb.1 (by omega))) (Lib.hid fun h0 => cc _ (by omega) (by omega)) (Lib.hid (cc _ (by omega) (by omega))) (Lib.hid (cc _ (by omega) (by omega)))
    have := (ccL_nil hA (show 0 ≤ leV l - 1 by omega) (by omega))
    omega
  · exact bad a l.length cap u l w (by omega) hv2 (by unfold leE; rw [if_neg he]) (by unfold leV; rw [if_neg he])

set_option maxRecDepth 100000 in
theorem lifted (os : Os) (started : os.Started) (H : Type) (enc : TypeId × Value → H) :
    ReturnsInHanded {} Try.checked os 8 .any (Rows.auditToleratesSpec.pre6 enc Try.prog Try.f8 Rows.auditToleratesRow.domain false) (Rows.auditToleratesSpec.post enc Try.prog Try.f8 false true false false) := by
  refine returnsInHanded_of_change (C := Try.checked) own started (by kernel_rfl) Try.func8
    (ChangeSpec.witness6 (enc := enc) (C := Try.checked) false ⟨#[], #[.slice none 0 0, .int .u16 0], []⟩ 8 (by kernel_rfl) (by kernel_rfl) (by kernel_rfl) (by kernel_rfl)) ?_
  intro W base args ds gs before hval0 hW hcnd _
  have hval : ∀ (j : Nat) t v, Try.f8.params[j]? = some t → args[j]? = some v → Value.okWide Try.prog W .any base t v := hval0
  clear hval0
  have hW' := hW
  obtain ⟨p, q, hA0, hV, rfl, hfz, hnd⟩ := hW
  have hA : DataW.TrodAll enc Try.prog W 0 (fun _ => true) true Try.f8.params.toList args.toList ds p := hA0
  rw [Try.params8] at hA hval
  obtain ⟨v0, vs0, d0, ds0, p0, q0, hargs, rfl, rfl, h0, r0⟩ := trodAll_cons hA
  obtain ⟨v1, vs1, d1, ds1, p1, q1, rfl, rfl, rfl, h1, r1⟩ := trodAll_cons r0
  obtain ⟨rfl, rfl, rfl⟩ := trodAll_nil r1
  obtain rfl : args = #[v0, v1] := by cases args; simp_all
  obtain ⟨rfl, rfl⟩ := trodVars_none hV
  have k0 := h0
  have lt0 : ∀ x ∈ p0, x.block < W.heap.size := by obtain ⟨m, hm⟩ := k0; exact DataW.trod_lt m _ _ _ hm
  have k1 := h1
  have lt1 : ∀ x ∈ p1, x.block < W.heap.size := by obtain ⟨m, hm⟩ := k1; exact DataW.trod_lt m _ _ _ hm
  obtain ⟨z0, w0⟩ := open_pts (hval 0 22 v0 rfl rfl) h0
  obtain ⟨a1, rfl, rfl, rfl, w1⟩ := open_int Try.underlying48 (hval 1 48 v1 rfl rfl) h1
  clear hA0
  refine (walk v0 z0 a1 W w0 (bounds_u16 w1)).mono fun e W' ⟨he, bel⟩ => ?_
  subst he
  exact ⟨_, rfl, _, _, _, [], _, [], hW', trodAll_mk1 (shut_bool Try.underlying4 _), (trodAll_cons_mk (Below.trod laidOut (by kernel_rfl) (of_decide_eq_true (by kernel_rfl)) k0 bel lt0) (trodAll_cons_mk (Below.trod laidOut (by kernel_rfl) (of_decide_eq_true (by kernel_rfl)) k1 bel lt1) trodAll_mk0)), rfl, bel.frame _, fun h => by cases h⟩

theorem over : Rows.auditToleratesRow.holds Try.pinned (OpenSpec.ofChange Rows.auditToleratesSpec) :=
  OpenClaim.holds_of_wide 8 Try.f8 rfl rfl rfl rfl rfl rfl rfl ⟨rfl, rfl, rfl, rfl, rfl⟩ rfl rfl rfl rfl rfl (by kernel_rfl) Try.func8 (by kernel_rfl)
    (of_decide_eq_true (by kernel_rfl)) (by unfold Func.isWrapper; first | (rw [if_pos (by decide +kernel)]; kernel_rfl) | (rw [if_neg (by decide +kernel)]; exact ⟨rfl, rfl⟩))
    (fun os started H enc _ => lifted os started H enc)

theorem proved : Rows.AuditToleratesSaid := over
#print axioms proved
end Go.Proofs.Ytooofppgjknigaa.auditTolerates

