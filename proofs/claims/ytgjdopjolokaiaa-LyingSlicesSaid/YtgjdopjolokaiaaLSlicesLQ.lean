/-
  The statement LyingSlices of spile/spilelaw11 holds: for every input the call returns true, and each argument reads afterwards as it read before.
-/
import Derived.Test.YtgjdopjolokaiaaM4
import Derived.Test.YtgjdopjolokaiaaM2
import Derived.Test.YtgjdopjolokaiaaM5
import Derived.Below
import Derived.Carry
set_option linter.unusedVariables false
set_option linter.unusedSimpArgs false
namespace Go.Proofs.Ytgjdopjolokaiaa.lyingSlices
open Go.ChangeShapes Go.WideShapes Go.ChangeAt Go.RowKit
open Go.ChangeMaps (open_string shut_string)
set_option linter.unusedVariables false

set_option maxHeartbeats 32000000 in
set_option maxRecDepth 100000 in
theorem core (m E E2 : Int) (a : Option Addr) (n cap : Nat) (c : Ck) (a2 : Option Addr) (n2 cap2 : Nat) (ps xs : List Int) (w : World) (B1 : Bool)
    (KB : Hid (CkB w.heap.size (w.alloc (.cells #[.string c.nm, .int .i64 c.ps, .slice a n cap, .int .i64 c.dc] 24)) c)) (NP : Hid (Nums (w.alloc (.cells #[.string c.nm, .int .i64 c.ps, .slice a n cap, .int .i64 c.dc] 24)) (.slice a2 n2 cap2) ps)) (hc : n = c.pf.length) (hpf : Hid (B1 = true → c.pf.length ≤ 1000)) (hps : Hid (B1 = true → ps.length ≤ 1000)) (hn2 : n2 ≤ 9223372036854775807)
    (FW : Hid (∀ v u W, CkV W v c → Lns W u [n2] → Calls Try.prog 9 #[v, u] W fun e w' => e = .returned (.bool B1) ∧ Below W.heap.size W w'))
    (H1 : Hid (∀ v W, Pts W v c.pf → Calls Try.prog 10 #[v, .int .i64 m] W fun e w' => ∃ u, e = .returned (.tuple #[u, .int .i64 E]) ∧ Nums w' u xs ∧ Below W.heap.size W w'))
    (R1 : Hid (∀ v W, Pts W v c.pf → Calls Try.prog 12 #[v, .int .i64 m] W fun e w' => ∃ u, e = .returned (.tuple #[u, .int .i64 E]) ∧ Nums w' u xs ∧ Below W.heap.size W w'))
    (HE : Hid (∀ v u W, Nums W v xs → Nums W u xs → Calls Try.prog 13 #[v, u] W fun e w' => e = .returned (.bool true) ∧ Below W.heap.size W w'))
    (H2 : Hid (∀ v u W, CkV W v c → Nums W u ps → Calls Try.prog 14 #[v, u] W fun e w' => e = .returned (.int .i64 E2) ∧ Below W.heap.size W w'))
    (R2 : Hid (∀ v u W, CkV W v c → Nums W u ps → Calls Try.prog 17 #[v, u] W fun e w' => e = .returned (.int .i64 E2) ∧ Below W.heap.size W w')) :
    Calls Try.prog 3 #[.agg #[.string c.nm, .int .i64 c.ps, .slice a n cap, .int .i64 c.dc], .int .i64 m, .slice a2 n2 cap2] w fun e w' => e = .returned (.bool true) ∧ Below w.heap.size w w' := by
  subst hc
  have HA := Lib.hid (fun W => awake_any W)
  have HB := Lib.hid ((Below.refl w.heap.size w).alloc (Nat.le_refl _) (.cells #[.string c.nm, .int .i64 c.ps, .slice a c.pf.length cap, .int .i64 c.dc] 24))
  go_enter Try.func3, Try.ntmps3
  go_wp2_with fail
  refine (HA.out _).mono ?_
  rintro e w5 ⟨rfl, h1⟩
  replace HB := Lib.hid (bel_trans HB.out h1)
  replace NP := Lib.hid (NP.out.below h1)
  replace KB := Lib.hid (KB.out.below h1); clear h1
  obtain ⟨a3, cap3, c0, c1, c2, c3, kv⟩ := KB.out.val
  have FO := Lib.hid (FW.out _ _ (w5.alloc (.cells #[.slice a2 n2 cap2] 25)) (kv.alloc _) (lns_one w5 a2 n2 cap2 _ hn2))
  clear kv
  generalize hL : c.pf.length = LN at *
  go_wp2_with fail
  refine FO.out.mono ?_
  rintro e w6 ⟨rfl, h1⟩
  replace h1 := bel_alloc h1
  replace HB := Lib.hid (bel_trans HB.out h1)
  replace NP := Lib.hid (NP.out.below h1)
  replace KB := Lib.hid (KB.out.below h1); clear h1
  clear FO c0 c1 c2 c3
  cases B1 with
  | false =>
    go_wp2
    go_returns
    exact ⟨rfl, HB.out⟩
  | true =>
    have OW : Hid (∀ v W, CkV W v c → Calls Try.prog 15 #[v] W fun e w' => ∃ u, e = .returned u ∧ CkV w' u c ∧ Below W.heap.size W w') := Lib.hid fun v W h => own_any v c W h (by rw [hL]; exact hpf.out rfl)
    have CW : Hid (∀ W, Nums W (.slice a2 n2 cap2) ps → Calls Try.prog 16 #[.slice a2 n2 cap2] W fun e w' => ∃ u, e = .returned u ∧ Nums w' u ps ∧ Below W.heap.size W w') := Lib.hid fun W h => clone_nums _ ps W h (hps.out rfl)
    have PW : Hid (∀ v W, Pts W v c.pf → Calls Try.prog 11 #[v] W fun e w' => ∃ u, e = .returned u ∧ Pts w' u c.pf ∧ Below W.heap.size W w') := Lib.hid fun v W h => clone_p v c.pf W h (by rw [hL]; exact hpf.out rfl)
    have KV : Hid (∀ W, CkB w.heap.size W c → ∃ a cap, W.cell? ⟨w.heap.size, 0, none⟩ = some (.string c.nm) ∧ W.cell? ⟨w.heap.size, 1, none⟩ = some (.int .i64 c.ps) ∧ W.cell? ⟨w.heap.size, 2, none⟩ = some (.slice a LN cap) ∧ W.cell? ⟨w.heap.size, 3, none⟩ = some (.int .i64 c.dc) ∧ CkV W (.agg #[.string c.nm, .int .i64 c.ps, .slice a LN cap, .int .i64 c.dc]) c ∧ Pts W (.slice a LN cap) c.pf) := Lib.hid fun W h => by
      obtain ⟨a, cap, h1, h2, h3⟩ := h
      rw [hL] at h1 h2
      obtain ⟨q0, q1, q2, q3, _, _⟩ := h1
      exact ⟨a, cap, q0, q1, q2, q3, ⟨a, cap, by rw [hL], by rw [hL]; exact h2, h3⟩, h2⟩
    obtain ⟨a4, cap4, c0, c1, c2, c3, kv, kp⟩ := KV.out _ KB.out
    replace kv := Lib.hid kv
    go_wp2_with fail
    refine (PW.out _ _ kp).mono ?_
    rintro e w3 ⟨V1, rfl, hx, h1⟩
    replace KB := Lib.hid (KB.out.below h1)
    replace NP := Lib.hid (NP.out.below h1)
    replace HB := Lib.hid (bel_trans HB.out h1); clear h1
    have N1 := Lib.hid hx; clear hx
    clear c0 c1 c2 c3 kp kv
    go_wp2_with fail
    refine (H1.out _ _ N1.out).mono ?_
    rintro e w4 ⟨U1, rfl, hx, h1⟩
    replace KB := Lib.hid (KB.out.below h1)
    replace NP := Lib.hid (NP.out.below h1)
    replace N1 := Lib.hid (N1.out.below h1)
    replace HB := Lib.hid (bel_trans HB.out h1); clear h1
    have X1 := Lib.hid hx; clear hx
    clear N1
    obtain ⟨a5, cap5, c0, c1, c2, c3, kv, kp⟩ := KV.out _ KB.out
    go_wp2_with fail
    refine (R1.out _ _ kp).mono ?_
    rintro e w6 ⟨U2, rfl, hx, h1⟩
    replace KB := Lib.hid (KB.out.below h1)
    replace NP := Lib.hid (NP.out.below h1)
    replace X1 := Lib.hid (X1.out.below h1)
    replace HB := Lib.hid (bel_trans HB.out h1); clear h1
    have X2 := Lib.hid hx; clear hx
    clear c0 c1 c2 c3 kv kp
    have kb6 := KB.out
    obtain ⟨a6, cap6, hq6, hp6, hw6⟩ := kb6
    rw [hL] at hq6 hp6
    have FQ := Lib.hid (hq6.below (bel_drew (w6)))
    have kvH : Hid (CkV (w6).drew (.agg #[.string c.nm, .int .i64 c.ps, .slice a6 LN cap6, .int .i64 c.dc]) c) := Lib.hid (CkV.below (⟨a6, cap6, by rw [hL], by rw [hL]; exact hp6, hw6⟩ : CkV (w6) (.agg #[.string c.nm, .int .i64 c.ps, .slice a6 LN cap6, .int .i64 c.dc]) c) (bel_drew (w6)))
    replace NP := Lib.hid (NP.out.below (bel_drew (w6)))
    replace X1 := Lib.hid (X1.out.below (bel_drew (w6)))
    replace X2 := Lib.hid (X2.out.below (bel_drew (w6)))
    replace HB := Lib.hid (bel_trans HB.out (bel_drew (w6)))
    obtain ⟨c0, c1, c2, c3, _, _⟩ := hq6
    have he1 : (E == E) = true := by simp
    have he2 : (E2 == E2) = true := by simp
    clear hp6 hw6 KB KV PW H1 R1 HA FW
    go_wp2_with fail
    go_region_held3 (fun w' => w'.cell? ⟨w.heap.size, 0, none⟩ = some (.string c.nm) ∧ w'.cell? ⟨w.heap.size, 1, none⟩ = some (.int .i64 c.ps) ∧ w'.cell? ⟨w.heap.size, 2, none⟩ = some (.slice a6 LN cap6) ∧ w'.cell? ⟨w.heap.size, 3, none⟩ = some (.int .i64 c.dc)) (go_keep) (first
      | (go_at_call 13; (with_reducible refine (HE.out _ _ _ X1.out X2.out).mono ?_); rintro e wA ⟨rfl, gg⟩; replace FQ := Lib.hid (FQ.out.below gg); replace kvH := Lib.hid (kvH.out.below gg); replace NP := Lib.hid (NP.out.below gg); (try (replace NO := Lib.hid (NO.out.below gg))); (try (replace NC := Lib.hid (NC.out.below gg))); replace HB := Lib.hid (bel_trans HB.out gg); obtain ⟨q0, q1, q2, q3, _, _⟩ := FQ.out; clear gg)
      | (go_at_call 15; (with_reducible refine (OW.out _ _ kvH.out).mono ?_); rintro e wA ⟨uo, rfl, ho, gg⟩; replace FQ := Lib.hid (FQ.out.below gg); replace kvH := Lib.hid (kvH.out.below gg); replace NP := Lib.hid (NP.out.below gg); (try (replace NO := Lib.hid (NO.out.below gg))); (try (replace NC := Lib.hid (NC.out.below gg))); replace HB := Lib.hid (bel_trans HB.out gg); obtain ⟨q0, q1, q2, q3, _, _⟩ := FQ.out; clear gg; have NO := Lib.hid ho; clear ho)
      | (go_at_call 16; (with_reducible refine (CW.out _ NP.out).mono ?_); rintro e wA ⟨uc, rfl, ho, gg⟩; replace FQ := Lib.hid (FQ.out.below gg); replace kvH := Lib.hid (kvH.out.below gg); replace NP := Lib.hid (NP.out.below gg); (try (replace NO := Lib.hid (NO.out.below gg))); (try (replace NC := Lib.hid (NC.out.below gg))); replace HB := Lib.hid (bel_trans HB.out gg); obtain ⟨q0, q1, q2, q3, _, _⟩ := FQ.out; clear gg; have NC := Lib.hid ho; clear ho)
      | (go_at_call 14; (with_reducible refine (H2.out _ _ _ NO.out NC.out).mono ?_); rintro e wA ⟨rfl, gg⟩; replace FQ := Lib.hid (FQ.out.below gg); replace kvH := Lib.hid (kvH.out.below gg); replace NP := Lib.hid (NP.out.below gg); (try (replace NO := Lib.hid (NO.out.below gg))); (try (replace NC := Lib.hid (NC.out.below gg))); replace HB := Lib.hid (bel_trans HB.out gg); obtain ⟨q0, q1, q2, q3, _, _⟩ := FQ.out; clear gg)
      | (go_at_call 17; (with_reducible refine (R2.out _ _ _ kvH.out NP.out).mono ?_); rintro e wA ⟨rfl, gg⟩; replace FQ := Lib.hid (FQ.out.below gg); replace kvH := Lib.hid (kvH.out.below gg); replace NP := Lib.hid (NP.out.below gg); (try (replace NO := Lib.hid (NO.out.below gg))); (try (replace NC := Lib.hid (NC.out.below gg))); replace HB := Lib.hid (bel_trans HB.out gg); obtain ⟨q0, q1, q2, q3, _, _⟩ := FQ.out; clear gg))
    all_goals go_wp2
    all_goals go_returns
    all_goals exact ⟨rfl, HB.out⟩
theorem walk (z : Value) (c : Ck) (m : Int) (u : Value) (ps : List Int) (w : World) (hv : CkV w z c) (hm : -9223372036854775808 ≤ m ∧ m ≤ 9223372036854775807) (hu : Nums w u ps) (hz : ∀ z ∈ ps, (Lit.int .i64 z).wf = true) :
    Calls Try.prog 3 #[z, .int .i64 m, u] w fun e w' => e = .returned (.bool true) ∧ Below w.heap.size w w' := by
  obtain ⟨a, cap, rfl, hp, hw⟩ := hv
  have KB := Lib.hid (CkB.new hp hw)
  have hu' := hu
  obtain ⟨a2, cap2, rfl, hc2, _⟩ := hu'
  refine core m (slE c.pf m) (lcE c ps) a _ cap c a2 _ cap2 ps (slP c.pf m) w (fewC c && lnB [ps.length]) KB (Lib.hid (hu.alloc _)) rfl (Lib.hid fun h => ?_) (Lib.hid fun h => ?_) (by omega) (Lib.hid fun v u W h1 h2 => fewL_any v u c _ W h1 h2) (Lib.hid fun v W h => lySl_any v c.pf m W h) (Lib.hid fun v W h => rlySl_any v c.pf m W h) (Lib.hid fun v u W h1 h2 => ?_) (Lib.hid fun v u W h1 h2 => lyChk_any v u c ps W h1 h2) (Lib.hid fun v u W h1 h2 => rlyChk_any v u c ps W h1 h2)
  · rw [Bool.and_eq_true] at h
    have := fewC_pf h.1
    omega
  · rw [Bool.and_eq_true] at h
    have := h.2
    simp [lnB] at this
    omega
  · have := equal_any v u _ _ W h1 h2
    rwa [beq_self_eq_true] at this

set_option maxRecDepth 100000 in
theorem lifted (os : Os) (started : os.Started) (H : Type) (enc : TypeId × Value → H) :
    ReturnsInHanded {} Try.checked os 3 .any (Rows.lyingSlicesSpec.pre6 enc Try.prog Try.f3 Rows.lyingSlicesRow.domain false) (Rows.lyingSlicesSpec.post enc Try.prog Try.f3 false true false false) := by
  refine returnsInHanded_of_change (C := Try.checked) own started (by kernel_rfl) Try.func3
    (ChangeSpec.witness6 (enc := enc) (C := Try.checked) false ⟨#[], #[.agg #[.string ByteArray.empty, .int .i64 0, .slice none 0 0, .int .i64 0], .int .i64 0, .slice none 0 0], []⟩ 8 (by kernel_rfl) (by kernel_rfl) (by kernel_rfl) (by kernel_rfl)) ?_
  intro W base args ds gs before hval0 hW hcnd _
  have hval : ∀ (j : Nat) t v, Try.f3.params[j]? = some t → args[j]? = some v → Value.okWide Try.prog W .any base t v := hval0
  clear hval0
  have hW' := hW
  obtain ⟨p, q, hA0, hV, rfl, hfz, hnd⟩ := hW
  have hA : DataW.TrodAll enc Try.prog W 0 (fun _ => true) true Try.f3.params.toList args.toList ds p := hA0
  rw [Try.params3] at hA hval
  obtain ⟨v0, vs0, d0, ds0, p0, q0, hargs, rfl, rfl, h0, r0⟩ := trodAll_cons hA
  obtain ⟨v1, vs1, d1, ds1, p1, q1, rfl, rfl, rfl, h1, r1⟩ := trodAll_cons r0
  obtain ⟨v2, vs2, d2, ds2, p2, q2, rfl, rfl, rfl, h2, r2⟩ := trodAll_cons r1
  obtain ⟨rfl, rfl, rfl⟩ := trodAll_nil r2
  obtain rfl : args = #[v0, v1, v2] := by cases args; simp_all
  obtain ⟨rfl, rfl⟩ := trodVars_none hV
  have k0 := h0
  have lt0 : ∀ x ∈ p0, x.block < W.heap.size := by obtain ⟨m, hm⟩ := k0; exact DataW.trod_lt m _ _ _ hm
  have k1 := h1
  have lt1 : ∀ x ∈ p1, x.block < W.heap.size := by obtain ⟨m, hm⟩ := k1; exact DataW.trod_lt m _ _ _ hm
  have k2 := h2
  have lt2 : ∀ x ∈ p2, x.block < W.heap.size := by obtain ⟨m, hm⟩ := k2; exact DataW.trod_lt m _ _ _ hm
  obtain ⟨z0, w0⟩ := open_ck (hval 0 24 v0 rfl rfl) h0
  obtain ⟨a1, rfl, rfl, rfl, w1⟩ := open_int Try.underlying3 (hval 1 3 v1 rfl rfl) h1
  obtain ⟨z2, w2, b2⟩ := open_intSlice Try.underlying25 Try.underlying3 (by kernel_rfl) (hval 2 25 v2 rfl rfl) h2
  clear hA0
  refine (walk v0 z0 a1 v2 z2 W w0 (wf_bd w1) w2 b2).mono fun e W' ⟨he, bel⟩ => ?_
  subst he
  exact ⟨_, rfl, _, _, _, [], _, [], hW', trodAll_mk1 (shut_bool Try.underlying4 _), (trodAll_cons_mk (Below.trod laidOut (by kernel_rfl) (of_decide_eq_true (by kernel_rfl)) k0 bel lt0) (trodAll_cons_mk (Below.trod laidOut (by kernel_rfl) (of_decide_eq_true (by kernel_rfl)) k1 bel lt1) (trodAll_cons_mk (Below.trod laidOut (by kernel_rfl) (of_decide_eq_true (by kernel_rfl)) k2 bel lt2) trodAll_mk0))), rfl, bel.frame _, fun h => by cases h⟩

theorem over : Rows.lyingSlicesRow.holds Try.pinned (OpenSpec.ofChange Rows.lyingSlicesSpec) :=
  OpenClaim.holds_of_wide 3 Try.f3 rfl rfl rfl rfl rfl rfl rfl ⟨rfl, rfl, rfl, rfl, rfl⟩ rfl rfl rfl rfl rfl (by kernel_rfl) Try.func3 (by kernel_rfl)
    (of_decide_eq_true (by kernel_rfl)) (by unfold Func.isWrapper; first | (rw [if_pos (by decide +kernel)]; kernel_rfl) | (rw [if_neg (by decide +kernel)]; exact ⟨rfl, rfl⟩))
    (fun os started H enc _ => lifted os started H enc)

theorem proved : Rows.LyingSlicesSaid := over
#print axioms proved
end Go.Proofs.Ytgjdopjolokaiaa.lyingSlices

