/-
  The statement CapacityTolerates of spile/spilelaw10 holds: for every input the call returns true, and each argument reads afterwards as it read before.
-/
import Derived.Test.YtpnlfeljmpfeoabM3
import Derived.Below
import Derived.Carry
set_option linter.unusedVariables false
set_option linter.unusedSimpArgs false
namespace Go.Proofs.Ytpnlfeljmpfeoab.capacityTolerates
open Go.ChangeShapes Go.WideShapes Go.ChangeAt Go.RowKit
open Go.ChangeMaps (open_string shut_string)
set_option linter.unusedVariables false

set_option maxHeartbeats 8000000 in
set_option maxRecDepth 100000 in
theorem long (nm : ByteArray) (ps dc t m : Int) (a : Option Addr) (n cap : Nat) (c : Ck) (w : World) (B1 : Bool) (hq : B1 = false ∨ (B1 = true ∧ decide (m < 0) = true) ∨ (B1 = true ∧ decide (m < 0) = false ∧ decide (1000 < m) = true) ∨ (B1 = true ∧ decide (m < 0) = false ∧ decide (1000 < m) = false ∧ decide (1000 < t) = true))
    (KB : Hid (CkB w.heap.size (w.alloc (.cells #[.string nm, .int .i64 ps, .slice a n cap, .int .i64 dc] 36)) c)) (hc : nm = c.nm ∧ ps = c.ps ∧ n = c.pf.length ∧ dc = c.dc)
    (FW : Hid (fewB [c] = B1)) :
    Calls Try.prog 9 #[.agg #[.string nm, .int .i64 ps, .slice a n cap, .int .i64 dc], .int .i64 t, .int .i64 m] w fun e w' => e = .returned (.bool true) ∧ Below w.heap.size w w' := by
  obtain ⟨rfl, rfl, rfl, rfl⟩ := hc
  have HA := Lib.hid (fun W => awake_any W)
  have HB := Lib.hid ((Below.refl w.heap.size w).alloc (Nat.le_refl _) (.cells #[.string c.nm, .int .i64 c.ps, .slice a c.pf.length cap, .int .i64 c.dc] 36))
  rcases hq with rfl | ⟨rfl, d0⟩ | ⟨rfl, d0, d1⟩ | ⟨rfl, d0, d1, d2⟩
  all_goals
    go_enter Try.func9, Try.ntmps9
    go_wp2_with fail
    refine (HA.out _).mono ?_
    rintro e w5 ⟨rfl, h1⟩
    replace HB := Lib.hid (bel_trans HB.out h1)
    replace KB := Lib.hid (KB.out.below h1); clear h1
    obtain ⟨a2, cap2, c0, c1, c2, c3, kv⟩ := KB.out.val
    obtain ⟨a3, cap3, e3, kp, kw⟩ := kv
    simp only [Value.agg.injEq, Array.mk.injEq, List.cons.injEq, Value.slice.injEq, and_true, true_and] at e3
    obtain ⟨rfl, rfl⟩ := e3
    have FO := Lib.hid (refFew_any _ [c] _ (cks_one kp kw))
    rw [FW.out] at FO
    clear kp kw
    generalize c.pf.length = L at *
    go_wp2_with fail
    refine FO.out.mono ?_
    rintro e w90 ⟨rfl, hw⟩
    subst hw
    go_wp2
    go_returns
    exact ⟨rfl, HB.out.alloc HB.out.size _⟩
set_option maxHeartbeats 32000000 in
set_option maxRecDepth 100000 in
theorem good (nm : ByteArray) (ps dc t m A E A2 E2 L H A3 E3 : Int) (a : Option Addr) (n cap : Nat) (c : Ck) (w : World) (d0 : decide (m < 0) = false) (d1 : decide (1000 < m) = false) (d2 : decide (1000 < t) = false)
    (KB : Hid (CkB w.heap.size (w.alloc (.cells #[.string nm, .int .i64 ps, .slice a n cap, .int .i64 dc] 36)) c)) (hc : nm = c.nm ∧ ps = c.ps ∧ n = c.pf.length ∧ dc = c.dc) (hpf : Hid (c.pf.length ≤ 1000))
    (FW : Hid (fewB [c] = true)) (hH : -9223372036854775808 ≤ H ∧ H ≤ 9223372036854775807)
    (hE : ((E == 0) = false ∧ (E != 0) = true ∧ A = 0) ∨ (E = 0 ∧ IntKind.i64.wrap (t + m) = t + m ∧
      (((E2 == 0) = false) ∨ (E2 = 0 ∧ A = 1 ∧ A2 = 1) ∨ (E2 = 0 ∧ A = 2) ∨ (E2 = 0 ∧ (A == 1) = false ∧ (A != 2) = true ∧ (A2 == 2) = false)) ∧
      (((E3 != 0) = true) ∨ (E3 = 0 ∧ (A3 != 2) = true))))
    (H1 : Hid (∀ v W, CkV W v c → Calls Try.prog 22 #[v, .int .i64 t] W fun e w' => e = .returned (.tuple #[.int .i64 A, .int .i64 E]) ∧ Below W.heap.size W w'))
    (H2 : Hid (∀ v W, CkV W v c → Calls Try.prog 22 #[v, .int .i64 (t + m)] W fun e w' => e = .returned (.tuple #[.int .i64 A2, .int .i64 E2]) ∧ Below W.heap.size W w'))
    (H3 : Hid (E = 0 → ∀ v W, CkV W v c → Calls Try.prog 20 #[v] W fun e w' => e = .returned (.tuple #[.agg #[.int .i64 L, .int .i64 H], .int .i64 0]) ∧ Below W.heap.size W w'))
    (H4 : Hid (∀ v W, CkV W v ⟨c.nm, c.ps, c.pf, H⟩ → Calls Try.prog 22 #[v, .int .i64 t] W fun e w' => e = .returned (.tuple #[.int .i64 A3, .int .i64 E3]) ∧ Below W.heap.size W w')) :
    Calls Try.prog 9 #[.agg #[.string nm, .int .i64 ps, .slice a n cap, .int .i64 dc], .int .i64 t, .int .i64 m] w fun e w' => e = .returned (.bool true) ∧ Below w.heap.size w w' := by
  obtain ⟨rfl, rfl, rfl, rfl⟩ := hc
  have HA := Lib.hid (fun W => awake_any W)
  have OW : Hid (∀ W, CkB w.heap.size W c → Calls Try.prog 30 #[.pointer (some ⟨w.heap.size, 0, none⟩)] W fun e w' => ∃ v, e = .returned v ∧ CkV w' v c ∧ Below W.heap.size W w') := Lib.hid fun W h => own_tol w.heap.size c W h hpf.out
  have HB := Lib.hid ((Below.refl w.heap.size w).alloc (Nat.le_refl _) (.cells #[.string c.nm, .int .i64 c.ps, .slice a c.pf.length cap, .int .i64 c.dc] 36))
  go_enter Try.func9, Try.ntmps9
  go_wp2_with fail
  refine (HA.out _).mono ?_
  rintro e w5 ⟨rfl, h1⟩
  replace HB := Lib.hid (bel_trans HB.out h1)
  replace KB := Lib.hid (KB.out.below h1); clear h1
  obtain ⟨a2, cap2, c0, c1, c2, c3, kv⟩ := KB.out.val
  obtain ⟨a3, cap3, e3, kp, kw⟩ := kv
  simp only [Value.agg.injEq, Array.mk.injEq, List.cons.injEq, Value.slice.injEq, and_true, true_and] at e3
  obtain ⟨rfl, rfl⟩ := e3
  have FO := Lib.hid (refFew_any _ [c] _ (cks_one kp kw))
  rw [FW.out] at FO
  have KW := Lib.hid kw
  clear kp kw
  have K2 := Lib.hid (KB.out.alloc (.cells #[.string c.nm, .int .i64 c.ps, .slice a2 c.pf.length cap2, .int .i64 c.dc] 36))
  replace HB := Lib.hid (HB.out.alloc HB.out.size (.cells #[.string c.nm, .int .i64 c.ps, .slice a2 c.pf.length cap2, .int .i64 c.dc] 36))
  clear KB
  generalize hL : c.pf.length = LN at *
  go_wp2_with fail
  refine FO.out.mono ?_
  rintro e w90 ⟨rfl, hw⟩
  subst hw
  clear FO c0 c1 c2 c3
  go_wp2_with fail
  refine (OW.out _ K2.out).mono ?_
  rintro e w20 ⟨V1, rfl, hx, h1⟩
  replace K2 := Lib.hid (K2.out.below h1)
  replace HB := Lib.hid (bel_trans HB.out h1); clear h1
  have N1 := Lib.hid hx; clear hx
  go_wp2_with fail
  refine (H1.out _ _ N1.out).mono ?_
  rintro e w3 ⟨rfl, h1⟩
  replace K2 := Lib.hid (K2.out.below h1)
  replace HB := Lib.hid (bel_trans HB.out h1); clear h1
  rcases hE with ⟨e1, e2, rfl⟩ | ⟨rfl, wt, hE2, hE3⟩
  · clear H2 H3 H4
    go_wp2
    go_returns
    exact ⟨rfl, HB.out⟩
  · have H3' := Lib.hid (H3.out rfl)
    clear H3 N1
    go_wp2_with fail
    refine (OW.out _ K2.out).mono ?_
    rintro e w4 ⟨V2, rfl, hx, h1⟩
    replace K2 := Lib.hid (K2.out.below h1)
    replace HB := Lib.hid (bel_trans HB.out h1); clear h1
    have N2 := Lib.hid hx; clear hx
    go_wp2_with fail
    refine (H2.out _ _ N2.out).mono ?_
    rintro e w5 ⟨rfl, h1⟩
    replace K2 := Lib.hid (K2.out.below h1)
    replace N2 := Lib.hid (N2.out.below h1)
    replace HB := Lib.hid (bel_trans HB.out h1); clear h1
    clear N2
    rcases hE2 with z1 | ⟨rfl, rfl, rfl⟩ | ⟨rfl, rfl⟩ | ⟨rfl, z1, z2, z3⟩
    all_goals
      clear H2 H1 HA
      go_wp2_with fail
      refine (OW.out _ K2.out).mono ?_
      rintro e w30 ⟨V3, rfl, hx, h1⟩
      replace K2 := Lib.hid (K2.out.below h1)
      replace HB := Lib.hid (bel_trans HB.out h1); clear h1
      have N3 := Lib.hid hx; clear hx
      go_wp2_with fail
      refine (H3'.out _ _ N3.out).mono ?_
      rintro e w31 ⟨rfl, h1⟩
      replace K2 := Lib.hid ((K2.out.below h1).alloc (.cells #[.int .i64 L, .int .i64 H] 32))
      replace HB := Lib.hid ((bel_trans HB.out h1).alloc (bel_trans HB.out h1).size (.cells #[.int .i64 L, .int .i64 H] 32)); clear h1
      have T1 := Lib.hid (Two.new w31 (.int .i64 L) (.int .i64 H) 32)
      clear N3
      go_wp2_with fail
      refine (OW.out _ K2.out).mono ?_
      rintro e w32 ⟨V4, rfl, hx, h1⟩
      replace T1 := Lib.hid (T1.out.below h1)
      replace HB := Lib.hid (bel_trans HB.out h1); clear h1 K2
      obtain ⟨a9, cap9, rfl, hp9, _⟩ := hx
      rw [hL] at hp9
      have N4 : Hid (∀ o, CkV (w32.alloc o) (.agg #[.string c.nm, .int .i64 c.ps, .slice a9 LN cap9, .int .i64 H]) ⟨c.nm, c.ps, c.pf, H⟩) := Lib.hid fun o => ⟨a9, cap9, by rw [hL], by rw [hL]; exact hp9.alloc o, KW.out.1, KW.out.2.1, hH⟩
      clear hp9
      obtain ⟨t0, t1, _, _, tl⟩ := T1.out
      have t1' : ∀ o, (w32.alloc o).cell? ⟨w31.heap.size, 1, none⟩ = some (.int .i64 H) := fun o => by rw [World.cell?_alloc_lt _ _ _ tl]; exact t1
      rw [hL]
      go_wp2_with fail
      refine (H4.out _ _ (N4.out _)).mono ?_
      rintro e w33 ⟨rfl, h1⟩
      replace HB := Lib.hid (bel_trans (HB.out.alloc HB.out.size _) h1); clear h1
      rcases hE3 with x1 | ⟨rfl, x1⟩
      all_goals
        go_wp2
        go_returns
        exact ⟨rfl, HB.out⟩
theorem walk (z : Value) (c : Ck) (t m : Int) (w : World) (hv : CkV w z c) (ht : -9223372036854775808 ≤ t ∧ t ≤ 9223372036854775807) (hm : -9223372036854775808 ≤ m ∧ m ≤ 9223372036854775807) :
    Calls Try.prog 9 #[z, .int .i64 t, .int .i64 m] w fun e w' => e = .returned (.bool true) ∧ Below w.heap.size w w' := by
  obtain ⟨a, cap, rfl, hp, hw⟩ := hv
  have KB := Lib.hid (CkB.new hp hw)
  have FW : fewB [c] = fewC c := few_one c
  cases hf : fewC c with
  | false => exact long c.nm c.ps c.dc t m a _ cap c w false (.inl rfl) KB ⟨rfl, rfl, rfl, rfl⟩ (Lib.hid (FW.trans hf))
  | true =>
    have FT := Lib.hid (FW.trans hf)
    have hpf := fewC_pf hf
    by_cases m0 : m < 0
    · exact long c.nm c.ps c.dc t m a _ cap c w true (.inr (.inl ⟨rfl, decide_eq_true m0⟩)) KB ⟨rfl, rfl, rfl, rfl⟩ FT
    by_cases m1 : 1000 < m
    · exact long c.nm c.ps c.dc t m a _ cap c w true (.inr (.inr (.inl ⟨rfl, decide_eq_false m0, decide_eq_true m1⟩))) KB ⟨rfl, rfl, rfl, rfl⟩ FT
    by_cases t1 : 1000 < t
    · exact long c.nm c.ps c.dc t m a _ cap c w true (.inr (.inr (.inr ⟨rfl, decide_eq_false m0, decide_eq_false m1, decide_eq_true t1⟩))) KB ⟨rfl, rfl, rfl, rfl⟩ FT
    have vb := vl_bd c
    refine good c.nm c.ps c.dc t m (agQ c t) (agE c t) (agQ c (t + m)) (agE c (t + m)) (vlL c) (vlH c) (agQ ⟨c.nm, c.ps, c.pf, vlH c⟩ t) (agE ⟨c.nm, c.ps, c.pf, vlH c⟩ t) a _ cap c w (decide_eq_false m0) (decide_eq_false m1) (decide_eq_false t1) KB ⟨rfl, rfl, rfl, rfl⟩ (Lib.hid (by omega)) FT (by omega) ?_ (Lib.hid fun v W h => cAgr_any v c t W h) (Lib.hid fun v W h => ?_) (Lib.hid fun h0 v W h => ?_) (Lib.hid fun v W h => cAgr_any v _ t W h)
    · by_cases e : agE c t = 0
      · right
        have e0 : ccE c = 0 ∧ 0 ≤ t ∧ t ≤ 1000 := by
          unfold agE at e
          split at e
          · split at e
            · omega
            · exact ⟨by assumption, by omega⟩
          · omega
        have dc := (ccE_pf e0.1).2.2.1
        have q1 : agQ c t = agA (vlL c) (vlH c) c.dc t := by unfold agQ; rw [if_pos e]
        refine ⟨e, wrap_in _ ⟨by omega, by omega⟩, ?_, ?_⟩
        · by_cases e2 : agE c (t + m) = 0
          · have q2 : agQ c (t + m) = agA (vlL c) (vlH c) c.dc (t + m) := by unfold agQ; rw [if_pos e2]
            have mo := ag_more (L := vlL c) (H := vlH c) (t := t) (m := m) dc.1 (by omega)
            rw [q1, q2]
            by_cases a1 : agA (vlL c) (vlH c) c.dc t = 1
            · exact .inr (.inl ⟨e2, a1, mo.1 a1⟩)
            · by_cases a2 : agA (vlL c) (vlH c) c.dc t = 2
              · exact .inr (.inr (.inl ⟨e2, a2⟩))
              · exact .inr (.inr (.inr ⟨e2, by simpa using a1, by simpa using a2, by simpa using mo.2 a2⟩))
          · exact .inl (by simpa using e2)
        · by_cases e3 : agE ⟨c.nm, c.ps, c.pf, vlH c⟩ t = 0
          · right
            refine ⟨e3, ?_⟩
            have c3 : ccE ⟨c.nm, c.ps, c.pf, vlH c⟩ = 0 := by
              unfold agE at e3
              split at e3
              · assumption
              · omega
            have l1 : vlL ⟨c.nm, c.ps, c.pf, vlH c⟩ = vlL c := by unfold vlL; rw [if_pos c3, if_pos e0.1]
            have l2 : vlH ⟨c.nm, c.ps, c.pf, vlH c⟩ = vlH c := by
              have g1 : vlH ⟨c.nm, c.ps, c.pf, vlH c⟩ = cvH (frS c.pf) := if_pos c3
              have g2 : vlH c = cvH (frS c.pf) := if_pos e0.1
              rw [g1, g2]
            have q3 : agQ ⟨c.nm, c.ps, c.pf, vlH c⟩ t = agA (vlL c) (vlH c) (vlH c) t := by
              unfold agQ
              rw [if_pos e3, l1, l2]
            rw [q3]
            have := ag_high (L := vlL c) (H := vlH c) (t := t) (by omega) (by omega) e0.2.1
            simpa using this
          · exact .inl (by simpa using e3)
      · left
        have q1 : agQ c t = 0 := by unfold agQ; rw [if_neg e]
        exact ⟨by simpa using e, by simpa using e, q1⟩
    · exact cAgr_any v c (t + m) W h
    · have c0 : ccE c = 0 := by
        unfold agE at h0
        split at h0
        · assumption
        · omega
      have := cVol_any v c W h
      rwa [c0] at this

set_option maxRecDepth 100000 in
theorem lifted (os : Os) (started : os.Started) (H : Type) (enc : TypeId × Value → H) :
    ReturnsInHanded {} Try.checked os 9 .any (Rows.capacityToleratesSpec.pre6 enc Try.prog Try.f9 Rows.capacityToleratesRow.domain false) (Rows.capacityToleratesSpec.post enc Try.prog Try.f9 false true false false) := by
  refine returnsInHanded_of_change (C := Try.checked) own started (by kernel_rfl) Try.func9
    (ChangeSpec.witness6 (enc := enc) (C := Try.checked) false ⟨#[], #[.agg #[.string ByteArray.empty, .int .i64 0, .slice none 0 0, .int .i64 0], .int .i64 0, .int .i64 0], []⟩ 8 (by kernel_rfl) (by kernel_rfl) (by kernel_rfl) (by kernel_rfl)) ?_
  intro W base args ds gs before hval0 hW hcnd _
  have hval : ∀ (j : Nat) t v, Try.f9.params[j]? = some t → args[j]? = some v → Value.okWide Try.prog W .any base t v := hval0
  clear hval0
  have hW' := hW
  obtain ⟨p, q, hA0, hV, rfl, hfz, hnd⟩ := hW
  have hA : DataW.TrodAll enc Try.prog W 0 (fun _ => true) true Try.f9.params.toList args.toList ds p := hA0
  rw [Try.params9] at hA hval
  obtain ⟨v0, vs0, d0, ds0, p0, q0, hargs, rfl, rfl, h0, r0⟩ := trodAll_cons hA
  obtain ⟨v1, vs1, d1, ds1, p1, q1, rfl, rfl, rfl, h1, r1⟩ := trodAll_cons r0
  obtain ⟨v2, vs2, d2, ds2, p2, q2, rfl, rfl, rfl, h2, r2⟩ := trodAll_cons r1
  obtain ⟨rfl, rfl, rfl⟩ := trodAll_nil r2
  obtain rfl : args = #[v0, v1, v2] := by cases args; simp_all
  obtain ⟨rfl, rfl⟩ := trodVars_none hV
  have k0 := h0
  have lt0 : ∀ x ∈ p0, x.block < W.heap.size := by obtain ⟨m, hm⟩ := k0; exact DataW.trod_lt m _ _ _ hm
  have k1 := h1
  have lt1 : ∀ x ∈ p1, x.block < W.heap.size := by obtain ⟨m, hm⟩ := k1; exact DataW.trod_lt m _ _ _ hm
  have k2 := h2
  have lt2 : ∀ x ∈ p2, x.block < W.heap.size := by obtain ⟨m, hm⟩ := k2; exact DataW.trod_lt m _ _ _ hm
  obtain ⟨z0, w0⟩ := open_ck (hval 0 36 v0 rfl rfl) h0
  obtain ⟨a1, rfl, rfl, rfl, w1⟩ := open_int Try.underlying3 (hval 1 3 v1 rfl rfl) h1
  obtain ⟨a2, rfl, rfl, rfl, w2⟩ := open_int Try.underlying3 (hval 2 3 v2 rfl rfl) h2
  clear hA0
  refine (walk v0 z0 a1 a2 W w0 (wf_bd w1) (wf_bd w2)).mono fun e W' ⟨he, bel⟩ => ?_
  subst he
  exact ⟨_, rfl, _, _, _, [], _, [], hW', trodAll_mk1 (shut_bool Try.underlying4 _), (trodAll_cons_mk (Below.trod laidOut (by kernel_rfl) (of_decide_eq_true (by kernel_rfl)) k0 bel lt0) (trodAll_cons_mk (Below.trod laidOut (by kernel_rfl) (of_decide_eq_true (by kernel_rfl)) k1 bel lt1) (trodAll_cons_mk (Below.trod laidOut (by kernel_rfl) (of_decide_eq_true (by kernel_rfl)) k2 bel lt2) trodAll_mk0))), rfl, bel.frame _, fun h => by cases h⟩

theorem over : Rows.capacityToleratesRow.holds Try.pinned (OpenSpec.ofChange Rows.capacityToleratesSpec) :=
  OpenClaim.holds_of_wide 9 Try.f9 rfl rfl rfl rfl rfl rfl rfl ⟨rfl, rfl, rfl, rfl, rfl⟩ rfl rfl rfl rfl rfl (by kernel_rfl) Try.func9 (by kernel_rfl)
    (of_decide_eq_true (by kernel_rfl)) (by unfold Func.isWrapper; first | (rw [if_pos (by decide +kernel)]; kernel_rfl) | (rw [if_neg (by decide +kernel)]; exact ⟨rfl, rfl⟩))
    (fun os started H enc _ => lifted os started H enc)

theorem proved : Rows.CapacityToleratesSaid := over
#print axioms proved
end Go.Proofs.Ytpnlfeljmpfeoab.capacityTolerates
