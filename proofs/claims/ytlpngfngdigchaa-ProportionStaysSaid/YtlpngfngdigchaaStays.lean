/-
  The statement ProportionStays of spile/spilelaw01 holds: for every input the call returns true, and each argument reads afterwards as it read before.
-/
import Derived.Test.YtlpngfngdigchaaAwake1
import Derived.Test.YtlpngfngdigchaaZero
import Derived.Test.YtlpngfngdigchaaOpen
import Derived.Below
import Derived.Carry
namespace Go.Proofs.Ytlpngfngdigchaa.proportionStays
open Go.ChangeShapes Go.WideShapes Go.ChangeAt Go.RowKit
open Go.ChangeMaps (open_string shut_string)
set_option linter.unusedVariables false

theorem stays_many (v : Value) (ps : List Int) (a : Int) (w : World) (hv : Ins w v ps) (hn : 65 < ps.length) :
    Calls Try.prog 5 #[v, .int .i64 a] w fun e w' => e = .returned (.bool true) ∧ Below w.heap.size w w' := by
  have HV := Lib.hid hv; clear hv
  have HN : Hid (decide (ps.length ≤ 65) = false) := by show _ = _; simp; omega
  go_enter Try.func5, Try.ntmps5
  go_wp2_with fail
  refine (awake_any _).mono ?_
  rintro e' w1 ⟨rfl, h1⟩
  have HB := Lib.hid h1; clear h1
  go_wp2_with fail
  refine (few_any _ ps _ (HV.out.below HB.out)).mono ?_
  rw [HN.out]
  rintro e' w2 ⟨rfl, hw⟩
  subst hw
  go_wp2
  go_ret
  exact ⟨rfl, HB.out⟩

theorem stays_err (v : Value) (ps : List Int) (a x : Int) (w : World) (hv : Ins w v ps) (hn : ps.length ≤ 65) (hx : (x != 0) = true)
    (HD : Hid (∀ y W, Ins W y ps → Calls Try.prog 18 #[y, .int .i64 a] W fun e w' => ∃ v1 v2, e = .returned (.tuple #[v1, v2, .int .i64 x]) ∧ Ins w' v1 [] ∧ Ins w' v2 [] ∧ Below W.heap.size W w')) :
    Calls Try.prog 5 #[v, .int .i64 a] w fun e w' => e = .returned (.bool true) ∧ Below w.heap.size w w' := by
  have HV := Lib.hid hv; clear hv
  have HL := Lib.hid hn
  have HN : Hid (decide (ps.length ≤ 65) = true) := by show _ = _; simp; omega
  clear hn
  go_enter Try.func5, Try.ntmps5
  go_wp2_with fail
  refine (awake_any _).mono ?_
  rintro e' w1 ⟨rfl, h1⟩
  have HB := Lib.hid h1; clear h1
  go_wp2_with fail
  refine (few_any _ ps _ (HV.out.below HB.out)).mono ?_
  rw [HN.out]
  rintro e' w2 ⟨rfl, hw⟩
  subst hw
  go_wp2_with fail
  refine (clone_any _ ps _ (HV.out.below HB.out) (by have := HL.out; omega)).mono ?_
  rintro e' w2 ⟨y, rfl, hy, h1⟩
  have HY := Lib.hid hy; clear hy
  replace HB := Lib.hid (bel_trans HB.out h1); clear h1
  go_wp2_with fail
  refine (HD.out _ _ HY.out).mono ?_
  rintro e' w3 ⟨v1, v2, rfl, hd, hs, h1⟩
  replace HB := Lib.hid (bel_trans HB.out h1); clear h1
  obtain ⟨a1, c1, rfl, _, _⟩ := hd
  obtain ⟨a2, c2, rfl, _, _⟩ := hs
  go_wp2
  go_ret
  exact ⟨rfl, HB.out⟩

/-- what a draw that succeeds gives -/
structure Drawn (ps ds ss : List Int) (a : Int) : Prop where
  ld : ds.length = ps.length
  ls : ss.length = ps.length
  d0 : ∀ k, k < ps.length → 0 ≤ ds.getD k 0 ∧ 0 ≤ ss.getD k 0 ∧ ds.getD k 0 + ss.getD k 0 = ps.getD k 0
  sum : ds.sum = a

set_option maxHeartbeats 4000000 in
theorem stays_core (v : Value) (ps ds ss zs : List Int) (a : Int) (w : World) (hv : Ins w v ps) (hn : ps.length ≤ 65) (hp : ∀ k, 0 ≤ (ps.take k).sum ∧ (ps.take k).sum ≤ 128849018880000) (hd : ∀ k, 0 ≤ (ds.take k).sum ∧ (ds.take k).sum ≤ 128849018880000) (dr : Drawn ps ds ss a) (hz : ∀ j, zs.getD j 0 = 0) (hzl : zs.length ≤ 1000)
    (HD : Hid (∀ y W, Ins W y ps → Calls Try.prog 18 #[y, .int .i64 a] W fun e w' => ∃ v1 v2, e = .returned (.tuple #[v1, v2, .int .i64 0]) ∧ Ins w' v1 ds ∧ Ins w' v2 ss ∧ Below W.heap.size W w'))
    (HE : Hid (∀ y W, Ins W y ps → Calls Try.prog 18 #[y, .int .i64 ps.sum] W fun e w' => ∃ v1 v2, e = .returned (.tuple #[v1, v2, .int .i64 0]) ∧ Ins w' v1 ps ∧ Ins w' v2 zs ∧ Below W.heap.size W w')) :
    Calls Try.prog 5 #[v, .int .i64 a] w fun e w' => e = .returned (.bool true) ∧ Below w.heap.size w w' := by
  have HV := Lib.hid hv; clear hv
  have HL := Lib.hid hn
  have HN : Hid (decide (ps.length ≤ 65) = true) := by show _ = _; simp; omega
  have HDR := Lib.hid dr; clear dr
  have HZ := Lib.hid hz; clear hz
  have HZL := Lib.hid hzl; clear hzl
  have HP := Lib.hid hp; clear hp
  have HQ := Lib.hid hd; clear hd
  clear hn
  obtain ⟨n, hnn⟩ : ∃ n, n = ps.length := ⟨_, rfl⟩
  have HNN := Lib.hid hnn
  obtain ⟨va, vc, rfl, _, _⟩ := HV.out
  rw [← hnn]
  have hn65 : n ≤ 65 := by rw [hnn]; exact HL.out
  have HV2 : Hid (Ins w (.slice va n vc) ps) := by rw [hnn]; exact HV
  clear hnn HV
  go_enter Try.func5, Try.ntmps5
  go_wp2_with fail
  refine (awake_any _).mono ?_
  rintro e' w1 ⟨rfl, h1⟩
  have HB := Lib.hid h1; clear h1
  go_wp2_with fail
  refine (few_any _ ps _ (HV2.out.below HB.out)).mono ?_
  rw [HN.out]
  rintro e' w2 ⟨rfl, hw⟩
  subst hw
  go_wp2_with fail
  refine (clone_any _ ps _ (HV2.out.below HB.out) (by have := HL.out; omega)).mono ?_
  rintro e' w2 ⟨y, rfl, hy, h1⟩
  have HY := Lib.hid hy; clear hy
  replace HB := Lib.hid (bel_trans HB.out h1); clear h1
  go_wp2_with fail
  refine (HD.out _ _ HY.out).mono ?_
  rintro e' w3 ⟨v1, v2, rfl, hd, hs, h1⟩
  replace HB := Lib.hid (bel_trans HB.out h1); clear h1
  have hd0 := hd
  have hs0 := hs
  obtain ⟨a1, c1, rfl, _, _⟩ := hd
  obtain ⟨a2, c2, rfl, _, _⟩ := hs
  rw [HDR.out.ld, ← HNN.out] at hd0 ⊢
  rw [HDR.out.ls, ← HNN.out] at hs0 ⊢
  have I1 := Lib.hid hd0
  have I2 := Lib.hid hs0
  clear hd0 hs0
  go_wp2_with fail
  have HV3 := Lib.hid (HV2.out.below HB.out)
  go_loopw [8, 9, 52] (fun s t i wr => ∃ k : Nat, k ≤ n ∧ i = .int .i64 k ∧ s = .int .i64 (ds.take k).sum ∧ t = .int .i64 (ps.take k).sum ∧ Hid (Below w3.heap.size w3 wr)) (fun _ _ i _ => n - (intOf i).toNat)
  case atStart => exact ⟨0, Nat.zero_le _, rfl, by simp, by simp, Below.refl _ _⟩
  case round =>
    obtain ⟨k, hk, rfl, rfl, rfl, hb⟩ := hrel
    by_cases hlt : k < n
    · have hkz : k < ps.length := by rw [← HNN.out]; exact hlt
      have l1 := HDR.out.ld
      have l2 := HDR.out.ls
      have cp : ∃ b off, va = some ⟨b, off, none⟩ ∧ wr.cell? ⟨b, off + k, none⟩ = some (.int .i64 (ps.getD k 0)) := by
        obtain ⟨ad', cap', hveq, _, hin⟩ := HV3.out.below hb.out
        simp only [Value.slice.injEq] at hveq
        rcases hin with hin | ⟨b, off, e, _, hc⟩
        · omega
        · exact ⟨b, off, by rw [hveq.1, e], hc k (by omega)⟩
      have cd : ∃ b off, a1 = some ⟨b, off, none⟩ ∧ wr.cell? ⟨b, off + k, none⟩ = some (.int .i64 (ds.getD k 0)) := by
        obtain ⟨ad', cap', hveq, _, hin⟩ := I1.out.below hb.out
        simp only [Value.slice.injEq] at hveq
        rcases hin with hin | ⟨b, off, e, _, hc⟩
        · omega
        · exact ⟨b, off, by rw [hveq.1, e], hc k (by omega)⟩
      have cs : ∃ b off, a2 = some ⟨b, off, none⟩ ∧ wr.cell? ⟨b, off + k, none⟩ = some (.int .i64 (ss.getD k 0)) := by
        obtain ⟨ad', cap', hveq, _, hin⟩ := I2.out.below hb.out
        simp only [Value.slice.injEq] at hveq
        rcases hin with hin | ⟨b, off, e, _, hc⟩
        · omega
        · exact ⟨b, off, by rw [hveq.1, e], hc k (by omega)⟩
      have HS := Lib.hid (sum_take_succ ps k hkz)
      have HT := Lib.hid (sum_take_succ ds k (by omega))
      obtain ⟨p1, p2⟩ := HP.out k
      obtain ⟨p3, p4⟩ := HQ.out k
      have p5 := HP.out (k + 1)
      have p6 := HQ.out (k + 1)
      rw [HS.out] at p5
      rw [HT.out] at p6
      obtain ⟨p5, p7⟩ := p5
      obtain ⟨p6, p8⟩ := p6
      obtain ⟨d1, d2, d3⟩ := HDR.out.d0 k hkz
      clear hkz l1 l2
      obtain ⟨bp, op, rfl, cp⟩ := cp
      obtain ⟨bd, od, rfl, cd⟩ := cd
      obtain ⟨bs, os, rfl, cs⟩ := cs
      generalize ps.getD k 0 = X at *
      generalize ds.getD k 0 = D at *
      generalize ss.getD k 0 = S at *
      generalize (ps.take k).sum = t at *
      generalize (ds.take k).sum = s at *
      have b1 : decide (D < 0) = false := by simp; omega
      have b2 : decide (S < 0) = false := by simp; omega
      have b3 : (D + S != X) = false := by rw [d3]; simp
      have e1 : IntKind.i64.wrap (D + S) = D + S := IntWalk.i64_in _ ⟨by omega, by omega⟩
      have e2 : IntKind.i64.wrap (s + D) = s + D := IntWalk.i64_in _ ⟨by omega, by omega⟩
      have e3 : IntKind.i64.wrap (t + X) = t + X := IntWalk.i64_in _ ⟨by omega, by omega⟩
      go_wp2_with fail
      go_quiet (fail)
      go_wp2
      go_roundw
      case rel => exact ⟨k + 1, by omega, by go_num, by rw [HT.out], by rw [HS.out], bel_trans hb.out (bel_drewN _ _)⟩
      case measure => simp [intOf]; omega
    · obtain rfl : k = n := by omega
      have HTp : (ps.take k).sum = ps.sum := by rw [List.take_of_length_le (by have := HNN.out; omega)]
      have HTd : (ds.take k).sum = a := by rw [List.take_of_length_le (by have := HNN.out; have := HDR.out.ld; omega)]; exact HDR.out.sum
      rw [HTp, HTd]
      clear HTp HTd
      have HB2 := Lib.hid (bel_trans HB.out hb.out)
      clear HB hb
      go_wp2_with fail
      refine (clone_any _ ps _ (HV2.out.below HB2.out) (by have := HL.out; omega)).mono ?_
      rintro e' w4 ⟨y2, rfl, hy, h1⟩
      have HY2 := Lib.hid hy; clear hy
      replace HB2 := Lib.hid (bel_trans HB2.out h1); clear h1
      go_wp2_with fail
      refine (HE.out _ _ HY2.out).mono ?_
      rintro e' w5 ⟨v3, v4, rfl, hd, hs, h1⟩
      have J1 := Lib.hid hd
      have J2 := Lib.hid hs
      clear hd hs
      replace HB2 := Lib.hid (bel_trans HB2.out h1); clear h1
      go_wp2_with fail
      refine (equal_yes _ _ ps ps _ J1.out (HV2.out.below HB2.out) rfl).mono ?_
      rintro e' w6 ⟨rfl, h1⟩
      replace J2 := Lib.hid (J2.out.below h1)
      replace HB2 := Lib.hid (bel_trans HB2.out h1); clear h1
      go_wp2_with fail
      refine (zeros_any _ zs _ J2.out HZ.out HZL.out).mono ?_
      rintro e' w7 ⟨rfl, h1⟩
      replace HB2 := Lib.hid (bel_trans HB2.out h1); clear h1
      go_wp2
      go_ret
      exact ⟨rfl, HB2.out⟩

theorem take_bd (l : List Int) (M : Int) (h : ∀ x ∈ l, 0 ≤ x) (hs : l.sum ≤ M) (k : Nat) : 0 ≤ (l.take k).sum ∧ (l.take k).sum ≤ M := by
  have := sum_take_le l h k
  omega

theorem all_get (l : List Int) (p : Int → Prop) (h : ∀ k, k < l.length → p (l.getD k 0)) : ∀ x ∈ l, p x := by
  intro x hx
  obtain ⟨k, hk, rfl⟩ := List.getElem_of_mem hx
  have := h k hk
  simpa [List.getD, List.getElem?_eq_getElem hk] using this

theorem zip_get (ps qs : List Int) (k : Nat) (h : k < ps.length) (hl : qs.length = ps.length) : (List.zipWith (· - ·) ps qs).getD k 0 = ps.getD k 0 - qs.getD k 0 := by
  simp [List.getD, List.getElem?_zipWith, List.getElem?_eq_getElem h, List.getElem?_eq_getElem (show k < qs.length by omega)]

theorem walk (v : Value) (ps : List Int) (a : Int) (w : World) (hv : Ins w v ps) (wl : ∀ z ∈ ps, (Lit.int .i64 z).wf = true) (wa : -9223372036854775808 ≤ a ∧ a ≤ 9223372036854775807) :
    Calls Try.prog 5 #[v, .int .i64 a] w fun e w' => e = .returned (.bool true) ∧ Below w.heap.size w w' := by
  by_cases hn : 65 < ps.length
  · exact stays_many v ps a w hv hn
  by_cases h : drawE ps a = 0
  · have h' := h
    unfold drawE at h'
    split at h'
    · rename_i h0
      split at h'
      · rename_i hle
        have eD : drawD ps a = divP a ps := by unfold drawD; rw [if_pos h]
        have eS : drawS ps a = List.zipWith (· - ·) ps (divP a ps) := by unfold drawS; rw [if_pos h]
        obtain ⟨ham, ht⟩ := divE_zero h0
        obtain ⟨t1, t2, t3, t4, t5⟩ := totE_zero ht
        have len := divP_len a ps h0
        have le := divP_le a ps h0 hle
        have sm := divP_sum a ps h0
        have hps : ∀ x ∈ ps, 0 ≤ x := fun x hx => ((isAm_iff x).1 (List.all_eq_true.1 t3 x hx)).1
        have hds : ∀ x ∈ divP a ps, 0 ≤ x := all_get _ _ (fun k hk => (le k (by omega)).1)
        have am := (isAm_iff a).1 ham
        have sa := (isAm_iff ps.sum).1 t4
        have h1 := divE_sum a ps h0
        have f0 : drawE ps ps.sum = 0 := by unfold drawE; rw [if_pos h1, if_pos (Int.le_refl _)]
        have fD : drawD ps ps.sum = ps := by unfold drawD; rw [if_pos f0]; exact divP_all ps h1
        have fS : drawS ps ps.sum = List.zipWith (· - ·) ps ps := by unfold drawS; rw [if_pos f0, divP_all ps h1]
        refine stays_core v ps (drawD ps a) (drawS ps a) (drawS ps ps.sum) a w hv (by omega) (take_bd ps _ hps sa.2) (take_bd _ _ (by rw [eD]; exact hds) (by rw [eD, sm]; exact am.2)) ⟨by rw [eD, len], by rw [eS]; simp [len], ?_, by rw [eD, sm]⟩ ?_ (by rw [fS]; simp; omega)
          (fun y W hy => by have := draw_any ps a y W hy; rwa [h] at this) (fun y W hy => by have := draw_any ps ps.sum y W hy; rwa [f0, fD] at this)
        · intro k hk
          rw [eD, eS, zip_get _ _ _ hk len]
          have := le k hk
          omega
        · intro j
          rw [fS]
          by_cases hj : j < ps.length
          · rw [zip_get _ _ _ hj rfl]; omega
          · rw [List.getD_eq_getElem?_getD, List.getElem?_eq_none (by simp; omega)]; rfl
      · omega
    · omega
  · have eD : drawD ps a = [] := by unfold drawD; rw [if_neg h]
    have eS : drawS ps a = [] := by unfold drawS; rw [if_neg h]
    refine stays_err v ps a (drawE ps a) w hv (by omega) (bneq h) (fun y W hy => ?_)
    have := draw_any ps a y W hy
    rwa [eD, eS] at this

set_option maxRecDepth 100000 in
theorem lifted (os : Os) (started : os.Started) (H : Type) (enc : TypeId × Value → H) :
    ReturnsInHanded {} Try.checked os 5 .any (Rows.proportionStaysSpec.pre6 enc Try.prog Try.f5 Rows.proportionStaysRow.domain false) (Rows.proportionStaysSpec.post enc Try.prog Try.f5 false true false false) := by
  refine returnsInHanded_of_change (C := Try.checked) own started (by kernel_rfl) Try.func5
    (ChangeSpec.witness6 (enc := enc) (C := Try.checked) false ⟨#[], #[.slice none 0 0, .int .i64 0], []⟩ 8 (by kernel_rfl) (by kernel_rfl) (by kernel_rfl) (by kernel_rfl)) ?_
  intro W base args ds gs before hval0 hW hcnd _
  have hval : ∀ (j : Nat) t v, Try.f5.params[j]? = some t → args[j]? = some v → Value.okWide Try.prog W .any base t v := hval0
  clear hval0
  have hW' := hW
  obtain ⟨p, q, hA0, hV, rfl, hfz, hnd⟩ := hW
  have hA : DataW.TrodAll enc Try.prog W 0 (fun _ => true) true Try.f5.params.toList args.toList ds p := hA0
  rw [Try.params5] at hA hval
  obtain ⟨v0, vs0, d0, ds0, p0, q0, hargs, rfl, rfl, h0, r0⟩ := trodAll_cons hA
  obtain ⟨v1, vs1, d1, ds1, p1, q1, rfl, rfl, rfl, h1, r1⟩ := trodAll_cons r0
  obtain ⟨rfl, rfl, rfl⟩ := trodAll_nil r1
  obtain rfl : args = #[v0, v1] := by cases args; simp_all
  obtain ⟨rfl, rfl⟩ := trodVars_none hV
  have k0 := h0
  have lt0 : ∀ x ∈ p0, x.block < W.heap.size := by obtain ⟨m, hm⟩ := k0; exact DataW.trod_lt m _ _ _ hm
  have k1 := h1
  have lt1 : ∀ x ∈ p1, x.block < W.heap.size := by obtain ⟨m, hm⟩ := k1; exact DataW.trod_lt m _ _ _ hm
  obtain ⟨z0, w0, b0⟩ := open_intSlice Try.underlying36 Try.underlying3 (by kernel_rfl) (hval 0 36 v0 rfl rfl) h0
  obtain ⟨a1, rfl, rfl, rfl, w1⟩ := open_int Try.underlying3 (hval 1 3 v1 rfl rfl) h1
  clear hA0
  refine (walk v0 z0 a1 W w0 b0 (wf_bd w1)).mono fun e W' ⟨he, bel⟩ => ?_
  subst he
  exact ⟨_, rfl, _, _, _, [], _, [], hW', trodAll_mk1 (shut_bool Try.underlying4 _), (trodAll_cons_mk (Below.trod laidOut (by kernel_rfl) (of_decide_eq_true (by kernel_rfl)) k0 bel lt0) (trodAll_cons_mk (Below.trod laidOut (by kernel_rfl) (of_decide_eq_true (by kernel_rfl)) k1 bel lt1) trodAll_mk0)), rfl, bel.frame _, fun h => by cases h⟩

theorem over : Rows.proportionStaysRow.holds Try.pinned (OpenSpec.ofChange Rows.proportionStaysSpec) :=
  OpenClaim.holds_of_wide 5 Try.f5 rfl rfl rfl rfl rfl rfl rfl ⟨rfl, rfl, rfl, rfl, rfl⟩ rfl rfl rfl rfl rfl (by kernel_rfl) Try.func5 (by kernel_rfl)
    (of_decide_eq_true (by kernel_rfl)) (by unfold Func.isWrapper; first | (rw [if_pos (by decide +kernel)]; kernel_rfl) | (rw [if_neg (by decide +kernel)]; exact ⟨rfl, rfl⟩))
    (fun os started H enc _ => lifted os started H enc)

theorem proved : Rows.ProportionStaysSaid := over
#print axioms proved
end Go.Proofs.Ytlpngfngdigchaa.proportionStays
