/-
  The statement ShareParts of spile/spilelaw23 holds: for every input the call returns true, and each argument reads afterwards as it read before.
-/
import Derived.Test.YtmoeccghkpjbgaaM4
import Derived.Test.YtmoeccghkpjbgaaM2
import Derived.Below
import Derived.Carry
set_option linter.unusedVariables false
set_option linter.unusedSimpArgs false
namespace Go.Proofs.Ytmoeccghkpjbgaa.shareParts
open Go.ChangeShapes Go.WideShapes Go.ChangeAt Go.RowKit
open Go.ChangeMaps (open_string shut_string)
set_option linter.unusedVariables false

theorem sum_takeI (l : List Int) (k : Nat) (h : k < l.length) : (l.take (k + 1)).sum = (l.take k).sum + l.getD k 0 := sum_take_succ l k h
set_option maxHeartbeats 4000000 in
theorem few (a : Option Addr) (n cap : Nat) (k : Int) (w : World) (h : fwS n = false) :
    Calls Try.prog 9 #[.slice a n cap, .int .i64 k] w fun e w' => e = .returned (.bool true) ∧ Below w.heap.size w w' := by
  have HF := Lib.hid (fun W => rlFs_any a n cap W)
  rw [h] at HF
  have HB := Lib.hid (Below.refl w.heap.size w)
  go_enter Try.func9, Try.ntmps9
  go_wp2_with fail
  refine (awakeS_any w).mono ?_
  rintro e w1 ⟨rfl, h1⟩
  replace HB := Lib.hid (bel_trans HB.out h1); clear h1
  go_wp2_with fail
  refine (HF.out _).mono ?_
  rintro e w2 ⟨rfl, h1⟩
  replace HB := Lib.hid (bel_trans HB.out h1); clear h1
  go_wp2
  go_returns
  exact ⟨rfl, HB.out⟩
set_option maxHeartbeats 8000000 in
set_option maxRecDepth 100000 in
theorem bad (a : Option Addr) (n cap : Nat) (k CE PE : Int) (s J : List (Int × Int)) (P : List Int) (w : World) (NV : Hid (Pts w (.slice a n cap) s)) (hf : fwS n = true) (hC : (CE == 0) = false) (hP : (PE != 0) = true) (hP0 : P = [])
    (C1 : Hid (∀ W, Pts W (.slice a n cap) s → Calls Try.prog 22 #[.slice a n cap, .slice none 0 0] W fun e w' => ∃ u, e = .returned (.tuple #[u, .int .i64 1]) ∧ RH.Sh w' W.heap.size u J ∧ Below W.heap.size W w'))
    (C2 : Hid (∀ W, Pts W (.slice a n cap) s → Calls Try.prog 18 #[.slice a n cap] W fun e w' => e = .returned (.int .i64 CE) ∧ Below W.heap.size W w'))
    (C3 : Hid (∀ W, Pts W (.slice a n cap) s → Calls Try.prog 16 #[.slice a n cap, .int .i64 k] W fun e w' => ∃ u, e = .returned (.tuple #[u, .int .i64 PE]) ∧ Ins w' u P ∧ Below W.heap.size W w')) :
    Calls Try.prog 9 #[.slice a n cap, .int .i64 k] w fun e w' => e = .returned (.bool true) ∧ Below w.heap.size w w' := by
  have HF := Lib.hid (fun W => rlFs_any a n cap W)
  rw [hf] at HF

  have HB := Lib.hid (Below.refl w.heap.size w)
  go_enter Try.func9, Try.ntmps9
  go_wp2_with fail
  refine (awakeS_any w).mono ?_
  rintro e w1 ⟨rfl, h1⟩
  replace NV := Lib.hid (NV.out.below h1)
  replace HB := Lib.hid (bel_trans HB.out h1); clear h1
  go_wp2_with fail
  refine (HF.out _).mono ?_
  rintro e w2 ⟨rfl, h1⟩
  replace NV := Lib.hid (NV.out.below h1)
  replace HB := Lib.hid (bel_trans HB.out h1); clear h1
  go_wp2_with fail
  refine (C1.out _ NV.out).mono ?_
  rintro e w3 ⟨u1, rfl, g1, h1⟩
  replace NV := Lib.hid (NV.out.below h1)
  replace HB := Lib.hid (bel_trans HB.out h1); clear h1
  have NJ := Lib.hid g1.pts
  clear g1
  go_wp2_with fail
  refine (C2.out _ NV.out).mono ?_
  rintro e w4 ⟨rfl, h1⟩
  replace NV := Lib.hid (NV.out.below h1)
  replace HB := Lib.hid (bel_trans HB.out h1); clear h1
  go_wp2_with fail
  refine (C3.out _ NV.out).mono ?_
  rintro e w5 ⟨u2, rfl, g1, h1⟩
  replace NV := Lib.hid (NV.out.below h1)
  replace HB := Lib.hid (bel_trans HB.out h1); clear h1
  have IP := Lib.hid g1
  clear g1
  subst hP0
  obtain ⟨ap, cp, rfl, _, _⟩ := IP.out
  go_wp2
  go_returns
  exact ⟨rfl, HB.out⟩
set_option maxHeartbeats 8000000 in
set_option maxRecDepth 100000 in
theorem rng (a : Option Addr) (n cap : Nat) (k CE PE : Int) (s J : List (Int × Int)) (P : List Int) (w : World) (NV : Hid (Pts w (.slice a n cap) s)) (hf : fwS n = true) (hC : (CE == 0) = true) (hP : (PE != 0) = true) (hP0 : P = []) (hJ : J = s) (hn : s.length ≤ 1000)
    (C1 : Hid (∀ W, Pts W (.slice a n cap) s → Calls Try.prog 22 #[.slice a n cap, .slice none 0 0] W fun e w' => ∃ u, e = .returned (.tuple #[u, .int .i64 0]) ∧ RH.Sh w' W.heap.size u J ∧ Below W.heap.size W w'))
    (C2 : Hid (∀ W, Pts W (.slice a n cap) s → Calls Try.prog 18 #[.slice a n cap] W fun e w' => e = .returned (.int .i64 CE) ∧ Below W.heap.size W w'))
    (C3 : Hid (∀ W, Pts W (.slice a n cap) s → Calls Try.prog 16 #[.slice a n cap, .int .i64 k] W fun e w' => ∃ u, e = .returned (.tuple #[u, .int .i64 PE]) ∧ Ins w' u P ∧ Below W.heap.size W w')) :
    Calls Try.prog 9 #[.slice a n cap, .int .i64 k] w fun e w' => e = .returned (.bool true) ∧ Below w.heap.size w w' := by
  have HF := Lib.hid (fun W => rlFs_any a n cap W)
  rw [hf] at HF
  have EJ := Lib.hid (fun v u W h h' => rlSs_any v u J s W h h' (by rw [hJ]; exact hn))
  rw [show (J == s) = true by rw [hJ]; simp] at EJ
  have HB := Lib.hid (Below.refl w.heap.size w)
  go_enter Try.func9, Try.ntmps9
  go_wp2_with fail
  refine (awakeS_any w).mono ?_
  rintro e w1 ⟨rfl, h1⟩
  replace NV := Lib.hid (NV.out.below h1)
  replace HB := Lib.hid (bel_trans HB.out h1); clear h1
  go_wp2_with fail
  refine (HF.out _).mono ?_
  rintro e w2 ⟨rfl, h1⟩
  replace NV := Lib.hid (NV.out.below h1)
  replace HB := Lib.hid (bel_trans HB.out h1); clear h1
  go_wp2_with fail
  refine (C1.out _ NV.out).mono ?_
  rintro e w3 ⟨u1, rfl, g1, h1⟩
  replace NV := Lib.hid (NV.out.below h1)
  replace HB := Lib.hid (bel_trans HB.out h1); clear h1
  have NJ := Lib.hid g1.pts
  clear g1
  go_wp2_with fail
  refine (EJ.out _ _ _ NJ.out NV.out).mono ?_
  rintro e w4 ⟨rfl, h1⟩
  replace NV := Lib.hid (NV.out.below h1)
  replace HB := Lib.hid (bel_trans HB.out h1); clear h1
  go_wp2_with fail
  refine (C2.out _ NV.out).mono ?_
  rintro e w5 ⟨rfl, h1⟩
  replace NV := Lib.hid (NV.out.below h1)
  replace HB := Lib.hid (bel_trans HB.out h1); clear h1
  go_wp2_with fail
  refine (C3.out _ NV.out).mono ?_
  rintro e w6 ⟨u2, rfl, g1, h1⟩
  replace NV := Lib.hid (NV.out.below h1)
  replace HB := Lib.hid (bel_trans HB.out h1); clear h1
  have IP := Lib.hid g1
  clear g1
  subst hP0
  obtain ⟨ap, cp, rfl, _, _⟩ := IP.out
  go_wp2
  go_returns
  exact ⟨rfl, HB.out⟩
set_option maxHeartbeats 32000000 in
set_option maxRecDepth 100000 in
theorem good (a : Option Addr) (n cap : Nat) (k CE PE : Int) (s J : List (Int × Int)) (P : List Int) (w : World) (NV : Hid (Pts w (.slice a n cap) s)) (hf : fwS n = true) (hC : (CE == 0) = true) (hJ : J = s) (hn : s.length ≤ 1000) (hsl : Hid (s.length = n)) (LP : P.length = n) (n1 : n ≤ 64) (HSum : Hid (P.sum = k)) (HB1 : Hid (∀ j, j < n → 0 ≤ P.getD j 0 ∧ P.getD j 0 ≤ 128849018880064)) (HMo : Hid (∀ i j, i < n → j < n → gR s j < gR s i → P.getD j 0 ≤ P.getD i 0))
    (C1 : Hid (∀ W, Pts W (.slice a n cap) s → Calls Try.prog 22 #[.slice a n cap, .slice none 0 0] W fun e w' => ∃ u, e = .returned (.tuple #[u, .int .i64 0]) ∧ RH.Sh w' W.heap.size u J ∧ Below W.heap.size W w'))
    (C2 : Hid (∀ W, Pts W (.slice a n cap) s → Calls Try.prog 18 #[.slice a n cap] W fun e w' => e = .returned (.int .i64 CE) ∧ Below W.heap.size W w'))
    (C3 : Hid (∀ W, Pts W (.slice a n cap) s → Calls Try.prog 16 #[.slice a n cap, .int .i64 k] W fun e w' => ∃ u, e = .returned (.tuple #[u, .int .i64 0]) ∧ Ins w' u P ∧ Below W.heap.size W w')) :
    Calls Try.prog 9 #[.slice a n cap, .int .i64 k] w fun e w' => e = .returned (.bool true) ∧ Below w.heap.size w w' := by
  have HF := Lib.hid (fun W => rlFs_any a n cap W)
  rw [hf] at HF
  have EJ := Lib.hid (fun v u W h h' => rlSs_any v u J s W h h' (by rw [hJ]; exact hn))
  rw [show (J == s) = true by rw [hJ]; simp] at EJ
  have HT : Hid (∀ i, i ≤ n → 0 ≤ (P.take i).sum ∧ (P.take i).sum ≤ 128849018880064 * i) := Lib.hid fun i hi => by
    induction i with
    | zero => simp
    | succ i ih =>
      have ih := ih (by omega)
      have s1 := sum_takeI P i (by omega)
      have := HB1.out i (by omega)
      omega
  have HST : Hid (∀ i, i < n → (P.take (i + 1)).sum = (P.take i).sum + P.getD i 0) := Lib.hid fun i hi => sum_takeI P i (by omega)
  have HFull : Hid ((P.take n).sum = k) := Lib.hid (by rw [List.take_of_length_le (by omega)]; exact HSum.out)
  have hk : 0 ≤ k ∧ k ≤ 128849018880064 * 64 := by
    have := HT.out n (Nat.le_refl _)
    rw [HFull.out] at this
    omega
  have HB := Lib.hid (Below.refl w.heap.size w)
  go_enter Try.func9, Try.ntmps9
  go_wp2_with fail
  refine (awakeS_any w).mono ?_
  rintro e w1 ⟨rfl, h1⟩
  replace NV := Lib.hid (NV.out.below h1)
  replace HB := Lib.hid (bel_trans HB.out h1); clear h1
  go_wp2_with fail
  refine (HF.out _).mono ?_
  rintro e w2 ⟨rfl, h1⟩
  replace NV := Lib.hid (NV.out.below h1)
  replace HB := Lib.hid (bel_trans HB.out h1); clear h1
  go_wp2_with fail
  refine (C1.out _ NV.out).mono ?_
  rintro e w3 ⟨u1, rfl, g1, h1⟩
  replace NV := Lib.hid (NV.out.below h1)
  replace HB := Lib.hid (bel_trans HB.out h1); clear h1
  have NJ := Lib.hid g1.pts
  clear g1
  go_wp2_with fail
  refine (EJ.out _ _ _ NJ.out NV.out).mono ?_
  rintro e w4 ⟨rfl, h1⟩
  replace NV := Lib.hid (NV.out.below h1)
  replace HB := Lib.hid (bel_trans HB.out h1); clear h1
  go_wp2_with fail
  refine (C2.out _ NV.out).mono ?_
  rintro e w5 ⟨rfl, h1⟩
  replace NV := Lib.hid (NV.out.below h1)
  replace HB := Lib.hid (bel_trans HB.out h1); clear h1
  go_wp2_with fail
  refine (C3.out _ NV.out).mono ?_
  rintro e w6 ⟨u2, rfl, g1, h1⟩
  replace NV := Lib.hid (NV.out.below h1)
  replace HB := Lib.hid (bel_trans HB.out h1); clear h1
  have IP := Lib.hid g1
  clear g1
  obtain ⟨ap, cp, hpe, hpl, hph⟩ := IP.out
  rw [LP] at hpe
  subst hpe
  have HC : Hid (∀ W j, Below w6.heap.size w6 W → j < n → ∃ b off, ap = some ⟨b, off, none⟩ ∧ W.cell? ⟨b, off + j, none⟩ = some (.int .i64 (P.getD j 0))) := Lib.hid (fun W j hW hj => by
    rcases hph with h0 | ⟨b, off, e, hb, hc⟩
    · omega
    · exact ⟨b, off, e, cell_bel (hc j (by omega)) hW⟩)
  clear IP hph NJ EJ
  replace hpl := Lib.hid hpl
  go_wp2_with fail
  go_loopw [9, 58] (fun lf i wr => ∃ p : Nat, p ≤ n ∧ i = .int .i64 p ∧ lf = .int .i64 (k - (P.take p).sum) ∧ Hid (Below w6.heap.size w6 wr)) (fun _ i _ => n - (intOf i).toNat)
  case atStart => exact ⟨0, Nat.zero_le _, rfl, by simp, Lib.hid (Below.refl _ _)⟩
  case round =>
    obtain ⟨p, hp, rfl, rfl, X⟩ := hrel
    by_cases hlt : p < n
    · have l9 : (p : Int) < (n : Int) := by omega
      have t1 := HT.out p hp
      have s1 := Lib.hid (HST.out p hlt)
      have pb := HB1.out p hlt
      obtain ⟨bp, op, rfl, c0⟩ := HC.out wr p X.out hlt
      obtain ⟨bs, os, rfl, hbs, hcs⟩ := (NV.out.below X.out).at (by omega)
      obtain ⟨_, x1⟩ := hcs p hlt
      have HCS := Lib.hid hcs
      clear hcs
      have HM1 := Lib.hid (fun j hj => HMo.out p j hlt hj)
      generalize hpp : P.getD p 0 = pp at *
      generalize hgx : gR s p = gx at *
      generalize (P.take p).sum = S at *
      have w1 : IntKind.i64.wrap (k - S - pp) = k - S - pp := wrap_in _ ⟨by omega, by omega⟩
      go_wp2_with fail
      go_loopw [68] (fun jv wi => ∃ j : Nat, j ≤ n ∧ jv = .int .i64 j ∧ Hid (Below wr.heap.size wr wi)) (fun jv _ => n - (intOf jv).toNat)
      case atStart => exact ⟨0, Nat.zero_le _, rfl, Lib.hid (Below.refl _ _)⟩
      case round =>
        obtain ⟨j, hj, rfl, Y⟩ := hrel
        by_cases hjn : j < n
        · have l8 : (j : Int) < (n : Int) := by omega
          have d0 := cell_bel x1 Y.out
          have d1 := cell_bel (HCS.out j hjn).2 Y.out
          obtain ⟨bp', op', hbe, d2⟩ := HC.out _ j (bel_trans X.out Y.out) hjn
          simp only [Option.some.injEq, Addr.mk.injEq, and_true] at hbe
          obtain ⟨rfl, rfl⟩ := hbe
          have hm := HM1.out j hjn
          generalize gR s j = gy at *
          generalize P.getD j 0 = pj at *
          by_cases hgt : gy < gx
          · have g1 : decide (gy < gx) = true := decide_eq_true hgt
            have g2 : decide (pp < pj) = false := decide_eq_false (by have := hm hgt; omega)
            clear hm hgt
            go_wp2_with fail
            go_quiet (fail)
            rename_i nq
            go_wp2
            go_roundw
            case rel => exact ⟨j + 1, by omega, by go_num, Lib.hid (bel_trans Y.out (bel_drewN _ _))⟩
            case measure => simp [intOf]; omega
          · have g1 : decide (gy < gx) = false := decide_eq_false hgt
            clear hm hgt
            go_wp2_with fail
            go_quiet (fail)
            rename_i nq
            go_wp2
            go_roundw
            case rel => exact ⟨j + 1, by omega, by go_num, Lib.hid (bel_trans Y.out (bel_drewN _ _))⟩
            case measure => simp [intOf]; omega
        · obtain rfl : n = j := by omega
          go_wp2
          go_roundw
          case rel => exact ⟨p + 1, by omega, by go_num, by rw [s1.out]; congr 1; omega, Lib.hid (bel_trans X.out Y.out)⟩
          case measure => simp [intOf]; omega
    · obtain rfl : n = p := by omega
      rw [HFull.out, Int.sub_self]
      go_wp2
      go_returns
      exact ⟨rfl, bel_trans HB.out X.out⟩
theorem walk (v : Value) (s : List (Int × Int)) (k : Int) (w : World) (hv : Pts w v s) (_ : -9223372036854775808 ≤ k ∧ k ≤ 9223372036854775807) :
    Calls Try.prog 9 #[v, .int .i64 k] w fun e w' => e = .returned (.bool true) ∧ Below w.heap.size w w' := by
  have hv2 := Lib.hid hv
  obtain ⟨a, cap, rfl, _, _⟩ := hv.shape
  cases hf : fwS s.length with
  | false => exact few a _ cap k w hf
  | true =>
    have hl := fwS_iff.1 hf
    have J1 := Lib.hid (fun W (h : Pts W (.slice a s.length cap) s) => shJn_any (.slice a s.length cap) (.slice none 0 0) s [] W h (pts_nil W))
    rw [jnE_nil] at J1
    by_cases h : scE s = 0
    · have hR := scE_zero.1 h
      rw [if_pos h, jnL_nil s h] at J1
      by_cases hp : spE s k = 0
      · have hd : divE k (amS s) = 0 := by unfold spE at hp; rwa [if_pos h] at hp
        have e : spP s k = divP k (amS s) := by unfold spP; rw [if_pos h]
        have lp : (divP k (amS s)).length = s.length := by rw [divP_len k _ hd, amS_len]
        refine good a _ cap k (scE s) 0 s s (spP s k) w hv2 hf (by simpa using h) rfl (by omega) (Lib.hid rfl) (by rw [e]; exact lp) (by have := hR.len; omega) (Lib.hid (by rw [e]; exact divP_sum k _ hd)) (Lib.hid fun j _ => by rw [e]; exact divP_bd k _ hd j) (Lib.hid fun i j hi hj hlt => by rw [e]; exact divP_mono k _ hd (by rw [amS_len]; exact hi) (by rw [amS_len]; exact hj) (by rw [amS_get, amS_get]; exact hlt)) J1 (Lib.hid fun W g => shCh_any _ s W g) (Lib.hid fun W g => ?_)
        have := shPa_any _ s k W g
        rwa [hp] at this
      · have e : spP s k = [] := by
          unfold spE at hp
          rw [if_pos h] at hp
          unfold spP divP
          rw [if_pos h, if_neg hp]
        exact rng a _ cap k (scE s) (spE s k) s s (spP s k) w hv2 hf (by simpa using h) (by simpa using hp) e rfl (by omega) J1 (Lib.hid fun W g => shCh_any _ s W g) (Lib.hid fun W g => shPa_any _ s k W g)
    · rw [if_neg h] at J1
      have e : spP s k = [] := by unfold spP; rw [if_neg h]
      have e2 : spE s k = 1 := by unfold spE; rw [if_neg h]
      exact bad a _ cap k (scE s) (spE s k) s _ (spP s k) w hv2 hf (by simpa using h) (by rw [e2]; rfl) e J1 (Lib.hid fun W g => shCh_any _ s W g) (Lib.hid fun W g => shPa_any _ s k W g)

set_option maxRecDepth 100000 in
theorem lifted (os : Os) (started : os.Started) (H : Type) (enc : TypeId × Value → H) :
    ReturnsInHanded {} Try.checked os 9 .any (Rows.sharePartsSpec.pre6 enc Try.prog Try.f9 Rows.sharePartsRow.domain false) (Rows.sharePartsSpec.post enc Try.prog Try.f9 false true false false) := by
  refine returnsInHanded_of_change (C := Try.checked) own started (by kernel_rfl) Try.func9
    (ChangeSpec.witness6 (enc := enc) (C := Try.checked) false ⟨#[], #[.slice none 0 0, .int .i64 0], []⟩ 8 (by kernel_rfl) (by kernel_rfl) (by kernel_rfl) (by kernel_rfl)) ?_
  intro W base args ds gs before hval0 hW hcnd _
  have hval : ∀ (j : Nat) t v, Try.f9.params[j]? = some t → args[j]? = some v → Value.okWide Try.prog W .any base t v := hval0
  clear hval0
  have hW' := hW
  obtain ⟨p, q, hA0, hV, rfl, hfz, hnd⟩ := hW
  have hA : DataW.TrodAll enc Try.prog W 0 (fun _ => true) true Try.f9.params.toList args.toList ds p := hA0
  rw [Try.params9] at hA hval
  obtain ⟨v0, vs0, d0, ds0, p0, q0, hargs, rfl, rfl, h0, r0⟩ := trodAll_cons hA
  obtain ⟨v1, vs1, d1, ds1, p1, q1, rfl, rfl, rfl, h1, r1⟩ := trodAll_cons r0
  obtain ⟨rfl, rfl, rfl⟩ := trodAll_nil r1
  obtain rfl : args = #[v0, v1] := by cases args; simp_all
  obtain ⟨rfl, rfl⟩ := trodVars_none hV
  have k0 := h0
  have lt0 : ∀ x ∈ p0, x.block < W.heap.size := by obtain ⟨m, hm⟩ := k0; exact DataW.trod_lt m _ _ _ hm
  have k1 := h1
  have lt1 : ∀ x ∈ p1, x.block < W.heap.size := by obtain ⟨m, hm⟩ := k1; exact DataW.trod_lt m _ _ _ hm
  obtain ⟨z0, w0⟩ := open_shs (hval 0 22 v0 rfl rfl) h0
  obtain ⟨a1, rfl, rfl, rfl, w1⟩ := open_int Try.underlying3 (hval 1 3 v1 rfl rfl) h1
  clear hA0
  refine (walk v0 z0 a1 W w0 (wf_bd w1)).mono fun e W' ⟨he, bel⟩ => ?_
  subst he
  exact ⟨_, rfl, _, _, _, [], _, [], hW', trodAll_mk1 (shut_bool Try.underlying4 _), (trodAll_cons_mk (Below.trod laidOut (by kernel_rfl) (of_decide_eq_true (by kernel_rfl)) k0 bel lt0) (trodAll_cons_mk (Below.trod laidOut (by kernel_rfl) (of_decide_eq_true (by kernel_rfl)) k1 bel lt1) trodAll_mk0)), rfl, bel.frame _, fun h => by cases h⟩

theorem over : Rows.sharePartsRow.holds Try.pinned (OpenSpec.ofChange Rows.sharePartsSpec) :=
  OpenClaim.holds_of_wide 9 Try.f9 rfl rfl rfl rfl rfl rfl rfl ⟨rfl, rfl, rfl, rfl, rfl⟩ rfl rfl rfl rfl rfl (by kernel_rfl) Try.func9 (by kernel_rfl)
    (of_decide_eq_true (by kernel_rfl)) (by unfold Func.isWrapper; first | (rw [if_pos (by decide +kernel)]; kernel_rfl) | (rw [if_neg (by decide +kernel)]; exact ⟨rfl, rfl⟩))
    (fun os started H enc _ => lifted os started H enc)

theorem proved : Rows.SharePartsSaid := over
#print axioms proved
end Go.Proofs.Ytmoeccghkpjbgaa.shareParts

