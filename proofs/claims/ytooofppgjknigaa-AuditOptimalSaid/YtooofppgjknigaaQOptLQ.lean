/-
  The statement AuditOptimal of spile/spilelaw17 holds: for every input the call returns true, and each argument reads afterwards as it read before.
-/
import Derived.Test.YtooofppgjknigaaM2
import Derived.Below
import Derived.Carry
set_option linter.unusedVariables false
set_option linter.unusedSimpArgs false
namespace Go.Proofs.Ytooofppgjknigaa.auditOptimal
open Go.ChangeShapes Go.WideShapes Go.ChangeAt Go.RowKit
open Go.ChangeMaps (open_string shut_string)
set_option linter.unusedVariables false

set_option maxHeartbeats 4000000 in
set_option maxRecDepth 100000 in
theorem long (a : Option Addr) (n cap : Nat) (v1 : Option Addr) (no co : Nat) (w : World) (h : 20 < n ∨ (¬ 20 < n ∧ 40 < no)) :
    Calls Try.prog 6 #[.slice a n cap, .slice v1 no co] w fun e w' => e = .returned (.bool true) ∧ Below w.heap.size w w' := by
  have HA := Lib.hid (fun W => awake_any W)
  rcases h with h | ⟨h, h2⟩
  · have dn : decide (20 < (n : Int)) = true := decide_eq_true (by omega)
    have HB := Lib.hid (Below.refl w.heap.size w)
    go_enter Try.func6, Try.ntmps6
    go_wp2_with fail
    refine (HA.out _).mono ?_
    rintro e w2 ⟨rfl, h1⟩
    replace HB := Lib.hid (bel_trans HB.out h1); clear h1
    go_wp2
    go_returns
    exact ⟨rfl, HB.out⟩
  · have dn : decide (20 < (n : Int)) = false := decide_eq_false (by omega)
    have dn2 : decide (40 < (no : Int)) = true := decide_eq_true (by omega)
    have HB := Lib.hid (Below.refl w.heap.size w)
    go_enter Try.func6, Try.ntmps6
    go_wp2_with fail
    refine (HA.out _).mono ?_
    rintro e w2 ⟨rfl, h1⟩
    replace HB := Lib.hid (bel_trans HB.out h1); clear h1
    go_wp2
    go_returns
    exact ⟨rfl, HB.out⟩
set_option maxHeartbeats 4000000 in
set_option maxRecDepth 100000 in
theorem bad (a : Option Addr) (n cap : Nat) (v1 : Option Addr) (no co : Nat) (l : List (Int × Int)) (w : World) (h : n ≤ 20) (h2 : no ≤ 40) (NV : Hid (Pts w (.slice a n cap) l)) (he : leE l = 1) (hv : rpV l = 0) (hL : rpL l = []) :
    Calls Try.prog 6 #[.slice a n cap, .slice v1 no co] w fun e w' => e = .returned (.bool true) ∧ Below w.heap.size w w' := by
  have HA := Lib.hid (fun W => awake_any W)
  have CL := Lib.hid (fun v W h => auRp_any v l W h)
  rw [he, hv, hL] at CL
  have dn : decide (20 < (n : Int)) = false := decide_eq_false (by omega)
  have dn2 : decide (40 < (no : Int)) = false := decide_eq_false (by omega)
  have HB := Lib.hid (Below.refl w.heap.size w)
  go_enter Try.func6, Try.ntmps6
  go_wp2_with fail
  refine (HA.out _).mono ?_
  rintro e w3 ⟨rfl, h1⟩
  replace NV := Lib.hid (NV.out.below h1)
  replace HB := Lib.hid (bel_trans HB.out h1); clear h1
  go_wp2_with fail
  refine (CL.out _ _ NV.out).mono ?_
  rintro e w4 ⟨V1, rfl, hx, h1⟩
  replace NV := Lib.hid (NV.out.below h1)
  replace HB := Lib.hid (bel_trans HB.out h1); clear h1
  have N1 := Lib.hid hx; clear hx
  obtain ⟨a1, c1, e1, _, _⟩ := N1.out.shape
  subst e1
  clear N1
  go_wp2
  go_returns
  exact ⟨rfl, HB.out⟩
/-- the densities that are tried -/
def opF (l : List (Int × Int)) (zs : List Int) (j : Nat) : Int := if j < zs.length then min (max (gR l j + zs.getD j 0 % 400 - 200) 50000) 120000 else gR l j
set_option maxHeartbeats 64000000 in
set_option maxRecDepth 100000 in
theorem good (b off n cap : Nat) (v1 : Option Addr) (no co : Nat) (l : List (Int × Int)) (zs : List Int) (D : Nat → Int) (C L : Int) (CM : List (Int × Int)) (w : World) (n0 : 1 ≤ n) (hn : n ≤ 20) (hno : no ≤ 40) (hz : Hid (zs.length = no)) (hl : Hid (l.length = n)) (NV : Hid (Pts w (.slice (some ⟨b, off, none⟩) n cap) l)) (NZ : Hid (N16 w (.slice v1 no co) zs))
    (hA : Hid (AR l)) (hL : 0 ≤ L ∧ L ≤ 70000) (hC : C = (L + 1) / 2) (hD : Hid (∀ j, j < n → 50000 ≤ D j ∧ D j ≤ 120000)) (hDC : Hid (∀ j, j < n → max (D j - gR l j) (gR l j - D j) ≤ C)) (hre : Hid (reB (gR l) D C n = true))
    (hM : Hid (CM.length = 0 → C ≤ cgF (gR l) (opF l zs) n))
    (C1 : Hid (∀ v W, Pts W v l → Calls Try.prog 21 #[v] W fun e w' => ∃ u, e = .returned (.tuple #[u, .int .i64 C, .int .i64 0]) ∧ Pts w' u (wiD l D) ∧ Below W.heap.size W w'))
    (C2 : Hid (∀ v W, Pts W v (wiD l D) → Calls Try.prog 14 #[v, .int .i64 0] W fun e w' => ∃ a c, e = .returned (.tuple #[.slice a 0 c, .int .i64 0]) ∧ Below W.heap.size W w'))
    (C3 : Hid (∀ v W, Pts W v l → Calls Try.prog 16 #[v] W fun e w' => e = .returned (.tuple #[.int .i64 L, .int .i64 0]) ∧ Below W.heap.size W w'))
    (C4 : Hid (∀ v W, Pts W v (wiD l (opF l zs)) → Calls Try.prog 14 #[v, .int .i64 0] W fun e w' => ∃ a c, e = .returned (.tuple #[.slice a CM.length c, .int .i64 0]) ∧ Below W.heap.size W w')) :
    Calls Try.prog 6 #[.slice (some ⟨b, off, none⟩) n cap, .slice v1 no co] w fun e w' => e = .returned (.bool true) ∧ Below w.heap.size w w' := by
  have HA := Lib.hid (fun W => awake_any W)
  have M3 := run_max3
  have CW := Lib.hid (fun W (h : Pts W (.slice (some ⟨b, off, none⟩) n cap) l) => clone_w _ l W h (by rw [hl.out]; omega) (by rw [hl.out]; omega))
  rw [hl.out] at CW
  have dn : decide (20 < (n : Int)) = false := decide_eq_false (by omega)
  have dn2 : decide (40 < (no : Int)) = false := decide_eq_false (by omega)
  have wL : IntKind.i64.wrap (L + 1) = L + 1 := wrap_in _ ⟨by omega, by omega⟩
  have wL2 : (L + 1).tdiv 2 = C := by rw [Int.tdiv_eq_ediv_of_nonneg (by omega)]; exact hC.symm
  have wC : IntKind.i64.wrap C = C := wrap_in _ ⟨by omega, by omega⟩
  replace hC := Lib.hid hC
  have r0 : Hid (reB (gR l) D C 0 = (C == 0)) := Lib.hid rfl
  have HB := Lib.hid (Below.refl w.heap.size w)
  go_enter Try.func6, Try.ntmps6
  go_wp2_with fail
  refine (HA.out _).mono ?_
  rintro e w7 ⟨rfl, h1⟩
  replace NV := Lib.hid (NV.out.below h1)
  replace NZ := Lib.hid (NZ.out.below h1)
  replace HB := Lib.hid (bel_trans HB.out h1); clear h1
  go_wp2_with fail
  refine (C1.out _ _ NV.out).mono ?_
  rintro e w8 ⟨V1, rfl, hx, h1⟩
  replace NV := Lib.hid (NV.out.below h1)
  replace NZ := Lib.hid (NZ.out.below h1)
  replace HB := Lib.hid (bel_trans HB.out h1); clear h1
  have N1 := Lib.hid hx; clear hx
  obtain ⟨a1, c1, e1, _, _⟩ := N1.out.shape
  rw [wiD_len, hl.out] at e1
  subst e1
  obtain ⟨b1, o1, rfl, hb1, _⟩ := N1.out.at (by omega)
  clear hb1
  go_wp2_with fail
  refine (C2.out _ _ N1.out).mono ?_
  rintro e w60 ⟨a2, c2, rfl, h1⟩
  replace NV := Lib.hid (NV.out.below h1)
  replace NZ := Lib.hid (NZ.out.below h1)
  replace N1 := Lib.hid (N1.out.below h1)
  replace HB := Lib.hid (bel_trans HB.out h1); clear h1
  go_wp2_with fail
  refine (C3.out _ _ NV.out).mono ?_
  rintro e w9 ⟨rfl, h1⟩
  replace NV := Lib.hid (NV.out.below h1)
  replace NZ := Lib.hid (NZ.out.below h1)
  replace N1 := Lib.hid (N1.out.below h1)
  replace HB := Lib.hid (bel_trans HB.out h1); clear h1
  go_wp2_with fail
  have CR : Hid (∀ W, Below (w9).heap.size (w9) W → ∀ j, j < n → W.cell? ⟨b, off + j * 2, none⟩ = some (.int .i64 (gX l j)) ∧ W.cell? ⟨b, off + j * 2 + 1, none⟩ = some (.int .i64 (gR l j)) ∧ W.cell? ⟨b1, o1 + j * 2, none⟩ = some (.int .i64 (gX l j)) ∧ W.cell? ⟨b1, o1 + j * 2 + 1, none⟩ = some (.int .i64 (D j))) := Lib.hid fun W hW j hj => by
    obtain ⟨b', o', eb, _, hc⟩ := (NV.out.below hW).at (by omega)
    simp only [Option.some.injEq, Addr.mk.injEq, and_true] at eb
    obtain ⟨rfl, rfl⟩ := eb
    obtain ⟨b', o', eb, _, hc1⟩ := (N1.out.below hW).at (by omega)
    simp only [Option.some.injEq, Addr.mk.injEq, and_true] at eb
    obtain ⟨rfl, rfl⟩ := eb
    obtain ⟨g1, g2⟩ := wiD_at l D (show j < l.length by rw [hl.out]; exact hj)
    have := hc1 j hj
    rw [g1, g2] at this
    exact ⟨(hc j hj).1, (hc j hj).2, this.1, this.2⟩
  have BR := Lib.hid (Below.refl ((w9)).heap.size (w9))
  clear C1 C2 C3 N1
  generalize hW0 : (w9) = W0 at *
  replace hW0 := Lib.hid hW0
  go_loopw [12, 82] (fun rr ii wr => ∃ k : Nat, k ≤ n ∧ ii = .int .i64 (k : Int) ∧ rr = .bool (reB (gR l) D C k) ∧ Hid (Below W0.heap.size W0 wr)) (fun _ ii _ => n - (intOf ii).toNat)
  case atStart => exact ⟨0, Nat.zero_le _, rfl, by rw [r0.out], BR⟩
  case round =>
    clear BR
    obtain ⟨k, hk, rfl, rfl, hB⟩ := hrel
    by_cases hlt : k < n
    · have l0 : (k : Int) < (n : Int) := by omega
      obtain ⟨c0, c1', d0, d1⟩ := CR.out wr hB.out k hlt
      have bd := (hA.out.b k (by rw [hl.out]; exact hlt)).2.2
      have bD := hD.out k hlt
      have hmx := hDC.out k hlt
      have wa : IntKind.i64.wrap (D k - gR l k) = D k - gR l k := wrap_in _ ⟨by omega, by omega⟩
      have wb : IntKind.i64.wrap (gR l k - D k) = gR l k - D k := wrap_in _ ⟨by omega, by omega⟩
      have dc : decide (C < max (D k - gR l k) (gR l k - D k)) = false := decide_eq_false (by omega)
      have hr : Hid (reB (gR l) D C (k + 1) = (reB (gR l) D C k || (max (D k - gR l k) (gR l k - D k) == C))) := Lib.hid rfl
      have BX := Lib.hid (fun q => bel_trans hB.out (bel_drewN wr q))
      generalize D k = d at *
      generalize gX l k = x at *
      generalize gR l k = r at *
      have dx : (x != x) = false := by simp
      cases hq : reB (gR l) D C k with
      | true =>
        have hr2 : Hid (reB (gR l) D C (k + 1) = true) := Lib.hid (by rw [hr.out, hq]; rfl)
        clear hr
        go_wp2_with fail
        go_quiet (fail)
        go_wp2_with fail
        go_quiet (fail)
        go_wp2
        go_roundw
        case rel => exact ⟨k + 1, by omega, by go_num, by rw [hr2.out], BX.out _⟩
        case measure => simp [intOf]; omega
      | false =>
        cases hmc : (max (d - r) (r - d) == C) with
        | true =>
          have hr2 : Hid (reB (gR l) D C (k + 1) = true) := Lib.hid (by rw [hr.out, hq, hmc]; rfl)
          clear hr
          go_wp2_with fail
          go_quiet (fail)
          go_wp2_with fail
          go_quiet (fail)
          go_wp2
          go_roundw
          case rel => exact ⟨k + 1, by omega, by go_num, by rw [hr2.out], BX.out _⟩
          case measure => simp [intOf]; omega
        | false =>
          have hr2 : Hid (reB (gR l) D C (k + 1) = false) := Lib.hid (by rw [hr.out, hq, hmc]; rfl)
          clear hr
          go_wp2_with fail
          go_quiet (fail)
          go_wp2_with fail
          go_quiet (fail)
          go_wp2
          go_roundw
          case rel => exact ⟨k + 1, by omega, by go_num, by rw [hr2.out], BX.out _⟩
          case measure => simp [intOf]; omega
    · obtain rfl : n = k := by omega
      rw [hre.out]
      have NVW := Lib.hid (NV.out.below hB.out)
      have NZW := Lib.hid (NZ.out.below hB.out)
      have HBW := Lib.hid (bel_trans HB.out hB.out)
      have CRW : Hid (∀ W, Below wr.heap.size wr W → ∀ j, j < n → W.cell? ⟨b, off + j * 2, none⟩ = some (.int .i64 (gX l j)) ∧ W.cell? ⟨b, off + j * 2 + 1, none⟩ = some (.int .i64 (gR l j))) := Lib.hid fun W hW j hj => by
        obtain ⟨g1, g2, _, _⟩ := CR.out W (bel_trans hB.out hW) j hj
        exact ⟨g1, g2⟩
      clear CR NV NZ HB hB hW0 hre hDC hlt hk
      go_wp2_with fail
      refine (CW.out _ NVW.out).mono ?_
      rintro e w61 ⟨gb, cp, rfl, hcap, hg0, hg1, hcc, gg⟩
      have S0 : Hid (ReI wr gb n (gX l) (fun j => if j < 0 then opF l zs j else gR l j) w61) := Lib.hid ⟨hcc.congr (fun j _ => ⟨rfl, by simp⟩), hg1, hg0, gg⟩
      replace hcap := Lib.hid hcap
      clear hcc hg0 hg1 gg CW
      go_wp2_with fail
      generalize hwa : wr = wa at *
      clear hwa
      go_loopw [16, 135] (fun ch ii wr => ∃ k : Nat, k ≤ n ∧ ii = .int .i64 (k : Int) ∧ ch = .int .i64 (cgF (gR l) (opF l zs) k) ∧ Hid (ReI wa gb n (gX l) (fun j => if j < k then opF l zs j else gR l j) wr)) (fun _ ii _ => n - (intOf ii).toNat)
      case atStart => exact ⟨0, Nat.zero_le _, rfl, rfl, S0⟩
      case round =>
        clear S0
        obtain ⟨k, hk, rfl, rfl, hS⟩ := hrel
        by_cases hlt : k < n
        · obtain ⟨c0, c1'⟩ := CRW.out wr hS.out.2.2.2 k hlt
          have l0 : (k : Int) < (n : Int) := by omega
          have bd := (hA.out.b k (by rw [hl.out]; exact hlt)).2.2
          have hcg : Hid (cgF (gR l) (opF l zs) (k + 1) = max (cgF (gR l) (opF l zs) k) (max (opF l zs k - gR l k) (gR l k - opF l zs k))) := Lib.hid rfl
          have CF : Hid (wr.cell? ⟨gb, k * 2 + 1, none⟩ = some (.int .i64 (gR l k)) ∧ wr.frozen? ⟨gb, k * 2 + 1, none⟩ = false) := Lib.hid (by
            have := (hS.out.1 k hlt)
            exact ⟨by simpa using this.1.2, this.2.2⟩)
          by_cases hko : k < no
          · have dk : decide ((k : Int) < (no : Int)) = true := decide_eq_true (by omega)
            obtain ⟨a', c', ez, _, zb, hh⟩ := NZW.out
            simp only [Value.slice.injEq] at ez
            obtain ⟨ez1, ez2, ez3⟩ := ez
            clear ez2 ez3
            subst ez1
            have zk := zb _ (getD_mem (show k < zs.length by rw [hz.out]; exact hko))
            rcases hh with hh | ⟨bo, oo, rfl, hbo, hco⟩
            · have := hz.out; omega
            have q0 := cell_bel (hco k (by rw [hz.out]; exact hko)) hS.out.2.2.2
            have eM : opF l zs k = min (max (gR l k + zs.getD k 0 % 400 - 200) 50000) 120000 := by unfold opF; rw [if_pos (by rw [hz.out]; exact hko)]
            have S2 : Hid (ReI wa gb n (gX l) (fun j => if j < k + 1 then opF l zs j else gR l j) (wr.setCell ⟨gb, k * 2 + 1, none⟩ (.int .i64 (opF l zs k)))) := Lib.hid (hS.out.set hlt (fun j hj => by
              show (if j = k then opF l zs k else if j < k then opF l zs j else gR l j) = if j < k + 1 then opF l zs j else gR l j
              by_cases e : j = k
              · subst e; rw [if_pos rfl, if_pos (by omega)]
              · rw [if_neg e]
                by_cases e2 : j < k
                · rw [if_pos e2, if_pos (by omega)]
                · rw [if_neg e2, if_neg (by omega)]))
            have d2 : (wr.setCell ⟨gb, k * 2 + 1, none⟩ (.int .i64 (opF l zs k))).cell? ⟨gb, k * 2 + 1, none⟩ = some (.int .i64 (opF l zs k)) := by
              have := (S2.out.1 k hlt).1.2
              simpa using this
            have e2' := (CRW.out _ S2.out.2.2.2 k hlt).2
            obtain ⟨f0, f1⟩ := CF.out
            have f0 : wr.drew.cell? ⟨gb, k * 2 + 1, none⟩ = some (.int .i64 (gR l k)) := f0
            have f1 : wr.drew.frozen? ⟨gb, k * 2 + 1, none⟩ = false := f1
            clear hco zb
            generalize zs.getD k 0 = o at *
            have t1 : IntKind.i64.wrap o = o := wrap_in _ ⟨by omega, by omega⟩
            have t2 : o.tmod 400 = o % 400 := Int.tmod_eq_emod_of_nonneg (by omega)
            have t3 : IntKind.i64.wrap (o % 400) = o % 400 := wrap_in _ ⟨by omega, by omega⟩
            have t4 : IntKind.i64.wrap (gR l k + o % 400) = gR l k + o % 400 := wrap_in _ ⟨by omega, by omega⟩
            have t5 : IntKind.i64.wrap (gR l k + o % 400 - 200) = gR l k + o % 400 - 200 := wrap_in _ ⟨by omega, by omega⟩
            have wa' : IntKind.i64.wrap (opF l zs k - gR l k) = opF l zs k - gR l k := wrap_in _ ⟨by omega, by omega⟩
            have wb' : IntKind.i64.wrap (gR l k - opF l zs k) = gR l k - opF l zs k := wrap_in _ ⟨by omega, by omega⟩
            have eM' : min (max (gR l k + o % 400 - 200) 50000) 120000 = opF l zs k := eM.symm
            clear eM CF hS
            generalize cgF (gR l) (opF l zs) k = G at *
            generalize opF l zs k = M at *
            generalize gX l k = x at *
            generalize gR l k = r at *
            go_wp2_with fail
            go_still_tail 19, (by kernel_rfl)
            change wpList _ _ _ _ _ wr.drew
            clear q0 c0 c1'
            go_wp2_with fail
            generalize wr.setCell ⟨gb, k * 2 + 1, none⟩ (.int .i64 M) = w3 at *
            have S3 : Hid (∀ q, ReI wa gb n (gX l) (fun j => if j < k + 1 then opF l zs j else gR l j) (w3.drewN q)) := Lib.hid (fun q => S2.out.below (bel_drewN w3 q))
            clear f0 f1
            go_quiet (fail)
            go_wp2
            go_roundw
            case rel => exact ⟨k + 1, by omega, by go_num, by rw [hcg.out], S3.out _⟩
            case measure => simp [intOf]; omega
          · have dk : decide ((k : Int) < (no : Int)) = false := decide_eq_false (by omega)
            have eM : opF l zs k = gR l k := by unfold opF; rw [if_neg (by rw [hz.out]; exact hko)]
            have S3 : Hid (∀ q, ReI wa gb n (gX l) (fun j => if j < k + 1 then opF l zs j else gR l j) (wr.drewN q)) := Lib.hid (fun q => by
              have e : (fun j => if j < k + 1 then opF l zs j else gR l j) = (fun j => if j < k then opF l zs j else gR l j) := by
                funext j
                by_cases e2 : j < k
                · rw [if_pos e2, if_pos (by omega)]
                · rw [if_neg e2]
                  by_cases e3 : j = k
                  · subst e3; rw [if_pos (by omega), eM]
                  · rw [if_neg (by omega)]
              rw [e]
              exact hS.out.below (bel_drewN wr q))
            obtain ⟨f0, _⟩ := CF.out
            have wa' : IntKind.i64.wrap (gR l k - gR l k) = gR l k - gR l k := wrap_in _ ⟨by omega, by omega⟩
            rw [eM] at hcg
            clear eM CF hS
            generalize cgF (gR l) (opF l zs) k = G at *
            generalize gX l k = x at *
            generalize gR l k = r at *
            have wz : r - r = 0 := by omega
            have wz2 : IntKind.i64.wrap 0 = 0 := by decide
            rw [wz] at hcg
            go_wp2_with fail
            go_quiet (fail)
            go_wp2
            go_roundw
            case rel => exact ⟨k + 1, by omega, by go_num, by rw [hcg.out]; first | rfl | simp, S3.out _⟩
            case measure => simp [intOf]; omega
        · obtain rfl : n = k := by omega
          have PM := Lib.hid (CC.pts (l := wiD l (opF l zs)) hS.out.1 hS.out.2.1 (by rw [wiD_len, hl.out]) hcap.out (fun j hj => by
            obtain ⟨g1, g2⟩ := wiD_at l (opF l zs) (show j < l.length by rw [hl.out]; exact hj)
            rw [g1, g2]
            exact ⟨rfl, by show (if j < n then opF l zs j else gR l j) = _; rw [if_pos hj]⟩))
          have HBF := Lib.hid (HBW.out.trans (hS.out.2.2.2.mono HBW.out.size))
          have hMz := hM.out
          clear hS CRW NVW NZW HBW hM hA
          generalize cgF (gR l) (opF l zs) n = G at *
          go_wp2_with fail
          refine (C4.out _ _ PM.out).mono ?_
          rintro e w62 ⟨a2, c2, rfl, h1⟩
          replace HBF := Lib.hid (bel_trans HBF.out h1); clear h1 PM C4
          by_cases hc0 : CM.length = 0
          · have dg : decide (C ≤ G) = true := decide_eq_true (hMz hc0)
            rw [hc0]
            clear hc0 hMz
            go_wp2
            go_returns
            exact ⟨rfl, HBF.out⟩
          · have dl : decide (0 < (CM.length : Int)) = true := decide_eq_true (by omega)
            have dl2 : decide (0 < CM.length) = true := decide_eq_true (by omega)
            clear hc0 hMz
            generalize CM.length = cm at *
            go_wp2
            go_returns
            exact ⟨rfl, HBF.out⟩
theorem walk (v : Value) (l : List (Int × Int)) (u : Value) (zs : List Int) (w : World) (hv : Pts w v l) (hz : N16 w u zs) :
    Calls Try.prog 6 #[v, u] w fun e w' => e = .returned (.bool true) ∧ Below w.heap.size w w' := by
  have hv2 := hv
  have hz2 := hz
  obtain ⟨a, cap, rfl, _, hh⟩ := hv
  obtain ⟨a2, cap2, rfl, _, zb, _⟩ := hz
  by_cases h : 20 < l.length ∨ (¬ 20 < l.length ∧ 40 < zs.length)
  · exact long a _ cap a2 _ cap2 w h
  by_cases he : auE l = 0
  · have hA := auE_zero.1 he
    have n0 := hA.n0
    rcases hh with hh | ⟨b, off, rfl, hb, hc⟩
    · omega
    have e1 : leE l = 0 := by unfold leE; rw [if_pos he]
    have e2 : rpL l = wiD l (rpF l) := by unfold rpL; rw [if_pos he]
    have lb := leV_bd hA
    have hO : ∀ j, j < l.length → 50000 ≤ opF l zs j ∧ opF l zs j ≤ 120000 := fun j hj => by
      have := (hA.b j hj).2.2
      unfold opF; split <;> omega
    have H1 := fun v W h => auRp_any v l W h
    have H3 := fun v W h => auLe_any v l W h
    rw [e1, e2] at H1
    rw [e1] at H3
    refine good b off l.length cap a2 zs.length cap2 l zs (rpF l) (rpV l) (leV l) (ccL (wiD l (opF l zs)) 0) w n0 (by omega) (by omega) (Lib.hid rfl) (Lib.hid rfl) hv2 hz2 (Lib.hid hA) lb (rp_change hA) (Lib.hid fun j hj => rpD_bd hA _) (Lib.hid fun j hj => by have := rp_near hA hj; have := rp_change hA; omega) (Lib.hid ?_) (Lib.hid fun h => rp_least hA hO h) (Lib.hid H1) (Lib.hid fun v W h => ?_) (Lib.hid H3) (Lib.hid fun v W h => ?_)
    · have : rpV l = cgF (gR l) (rpF l) l.length := by unfold rpV; rw [if_pos he]
      rw [this]; exact reB_true
    · refine (auCc_any v (wiD l (rpF l)) 0 W h).mono fun e w' ⟨u, g1, g2, g3⟩ => ?_
      obtain ⟨a3, c3, ev, _, _⟩ := g2.shape
      rw [rp_none hA] at ev
      rw [ccE_ok (rp_right hA) (Int.le_refl _) (by omega)] at g1
      exact ⟨a3, c3, by rw [g1, ev], g3⟩
    · refine (auCc_any v (wiD l (opF l zs)) 0 W h).mono fun e w' ⟨u, g1, g2, g3⟩ => ?_
      obtain ⟨a3, c3, ev, _, _⟩ := g2.shape
      rw [ccE_ok (hA.wi hO) (Int.le_refl _) (by omega)] at g1
      exact ⟨a3, c3, by rw [g1, ev], g3⟩
  · exact bad a _ cap a2 _ cap2 l w (by omega) (by omega) hv2 (by unfold leE; rw [if_neg he]) (by unfold rpV; rw [if_neg he]) (by unfold rpL; rw [if_neg he])

set_option maxRecDepth 100000 in
theorem lifted (os : Os) (started : os.Started) (H : Type) (enc : TypeId × Value → H) :
    ReturnsInHanded {} Try.checked os 6 .any (Rows.auditOptimalSpec.pre6 enc Try.prog Try.f6 Rows.auditOptimalRow.domain false) (Rows.auditOptimalSpec.post enc Try.prog Try.f6 false true false false) := by
  refine returnsInHanded_of_change (C := Try.checked) own started (by kernel_rfl) Try.func6
    (ChangeSpec.witness6 (enc := enc) (C := Try.checked) false ⟨#[], #[.slice none 0 0, .slice none 0 0], []⟩ 8 (by kernel_rfl) (by kernel_rfl) (by kernel_rfl) (by kernel_rfl)) ?_
  intro W base args ds gs before hval0 hW hcnd _
  have hval : ∀ (j : Nat) t v, Try.f6.params[j]? = some t → args[j]? = some v → Value.okWide Try.prog W .any base t v := hval0
  clear hval0
  have hW' := hW
  obtain ⟨p, q, hA0, hV, rfl, hfz, hnd⟩ := hW
  have hA : DataW.TrodAll enc Try.prog W 0 (fun _ => true) true Try.f6.params.toList args.toList ds p := hA0
  rw [Try.params6] at hA hval
  obtain ⟨v0, vs0, d0, ds0, p0, q0, hargs, rfl, rfl, h0, r0⟩ := trodAll_cons hA
  obtain ⟨v1, vs1, d1, ds1, p1, q1, rfl, rfl, rfl, h1, r1⟩ := trodAll_cons r0
  obtain ⟨rfl, rfl, rfl⟩ := trodAll_nil r1
  obtain rfl : args = #[v0, v1] := by cases args; simp_all
  obtain ⟨rfl, rfl⟩ := trodVars_none hV
  have k0 := h0
  have lt0 : ∀ x ∈ p0, x.block < W.heap.size := by obtain ⟨m, hm⟩ := k0; exact DataW.trod_lt m _ _ _ hm
  have k1 := h1
  have lt1 : ∀ x ∈ p1, x.block < W.heap.size := by obtain ⟨m, hm⟩ := k1; exact DataW.trod_lt m _ _ _ hm
  obtain ⟨z0, w0⟩ := open_pts (hval 0 22 v0 rfl rfl) h0
  obtain ⟨z1, w1⟩ := open_u16s (hval 1 44 v1 rfl rfl) h1
  clear hA0
  refine (walk v0 z0 v1 z1 W w0 w1).mono fun e W' ⟨he, bel⟩ => ?_
  subst he
  exact ⟨_, rfl, _, _, _, [], _, [], hW', trodAll_mk1 (shut_bool Try.underlying4 _), (trodAll_cons_mk (Below.trod laidOut (by kernel_rfl) (of_decide_eq_true (by kernel_rfl)) k0 bel lt0) (trodAll_cons_mk (Below.trod laidOut (by kernel_rfl) (of_decide_eq_true (by kernel_rfl)) k1 bel lt1) trodAll_mk0)), rfl, bel.frame _, fun h => by cases h⟩

theorem over : Rows.auditOptimalRow.holds Try.pinned (OpenSpec.ofChange Rows.auditOptimalSpec) :=
  OpenClaim.holds_of_wide 6 Try.f6 rfl rfl rfl rfl rfl rfl rfl ⟨rfl, rfl, rfl, rfl, rfl⟩ rfl rfl rfl rfl rfl (by kernel_rfl) Try.func6 (by kernel_rfl)
    (of_decide_eq_true (by kernel_rfl)) (by unfold Func.isWrapper; first | (rw [if_pos (by decide +kernel)]; kernel_rfl) | (rw [if_neg (by decide +kernel)]; exact ⟨rfl, rfl⟩))
    (fun os started H enc _ => lifted os started H enc)

theorem proved : Rows.AuditOptimalSaid := over
#print axioms proved
end Go.Proofs.Ytooofppgjknigaa.auditOptimal

