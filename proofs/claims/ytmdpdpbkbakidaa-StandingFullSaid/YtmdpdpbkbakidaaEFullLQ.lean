/-
  The statement StandingFull of spile/spilelaw12 holds: for every input the call returns true, and each argument reads afterwards as it read before.
-/
import Derived.Test.YtmdpdpbkbakidaaM2
import Derived.Test.YtmdpdpbkbakidaaM4
import Derived.Below
import Derived.Carry
set_option linter.unusedVariables false
set_option linter.unusedSimpArgs false
namespace Go.Proofs.Ytmdpdpbkbakidaa.standingFull
open Go.ChangeShapes Go.WideShapes Go.ChangeAt Go.RowKit
open Go.ChangeMaps (open_string shut_string)
set_option linter.unusedVariables false

set_option maxHeartbeats 32000000 in
set_option maxRecDepth 100000 in
theorem core (nn L H E CE SL SH X : Int) (a : Option Addr) (n cap : Nat) (c : Ck) (w : World) (B1 : Bool)
    (KB : Hid (CkB w.heap.size (w.alloc (.cells #[.string c.nm, .int .i64 c.ps, .slice a n cap, .int .i64 c.dc] 24)) c)) (hc : n = c.pf.length) (hpf : Hid (B1 = true → c.pf.length ≤ 1000))
    (hE : (CE == 0) = false ∧ (CE != 0) = true ∨ (CE = 0 ∧ Hid (1 ≤ c.pf.length ∧ gX c.pf (c.pf.length - 1) = X) ∧ (((E == 0) = false ∧ (E != 0) = true ∧ L = 0 ∧ H = 0) ∨ (E = 0 ∧ decide (L ≤ SH) = true ∧ decide (SL ≤ H) = true))))
    (FW : Hid (∀ v u W, CkV W v c → Nums W u [] → Calls Try.prog 9 #[v, u] W fun e w' => e = .returned (.bool B1) ∧ Below W.heap.size W w'))
    (HCk : Hid (∀ v W, CkV W v c → Calls Try.prog 22 #[v] W fun e w' => e = .returned (.int .i64 CE) ∧ Below W.heap.size W w'))
    (H1 : Hid (CE = 0 → ∀ v W, CkV W v c → Calls Try.prog 23 #[v, .int .i64 X, .int .i64 nn] W fun e w' => e = .returned (.tuple #[.agg #[.int .i64 L, .int .i64 H], .int .i64 E]) ∧ Below W.heap.size W w'))
    (H4 : Hid (CE = 0 → ∀ v W, CkV W v c → Calls Try.prog 23 #[v, .int .i64 0, .int .i64 nn] W fun e w' => e = .returned (.tuple #[.agg #[.int .i64 0, .int .i64 0], .int .i64 E]) ∧ Below W.heap.size W w'))
    (H3 : Hid (CE = 0 → ∀ v W, Pts W v c.pf → Calls Try.prog 24 #[v] W fun e w' => e = .returned (.tuple #[.agg #[.int .i64 SL, .int .i64 SH], .int .i64 0]) ∧ Below W.heap.size W w')) :
    Calls Try.prog 6 #[.agg #[.string c.nm, .int .i64 c.ps, .slice a n cap, .int .i64 c.dc], .int .i64 nn] w fun e w' => e = .returned (.bool true) ∧ Below w.heap.size w w' := by
  subst hc
  have HA := Lib.hid (fun W => awake_any W)
  have Q1 : ∀ (p q : Int) W, (binOp .eql 43 (.agg #[.int .i64 p, .int .i64 q]) (.agg #[.int .i64 p, .int .i64 q])).run Try.prog W = .ok (.bool true) W := fun p q W => by rw [run_eql_bounds, show samB p q p q = true by simp [samB]]
  have HB := Lib.hid ((Below.refl w.heap.size w).alloc (Nat.le_refl _) (.cells #[.string c.nm, .int .i64 c.ps, .slice a c.pf.length cap, .int .i64 c.dc] 24))
  go_enter Try.func6, Try.ntmps6
  go_wp2_with fail
  refine (HA.out _).mono ?_
  rintro e w5 ⟨rfl, h1⟩
  replace HB := Lib.hid (bel_trans HB.out h1)
  replace KB := Lib.hid (KB.out.below h1); clear h1
  obtain ⟨a2, cap2, c0, c1, c2, c3, kv⟩ := KB.out.val
  have FO := Lib.hid (FW.out _ _ w5 kv ⟨none, 0, rfl, by simp, .inl rfl⟩)
  clear kv
  generalize hL : c.pf.length = LN at *
  go_wp2_with fail
  refine FO.out.mono ?_
  rintro e w6 ⟨rfl, h1⟩
  replace HB := Lib.hid (bel_trans HB.out h1)
  replace KB := Lib.hid (KB.out.below h1); clear h1
  clear FO c0 c1 c2 c3
  cases B1 with
  | false =>
    go_wp2
    go_returns
    exact ⟨rfl, HB.out⟩
  | true =>
    have OW : Hid (∀ v W, CkV W v c → Calls Try.prog 15 #[v] W fun e w' => ∃ u, e = .returned u ∧ CkV w' u c ∧ Below W.heap.size W w') := Lib.hid fun v W h => own_any v c W h (by rw [hL]; exact hpf.out rfl)
    obtain ⟨a3, cap3, c0, c1, c2, c3, kv⟩ := KB.out.val
    rw [hL] at c2 kv
    have HCk' := Lib.hid (HCk.out _ w6 kv)
    clear kv
    go_wp2_with fail
    refine HCk'.out.mono ?_
    rintro e w7 ⟨rfl, h1⟩
    replace HB := Lib.hid (bel_trans HB.out h1)
    replace KB := Lib.hid (KB.out.below h1); clear h1
    clear HCk' c0 c1 c2 c3
    rcases hE with ⟨e1, e2⟩ | ⟨rfl, hX, hE⟩
    · go_wp2
      go_returns
      exact ⟨rfl, HB.out⟩
    · replace H1 := Lib.hid (H1.out rfl)
      replace H4 := Lib.hid (H4.out rfl)
      replace H3 := Lib.hid (H3.out rfl)
      obtain ⟨k, rfl⟩ : ∃ k, LN = k + 1 := ⟨LN - 1, by have := hX.out.1; omega⟩
      have hk : k + 1 ≤ 1000 := by have := hpf.out (by trivial); omega
      obtain ⟨a4, cap4, c0, c1, c2, c3, kv⟩ := KB.out.val
      rw [hL] at c2 kv
      have kv' := Lib.hid kv
      obtain ⟨a5, cap5, e5, hp5, hw5⟩ := kv
      rw [hL] at e5 hp5
      simp only [Value.agg.injEq, Array.mk.injEq, List.cons.injEq, Value.slice.injEq, and_true, true_and] at e5
      obtain ⟨rfl, rfl⟩ : a4 = a5 ∧ cap4 = cap5 := ⟨by simp_all, by simp_all⟩
      obtain ⟨b, off, rfl, hb, hcl⟩ := hp5.at (by omega)
      have cX : w7.cell? ⟨b, off + k * 2, none⟩ = some (.int .i64 X) := by
        have := (hcl k (by omega)).1
        have e := hX.out.2
        rw [Nat.add_sub_cancel] at e
        rwa [e] at this
      have CX : Hid (∀ W, Below w7.heap.size w7 W → W.cell? ⟨b, off + k * 2, none⟩ = some (.int .i64 X)) := Lib.hid fun W hW => cell_bel cX hW
      have S0 : Hid (LwS w w.heap.size c (some ⟨b, off, none⟩) (k + 1) cap4 (.slice none 0 0) (.slice none 0 0) [] [] w7) := Lib.hid ⟨HB.out, ⟨c0, c1, c2, c3, by obtain ⟨aa, cc, hq, _⟩ := KB.out; exact hq.2.2.2.2⟩, kv'.out, ⟨none, 0, rfl, by simp, .inl rfl⟩, ⟨none, 0, rfl, by simp, .inl rfl⟩⟩
      have wk1 : IntKind.i64.wrap ((k : Int) + 1 - 1) = (k : Int) := by rw [wrap_in _ ⟨by omega, by omega⟩]; omega
      have wk2 : IntKind.i64.wrap (k : Int) = (k : Int) := wrap_in _ ⟨by omega, by omega⟩
      have lk : (k : Int) < (k : Int) + 1 := by omega
      clear c0 c1 c2 c3 kv' hp5 hcl e5 HB hX hw5
      replace OW := Lib.hid (fun W (h : LwS w w.heap.size c (some ⟨b, off, none⟩) (k + 1) cap4 (.slice none 0 0) (.slice none 0 0) [] [] W) => OW.out _ W h.2.2.1)
      have OW2 := OW
      obtain ⟨c0, c1, c2, c3, c4, c5⟩ := S0.out.cells
      have nb1 : b ≠ w7.heap.size := by omega
      have nb2 : w7.heap.size ≠ b := by omega
      go_wp2_with fail
      go_cut [5, 6] from 37 (fun s t wx => ∃ p : Nat, s = .pointer (some ⟨p, 0, none⟩) ∧ t = .int .i64 E ∧ Hid (Below w7.heap.size w7 wx) ∧ Hid (Two p wx (.int .i64 L) (.int .i64 H)))
      case first =>
        go_region_held3 (fun w' => w'.cell? ⟨w.heap.size, 0, none⟩ = some (.string c.nm) ∧ w'.cell? ⟨w.heap.size, 1, none⟩ = some (.int .i64 c.ps) ∧ w'.cell? ⟨w.heap.size, 2, none⟩ = some (.slice (some ⟨b, off, none⟩) (k + 1) cap4) ∧ w'.cell? ⟨w.heap.size, 3, none⟩ = some (.int .i64 c.dc) ∧ w'.cell? ⟨b, off + k * 2, none⟩ = some (.int .i64 X)) (go_keep) (first
            | (go_at_call 15; (with_reducible refine (OW.out _ (S0.out.below (bel_drew _))).mono ?_); rintro e w4 ⟨uu, rfl, ho, gg⟩; have BX := Lib.hid (bel_trans (bel_drew w7) gg); obtain ⟨q0, q1, q2, q3, q4, q5⟩ := (S0.out.below BX.out).cells; have cx := CX.out _ BX.out; (try (replace P1 := Lib.hid (P1.out.below gg))); (try (obtain ⟨p0, p1, p2, p3, _⟩ := P1.out)); have NP := Lib.hid ho; clear ho; clear gg)
            | (go_at_call 15; (with_reducible refine (OW.out _ (S0.out.below (bel_alloc (bel_drew _)))).mono ?_); rintro e w4 ⟨uu, rfl, ho, gg⟩; have BX := Lib.hid (bel_trans (bel_alloc (bel_drew (w7.alloc (.cells #[.int .i64 0, .int .i64 0] 43)))) gg); obtain ⟨q0, q1, q2, q3, q4, q5⟩ := (S0.out.below BX.out).cells; have cx := CX.out _ BX.out; have P1 := Lib.hid ((Two.new w7 (.int .i64 0) (.int .i64 0) 43).below (bel_trans (bel_drew _) gg)); (try (obtain ⟨p0, p1, p2, p3, _⟩ := P1.out)); have NP := Lib.hid ho; clear ho; clear gg)
            | (go_at_call 23; (with_reducible refine (H1.out _ _ NP.out).mono ?_); rintro e w6 ⟨rfl, gg⟩; have BX := Lib.hid (bel_trans BX.out gg); have nb5 : b ≠ w6.heap.size := (by have := BX.out.size; omega); have nb6 : w6.heap.size ≠ b := (by have := BX.out.size; omega); obtain ⟨q0, q1, q2, q3, q4, q5⟩ := (S0.out.below BX.out).cells; have cx := CX.out _ BX.out; (try (replace P1 := Lib.hid (P1.out.below gg))); (try (obtain ⟨p0, p1, p2, p3, _⟩ := P1.out)); clear gg)
            | (go_at_call 23; (with_reducible refine (H1.out _ _ (NP.out.alloc _)).mono ?_); rintro e w6 ⟨rfl, gg⟩; have PS := Lib.hid BX.out.size; have nb5 : b ≠ w4.heap.size := (by have := PS.out; omega); have nb6 : w4.heap.size ≠ b := (by have := PS.out; omega); have BX := Lib.hid (bel_trans (bel_al2 BX.out _) gg); obtain ⟨q0, q1, q2, q3, q4, q5⟩ := (S0.out.below BX.out).cells; have cx := CX.out _ BX.out; have P1 := Lib.hid ((Two.new _ (.int .i64 0) (.int .i64 0) 43).below gg); (try (obtain ⟨p0, p1, p2, p3, _⟩ := P1.out)); clear gg))
        all_goals go_wp2_with fail
        all_goals go_meet
        all_goals first
          | exact ⟨_, rfl, rfl, Lib.hid (bel_al2 BX.out _), Lib.hid (Two.new _ _ _ _)⟩
          | exact ⟨_, rfl, rfl, Lib.hid ((BX.out.setCell (p := ⟨w7.heap.size, 0, none⟩) (Nat.le_refl _) _).setCell (p := ⟨w7.heap.size, 1, none⟩) (Nat.le_refl _) _), Lib.hid ((P1.out.set0 _).set1 _)⟩
          | exact ⟨_, rfl, rfl, Lib.hid ((BX.out.setCell (p := ⟨_, 0, none⟩) PS.out _).setCell (p := ⟨_, 1, none⟩) PS.out _), Lib.hid ((P1.out.set0 _).set1 _)⟩
      case rest =>
        obtain ⟨p, rfl, rfl, hB, hT⟩ := hcut
        have S1 := Lib.hid (S0.out.below hB.out)
        clear c0 c1 c2 c3 c4 c5
        obtain ⟨c0, c1, c2, c3, c4, c5⟩ := S1.out.cells
        go_wp2_with fail
        refine (OW2.out _ S1.out).mono ?_
        rintro e w8 ⟨V2, rfl, hx, h1⟩
        replace S1 := Lib.hid (S1.out.below h1)
        replace hT := Lib.hid (hT.out.below h1)
        clear h1 c0 c1 c2 c3 c4 c5
        go_wp2_with fail
        refine (H4.out _ _ hx).mono ?_
        rintro e w9 ⟨rfl, h1⟩
        replace S1 := Lib.hid ((S1.out.below h1).below (bel_alloc (o := .cells #[.int .i64 0, .int .i64 0] 43) (Below.refl _ _)))
        replace hT := Lib.hid ((hT.out.below h1).alloc (.cells #[.int .i64 0, .int .i64 0] 43))
        have hN := Lib.hid (Two.new w9 (.int .i64 0) (.int .i64 0) 43)
        clear h1 hx
        rcases hE with ⟨e1, e2, rfl, rfl⟩ | ⟨rfl, k1, k3⟩
        · have eE : (E == E) = true := by simp
          obtain ⟨t0, t1, _, _, _⟩ := hT.out
          go_wp2
          go_returns
          exact ⟨rfl, S1.out.1⟩
        · obtain ⟨c0, c1, c2, c3, c4, c5⟩ := S1.out.cells
          have PV := S1.out.2.2.1
          obtain ⟨a9, cap9, e9, hp9, hw9⟩ := PV
          rw [hL] at e9 hp9
          simp only [Value.agg.injEq, Array.mk.injEq, List.cons.injEq, Value.slice.injEq, and_true, true_and] at e9
          obtain ⟨rfl, rfl⟩ : some ⟨b, off, none⟩ = a9 ∧ cap4 = cap9 := ⟨by simp_all, by simp_all⟩
          have CL := Lib.hid (clone_p _ c.pf _ hp9 (by rw [hL]; omega))
          clear hp9 hw9 e9
          go_wp2_with fail
          refine CL.out.mono ?_
          rintro e w10 ⟨V3, rfl, hx, h1⟩
          replace S1 := Lib.hid (S1.out.below h1)
          replace hT := Lib.hid (hT.out.below h1)
          replace hN := Lib.hid (hN.out.below h1)
          clear h1 c0 c1 c2 c3 c4 c5 CL
          go_wp2_with fail
          refine (H3.out _ _ hx).mono ?_
          rintro e w11 ⟨rfl, h1⟩
          replace S1 := Lib.hid ((S1.out.below h1).below (bel_alloc (o := .cells #[.int .i64 SL, .int .i64 SH] 43) (Below.refl _ _)))
          replace hT := Lib.hid ((hT.out.below h1).alloc (.cells #[.int .i64 SL, .int .i64 SH] 43))
          replace hN := Lib.hid ((hN.out.below h1).alloc (.cells #[.int .i64 SL, .int .i64 SH] 43))
          have hF := Lib.hid (Two.new w11 (.int .i64 SL) (.int .i64 SH) 43)
          clear h1 hx
          obtain ⟨t0, t1, _, _, _⟩ := hT.out
          obtain ⟨n0, n1, _, _, _⟩ := hN.out
          obtain ⟨f0, f1, _, _, _⟩ := hF.out
          go_wp2
          go_returns
          exact ⟨rfl, S1.out.1⟩
theorem walk (z : Value) (c : Ck) (n : Int) (w : World) (hv : CkV w z c) (hn : -9223372036854775808 ≤ n ∧ n ≤ 9223372036854775807) :
    Calls Try.prog 6 #[z, .int .i64 n] w fun e w' => e = .returned (.bool true) ∧ Below w.heap.size w w' := by
  obtain ⟨a, cap, rfl, hp, hw⟩ := hv
  have KB := Lib.hid (CkB.new hp hw)
  have eq0 : ccE c = 0 → RP c.pf := fun h => by obtain ⟨_, _, _, hR⟩ := ccE_pf h; exact hR
  have eE : ccE c = 0 → swE c 0 n = swE c (gX c.pf (c.pf.length - 1)) n := fun h => by
    have hR := eq0 h
    have b := hR.bx (c.pf.length - 1) (by have := hR.n0; omega)
    unfold swE
    by_cases g : stSE c = 0
    · rw [if_pos g, if_pos g]
      unfold lvsE
      rw [if_pos ((ckE_iff _).2 hR), if_pos ((ckE_iff _).2 hR)]
      by_cases g2 : n < 1 ∨ 64 < n
      · rw [if_pos (by omega), if_pos (by omega)]
      · rw [if_neg (by omega), if_neg (by omega)]
    · rw [if_neg g, if_neg g]
  refine core n (swL c (gX c.pf (c.pf.length - 1)) n) (swH c (gX c.pf (c.pf.length - 1)) n) (swE c (gX c.pf (c.pf.length - 1)) n) (ccE c) (spL c.pf) (spH c.pf) (gX c.pf (c.pf.length - 1)) a _ cap c w (fewC c && decide (([] : List Int).length ≤ 129)) KB rfl (Lib.hid fun h => ?_) ?_ (Lib.hid fun v u W h1 h2 => fewE_any v u c [] W h1 h2) (Lib.hid fun v W h => refCkk_any v c W h) (Lib.hid fun h v W hv => stWt_any v c _ n W hv) (Lib.hid fun h v W hv => ?_) (Lib.hid fun h v W hv => ?_)
  · rw [Bool.and_eq_true] at h
    have := fewC_pf h.1
    omega
  · by_cases g : ccE c = 0
    · right
      have hR := eq0 g
      have n0 := hR.n0
      refine ⟨g, Lib.hid ⟨by omega, rfl⟩, ?_⟩
      by_cases h : swE c (gX c.pf (c.pf.length - 1)) n = 0
      · right
        have bx := hR.bx (c.pf.length - 1) (by omega)
        have a0 := gX_lt hR (i := 0) (j := c.pf.length - 1) (by omega) (by omega)
        have x0 := hR.x0
        have hl : lvsE c.pf (gX c.pf (c.pf.length - 1)) n = 0 := by
          unfold swE at h
          by_cases q : stSE c = 0
          · rwa [if_pos q] at h
          · rw [if_neg q] at h; exact absurd h q
        obtain ⟨_, _, n1, n2⟩ := lvsE_zero.1 hl
        have hk : swE c (gX c.pf (c.pf.length - 1)) n = 0 ∧ gX c.pf (c.pf.length - 1) ≠ 0 := ⟨h, by omega⟩
        have hL := lv_right (l := c.pf) (d := gX c.pf (c.pf.length - 1)) (n := n.toNat) hR (by omega) (Int.le_refl _) (by omega) (by omega)
        obtain ⟨f0, f1, f2⟩ := lv_ends (l := c.pf) (d := gX c.pf (c.pf.length - 1)) (n := n.toNat) hR (by omega) (by omega)
        have hPl : PlR c.pf (lvL c.pf (gX c.pf (c.pf.length - 1)) n.toNat) := ⟨hL.n0, hL.n1, f1, f2, hL.asc, fun j hj => by
          by_cases q : j = c.pf.length - 1
          · exact ⟨(lvL c.pf (gX c.pf (c.pf.length - 1)) n.toNat).length - 1, by omega, by rw [f2, q]⟩
          · have := gX_lt hR (i := j) (j := c.pf.length - 1) (by omega) (by omega)
            exact mem_at.1 (lv_mem.2 (.inr ⟨j, hj, this, rfl⟩))⟩
        have ew := en_whole hR hPl
        have b := en_top hR hL _ (show (lvL c.pf (gX c.pf (c.pf.length - 1)) n.toNat).length - 1 < _ by omega)
        have s1 : spL c.pf = cbL (frS c.pf) := by unfold spL; rw [if_pos ((ckE_iff _).2 hR)]
        have s2 : spH c.pf = cbH (frS c.pf) := by unfold spH; rw [if_pos ((ckE_iff _).2 hR)]
        have m1 := cb_mono ew.1
        have m2 := cb_mono ew.2
        have nn := cb_narrow (n := frS c.pf) (by omega)
        have e1 : swL c (gX c.pf (c.pf.length - 1)) n = cbL (enL c.pf (lvL c.pf (gX c.pf (c.pf.length - 1)) n.toNat) ((lvL c.pf (gX c.pf (c.pf.length - 1)) n.toNat).length - 1)) := by unfold swL; rw [if_pos hk]; rfl
        have e2 : swH c (gX c.pf (c.pf.length - 1)) n = cbH (enH c.pf (lvL c.pf (gX c.pf (c.pf.length - 1)) n.toNat) ((lvL c.pf (gX c.pf (c.pf.length - 1)) n.toNat).length - 1)) := by unfold swH; rw [if_pos hk]; rfl
        exact ⟨h, decide_eq_true (by omega), decide_eq_true (by omega)⟩
      · left
        exact ⟨by simpa using h, by simpa using h, by unfold swL; rw [if_neg (fun k => h k.1)], by unfold swH; rw [if_neg (fun k => h k.1)]⟩
    · left
      exact ⟨by simpa using g, by simpa using g⟩
  · have := stWt_any v c 0 n W hv
    have e1 : swL c 0 n = 0 ∧ swH c 0 n = 0 := by unfold swL swH; rw [if_neg (fun k => k.2 rfl), if_neg (fun k => k.2 rfl)]; exact ⟨rfl, rfl⟩
    rwa [e1.1, e1.2, eE h] at this
  · have := cSpc_any v c.pf W hv
    rwa [(ckE_iff _).2 (eq0 h)] at this

set_option maxRecDepth 100000 in
theorem lifted (os : Os) (started : os.Started) (H : Type) (enc : TypeId × Value → H) :
    ReturnsInHanded {} Try.checked os 6 .any (Rows.standingFullSpec.pre6 enc Try.prog Try.f6 Rows.standingFullRow.domain false) (Rows.standingFullSpec.post enc Try.prog Try.f6 false true false false) := by
  refine returnsInHanded_of_change (C := Try.checked) own started (by kernel_rfl) Try.func6
    (ChangeSpec.witness6 (enc := enc) (C := Try.checked) false ⟨#[], #[.agg #[.string ByteArray.empty, .int .i64 0, .slice none 0 0, .int .i64 0], .int .i64 0], []⟩ 8 (by kernel_rfl) (by kernel_rfl) (by kernel_rfl) (by kernel_rfl)) ?_
  intro W base args ds gs before hval0 hW hcnd _
  have hval : ∀ (j : Nat) t v, Try.f6.params[j]? = some t → args[j]? = some v → Value.okWide Try.prog W .any base t v := hval0
  clear hval0
  have hW' := hW
  obtain ⟨p, q, hA0, hV, rfl, hfz, hnd⟩ := hW
  have hA : DataW.TrodAll enc Try.prog W 0 (fun _ => true) true Try.f6.params.toList args.toList ds p := hA0
  rw [Try.params6] at hA hval
  obtain ⟨v0, vs0, d0, ds0, p0, q0, hargs, rfl, rfl, h0, r0⟩ := trodAll_cons hA
  obtain ⟨v1, vs1, d1, ds1, p1, q1, rfl, rfl, rfl, h1, r1⟩ := trodAll_cons r0
  obtain ⟨rfl, rfl, rfl⟩ := trodAll_nil r1
  obtain rfl : args = #[v0, v1] := by cases args; simp_all
  obtain ⟨rfl, rfl⟩ := trodVars_none hV
  have k0 := h0
  have lt0 : ∀ x ∈ p0, x.block < W.heap.size := by obtain ⟨m, hm⟩ := k0; exact DataW.trod_lt m _ _ _ hm
  have k1 := h1
  have lt1 : ∀ x ∈ p1, x.block < W.heap.size := by obtain ⟨m, hm⟩ := k1; exact DataW.trod_lt m _ _ _ hm
  obtain ⟨z0, w0⟩ := open_ck (hval 0 24 v0 rfl rfl) h0
  obtain ⟨a1, rfl, rfl, rfl, w1⟩ := open_int Try.underlying3 (hval 1 3 v1 rfl rfl) h1
  clear hA0
  refine (walk v0 z0 a1 W w0 (wf_bd w1)).mono fun e W' ⟨he, bel⟩ => ?_
  subst he
  exact ⟨_, rfl, _, _, _, [], _, [], hW', trodAll_mk1 (shut_bool Try.underlying4 _), (trodAll_cons_mk (Below.trod laidOut (by kernel_rfl) (of_decide_eq_true (by kernel_rfl)) k0 bel lt0) (trodAll_cons_mk (Below.trod laidOut (by kernel_rfl) (of_decide_eq_true (by kernel_rfl)) k1 bel lt1) trodAll_mk0)), rfl, bel.frame _, fun h => by cases h⟩

theorem over : Rows.standingFullRow.holds Try.pinned (OpenSpec.ofChange Rows.standingFullSpec) :=
  OpenClaim.holds_of_wide 6 Try.f6 rfl rfl rfl rfl rfl rfl rfl ⟨rfl, rfl, rfl, rfl, rfl⟩ rfl rfl rfl rfl rfl (by kernel_rfl) Try.func6 (by kernel_rfl)
    (of_decide_eq_true (by kernel_rfl)) (by unfold Func.isWrapper; first | (rw [if_pos (by decide +kernel)]; kernel_rfl) | (rw [if_neg (by decide +kernel)]; exact ⟨rfl, rfl⟩))
    (fun os started H enc _ => lifted os started H enc)

theorem proved : Rows.StandingFullSaid := over
#print axioms proved
end Go.Proofs.Ytmdpdpbkbakidaa.standingFull

