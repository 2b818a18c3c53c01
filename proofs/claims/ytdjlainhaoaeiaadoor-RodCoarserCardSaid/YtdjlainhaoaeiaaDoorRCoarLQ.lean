/-
  The statement RodCoarser of spile/spilelaw14 holds: for every input the call returns true, and each argument reads afterwards as it read before. (The listed package variables hold what the program lays: the card ties them.)
-/
import Derived.Test.YtdjlainhaoaeiaaDoorM2
import Derived.Test.YtdjlainhaoaeiaaDoorCards
import Derived.Test.YtdjlainhaoaeiaaDoorTie
import Derived.Below
import Derived.Carry
import Derived.Lib.LaidTab
import Derived.Deep.DeepHandedRow
import Derived.SevenTiedPlain
import Derived.Lay
set_option linter.unusedVariables false
set_option linter.unusedSimpArgs false
namespace Go.Proofs.YtdjlainhaoaeiaaDoor.rodCoarser
open Go.ChangeShapes Go.WideShapes Go.ChangeAt Go.RowKit
open Go.ChangeMaps (open_string shut_string)
set_option linter.unusedVariables false

theorem wf_u8 {n : Int} (h : (Lit.int .u8 n).wf = true) : 0 ≤ n ∧ n ≤ 255 := by
  simp [Lit.wf] at h
  have e1 : IntKind.u8.min = 0 := by decide
  have e2 : IntKind.u8.max = 255 := by decide
  omega
/-- what stands -/
def CoS (w w4 : World) (tv : Value) (tol : Int) (W : World) : Prop := Below w4.heap.size w4 W ∧ Two w.heap.size W tv (.int .i64 tol)
theorem CoS.below {w w4 : World} {tv : Value} {tol : Int} {W W' : World} (h : CoS w w4 tv tol W) (hb : Below W.heap.size W W') : CoS w w4 tv tol W' := ⟨bel_trans h.1 hb, h.2.below hb⟩
set_option maxHeartbeats 8000000 in
theorem clos (x r y v : Int) (q : Nat) (w : World) (h : Two q w (.int .i64 x) (.int .i64 r)) :
    Calls Tryd.prog 29 #[.agg #[.int .i64 y, .int .i64 v], .pointer (some ⟨q, 0, none⟩)] w fun e w' => e = .returned (.bool (x == y && decide (r ≤ v))) ∧ Below w.heap.size w w' := by
  have hq := h.2.2.2.2
  obtain ⟨c0, c1, _, _, _⟩ := h.alloc (.cells #[.int .i64 y, .int .i64 v] 39)
  have n1 : q ≠ w.heap.size := by omega
  have n2 : w.heap.size ≠ q := by omega
  have X := Lib.hid (bel_alloc (o := .cells #[.int .i64 y, .int .i64 v] 39) (Below.refl _ (w.alloc (.cells #[.int .i64 y, .int .i64 v] 39))))
  obtain ⟨p0, p1, _, _, _⟩ := Two.new w (.int .i64 y) (.int .i64 v) 39
  clear h
  cases hB : (x == y) with
  | false =>
    go_enter Tryd.func29, Tryd.ntmps29
    go_wp2
    go_returns
    exact ⟨by first | rfl | simp_all, X.out⟩
  | true =>
    generalize hC : decide (r ≤ v) = B2
    go_enter Tryd.func29, Tryd.ntmps29
    go_wp2
    go_returns
    exact ⟨by first | rfl | simp_all, X.out⟩
set_option maxHeartbeats 32000000 in
set_option maxRecDepth 100000 in
theorem core (st by8 s2 tol E E2 : Int) (a : Option Addr) (n cap : Nat) (t l l2 : List (Int × Int)) (w : World) (B1 : Bool) (hn : n = t.length) (hw : Hid (CV w)) (hP : Hid (Pts w (.slice a n cap) t)) (hs : Hid (B1 = true → t.length ≤ 1000)) (hl1 : Hid (l.length ≤ 1000)) (hl2 : Hid (l2.length ≤ 1000))
    (b0 : 0 ≤ by8 ∧ by8 ≤ 255) (hs2 : Hid (E = 0 → (1 ≤ st ∧ st ≤ 1073741824) ∧ s2 = st * (1 + by8 % 8)))
    (hE : ((E == 0) = false ∧ (E != 0) = true ∧ Hid (l = [])) ∨ (E = 0 ∧ (((E2 == 0) = false ∧ (E2 != 0) = true ∧ Hid (l2 = [])) ∨ (E2 = 0 ∧ Hid (∀ k, k < l2.length → ∃ j, j < l.length ∧ (gX l2 k == gX l j && decide (gR l2 k ≤ gR l j)) = true)))))
    (HF : Hid (∀ v W, TbV W v t tol → Calls Tryd.prog 11 #[.slice none 0 0, v] W fun e w' => e = .returned (.bool B1) ∧ Below W.heap.size W w'))
    (HM : Hid (∀ v W, TbV W v t tol → Calls Tryd.prog 12 #[v, .int .i64 st] W fun e w' => ∃ u, e = .returned (.tuple #[u, .int .i64 E]) ∧ Pts w' u l ∧ Below W.heap.size W w'))
    (HM2 : Hid (∀ v W, TbV W v t tol → Calls Tryd.prog 12 #[v, .int .i64 s2] W fun e w' => ∃ u, e = .returned (.tuple #[u, .int .i64 E2]) ∧ Pts w' u l2 ∧ Below W.heap.size W w'))
    (HG : Hid (E = 0 → ∀ u v W, Pts W u l → TbV W v t tol → Calls Tryd.prog 19 #[u, v, .int .i64 st] W fun e w' => e = .returned (.tuple #[.int .i64 (-1), .int .i64 0]) ∧ Below W.heap.size W w')) :
    Calls Tryd.prog 9 #[.agg #[.slice a n cap, .int .i64 tol], .int .i64 st, .int .u8 by8] w fun e w' => e = .returned (.bool true) ∧ Below w.heap.size w w' := by
  subst hn
  have hmf : ∀ (fn : Fn) (first cap : Array Value) (w : World), (Instr.makeFunc fn first cap).run Tryd.prog w = .ok (.func fn first cap) w := fun _ _ _ _ => rfl
  have T0 := Lib.hid (Two.new w (.slice a t.length cap) (.int .i64 tol) 24)
  have HB : Hid (Below w.heap.size w (w.alloc (.cells #[.slice a t.length cap, .int .i64 tol] 24))) := Lib.hid (bel_alloc (Below.refl _ _))
  have HV : Hid (∀ W, Below w.heap.size w W → TbV W (.agg #[.slice a t.length cap, .int .i64 tol]) t tol) := Lib.hid fun W hW => ⟨a, cap, rfl, hP.out.below hW⟩
  have HA : Hid (∀ W, Below w.heap.size w W → _) := Lib.hid fun W hW => awake_any W (hw.out.below hW)
  generalize hN : t.length = n at *
  replace hN := Lib.hid hN
  go_enter Tryd.func9, Tryd.ntmps9
  go_wp2_with fail
  refine (HA.out _ HB.out).mono ?_
  rintro e w1 ⟨rfl, h1⟩
  replace T0 := Lib.hid (T0.out.below h1)
  replace HB := Lib.hid (bel_trans HB.out h1); clear h1
  obtain ⟨t0, t1, _, _, _⟩ := T0.out
  go_wp2_with fail
  refine (HF.out _ _ (HV.out _ HB.out)).mono ?_
  rintro e w2 ⟨rfl, h1⟩
  replace T0 := Lib.hid (T0.out.below h1)
  replace HB := Lib.hid (bel_trans HB.out h1); clear h1 t0 t1
  cases B1 with
  | false =>
    go_wp2
    go_returns
    exact ⟨rfl, HB.out⟩
  | true =>
    have HC := Lib.hid (fun v W (h : TbV W v t tol) => copy_any v t tol W h (by rw [hN.out]; exact hs.out (by trivial)))
    by_cases g : (1073741824 : Int) < st
    · have d : decide ((1073741824 : Int) < st) = true := decide_eq_true g
      go_wp2
      go_returns
      exact ⟨rfl, HB.out⟩
    have d : decide ((1073741824 : Int) < st) = false := decide_eq_false g
    replace g := Lib.hid g
    obtain ⟨t0, t1, _, _, _⟩ := T0.out
    go_wp2_with fail
    refine (HC.out _ _ (HV.out _ HB.out)).mono ?_
    rintro e w3 ⟨V3, rfl, hx, h1⟩
    replace T0 := Lib.hid (T0.out.below h1)
    replace HB := Lib.hid (bel_trans HB.out h1); clear h1 t0 t1
    have N3 := Lib.hid hx; clear hx
    go_wp2_with fail
    refine (HM.out _ _ N3.out).mono ?_
    rintro e w4 ⟨V4, rfl, hx, h1⟩
    replace T0 := Lib.hid (T0.out.below h1)
    replace HB := Lib.hid (bel_trans HB.out h1); clear h1 N3
    have NL := Lib.hid hx
    obtain ⟨a4, cap4, rfl, _, _⟩ := hx
    rcases hE with ⟨e1, e2, hl⟩ | ⟨rfl, hE⟩
    · have hl0 : l.length = 0 := by rw [hl.out]; rfl
      rw [hl0]
      go_wp2
      go_returns
      exact ⟨rfl, HB.out⟩
    · have HK2 := Lib.hid (fun v W (h : Pts W v l) => cloneM_any v l W h hl1.out)
      replace HG := Lib.hid (HG.out (by trivial))
      obtain ⟨hst, es2⟩ := hs2.out (by trivial)
      have b8 : 0 ≤ by8 % 8 ∧ by8 % 8 ≤ 7 := by omega
      have m8 : st ≤ s2 ∧ s2 ≤ 8589934592 := by
        rw [es2]
        have e1 := Int.mul_le_mul_of_nonneg_left (show 1 ≤ 1 + by8 % 8 by omega) (show 0 ≤ st by omega)
        have e2 := Int.mul_le_mul_of_nonneg_left (show 1 + by8 % 8 ≤ 8 by omega) (show 0 ≤ st by omega)
        omega
      have k1 : IntKind.i64.wrap by8 = by8 := wrap_in _ ⟨by omega, by omega⟩
      have k2 : by8.tmod 8 = by8 % 8 := Int.tmod_eq_emod_of_nonneg b0.1
      have k3 : IntKind.i64.wrap (by8 % 8) = by8 % 8 := wrap_in _ ⟨by omega, by omega⟩
      have k4 : IntKind.i64.wrap (1 + by8 % 8) = 1 + by8 % 8 := wrap_in _ ⟨by omega, by omega⟩
      have k5 : IntKind.i64.wrap (st * (1 + by8 % 8)) = s2 := by rw [← es2]; exact wrap_in _ ⟨by omega, by omega⟩
      clear es2 m8
      have TT : Hid (∀ W, Below w4.heap.size w4 W → Two w.heap.size W (.slice a n cap) (.int .i64 tol)) := Lib.hid fun W hW => T0.out.below hW
      have BB0 : Hid (∀ W, Below w4.heap.size w4 W → Below w.heap.size w W) := Lib.hid fun W hW => bel_trans HB.out hW
      have NV : Hid (∀ W, Below w4.heap.size w4 W → Pts W (.slice a4 l.length cap4) l) := Lib.hid fun W hW => NL.out.below hW
      generalize hM : l.length = LM at *
      replace hM := Lib.hid hM
      have S0 : Hid (CoS w w4 (.slice a n cap) tol w4.drew) := Lib.hid ⟨bel_drew _, TT.out _ (bel_drew _)⟩
      obtain ⟨t0, t1, _, _, _⟩ := T0.out
      go_upto_region 8 with fail
      go_region_held3 (fun w' => w'.cell? ⟨w.heap.size, 0, none⟩ = some (.slice a n cap) ∧ w'.cell? ⟨w.heap.size, 1, none⟩ = some (.int .i64 tol)) (go_keep) (first
        | (go_at_call 17; (refine (HK2.out _ _ (NV.out _ S0.out.1)).mono ?_); rintro e w8 ⟨V8, rfl, ho, gg⟩; replace S0 := Lib.hid (S0.out.below gg); obtain ⟨_, t0, t1, _, _, _⟩ := S0.out; (try (replace N9 := Lib.hid (N9.out.below gg))); have N8 := Lib.hid ho; clear ho gg)
        | (go_at_call 13; (refine (HC.out _ _ (HV.out _ (BB0.out _ S0.out.1))).mono ?_); rintro e w9 ⟨V9, rfl, ho, gg⟩; replace S0 := Lib.hid (S0.out.below gg); obtain ⟨_, t0, t1, _, _, _⟩ := S0.out; (try (replace N8 := Lib.hid (N8.out.below gg))); have N9 := Lib.hid ho; clear ho gg)
        | (go_at_call 19; (refine (HG.out _ _ _ N8.out N9.out).mono ?_); rintro e w10 ⟨rfl, gg⟩; replace S0 := Lib.hid (S0.out.below gg); obtain ⟨_, t0, t1, _, _, _⟩ := S0.out; clear gg))
      go_wp2_with fail
      refine (HC.out _ _ (HV.out _ (BB0.out _ S0.out.1))).mono ?_
      rintro e w11 ⟨V11, rfl, hx, h1⟩
      replace S0 := Lib.hid (S0.out.below h1); clear h1 t0 t1
      have N11 := Lib.hid hx; clear hx
      go_wp2_with fail
      refine (HM2.out _ _ N11.out).mono ?_
      rintro e w12 ⟨V12, rfl, hx, h1⟩
      replace S0 := Lib.hid (S0.out.below h1); clear h1 N11
      have NL2 := Lib.hid hx
      obtain ⟨a5, cap5, rfl, _, _⟩ := hx
      rcases hE with ⟨e1, e2, hl⟩ | ⟨rfl, hJ⟩
      · have hl0 : l2.length = 0 := by rw [hl.out]; rfl
        rw [hl0]
        have XB := Lib.hid (BB0.out _ S0.out.1)
        go_wp2
        go_returns
        exact ⟨rfl, XB.out⟩
      · have l2k := hl2.out
        generalize hM2 : l2.length = L2 at *
        replace hM2 := Lib.hid hM2
        have NB : Hid (Below w12.heap.size w12 w12) := Lib.hid (Below.refl _ _)
        go_wp2_with fail
        go_loopw [70] (fun ii wr => ∃ k : Nat, k ≤ L2 ∧ ii = .int .i64 (k : Int) ∧ Hid (Below w12.heap.size w12 wr)) (fun ii _ => L2 - (intOf ii).toNat)
        case atStart => exact ⟨0, by omega, rfl, NB⟩
        case round =>
          obtain ⟨k, hk, rfl, hB⟩ := hrel
          have X2 := Lib.hid (bel_trans S0.out.1 hB.out)
          have X3 := Lib.hid (BB0.out _ X2.out)
          by_cases hlt : k < L2
          · obtain ⟨b5, off5, ea, hb5, hc5⟩ := NL2.out.at (by have := hM2.out; omega)
            subst ea
            obtain ⟨c0, c1⟩ := hc5 k (by have := hM2.out; omega)
            have c0 := cell_bel c0 hB.out
            have c1 := cell_bel c1 hB.out
            have lk2 : (k : Int) < (L2 : Int) := by omega
            obtain hJk := Lib.hid (hJ.out k hlt)
            clear hc5 hJ
            generalize gX l2 k = x at *
            generalize gR l2 k = r at *
            have P0 := Lib.hid (Two.new wr (.int .i64 x) (.int .i64 r) 39)
            have BP : Hid (Below w4.heap.size w4 (wr.alloc (.cells #[.int .i64 x, .int .i64 r] 39))) := Lib.hid (bel_trans X2.out (bel_alloc (Below.refl _ _)))
            have B12 : Hid (Below w12.heap.size w12 (wr.alloc (.cells #[.int .i64 x, .int .i64 r] 39))) := Lib.hid (bel_trans hB.out (bel_alloc (Below.refl _ _)))
            have HQ : Hid (Calls Tryd.prog 28 #[.slice a4 LM cap4, .func (.func 29) #[] #[.pointer (some ⟨wr.heap.size, 0, none⟩)]] (wr.alloc (.cells #[.int .i64 x, .int .i64 r] 39)) fun e w' => e = .returned (.bool true) ∧ Below (wr.alloc (.cells #[.int .i64 x, .int .i64 r] 39)).heap.size (wr.alloc (.cells #[.int .i64 x, .int .i64 r] 39)) w') := Lib.hid (by
              have hv := NV.out _ BP.out
              refine conm_of _ _ a4 LM cap4 rfl (fun j => (x == gX l j && decide (r ≤ gR l j))) true _ (Lib.hid ?_) (Lib.hid ⟨fun _ => ?_, fun _ => rfl⟩)
              · have := idxm_any 29 #[.pointer (some ⟨wr.heap.size, 0, none⟩)] (fun j => (x == gX l j && decide (r ≤ gR l j))) (enters_of Tryd.func29 (by kernel_rfl) rfl) (.slice a4 LM cap4) l _ (by rw [hM.out]; exact hl1.out) hv (Lib.hid fun j W2 hj hW2 => clos x r _ _ _ W2 (P0.out.below hW2))
                rwa [hM.out] at this
              · obtain ⟨j, hj, h⟩ := hJk.out
                exact ⟨j, hj, h⟩)
            go_wp2_with fail
            refine HQ.out.mono ?_
            rintro e w13 ⟨rfl, h1⟩
            replace B12 := Lib.hid (bel_trans B12.out h1); clear h1
            go_wp2
            go_roundw
            case rel => exact ⟨k + 1, by omega, by go_num, B12⟩
            case measure => simp [intOf]; omega
          · obtain rfl : k = L2 := by omega
            go_wp2
            go_returns
            exact ⟨rfl, X3.out⟩
theorem walk (z : Value) (tt : List (Int × Int) × Int) (st by8 : Int) (w : World) (hz : TbV w z tt.1 tt.2) (hb : 0 ≤ by8 ∧ by8 ≤ 255) (hcv : CV w) :
    Calls Tryd.prog 9 #[z, .int .i64 st, .int .u8 by8] w fun e w' => e = .returned (.bool true) ∧ Below w.heap.size w w' := by
  obtain ⟨t, tol⟩ := tt
  obtain ⟨a, cap, rfl, hp⟩ := hz
  have hl : ∀ s, (rmL t tol s).length ≤ 1000 := fun s => by
    unfold rmL
    by_cases g : rmE t tol s = 0
    · rw [if_pos g, rdS_len]; have := (rmE_zero.1 g).2.2.2; omega
    · rw [if_neg g]; simp
  refine core st by8 (st * (1 + by8 % 8)) tol (rmE t tol st) (rmE t tol (st * (1 + by8 % 8))) a _ cap t (rmL t tol st) (rmL t tol (st * (1 + by8 % 8))) w (decide (t.length ≤ 129)) rfl (Lib.hid hcv) (Lib.hid hp) (Lib.hid fun h => by have := of_decide_eq_true h; omega) (Lib.hid (hl _)) (Lib.hid (hl _)) hb (Lib.hid fun h => ⟨(rmE_zero.1 h).2.1, rfl⟩) ?_ (Lib.hid fun v W h => few14_any v t tol W h) (Lib.hid fun v W h => mk_any v t tol st W h) (Lib.hid fun v W h => mk_any v t tol _ W h) (Lib.hid fun h u v W hu hv => ?_)
  · by_cases e : rmE t tol st = 0
    · right
      refine ⟨e, ?_⟩
      by_cases e2 : rmE t tol (st * (1 + by8 % 8)) = 0
      · right
        refine ⟨e2, Lib.hid fun k hk => ?_⟩
        obtain ⟨j, hj, h1, h2⟩ := coarse e e2 (by omega) hk
        exact ⟨j, hj, by rw [Bool.and_eq_true]; exact ⟨by simpa using h1, decide_eq_true h2⟩⟩
      · left
        exact ⟨by simpa using e2, by simpa using e2, Lib.hid (by unfold rmL; rw [if_neg e2])⟩
    · left
      exact ⟨by simpa using e, by simpa using e, Lib.hid (by unfold rmL; rw [if_neg e])⟩
  · obtain ⟨_, k1, k2⟩ := cm_made h
    have := rodCm_any u v (rmL t tol st) t tol st W hu hv
    rw [k1, k2] at this
    exact this

set_option maxRecDepth 100000 in
theorem contract (H : Type) (enc : TypeId × Value → H) (W : World) (base : Nat) (args : Array Value) (ds gs : List (DataW H)) (before : List MemPlace)
    (hval : ∀ (j : Nat) t v, Tryd.f9.params[j]? = some t → args[j]? = some v → Value.okWide Tryd.prog W .any base t v)
    (hW : DataW.Whole enc Tryd.prog Tryd.f9.params.toList Rows.rodCoarserSpec.vars false W args.toList ds gs before) (hL : laidMetH Tryd.prog Rows.rodCoarserRow.laid W) (hSh : W.ShapedOpen Tryd.prog) :
    Calls Tryd.prog 9 args W fun e W' => ∃ v, e = .returned v ∧ Rows.rodCoarserSpec.post enc Tryd.prog Tryd.f9 false true false false W args v W' := by
  have hW' := hW
  obtain ⟨p, q, hA0, hV, rfl, hfz, hnd⟩ := hW
  have hA : DataW.TrodAll enc Tryd.prog W 0 (fun _ => true) true Tryd.f9.params.toList args.toList ds p := hA0
  rw [Tryd.params9] at hA hval
  obtain ⟨v0, vs0, d0, ds0, p0, q0, hargs, rfl, rfl, h0, r0⟩ := trodAll_cons hA
  obtain ⟨v1, vs1, d1, ds1, p1, q1, rfl, rfl, rfl, h1, r1⟩ := trodAll_cons r0
  obtain ⟨v2, vs2, d2, ds2, p2, q2, rfl, rfl, rfl, h2, r2⟩ := trodAll_cons r1
  obtain ⟨rfl, rfl, rfl⟩ := trodAll_nil r2
  obtain rfl : args = #[v0, v1, v2] := by cases args; simp_all
  obtain ⟨rfl, rfl⟩ := trodVars_none hV
  have k0 := h0
  have lt0 : ∀ x ∈ p0, x.block < W.heap.size := by obtain ⟨m, hm⟩ := k0; exact DataW.trod_lt m _ _ _ hm
  have k1 := h1
  have lt1 : ∀ x ∈ p1, x.block < W.heap.size := by obtain ⟨m, hm⟩ := k1; exact DataW.trod_lt m _ _ _ hm
  have k2 := h2
  have lt2 : ∀ x ∈ p2, x.block < W.heap.size := by obtain ⟨m, hm⟩ := k2; exact DataW.trod_lt m _ _ _ hm
  obtain ⟨z0, w0, wt0⟩ := open_tbl (hval 0 24 v0 rfl rfl) h0
  obtain ⟨a1, rfl, rfl, rfl, w1⟩ := open_int Tryd.underlying3 (hval 1 3 v1 rfl rfl) h1
  obtain ⟨a2, rfl, rfl, rfl, w2⟩ := open_int Tryd.underlying5 (hval 2 5 v2 rfl rfl) h2
  clear hA0
  refine (walk v0 z0 a1 a2 W w0  (wf_u8 w2) (laid_of rfl hL hSh)).mono fun e W' ⟨he, bel⟩ => ?_
  subst he
  exact ⟨_, rfl, _, _, _, [], _, [], hW', trodAll_mk1 (shut_bool Tryd.underlying4 _), (trodAll_cons_mk (Below.trod laidOut (by kernel_rfl) (of_decide_eq_true (by kernel_rfl)) k0 bel lt0) (trodAll_cons_mk (Below.trod laidOut (by kernel_rfl) (of_decide_eq_true (by kernel_rfl)) k1 bel lt1) (trodAll_cons_mk (Below.trod laidOut (by kernel_rfl) (of_decide_eq_true (by kernel_rfl)) k2 bel lt2) trodAll_mk0))), rfl, bel.frame _, fun h => by cases h⟩

noncomputable def laidWorld (os : Os) : World := World.laidAll Tryd.prog os Rows.rodCoarserRow.laid
theorem laid_met (os : Os) : laidMet Tryd.prog Rows.rodCoarserRow.laid ((laidWorld os).forCall (fun _ _ => 0) ⟨#[], #[.agg #[.slice none 0 0, .int .i64 0], .int .i64 0, .int .u8 0], []⟩).memory :=
  laidMet_laidAll _ (by kernel_rfl) (by kernel_rfl)
theorem reads (os : Os) {H : Type} (enc : TypeId × Value → H) : ∃ places, DataW.whole enc Tryd.prog ((laidWorld os).forCall (fun _ _ => 0) ⟨#[], #[.agg #[.slice none 0 0, .int .i64 0], .int .i64 0, .int .u8 0], []⟩).memory Tryd.f9.params.toList Rows.rodCoarserSpec.vars false (#[.agg #[.slice none 0 0, .int .i64 0], .int .i64 0, .int .u8 0] : Array Value).toList 8 = some ([.agg [.nil, .lit (.int .i64 0)], .lit (.int .i64 0), .lit (.int .u8 0)], [], places) :=
  ⟨[], by kernel_rfl⟩

set_option maxRecDepth 100000 in
theorem lifted (os : Os) (started : os.Started) (H : Type) (enc : TypeId × Value → H) (F : Stop.Interp) :
    ReturnsInHanded {} Tryd.checked os 9 .any ((OpenSpec.ofChange Rows.rodCoarserSpec).preRow enc Tryd.prog Tryd.f9 Rows.rodCoarserRow.domain false Rows.rodCoarserRow.laid) (((OpenSpec.ofChange Rows.rodCoarserSpec).at F).post enc Tryd.prog Tryd.f9 false true false false) := by
  obtain ⟨places, hx⟩ := reads os enc
  refine returnsInHanded_of_row (C := Tryd.checked) (s := OpenSpec.ofChange Rows.rodCoarserSpec) own started (by kernel_rfl) Tryd.func9
    (witness_row_at (enc := enc) (C := Tryd.checked) false (laidWorld os) #[.agg #[.slice none 0 0, .int .i64 0], .int .i64 0, .int .u8 0] (World.laidAll_os _ _ _) (by kernel_rfl) (by kernel_rfl) (by kernel_rfl)
      (OpenSpec.preRow_of_cond 8 hx (by kernel_rfl) (fun k hk => by cases hk) (by kernel_rfl) (laid_met os))) ?_
  intro W base args ds gs before hval hW _ _ _ hL hSh _
  exact contract H enc W base args ds gs before hval hW hL hSh

theorem said : Rows.RodCoarserSaid :=
  OpenClaim.holds_of_cond 9 Tryd.f9 rfl rfl rfl rfl rfl rfl rfl ⟨rfl, rfl, rfl, rfl, rfl⟩ rfl rfl rfl rfl rfl (by kernel_rfl) Tryd.func9 (by kernel_rfl)
    (of_decide_eq_true (by kernel_rfl)) (by unfold Func.isWrapper; first | (rw [if_pos (by decide +kernel)]; kernel_rfl) | (rw [if_neg (by decide +kernel)]; exact ⟨rfl, rfl⟩))
    (fun os started H enc _ F => by rw [OpenClaim.pre_eq_preRow]; exact lifted os started H enc F)

theorem plain (f : FuncId) (fn : Func) (hf : Tryd.pinned.checked.prog.funcNamed "spile/spilelaw14.RodCoarser" = some f) (hfn : Tryd.pinned.checked.prog.funcs[f]? = some fn) :
    false = Tryd.pinned.checked.prog.looks [] ∧ ∀ (j : Nat) t, fn.params[j]? = some t → Tryd.pinned.checked.prog.wantsStandIn t = false := by
  obtain rfl : f = 9 := Option.some.inj ((show Tryd.prog.funcNamed "spile/spilelaw14.RodCoarser" = some 9 by kernel_rfl).symm.trans hf) |>.symm
  obtain rfl : fn = Tryd.f9 := (Option.some.inj (Tryd.func9.symm.trans hfn)).symm
  refine ⟨by kernel_rfl, fun j t ht => ?_⟩
  rw [Tryd.params9] at ht
  rcases j with _ | _ | _ | j
  · obtain rfl : t = 24 := by simpa using ht.symm
    exact (show Tryd.prog.wantsStandIn 24 = false by kernel_rfl)
  · obtain rfl : t = 3 := by simpa using ht.symm
    exact (show Tryd.prog.wantsStandIn 3 = false by kernel_rfl)
  · obtain rfl : t = 5 := by simpa using ht.symm
    exact (show Tryd.prog.wantsStandIn 5 = false by kernel_rfl)
  · simp at ht

theorem proved : Rows.RodCoarserCardSaid :=
  Claim7.holds_tied_plain_at .later [] _ _ _ _ said (fun _ h => by cases h) (by kernel_rfl) (fun _ h => by cases h) rodCoarser_row_tie rfl ⟨rfl, rfl⟩ (by kernel_rfl) rfl plain (by kernel_rfl)
#print axioms proved
end Go.Proofs.YtdjlainhaoaeiaaDoor.rodCoarser

