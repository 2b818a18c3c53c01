/-
  The statement RodExact of spile/spilelaw14 holds: for every input the call returns true, and each argument reads afterwards as it read before. (The listed package variables hold what the program lays: the card ties them.)
-/
import Derived.Test.YtdjlainhaoaeiaaDoorM1
import Derived.Test.YtdjlainhaoaeiaaDoorM2
import Derived.Test.YtdjlainhaoaeiaaDoorCards
import Derived.Test.YtdjlainhaoaeiaaDoorTie
import Derived.Below
import Derived.Carry
import Derived.Lib.LaidTab
import Derived.Deep.DeepHandedRow
import Derived.SevenTiedPlain
import Derived.Lay
set_option linter.unusedVariables false
set_option linter.unusedSimpArgs false
namespace Go.Proofs.YtdjlainhaoaeiaaDoor.rodExact
open Go.ChangeShapes Go.WideShapes Go.ChangeAt Go.RowKit
open Go.ChangeMaps (open_string shut_string)
set_option linter.unusedVariables false

/-- what stands in a round -/
def ExS (w w4 : World) (tv : Value) (tol x r : Int) (p : Nat) (W : World) : Prop := Below w4.heap.size w4 W ∧ Two w.heap.size W tv (.int .i64 tol) ∧ Two p W (.int .i64 x) (.int .i64 r)
theorem ExS.below {w w4 : World} {tv : Value} {tol x r : Int} {p : Nat} {W W' : World} (h : ExS w w4 tv tol x r p W) (hb : Below W.heap.size W W') : ExS w w4 tv tol x r p W' := ⟨bel_trans h.1 hb, h.2.1.below hb, h.2.2.below hb⟩
set_option maxHeartbeats 32000000 in
set_option maxRecDepth 100000 in
theorem core (st tol E LV LM : Int) (V U F : Nat → Int) (a : Option Addr) (n cap : Nat) (t l : List (Int × Int)) (w : World) (B1 : Bool) (hn : n = t.length) (hw : Hid (CV w)) (hP : Hid (Pts w (.slice a n cap) t)) (hs : Hid (B1 = true → t.length ≤ 1000)) (hl1 : Hid (l.length ≤ 1000))
    (hE : ((E == 0) = false ∧ (E != 0) = true ∧ Hid (l = [])) ∨ (E = 0 ∧ Hid (1 ≤ l.length ∧ 2 ≤ t.length ∧ gR t (t.length - 1) = LV ∧ gR l (l.length - 1) = LM) ∧ (1 ≤ st ∧ st ≤ 1073741824) ∧ (0 ≤ LV ∧ LV ≤ 4294967296) ∧ LM = LV / st * st ∧ Hid (∀ k, k < l.length → (0 ≤ gX l k ∧ gX l k ≤ 200000) ∧ (1 ≤ gR l k ∧ gR l k ≤ 4294967296) ∧ gR l k % st = 0 ∧ gR l k ≤ V k ∧ V k < gR l k + st ∧ ((F k == 0) = false ∨ (F k = 0 ∧ U k < gR l k)))))
    (HF : Hid (∀ v W, TbV W v t tol → Calls Tryd.prog 11 #[.slice none 0 0, v] W fun e w' => e = .returned (.bool B1) ∧ Below W.heap.size W w'))
    (HM : Hid (∀ v W, TbV W v t tol → Calls Tryd.prog 12 #[v, .int .i64 st] W fun e w' => ∃ u, e = .returned (.tuple #[u, .int .i64 E]) ∧ Pts w' u l ∧ Below W.heap.size W w'))
    (HR : Hid (E = 0 → ∀ k v W, k < l.length → TbV W v t tol → Calls Tryd.prog 27 #[v, .int .i64 (gX l k)] W fun e w' => e = .returned (.tuple #[.int .i64 (V k), .int .i64 0]) ∧ Below W.heap.size W w'))
    (HU : Hid (E = 0 → ∀ k v W, k < l.length → TbV W v t tol → Calls Tryd.prog 27 #[v, .int .i64 (gX l k - 1)] W fun e w' => e = .returned (.tuple #[.int .i64 (U k), .int .i64 (F k)]) ∧ Below W.heap.size W w'))
    (HG : Hid (E = 0 → ∀ v W, Pts W v l → Calls Tryd.prog 21 #[v] W fun e w' => e = .returned (.int .i64 0) ∧ Below W.heap.size W w')) :
    Calls Tryd.prog 6 #[.agg #[.slice a n cap, .int .i64 tol], .int .i64 st] w fun e w' => e = .returned (.bool true) ∧ Below w.heap.size w w' := by
  subst hn
  have Q1 : ∀ (p q : Int) W, (binOp .eql 34 (.agg #[.int .i64 p, .int .i64 q]) (.agg #[.int .i64 p, .int .i64 q])).run Tryd.prog W = .ok (.bool true) W := fun p q W => by rw [run_eql_bounds, show samB p q p q = true by simp [samB]]
  have T0 := Lib.hid (Two.new w (.slice a t.length cap) (.int .i64 tol) 24)
  have HB : Hid (Below w.heap.size w (w.alloc (.cells #[.slice a t.length cap, .int .i64 tol] 24))) := Lib.hid (bel_alloc (Below.refl _ _))
  have HV : Hid (∀ W, Below w.heap.size w W → TbV W (.agg #[.slice a t.length cap, .int .i64 tol]) t tol) := Lib.hid fun W hW => ⟨a, cap, rfl, hP.out.below hW⟩
  have HA : Hid (∀ W, Below w.heap.size w W → _) := Lib.hid fun W hW => awake_any W (hw.out.below hW)
  generalize hN : t.length = n at *
  replace hN := Lib.hid hN
  go_enter Tryd.func6, Tryd.ntmps6
  go_wp2_with fail
  refine (HA.out _ HB.out).mono ?_
  rintro e w1 ⟨rfl, h1⟩
  replace T0 := Lib.hid (T0.out.below h1)
  replace HB := Lib.hid (bel_trans HB.out h1); clear h1
  obtain ⟨t0, t1, _, _, _⟩ := T0.out
  go_wp2_with fail
  refine (HF.out _ _ (HV.out _ HB.out)).mono ?_
  rintro e w2 ⟨rfl, h1⟩
  replace T0 := Lib.hid (T0.out.below h1)
  replace HB := Lib.hid (bel_trans HB.out h1); clear h1 t0 t1
  cases B1 with
  | false =>
    go_wp2
    go_returns
    exact ⟨rfl, HB.out⟩
  | true =>
    have HC := Lib.hid (fun v W (h : TbV W v t tol) => copy_any v t tol W h (by rw [hN.out]; exact hs.out (by trivial)))
    obtain ⟨t0, t1, _, _, _⟩ := T0.out
    go_wp2_with fail
    refine (HC.out _ _ (HV.out _ HB.out)).mono ?_
    rintro e w3 ⟨V3, rfl, hx, h1⟩
    replace T0 := Lib.hid (T0.out.below h1)
    replace HB := Lib.hid (bel_trans HB.out h1); clear h1 t0 t1
    have N3 := Lib.hid hx; clear hx
    go_wp2_with fail
    refine (HM.out _ _ N3.out).mono ?_
    rintro e w4 ⟨V4, rfl, hx, h1⟩
    replace T0 := Lib.hid (T0.out.below h1)
    replace HB := Lib.hid (bel_trans HB.out h1); clear h1 N3
    have NL := Lib.hid hx
    obtain ⟨a4, cap4, rfl, _, _⟩ := hx
    rcases hE with ⟨e1, e2, hl⟩ | ⟨rfl, hL, hst, hLV, hLM, hK⟩
    · have hl0 : l.length = 0 := by rw [hl.out]; rfl
      rw [hl0]
      go_wp2
      go_returns
      exact ⟨rfl, HB.out⟩
    · obtain ⟨m, hm⟩ : ∃ m, l.length = m + 1 := ⟨l.length - 1, by have := hL.out.1; omega⟩
      have m1 : m ≤ 1000 := by have := hl1.out; omega
      obtain ⟨b4, off4, ea, hb4, hc4⟩ := NL.out.at (by omega)
      subst ea
      have HP4 := hP.out.below HB.out
      obtain ⟨q, hq⟩ : ∃ q, n = q + 1 := ⟨n - 1, by have := hL.out.2.1; have := hN.out; omega⟩
      have q0 : 1 ≤ q := by have := hL.out.2.1; have := hN.out; omega
      have q1 : q ≤ 1000 := by have := hs.out (by trivial); have := hN.out; omega
      rw [← hN.out] at HP4
      obtain ⟨bt, offt, et, hbt, hct⟩ := HP4.at (by have := hN.out; omega)
      subst et
      have cT : w4.cell? ⟨bt, offt + q * 2 + 1, none⟩ = some (.int .i64 LV) := by
        have := (hct q (by have := hN.out; omega)).2
        have e := hL.out.2.2.1
        rw [show n - 1 = q by omega] at e
        rwa [e] at this
      have cM : w4.cell? ⟨b4, off4 + m * 2 + 1, none⟩ = some (.int .i64 LM) := by
        have := (hc4 m (by omega)).2
        have e := hL.out.2.2.2
        rw [hm, Nat.add_sub_cancel] at e
        rwa [e] at this
      have CT : Hid (∀ W, Below w4.heap.size w4 W → W.cell? ⟨bt, offt + q * 2 + 1, none⟩ = some (.int .i64 LV) ∧ W.cell? ⟨b4, off4 + m * 2 + 1, none⟩ = some (.int .i64 LM)) := Lib.hid fun W hW => ⟨cell_bel cT hW, cell_bel cM hW⟩
      have CL : Hid (∀ W, Below w4.heap.size w4 W → ∀ j, j < m + 1 → W.cell? ⟨b4, off4 + j * 2, none⟩ = some (.int .i64 (gX l j)) ∧ W.cell? ⟨b4, off4 + j * 2 + 1, none⟩ = some (.int .i64 (gR l j))) := Lib.hid fun W hW j hj => ⟨cell_bel (hc4 j (by omega)).1 hW, cell_bel (hc4 j (by omega)).2 hW⟩
      have NV : Hid (∀ W, Below w4.heap.size w4 W → Pts W (.slice (some ⟨b4, off4, none⟩) (m + 1) cap4) l) := Lib.hid fun W hW => by
        have := NL.out.below hW
        rwa [hm] at this
      have HK2 := Lib.hid (fun v W (h : Pts W v l) => cloneM_any v l W h hl1.out)
      replace HG := Lib.hid (HG.out (by trivial))
      replace HR := Lib.hid (HR.out (by trivial))
      replace HU := Lib.hid (HU.out (by trivial))
      have BB0 : Hid (∀ W, Below w4.heap.size w4 W → Below w.heap.size w W) := Lib.hid fun W hW => bel_trans HB.out hW
      have TT : Hid (∀ W, Below w4.heap.size w4 W → Two w.heap.size W (.slice (some ⟨bt, offt, none⟩) n cap) (.int .i64 tol)) := Lib.hid fun W hW => T0.out.below hW
      clear hc4 hct cT cM HP4
      subst hq
      rw [hm]
      replace hK := Lib.hid (fun k (hk : k < m + 1) => hK.out k (by omega))
      replace HR := Lib.hid (fun k v W (hk : k < m + 1) h => HR.out k v W (by omega) h)
      replace HU := Lib.hid (fun k v W (hk : k < m + 1) h => HU.out k v W (by omega) h)
      have wk1 : IntKind.i64.wrap ((m : Int) + 1 - 1) = (m : Int) := by rw [wrap_in _ ⟨by omega, by omega⟩]; omega
      have wk2 : IntKind.i64.wrap (m : Int) = (m : Int) := wrap_in _ ⟨by omega, by omega⟩
      have lk : (m : Int) < (m : Int) + 1 := by omega
      have lz : (((m : Int) + 1) == 0) = false := by simp; omega
      have vk1 : IntKind.i64.wrap ((q : Int) + 1 - 1) = (q : Int) := by rw [wrap_in _ ⟨by omega, by omega⟩]; omega
      have lq : (q : Int) < (q : Int) + 1 := by omega
      have l2 : decide ((q : Int) + 1 < 2) = false := decide_eq_false (by omega)
      have ls : decide (st < 1) = false := decide_eq_false (by omega)
      have BW : Hid (Below w4.heap.size w4 w4) := Lib.hid (Below.refl _ _)
      replace hm := Lib.hid hm
      clear hL
      go_wp2_with fail
      refine (HK2.out _ _ (NV.out _ BW.out)).mono ?_
      rintro e w5 ⟨V5, rfl, hx, h1⟩
      replace BW := Lib.hid (bel_trans BW.out h1); clear h1
      have N5 := Lib.hid hx; clear hx
      go_wp2_with fail
      refine (HG.out _ _ N5.out).mono ?_
      rintro e w6 ⟨rfl, h1⟩
      replace BW := Lib.hid (bel_trans BW.out h1); clear h1 N5
      obtain ⟨t0, t1, _, _, _⟩ := TT.out _ BW.out
      go_wp2_with fail
      go_loopw [9, 10, 11, 12, 52] (fun _ _ _ _ ii wr => ∃ k : Nat, k ≤ m + 1 ∧ ii = .int .i64 (k : Int) ∧ Hid (Below w4.heap.size w4 wr)) (fun _ _ _ _ ii _ => m + 1 - (intOf ii).toNat)
      case atStart => exact ⟨0, by omega, rfl, BW⟩
      case round =>
        clear t0 t1
        obtain ⟨k, hk, rfl, hB⟩ := hrel
        by_cases hlt : k < m + 1
        · obtain ⟨c0, c1⟩ := CL.out _ hB.out k hlt
          obtain ⟨bx, br, hmod, v0, v1, hF⟩ := hK.out k hlt
          have HRk := Lib.hid (fun v W h => HR.out k v W hlt h)
          have HUk := Lib.hid (fun v W h => HU.out k v W hlt h)
          have lk2 : (k : Int) < (m : Int) + 1 := by omega
          have HT := TT.out _ hB.out
          clear HR HU hK CL
          generalize gX l k = x at *
          generalize gR l k = r at *
          generalize V k = vq at *
          generalize U k = vu at *
          generalize F k = vf at *
          have S0 : Hid (ExS w w4 (.slice (some ⟨bt, offt, none⟩) (q + 1) cap) tol x r wr.heap.size (wr.alloc (.cells #[.int .i64 x, .int .i64 r] 39))) := Lib.hid ⟨bel_trans hB.out (bel_alloc (Below.refl _ _)), HT.alloc _, Two.new _ _ _ _⟩
          have hmod2 : r.tmod st = 0 := by rw [Int.tmod_eq_emod_of_nonneg (by omega)]; exact hmod
          have sz : ¬ st = 0 := by omega
          have sz2 : (st == 0) = false := by simp; omega
          have wr1 : IntKind.i64.wrap (r + st) = r + st := wrap_in _ ⟨by omega, by omega⟩
          have wx1 : IntKind.i64.wrap (x - 1) = x - 1 := wrap_in _ ⟨by omega, by omega⟩
          have d1 : decide (vq < r) = false := decide_eq_false (by omega)
          have d2 : decide (r + st ≤ vq) = false := decide_eq_false (by omega)
          clear HT
          have e0 : w.heap.size < w4.heap.size := (TT.out _ (Below.refl _ _)).2.2.2.2
          have e1 := hB.out.size
          have n1 : w.heap.size ≠ wr.heap.size := by omega
          have n2 : wr.heap.size ≠ w.heap.size := by omega
          clear e0 e1
          obtain ⟨_, ⟨t0, t1, _, _, _⟩, y0, y1, _, _, _⟩ := S0.out
          go_upto_region 13 with fail
          replace S0 := Lib.hid (S0.out.below (bel_drew _))
          generalize hq : wr.heap.size = p at *
          replace hq := Lib.hid hq
          go_region_held3 (fun w' => w'.cell? ⟨w.heap.size, 0, none⟩ = some (.slice (some ⟨bt, offt, none⟩) (q + 1) cap) ∧ w'.cell? ⟨w.heap.size, 1, none⟩ = some (.int .i64 tol) ∧ w'.cell? ⟨p, 0, none⟩ = some (.int .i64 x) ∧ w'.cell? ⟨p, 1, none⟩ = some (.int .i64 r)) (go_keep) (first
            | (go_at_call 13; (refine (HC.out _ _ (HV.out _ (BB0.out _ S0.out.1))).mono ?_); rintro e w8 ⟨V8, rfl, ho, gg⟩; replace S0 := Lib.hid (S0.out.below gg); obtain ⟨_, ⟨t0, t1, _, _, _⟩, y0, y1, _, _, _⟩ := S0.out; have N8 := Lib.hid ho; clear ho gg)
            | (go_at_call 27; (with_reducible refine (HRk.out _ _ N8.out).mono ?_); rintro e w9 ⟨rfl, gg⟩; replace S0 := Lib.hid (S0.out.below gg); obtain ⟨_, ⟨t0, t1, _, _, _⟩, y0, y1, _, _, _⟩ := S0.out; clear gg))
          go_upto_region 16 with fail
          replace S0 := Lib.hid (S0.out.below (bel_drew _))
          clear N8 HRk
          go_region_held3 (fun w' => w'.cell? ⟨w.heap.size, 0, none⟩ = some (.slice (some ⟨bt, offt, none⟩) (q + 1) cap) ∧ w'.cell? ⟨w.heap.size, 1, none⟩ = some (.int .i64 tol) ∧ w'.cell? ⟨p, 0, none⟩ = some (.int .i64 x) ∧ w'.cell? ⟨p, 1, none⟩ = some (.int .i64 r)) (go_keep) (first
            | (go_at_call 27; (with_reducible refine (HUk.out _ _ N8.out).mono ?_); rintro e w9 ⟨rfl, gg⟩; replace S0 := Lib.hid (S0.out.below gg); obtain ⟨_, ⟨t0, t1, _, _, _⟩, y0, y1, _, _, _⟩ := S0.out; clear gg)
            | (go_at_call 13; (refine (HC.out _ _ (HV.out _ (BB0.out _ S0.out.1))).mono ?_); rintro e w8 ⟨V8, rfl, ho, gg⟩; replace S0 := Lib.hid (S0.out.below gg); obtain ⟨_, ⟨t0, t1, _, _, _⟩, y0, y1, _, _, _⟩ := S0.out; have N8 := Lib.hid ho; clear ho gg))
          rcases hF with e1 | ⟨rfl, hu⟩
          · go_wp2
            go_roundw
            case rel => exact ⟨k + 1, by omega, by go_num, Lib.hid S0.out.1⟩
            case measure => simp [intOf]; omega
          · have d3 : decide (r ≤ vu) = false := decide_eq_false (by omega)
            go_wp2
            go_roundw
            case rel => exact ⟨k + 1, by omega, by go_num, Lib.hid S0.out.1⟩
            case measure => simp [intOf]; omega
        · obtain rfl : k = m + 1 := by omega
          have lk3 : ¬ ((m + 1 : Nat) : Int) < (m : Int) + 1 := by omega
          obtain ⟨t0, t1, _, _, _⟩ := TT.out _ hB.out
          obtain ⟨ct, cm⟩ := CT.out _ hB.out
          have XB := Lib.hid (bel_trans HB.out hB.out)
          have XD := Lib.hid (fun j => bel_trans XB.out (bel_drewN wr j))
          have td : LV.tdiv st = LV / st := Int.tdiv_eq_ediv_of_nonneg hLV.1
          have dv := dvs LV hst.1
          have dv0 : 0 ≤ LV / st := Int.ediv_nonneg hLV.1 (by omega)
          have dv1 : LV / st ≤ LV := Int.ediv_le_self _ hLV.1
          have dv2 : 0 ≤ LV / st * st := Int.mul_nonneg dv0 (by omega)
          have wt : IntKind.i64.wrap (LV / st) = LV / st := wrap_in _ ⟨by omega, by omega⟩
          have wt2 : IntKind.i64.wrap (LV / st * st) = LM := by rw [hLM]; exact wrap_in _ ⟨by omega, by omega⟩
          have st0 : ¬ st = 0 := by omega
          have st1 : (st == 0) = false := by simp; omega
          have le : (LM == LM) = true := by simp
          clear hLM dv dv0 dv1 dv2
          go_upto_region 21 with fail
          go_quiet (fail)
          go_wp2
          go_returns
          exact ⟨rfl, by first | exact XB.out | exact XD.out _⟩
theorem walk (z : Value) (tt : List (Int × Int) × Int) (st : Int) (w : World) (hz : TbV w z tt.1 tt.2) (hcv : CV w) :
    Calls Tryd.prog 6 #[z, .int .i64 st] w fun e w' => e = .returned (.bool true) ∧ Below w.heap.size w w' := by
  obtain ⟨t, tol⟩ := tt
  obtain ⟨a, cap, rfl, hp⟩ := hz
  have hl : (rmL t tol st).length ≤ 1000 := by
    unfold rmL
    by_cases g : rmE t tol st = 0
    · rw [if_pos g, rdS_len]; have := (rmE_zero.1 g).2.2.2; omega
    · rw [if_neg g]; simp
  have key : rmE t tol st = 0 → ∀ k, k < (rmL t tol st).length → rdE t tol (gX (rmL t tol st) k) = 0 ∧ rdQ t tol (gX (rmL t tol st) k) = vl t (gX (rmL t tol st) k) := fun h k hk => by
    obtain ⟨ht, ⟨s0, s1⟩, c0, c1⟩ := rmE_zero.1 h
    obtain ⟨hR, _⟩ := tbE_iff.1 ht
    have eL : rmL t tol st = rdS t st (rdC t st) := by unfold rmL; rw [if_pos h]
    rw [eL, rdS_len] at hk
    rw [eL, (rdS_at hk).1]
    have r := rd_k hR s0 (rd_lt hk)
    have e0 := rdE_zero.2 ⟨ht, r.h0, r.h1⟩
    exact ⟨e0, by unfold rdQ; rw [if_pos e0]⟩
  refine core st tol (rmE t tol st) (gR t (t.length - 1)) (gR (rmL t tol st) ((rmL t tol st).length - 1)) (fun k => vl t (gX (rmL t tol st) k)) (fun k => rdQ t tol (gX (rmL t tol st) k - 1)) (fun k => rdE t tol (gX (rmL t tol st) k - 1)) a _ cap t (rmL t tol st) w (decide (t.length ≤ 129)) rfl (Lib.hid hcv) (Lib.hid hp) (Lib.hid fun h => by have := of_decide_eq_true h; omega) (Lib.hid hl) ?_ (Lib.hid fun v W h => few14_any v t tol W h) (Lib.hid fun v W h => mk_any v t tol st W h) (Lib.hid fun h k v W hk hv => ?_) (Lib.hid fun h k v W hk hv => dipRead_any v t tol _ W hv) (Lib.hid fun h v W hv => ?_)
  · by_cases e : rmE t tol st = 0
    · right
      obtain ⟨ht, ⟨s0, s1⟩, c0, c1⟩ := rmE_zero.1 e
      obtain ⟨hR, _⟩ := tbE_iff.1 ht
      have eL : rmL t tol st = rdS t st (rdC t st) := by unfold rmL; rw [if_pos e]
      have n0 := hR.n0
      have bl := hR.bv (t.length - 1) (by omega)
      have ln := rdS_len t st (rdC t st)
      refine ⟨e, Lib.hid ⟨by rw [eL]; omega, by omega, rfl, rfl⟩, ⟨s0, s1⟩, bl, ?_, Lib.hid fun k hk => ?_⟩
      · rw [eL, ln, (rdS_at (show rdC t st - 1 < rdC t st by omega)).2]
        exact rd_last hR s0 c0 c1
      · rw [eL, ln] at hk
        rw [eL]
        obtain ⟨aX, aR⟩ := rdS_at (l := t) (s := st) hk
        have r := rd_k hR s0 (rd_lt hk)
        have g := rd_ge hR s0 (show k ≤ rdC t st by omega)
        have sp := hR.span
        have r0 := r.h0; have r1 := r.h1; have r2 := r.m0; have r3 := r.m1; have r4 := r.v1
        show (0 ≤ gX (rdS t st (rdC t st)) k ∧ gX (rdS t st (rdC t st)) k ≤ 200000) ∧ (1 ≤ gR (rdS t st (rdC t st)) k ∧ gR (rdS t st (rdC t st)) k ≤ 4294967296) ∧ gR (rdS t st (rdC t st)) k % st = 0 ∧ gR (rdS t st (rdC t st)) k ≤ vl t (gX (rdS t st (rdC t st)) k) ∧ vl t (gX (rdS t st (rdC t st)) k) < gR (rdS t st (rdC t st)) k + st ∧ ((rdE t tol (gX (rdS t st (rdC t st)) k - 1) == 0) = false ∨ (rdE t tol (gX (rdS t st (rdC t st)) k - 1) = 0 ∧ rdQ t tol (gX (rdS t st (rdC t st)) k - 1) < gR (rdS t st (rdC t st)) k))
        rw [aX, aR]
        refine ⟨by omega, by omega, by rw [rdM_mul]; exact Int.mul_emod_left _ _, r.m1, r.m2, ?_⟩
        by_cases q : rdE t tol (lsA t (rdV t st k) - 1) = 0
        · right
          refine ⟨q, ?_⟩
          obtain ⟨_, x0, x1⟩ := rdE_zero.1 q
          have b := r.below _ x0 (by omega)
          unfold rdQ
          rw [if_pos q]
          omega
        · left; simpa using q
    · left
      exact ⟨by simpa using e, by simpa using e, Lib.hid (by unfold rmL; rw [if_neg e])⟩
  · have := dipRead_any v t tol (gX (rmL t tol st) k) W hv
    obtain ⟨k1, k2⟩ := key h k hk
    rw [k1, k2] at this
    exact this
  · have := rodChk_any v (rmL t tol st) W hv
    obtain ⟨ht, ⟨s0, s1⟩, c0, c1⟩ := rmE_zero.1 h
    obtain ⟨hR, _⟩ := tbE_iff.1 ht
    have eL : rmL t tol st = rdS t st (rdC t st) := by unfold rmL; rw [if_pos h]
    rw [eL] at this
    rw [roE_iff.2 (rd_right hR s0 c0 c1)] at this
    exact this

set_option maxRecDepth 100000 in
theorem contract (H : Type) (enc : TypeId × Value → H) (W : World) (base : Nat) (args : Array Value) (ds gs : List (DataW H)) (before : List MemPlace)
    (hval : ∀ (j : Nat) t v, Tryd.f6.params[j]? = some t → args[j]? = some v → Value.okWide Tryd.prog W .any base t v)
    (hW : DataW.Whole enc Tryd.prog Tryd.f6.params.toList Rows.rodExactSpec.vars false W args.toList ds gs before) (hL : laidMetH Tryd.prog Rows.rodExactRow.laid W) (hSh : W.ShapedOpen Tryd.prog) :
    Calls Tryd.prog 6 args W fun e W' => ∃ v, e = .returned v ∧ Rows.rodExactSpec.post enc Tryd.prog Tryd.f6 false true false false W args v W' := by
  have hW' := hW
  obtain ⟨p, q, hA0, hV, rfl, hfz, hnd⟩ := hW
  have hA : DataW.TrodAll enc Tryd.prog W 0 (fun _ => true) true Tryd.f6.params.toList args.toList ds p := hA0
  rw [Tryd.params6] at hA hval
  obtain ⟨v0, vs0, d0, ds0, p0, q0, hargs, rfl, rfl, h0, r0⟩ := trodAll_cons hA
  obtain ⟨v1, vs1, d1, ds1, p1, q1, rfl, rfl, rfl, h1, r1⟩ := trodAll_cons r0
  obtain ⟨rfl, rfl, rfl⟩ := trodAll_nil r1
  obtain rfl : args = #[v0, v1] := by cases args; simp_all
  obtain ⟨rfl, rfl⟩ := trodVars_none hV
  have k0 := h0
  have lt0 : ∀ x ∈ p0, x.block < W.heap.size := by obtain ⟨m, hm⟩ := k0; exact DataW.trod_lt m _ _ _ hm
  have k1 := h1
  have lt1 : ∀ x ∈ p1, x.block < W.heap.size := by obtain ⟨m, hm⟩ := k1; exact DataW.trod_lt m _ _ _ hm
  obtain ⟨z0, w0, wt0⟩ := open_tbl (hval 0 24 v0 rfl rfl) h0
  obtain ⟨a1, rfl, rfl, rfl, w1⟩ := open_int Tryd.underlying3 (hval 1 3 v1 rfl rfl) h1
  clear hA0
  refine (walk v0 z0 a1 W w0  (laid_of rfl hL hSh)).mono fun e W' ⟨he, bel⟩ => ?_
  subst he
  exact ⟨_, rfl, _, _, _, [], _, [], hW', trodAll_mk1 (shut_bool Tryd.underlying4 _), (trodAll_cons_mk (Below.trod laidOut (by kernel_rfl) (of_decide_eq_true (by kernel_rfl)) k0 bel lt0) (trodAll_cons_mk (Below.trod laidOut (by kernel_rfl) (of_decide_eq_true (by kernel_rfl)) k1 bel lt1) trodAll_mk0)), rfl, bel.frame _, fun h => by cases h⟩

noncomputable def laidWorld (os : Os) : World := World.laidAll Tryd.prog os Rows.rodExactRow.laid
theorem laid_met (os : Os) : laidMet Tryd.prog Rows.rodExactRow.laid ((laidWorld os).forCall (fun _ _ => 0) ⟨#[], #[.agg #[.slice none 0 0, .int .i64 0], .int .i64 0], []⟩).memory :=
  laidMet_laidAll _ (by kernel_rfl) (by kernel_rfl)
theorem reads (os : Os) {H : Type} (enc : TypeId × Value → H) : ∃ places, DataW.whole enc Tryd.prog ((laidWorld os).forCall (fun _ _ => 0) ⟨#[], #[.agg #[.slice none 0 0, .int .i64 0], .int .i64 0], []⟩).memory Tryd.f6.params.toList Rows.rodExactSpec.vars false (#[.agg #[.slice none 0 0, .int .i64 0], .int .i64 0] : Array Value).toList 8 = some ([.agg [.nil, .lit (.int .i64 0)], .lit (.int .i64 0)], [], places) :=
  ⟨[], by kernel_rfl⟩

set_option maxRecDepth 100000 in
theorem lifted (os : Os) (started : os.Started) (H : Type) (enc : TypeId × Value → H) (F : Stop.Interp) :
    ReturnsInHanded {} Tryd.checked os 6 .any ((OpenSpec.ofChange Rows.rodExactSpec).preRow enc Tryd.prog Tryd.f6 Rows.rodExactRow.domain false Rows.rodExactRow.laid) (((OpenSpec.ofChange Rows.rodExactSpec).at F).post enc Tryd.prog Tryd.f6 false true false false) := by
  obtain ⟨places, hx⟩ := reads os enc
  refine returnsInHanded_of_row (C := Tryd.checked) (s := OpenSpec.ofChange Rows.rodExactSpec) own started (by kernel_rfl) Tryd.func6
    (witness_row_at (enc := enc) (C := Tryd.checked) false (laidWorld os) #[.agg #[.slice none 0 0, .int .i64 0], .int .i64 0] (World.laidAll_os _ _ _) (by kernel_rfl) (by kernel_rfl) (by kernel_rfl)
      (OpenSpec.preRow_of_cond 8 hx (by kernel_rfl) (fun k hk => by cases hk) (by kernel_rfl) (laid_met os))) ?_
  intro W base args ds gs before hval hW _ _ _ hL hSh _
  exact contract H enc W base args ds gs before hval hW hL hSh

theorem said : Rows.RodExactSaid :=
  OpenClaim.holds_of_cond 6 Tryd.f6 rfl rfl rfl rfl rfl rfl rfl ⟨rfl, rfl, rfl, rfl, rfl⟩ rfl rfl rfl rfl rfl (by kernel_rfl) Tryd.func6 (by kernel_rfl)
    (of_decide_eq_true (by kernel_rfl)) (by unfold Func.isWrapper; first | (rw [if_pos (by decide +kernel)]; kernel_rfl) | (rw [if_neg (by decide +kernel)]; exact ⟨rfl, rfl⟩))
    (fun os started H enc _ F => by rw [OpenClaim.pre_eq_preRow]; exact lifted os started H enc F)

theorem plain (f : FuncId) (fn : Func) (hf : Tryd.pinned.checked.prog.funcNamed "spile/spilelaw14.RodExact" = some f) (hfn : Tryd.pinned.checked.prog.funcs[f]? = some fn) :
    false = Tryd.pinned.checked.prog.looks [] ∧ ∀ (j : Nat) t, fn.params[j]? = some t → Tryd.pinned.checked.prog.wantsStandIn t = false := by
  obtain rfl : f = 6 := Option.some.inj ((show Tryd.prog.funcNamed "spile/spilelaw14.RodExact" = some 6 by kernel_rfl).symm.trans hf) |>.symm
  obtain rfl : fn = Tryd.f6 := (Option.some.inj (Tryd.func6.symm.trans hfn)).symm
  refine ⟨by kernel_rfl, fun j t ht => ?_⟩
  rw [Tryd.params6] at ht
  rcases j with _ | _ | j
  · obtain rfl : t = 24 := by simpa using ht.symm
    exact (show Tryd.prog.wantsStandIn 24 = false by kernel_rfl)
  · obtain rfl : t = 3 := by simpa using ht.symm
    exact (show Tryd.prog.wantsStandIn 3 = false by kernel_rfl)
  · simp at ht

theorem proved : Rows.RodExactCardSaid :=
  Claim7.holds_tied_plain_at .later [] _ _ _ _ said (fun _ h => by cases h) (by kernel_rfl) (fun _ h => by cases h) rodExact_row_tie rfl ⟨rfl, rfl⟩ (by kernel_rfl) rfl plain (by kernel_rfl)
#print axioms proved
end Go.Proofs.YtdjlainhaoaeiaaDoor.rodExact

