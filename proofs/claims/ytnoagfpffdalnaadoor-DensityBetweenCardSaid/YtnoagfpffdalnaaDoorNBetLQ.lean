/-
  The statement DensityBetween of spile/spilelaw16 holds: for every input the call returns true, and each argument reads afterwards as it read before. (The listed package variables hold what the program lays: the card ties them.)
-/
import Derived.Test.YtnoagfpffdalnaaDoorM1
import Derived.FnLit
import Derived.RangeFuncBox
import Derived.Deep.RegionHeld3
import Derived.Test.YtnoagfpffdalnaaDoorCards
import Derived.Test.YtnoagfpffdalnaaDoorTie
import Derived.Below
import Derived.Carry
import Derived.Lib.LaidTab
import Derived.Deep.DeepHandedRow
import Derived.SevenTiedPlain
import Derived.Lay

set_option linter.unusedVariables false
set_option linter.unusedSimpArgs false

namespace Go.Proofs.YtnoagfpffdalnaaDoor
open Go.RowKit

theorem gx_mem {C : List (Int × Int)} {i : Nat} (hi : i < C.length) : (gX C i, gR C i) ∈ C := by
  have : (gX C i, gR C i) = C[i] := by simp [gX, gR, List.getD_eq_getElem?_getD, List.getElem?_eq_getElem hi]
  rw [this]; exact List.getElem_mem hi
theorem mem_gx {C : List (Int × Int)} {c : Int × Int} (h : c ∈ C) : ∃ i, i < C.length ∧ gX C i = c.1 ∧ gR C i = c.2 := by
  obtain ⟨i, hi, e⟩ := List.getElem_of_mem h
  exact ⟨i, hi, by simp [gX, List.getD_eq_getElem?_getD, List.getElem?_eq_getElem hi, e], by simp [gR, List.getD_eq_getElem?_getD, List.getElem?_eq_getElem hi, e]⟩
/-- the index of the first place at which p holds; -1 if there is none -/
def ixR (p : Nat → Bool) (n : Nat) : Int := if fst p n < n then (fst p n : Int) else -1
theorem ixR_at {p : Nat → Bool} {n k : Nat} (hk : k < n) (h1 : ∀ j, j < k → p j = false) (h2 : p k = true) : ixR p n = k := by
  unfold ixR
  rw [fst_is (by omega) h1 (fun _ => h2), if_pos hk]
theorem ixR_no {p : Nat → Bool} {n : Nat} (h1 : ∀ j, j < n → p j = false) : ixR p n = -1 := by
  unfold ixR
  rw [fst_is (Nat.le_refl _) h1 (fun h => by omega), if_neg (by omega)]
theorem ixR_iff (p : Nat → Bool) (n : Nat) : 0 ≤ ixR p n ↔ ∃ j, j < n ∧ p j = true := by
  unfold ixR
  obtain ⟨s1, s2⟩ := fst_spec p n
  by_cases h : fst p n < n
  · rw [if_pos h]
    exact ⟨fun _ => ⟨_, h, s2 h⟩, fun _ => by omega⟩
  · rw [if_neg h]
    refine ⟨fun h => by omega, ?_⟩
    rintro ⟨j, hj, e⟩
    rw [s1 j (by omega)] at e
    cases e
set_option maxHeartbeats 8000000 in
set_option maxRecDepth 100000 in
theorem idxg_some (f : Nat) (cb : Array Value) (p : Nat → Bool) (eg : ∀ args w, (callFunc f args).run Tryd.prog w = .ok (.enter f args) w)
    (b off n cap : Nat) (l : List (Int × Int)) (w : World) (n1 : n ≤ 1000) (hb : b < w.heap.size)
    (hc : Hid (∀ j, j < n → w.cell? ⟨b, off + j * 2, none⟩ = some (.int .i64 (gX l j)) ∧ w.cell? ⟨b, off + j * 2 + 1, none⟩ = some (.int .i64 (gR l j))))
    (hp : Hid (∀ j W, j < n → Below w.heap.size w W → Calls Tryd.prog f (#[.agg #[.int .i64 (gX l j), .int .i64 (gR l j)]] ++ cb) W fun e w' => e = .returned (.bool (p j)) ∧ Below W.heap.size W w')) :
    Calls Tryd.prog 48 #[.slice (some ⟨b, off, none⟩) n cap, .func (.func f) #[] cb] w fun e w' => e = .returned (.int .i64 (ixR p n)) ∧ Below w.heap.size w w' := by
  go_enter Tryd.func48, Tryd.ntmps48
  go_wp2_with fail
  go_loopw [5, 8] (fun _ i wr => ∃ k : Nat, k ≤ n ∧ i = .int .i64 k ∧ Hid (Below w.heap.size w wr) ∧ Hid (∀ j, j < k → p j = false)) (fun _ i _ => n - (intOf i).toNat)
  case atStart => exact ⟨0, Nat.zero_le _, rfl, Below.refl _ _, fun j hj => by omega⟩
  case round =>
    obtain ⟨k, hk, rfl, hB, ha⟩ := hrel
    by_cases hlt : k < n
    · have c0 : wr.cell? ⟨b, off + k * 2, none⟩ = some (.int .i64 (gX l k)) := by rw [(bcell hB.out).1 _ _ hb]; exact (hc.out k hlt).1
      have c1 : wr.cell? ⟨b, off + k * 2 + 1, none⟩ = some (.int .i64 (gR l k)) := by rw [(bcell hB.out).1 _ _ hb]; exact (hc.out k hlt).2
      have HP := Lib.hid (fun W (hW : Below wr.heap.size wr W) => hp.out k W hlt (bel_trans hB.out hW))
      cases hq : p k with
      | true =>
        have hBt := Lib.hid (ixR_at hlt ha.out hq)
        rw [hq] at HP
        clear hq
        generalize gX l k = x at *
        generalize gR l k = r at *
        go_wp2_with fail
        refine (HP.out _ (by first | exact Below.refl _ _ | exact bel_alloc (Below.refl _ _) | exact bel_drew _ | exact bel_alloc (bel_alloc (Below.refl _ _)))).mono ?_
        rintro e w2 ⟨rfl, gg⟩
        have X := Lib.hid (bel_trans hB.out gg); clear gg
        go_wp2
        go_returns
        exact ⟨by rw [hBt.out]; rfl, X.out⟩
      | false =>
        have ha2 : Hid (∀ j, j < k + 1 → p j = false) := fun j hj => by
          by_cases e : j = k
          · rw [e]; exact hq
          · exact ha.out j (by omega)
        rw [hq] at HP
        clear hq ha
        generalize gX l k = x at c0 HP
        generalize gR l k = r at c1 HP
        go_wp2_with fail
        refine (HP.out _ (by first | exact Below.refl _ _ | exact bel_alloc (Below.refl _ _) | exact bel_drew _ | exact bel_alloc (bel_alloc (Below.refl _ _)))).mono ?_
        rintro e w2 ⟨rfl, gg⟩
        have X := Lib.hid (bel_trans hB.out gg); clear gg
        go_wp2
        go_roundw
        case rel => exact ⟨k + 1, by omega, by go_num, X, ha2⟩
        case measure => simp [intOf]; omega
    · obtain rfl : k = n := by omega
      have hBf := Lib.hid (ixR_no ha.out)
      go_wp2
      go_returns
      exact ⟨by rw [hBf.out]; rfl, hB.out⟩
set_option maxHeartbeats 8000000 in
theorem idxg_nil (f : Value) (a : Option Addr) (cap : Nat) (p : Nat → Bool) (w : World) :
    Calls Tryd.prog 48 #[.slice a 0 cap, f] w fun e w' => e = .returned (.int .i64 (ixR p 0)) ∧ Below w.heap.size w w' := by
  have hBf : Hid (ixR p 0 = -1) := Lib.hid (ixR_no fun j hj => by omega)
  go_enter Tryd.func48, Tryd.ntmps48
  go_wp2_with fail
  go_loopw [5, 8] (fun _ i wr => i = .int .i64 0 ∧ Hid (Below w.heap.size w wr)) (fun _ _ _ => 0)
  case atStart => exact ⟨rfl, Below.refl _ _⟩
  case round =>
    obtain ⟨rfl, hB⟩ := hrel
    go_wp2
    go_returns
    exact ⟨by rw [hBf.out]; rfl, hB.out⟩
theorem cong_of (f : Value) (v : Value) (a : Option Addr) (n cap : Nat) (hv : v = .slice a n cap) (p : Nat → Bool) (B : Bool) (w : World)
    (HI : Hid (Calls Tryd.prog 48 #[v, f] w fun e w' => e = .returned (.int .i64 (ixR p n)) ∧ Below w.heap.size w w'))
    (hB : Hid (B = true ↔ ∃ j, j < n ∧ p j = true)) :
    Calls Tryd.prog 27 #[v, f] w fun e w' => e = .returned (.bool B) ∧ Below w.heap.size w w' := by
  subst hv
  have h : decide (0 ≤ ixR p n) = B := by
    rw [Bool.eq_iff_iff, decide_eq_true_eq, ixR_iff]; exact hB.out.symm
  clear hB
  generalize ixR p n = k at *
  subst h
  go_enter Tryd.func27, Tryd.ntmps27
  go_wp2_with fail
  refine HI.out.mono ?_
  rintro e w1 ⟨rfl, hb⟩
  have HB := Lib.hid hb; clear hb
  go_wp2
  all_goals
    go_ret
    exact ⟨by simp_all, HB.out⟩
/-- IndexFunc over a slice that reads as marks -/
theorem idxg_any (f : Nat) (cb : Array Value) (p : Nat → Bool) (eg : ∀ args w, (callFunc f args).run Tryd.prog w = .ok (.enter f args) w)
    (v : Value) (l : List (Int × Int)) (w : World) (n1 : l.length ≤ 1000) (hv : Pts w v l)
    (hp : Hid (∀ j W, j < l.length → Below w.heap.size w W → Calls Tryd.prog f (#[.agg #[.int .i64 (gX l j), .int .i64 (gR l j)]] ++ cb) W fun e w' => e = .returned (.bool (p j)) ∧ Below W.heap.size W w')) :
    Calls Tryd.prog 48 #[v, .func (.func f) #[] cb] w fun e w' => e = .returned (.int .i64 (ixR p l.length)) ∧ Below w.heap.size w w' := by
  obtain ⟨a, cap, rfl, hcap, hh⟩ := hv
  rcases hh with h0 | ⟨b, off, rfl, hb, hc⟩
  · rw [h0]; exact idxg_nil _ a cap p w
  · exact idxg_some f cb p eg b off _ cap l w n1 hb (Lib.hid hc) hp
set_option maxHeartbeats 8000000 in
theorem inxg_any (v : Value) (l : List (Int × Int)) (x r : Int) (w : World) (n1 : l.length ≤ 1000) (hv : Pts w v l) :
    Calls Tryd.prog 47 #[v, .agg #[.int .i64 x, .int .i64 r]] w fun e w' => e = .returned (.int .i64 (ixR (fun j => samP x r (gX l j) (gR l j)) l.length)) ∧ Below w.heap.size w w' := by
  obtain ⟨a, cap, rfl, hl, hh⟩ := hv
  have HC : Hid (∀ k, k < l.length → ∃ b off, a = some ⟨b, off, none⟩ ∧ ∀ W, Below w.heap.size w W → W.cell? ⟨b, off + k * 2, none⟩ = some (.int .i64 (gX l k)) ∧ W.cell? ⟨b, off + k * 2 + 1, none⟩ = some (.int .i64 (gR l k))) := Lib.hid fun k hk => by
    rcases hh with hh | ⟨b, off, rfl, hb, hc⟩
    · omega
    · exact ⟨b, off, rfl, fun W hW => ⟨cell_bel (hc k hk).1 hW, cell_bel (hc k hk).2 hW⟩⟩
  obtain ⟨p, hp⟩ : ∃ p, p = (fun j => samP x r (gX l j) (gR l j)) := ⟨_, rfl⟩
  rw [← hp]
  replace hp := Lib.hid hp
  have T0 := Lib.hid (Two.new w (.int .i64 x) (.int .i64 r) 40)
  have X0 := Lib.hid (bel_alloc (w := w) (o := .cells #[.int .i64 x, .int .i64 r] 40) (Below.refl _ _))
  clear hh
  generalize hN : l.length = n at *
  replace hN := Lib.hid hN
  go_enter Tryd.func47, Tryd.ntmps47
  go_wp2_with fail
  generalize w.alloc (.cells #[.int .i64 x, .int .i64 r] 40) = W0 at *
  go_loopw [8] (fun i wr => ∃ k : Nat, k ≤ n ∧ i = .int .i64 k ∧ Hid (Below W0.heap.size W0 wr) ∧ Hid (∀ j, j < k → p j = false)) (fun i _ => n - (intOf i).toNat)
  case atStart => exact ⟨0, Nat.zero_le _, rfl, Below.refl _ _, fun j hj => by omega⟩
  case round =>
    obtain ⟨k, hk, rfl, hB, ha⟩ := hrel
    have XB := Lib.hid (bel_trans X0.out hB.out)
    by_cases hlt : k < n
    · obtain ⟨b, off, rfl, hcc⟩ := HC.out k hlt
      obtain ⟨c0, c1⟩ := hcc wr XB.out
      obtain ⟨t0, t1, _, _, _⟩ := T0.out.below hB.out
      have l0 : (k : Int) < (n : Int) := by omega
      have hpk : Hid (p k = samP x r (gX l k) (gR l k)) := Lib.hid (by rw [hp.out])
      have BD := Lib.hid (fun q => bel_drewN wr q)
      clear hcc
      cases hq : p k with
      | true =>
        have hBt := Lib.hid (ixR_at hlt ha.out hq)
        rw [hq] at hpk
        generalize gX l k = y at *
        generalize gR l k = s at *
        have Q : ∀ W, (binOp .eql 40 (.agg #[.int .i64 x, .int .i64 r]) (.agg #[.int .i64 y, .int .i64 s])).run Tryd.prog W = .ok (.bool true) W := fun W => by rw [run_eql_point, ← hpk.out]
        clear hq
        go_wp2_with fail
        go_quiet (fail)
        go_wp2
        go_returns
        exact ⟨by rw [hBt.out]; rfl, bel_trans XB.out (BD.out _)⟩
      | false =>
        have ha2 : Hid (∀ j, j < k + 1 → p j = false) := fun j hj => by
          by_cases e : j = k
          · rw [e]; exact hq
          · exact ha.out j (by omega)
        rw [hq] at hpk
        generalize gX l k = y at c0 hpk
        generalize gR l k = s at c1 hpk
        have Q : ∀ W, (binOp .eql 40 (.agg #[.int .i64 x, .int .i64 r]) (.agg #[.int .i64 y, .int .i64 s])).run Tryd.prog W = .ok (.bool false) W := fun W => by rw [run_eql_point, ← hpk.out]
        clear hq ha
        go_wp2_with fail
        go_quiet (fail)
        go_wp2
        go_roundw
        case rel => exact ⟨k + 1, by omega, by go_num, bel_trans hB.out (BD.out _), ha2⟩
        case measure => simp [intOf]; omega
    · obtain rfl : k = n := by omega
      have hBf := Lib.hid (ixR_no ha.out)
      go_wp2
      go_returns
      exact ⟨by rw [hBf.out]; rfl, XB.out⟩
set_option maxHeartbeats 8000000 in
/-- Contains -/
theorem hasg_any (v : Value) (l : List (Int × Int)) (x r : Int) (w : World) (n1 : l.length ≤ 1000) (hv : Pts w v l) :
    Calls Tryd.prog 26 #[v, .agg #[.int .i64 x, .int .i64 r]] w fun e w' => e = .returned (.bool (decide ((x, r) ∈ l))) ∧ Below w.heap.size w w' := by
  have h : decide (0 ≤ ixR (fun j => samP x r (gX l j) (gR l j)) l.length) = decide ((x, r) ∈ l) := by
    rw [Bool.eq_iff_iff, decide_eq_true_eq, decide_eq_true_eq, ixR_iff]
    constructor
    · rintro ⟨j, hj, e⟩
      simp only [samP, Bool.and_eq_true, beq_iff_eq] at e
      rw [e.1, e.2]; exact gx_mem hj
    · intro hm
      obtain ⟨i, hi, e1, e2⟩ := mem_gx hm
      exact ⟨i, hi, by simp only at e1 e2; simp [samP, e1, e2]⟩
  have HI := Lib.hid (fun W hW => inxg_any v l x r W n1 (hv.below hW))
  have X0 := Lib.hid (bel_alloc (w := w) (o := .cells #[.int .i64 x, .int .i64 r] 40) (Below.refl _ _))
  generalize ixR (fun j => samP x r (gX l j) (gR l j)) l.length = k at *
  generalize decide ((x, r) ∈ l) = B at *
  subst h
  go_enter Tryd.func26, Tryd.ntmps26
  go_wp2_with fail
  refine (HI.out _ X0.out).mono ?_
  rintro e w1 ⟨rfl, hb⟩
  have HB := Lib.hid (bel_trans X0.out hb); clear hb
  go_wp2
  go_returns
  exact ⟨rfl, HB.out⟩

end Go.Proofs.YtnoagfpffdalnaaDoor

namespace Go.Proofs.YtnoagfpffdalnaaDoor
open Go.RowKit

/-- an operation that is not wanted, and whose slot is empty, is passed over -/
theorem wpAnyH_pass {P : Program} {ops : Array Oper} {Q : Exit → Act → World → Prop} {md : Region.Mode} {S : World → Prop} (i : Nat) {oi : Oper} {fuel : Nat} {listed : Array Bool} {a : Act} {w : World} (hi : ops[i]? = some oi)
    (hs : Region.noSelect ops = true) (hf : Region.free md ops listed i = true) (hr : (Region.ready md ops listed).contains i = true)
    (hQ : ∀ c a w, Q (.panic c) (a.put oi.dst undef) w → Q (.panic c) a w) (hw : Region.wanted oi (yielded ops a.tmps) = false) (hp : a.put oi.dst undef = a) (hS : S w)
    (h : wpAnyH P md ops Q S fuel (listed.setIfInBounds i true) a w) : wpAnyH P md ops Q S (fuel + 1) listed a w :=
  wpAnyH_take hi hs hf hr hQ (Or.inr ⟨hw, rfl⟩) hS (by rw [hp]; exact h)
end Go.Proofs.YtnoagfpffdalnaaDoor

namespace Go.Proofs.YtnoagfpffdalnaaDoor.densityBetween
open Go.ChangeShapes Go.WideShapes Go.ChangeAt Go.RowKit
open Go.ChangeMaps (open_string shut_string)
set_option linter.unusedVariables false

theorem cut_mem {l : List (Int × Int)} {f t : Int} (h : cutE l f t = 0) {j : Nat} (hj : j < l.length) : (gX l j, gR l j) ∈ cutL l f t ↔ f ≤ gX l j ∧ gX l j ≤ t := by
  obtain ⟨hD, gf, gt, ft⟩ := cutE_zero.1 h
  obtain ⟨a1, a2, a3⟩ := rcN_spec hD f
  obtain ⟨b1, b2, b3⟩ := rcN_spec hD (t + 1)
  have e : cutL l f t = (l.take (rcN l (t + 1))).drop (rcN l f) := by unfold cutL; rw [if_pos h]
  have gj : ∀ i, i < l.length → l[i]? = some (gX l i, gR l i) := fun i hi => by
    unfold gX gR; simp only [List.getD_eq_getElem?_getD, List.getElem?_eq_getElem hi, Option.getD_some]
  rw [e, List.mem_iff_getElem?]
  constructor
  · rintro ⟨i, hi⟩
    rw [List.getElem?_drop, List.getElem?_take] at hi
    split at hi
    · rename_i q
      rw [gj _ (by omega)] at hi
      simp only [Option.some.injEq, Prod.mk.injEq] at hi
      have p1 := a3 (rcN l f + i) (by omega) (by omega)
      have p2 := b2 (rcN l f + i) q
      omega
    · cases hi
  · rintro ⟨h1, h2⟩
    have p1 : rcN l f ≤ j := by
      rcases Nat.lt_or_ge j (rcN l f) with g | g
      · have := a2 j g; omega
      · exact g
    have p2 : j < rcN l (t + 1) := by
      rcases Nat.lt_or_ge j (rcN l (t + 1)) with g | g
      · exact g
      · have := b3 j g hj; omega
    exact ⟨j - rcN l f, by rw [List.getElem?_drop, List.getElem?_take, if_pos (by omega), show rcN l f + (j - rcN l f) = j by omega, gj j hj]⟩
set_option maxHeartbeats 8000000 in
set_option maxRecDepth 100000 in
theorem long (a : Option Addr) (n cap : Nat) (f t : Int) (l : List (Int × Int)) (w : World) (HV : Hid (CV w)) (NV : Hid (Pts w (.slice a n cap) l)) (hf : fwB l.length = false) :
    Calls Tryd.prog 8 #[.slice a n cap, .int .i64 f, .int .i64 t] w fun e w' => e = .returned (.bool true) ∧ Below w.heap.size w w' := by
  have FW := Lib.hid (fun v W h => few_any v l W h)
  rw [hf] at FW
  have HB := Lib.hid (Below.refl w.heap.size w)
  go_enter Tryd.func8, Tryd.ntmps8
  go_wp2_with fail
  refine (nawake_any w HV.out).mono ?_
  rintro e w0 ⟨rfl, h1⟩
  replace NV := Lib.hid (NV.out.below h1)
  replace HB := Lib.hid (bel_trans HB.out h1); clear h1
  go_wp2_with fail
  refine (FW.out _ _ NV.out).mono ?_
  rintro e w90 ⟨rfl, hw⟩
  subst hw
  go_wp2
  go_returns
  exact ⟨rfl, HB.out⟩
set_option maxHeartbeats 8000000 in
set_option maxRecDepth 100000 in
theorem bad (a : Option Addr) (n cap : Nat) (f t E : Int) (l : List (Int × Int)) (w : World) (HV : Hid (CV w)) (NV : Hid (Pts w (.slice a n cap) l)) (hf : fwB l.length = true) (hE : (E != 0) = true)
    (C1 : Hid (∀ W, Pts W (.slice a n cap) l → Calls Tryd.prog 14 #[.slice a n cap, .int .i64 f] W fun e w' => e = .returned (.tuple #[.int .i64 0, .int .i64 E]) ∧ Below W.heap.size W w')) :
    Calls Tryd.prog 8 #[.slice a n cap, .int .i64 f, .int .i64 t] w fun e w' => e = .returned (.bool true) ∧ Below w.heap.size w w' := by
  have FW := Lib.hid (fun v W h => few_any v l W h)
  rw [hf] at FW
  have HB := Lib.hid (Below.refl w.heap.size w)
  go_enter Tryd.func8, Tryd.ntmps8
  go_wp2_with fail
  refine (nawake_any w HV.out).mono ?_
  rintro e w0 ⟨rfl, h1⟩
  replace NV := Lib.hid (NV.out.below h1)
  replace HB := Lib.hid (bel_trans HB.out h1); clear h1
  go_wp2_with fail
  refine (FW.out _ _ NV.out).mono ?_
  rintro e w90 ⟨rfl, hw⟩
  subst hw
  go_wp2_with fail
  refine (C1.out _ NV.out).mono ?_
  rintro e w7 ⟨rfl, h1⟩
  replace NV := Lib.hid (NV.out.below h1)
  replace HB := Lib.hid (bel_trans HB.out h1); clear h1
  go_wp2
  go_returns
  exact ⟨rfl, HB.out⟩
set_option maxHeartbeats 16000000 in
set_option maxRecDepth 100000 in
theorem noA (a : Option Addr) (n cap : Nat) (f t E : Int) (k : Nat) (LC : List (Int × Int)) (l : List (Int × Int)) (w : World) (HV : Hid (CV w)) (NV : Hid (Pts w (.slice a n cap) l)) (hf : fwB l.length = true) (hE : (E != 0) = true) (hlc : LC.length = 0) (d5 : decide (t < f) = true) (n1 : n ≤ 128) (hk : k < n) (g0 : gX l k ≤ f) (g1 : k + 1 < n → f < gX l (k + 1)) (bf : 0 ≤ f ∧ f ≤ 10000)
    (C1 : Hid (∀ W, Pts W (.slice a n cap) l → Calls Tryd.prog 14 #[.slice a n cap, .int .i64 f] W fun e w' => e = .returned (.tuple #[.int .i64 k, .int .i64 0]) ∧ Below W.heap.size W w'))
    (C2 : Hid (∀ W, Pts W (.slice a n cap) l → Calls Tryd.prog 16 #[.slice a n cap, .int .i64 f, .int .i64 t] W fun e w' => ∃ u, e = .returned (.tuple #[u, .int .i64 E]) ∧ Pts w' u LC ∧ Below W.heap.size W w')) :
    Calls Tryd.prog 8 #[.slice a n cap, .int .i64 f, .int .i64 t] w fun e w' => e = .returned (.bool true) ∧ Below w.heap.size w w' := by
  have l0 : (k : Int) < (n : Int) := by omega
  have d0 : decide (f < gX l k) = false := decide_eq_false (by omega)
  have d0' : decide ((n : Int) ≤ (k : Int)) = false := decide_eq_false (by omega)
  have dn3 : decide (n ≤ k) = false := decide_eq_false (by omega)
  have dk9 : decide ((k : Int) < 0) = false := decide_eq_false (by omega)
  have wk : IntKind.i64.wrap ((k : Int) + 1) = ((k + 1 : Nat) : Int) := by rw [wrap_in _ ⟨by omega, by omega⟩]; omega
  have FW := Lib.hid (fun v W h => few_any v l W h)
  rw [hf] at FW
  have HB := Lib.hid (Below.refl w.heap.size w)
  go_enter Tryd.func8, Tryd.ntmps8
  go_wp2_with fail
  refine (nawake_any w HV.out).mono ?_
  rintro e w0 ⟨rfl, h1⟩
  replace NV := Lib.hid (NV.out.below h1)
  replace HB := Lib.hid (bel_trans HB.out h1); clear h1
  go_wp2_with fail
  refine (FW.out _ _ NV.out).mono ?_
  rintro e w90 ⟨rfl, hw⟩
  subst hw
  go_wp2_with fail
  refine (C1.out _ NV.out).mono ?_
  rintro e w11 ⟨rfl, h1⟩
  replace NV := Lib.hid (NV.out.below h1)
  replace HB := Lib.hid (bel_trans HB.out h1); clear h1
  obtain ⟨b, off, rfl, hb, hc⟩ := NV.out.at (by omega)
  have c0 := (hc k hk).1
  have HC := Lib.hid hc
  by_cases hk1 : k + 1 < n
  · have c1 := (hc (k + 1) hk1).1
    have g1 := g1 hk1
    have d1 : decide (gX l (k + 1) ≤ f) = false := decide_eq_false (by omega)
    have l1 : ((k + 1 : Nat) : Int) < (n : Int) := by omega
    have l2 : decide (((k + 1 : Nat) : Int) < (n : Int)) = true := decide_eq_true l1
    clear hc
    generalize gX l k = y0 at *
    generalize gX l (k + 1) = y1 at *
    generalize hq : k + 1 = k1 at *
    go_wp2_with fail
    refine (C2.out _ NV.out).mono ?_
    rintro e w60 ⟨u, rfl, hu, h1⟩
    replace NV := Lib.hid (NV.out.below h1)
    replace HB := Lib.hid (bel_trans HB.out h1); clear h1
    have NU := Lib.hid hu
    obtain ⟨a2, cap2, rfl, _, _⟩ := hu.shape
    clear hu HC c0 c1
    have hl0 := hlc
    generalize LC.length = m at *
    subst hl0
    go_wp2
    go_returns
    exact ⟨rfl, HB.out⟩
  · have l2 : decide (((k + 1 : Nat) : Int) < (n : Int)) = false := decide_eq_false (by omega)
    clear hc
    generalize gX l k = y0 at *
    generalize hq : k + 1 = k1 at *
    go_wp2_with fail
    refine (C2.out _ NV.out).mono ?_
    rintro e w60 ⟨u, rfl, hu, h1⟩
    replace NV := Lib.hid (NV.out.below h1)
    replace HB := Lib.hid (bel_trans HB.out h1); clear h1
    have NU := Lib.hid hu
    obtain ⟨a2, cap2, rfl, _, _⟩ := hu.shape
    clear hu HC c0
    have hl0 := hlc
    generalize LC.length = m at *
    subst hl0
    go_wp2
    go_returns
    exact ⟨rfl, HB.out⟩
set_option maxHeartbeats 16000000 in
set_option maxRecDepth 100000 in
theorem noB (a : Option Addr) (n cap : Nat) (f t E : Int) (k : Nat) (LC : List (Int × Int)) (l : List (Int × Int)) (w : World) (HV : Hid (CV w)) (NV : Hid (Pts w (.slice a n cap) l)) (hf : fwB l.length = true) (hE : (E != 0) = true) (hlc : LC.length = 0) (d5 : decide (t < f) = false) (d6 : decide (10000 < t) = true) (n1 : n ≤ 128) (hk : k < n) (g0 : gX l k ≤ f) (g1 : k + 1 < n → f < gX l (k + 1)) (bf : 0 ≤ f ∧ f ≤ 10000)
    (C1 : Hid (∀ W, Pts W (.slice a n cap) l → Calls Tryd.prog 14 #[.slice a n cap, .int .i64 f] W fun e w' => e = .returned (.tuple #[.int .i64 k, .int .i64 0]) ∧ Below W.heap.size W w'))
    (C2 : Hid (∀ W, Pts W (.slice a n cap) l → Calls Tryd.prog 16 #[.slice a n cap, .int .i64 f, .int .i64 t] W fun e w' => ∃ u, e = .returned (.tuple #[u, .int .i64 E]) ∧ Pts w' u LC ∧ Below W.heap.size W w')) :
    Calls Tryd.prog 8 #[.slice a n cap, .int .i64 f, .int .i64 t] w fun e w' => e = .returned (.bool true) ∧ Below w.heap.size w w' := by
  have l0 : (k : Int) < (n : Int) := by omega
  have d0 : decide (f < gX l k) = false := decide_eq_false (by omega)
  have d0' : decide ((n : Int) ≤ (k : Int)) = false := decide_eq_false (by omega)
  have dn3 : decide (n ≤ k) = false := decide_eq_false (by omega)
  have dk9 : decide ((k : Int) < 0) = false := decide_eq_false (by omega)
  have wk : IntKind.i64.wrap ((k : Int) + 1) = ((k + 1 : Nat) : Int) := by rw [wrap_in _ ⟨by omega, by omega⟩]; omega
  have FW := Lib.hid (fun v W h => few_any v l W h)
  rw [hf] at FW
  have HB := Lib.hid (Below.refl w.heap.size w)
  go_enter Tryd.func8, Tryd.ntmps8
  go_wp2_with fail
  refine (nawake_any w HV.out).mono ?_
  rintro e w0 ⟨rfl, h1⟩
  replace NV := Lib.hid (NV.out.below h1)
  replace HB := Lib.hid (bel_trans HB.out h1); clear h1
  go_wp2_with fail
  refine (FW.out _ _ NV.out).mono ?_
  rintro e w90 ⟨rfl, hw⟩
  subst hw
  go_wp2_with fail
  refine (C1.out _ NV.out).mono ?_
  rintro e w15 ⟨rfl, h1⟩
  replace NV := Lib.hid (NV.out.below h1)
  replace HB := Lib.hid (bel_trans HB.out h1); clear h1
  obtain ⟨b, off, rfl, hb, hc⟩ := NV.out.at (by omega)
  have c0 := (hc k hk).1
  have HC := Lib.hid hc
  by_cases hk1 : k + 1 < n
  · have c1 := (hc (k + 1) hk1).1
    have g1 := g1 hk1
    have d1 : decide (gX l (k + 1) ≤ f) = false := decide_eq_false (by omega)
    have l1 : ((k + 1 : Nat) : Int) < (n : Int) := by omega
    have l2 : decide (((k + 1 : Nat) : Int) < (n : Int)) = true := decide_eq_true l1
    clear hc
    generalize gX l k = y0 at *
    generalize gX l (k + 1) = y1 at *
    generalize hq : k + 1 = k1 at *
    go_wp2_with fail
    refine (C2.out _ NV.out).mono ?_
    rintro e w60 ⟨u, rfl, hu, h1⟩
    replace NV := Lib.hid (NV.out.below h1)
    replace HB := Lib.hid (bel_trans HB.out h1); clear h1
    have NU := Lib.hid hu
    obtain ⟨a2, cap2, rfl, _, _⟩ := hu.shape
    clear hu HC c0 c1
    have hl0 := hlc
    generalize LC.length = m at *
    subst hl0
    go_wp2
    go_returns
    exact ⟨rfl, HB.out⟩
  · have l2 : decide (((k + 1 : Nat) : Int) < (n : Int)) = false := decide_eq_false (by omega)
    clear hc
    generalize gX l k = y0 at *
    generalize hq : k + 1 = k1 at *
    go_wp2_with fail
    refine (C2.out _ NV.out).mono ?_
    rintro e w60 ⟨u, rfl, hu, h1⟩
    replace NV := Lib.hid (NV.out.below h1)
    replace HB := Lib.hid (bel_trans HB.out h1); clear h1
    have NU := Lib.hid hu
    obtain ⟨a2, cap2, rfl, _, _⟩ := hu.shape
    clear hu HC c0
    have hl0 := hlc
    generalize LC.length = m at *
    subst hl0
    go_wp2
    go_returns
    exact ⟨rfl, HB.out⟩
set_option maxHeartbeats 32000000 in
set_option maxRecDepth 100000 in
theorem good (a : Option Addr) (n cap : Nat) (f t : Int) (k : Nat) (LC : List (Int × Int)) (l : List (Int × Int)) (w : World) (HV : Hid (CV w)) (NV : Hid (Pts w (.slice a n cap) l)) (hf : fwB l.length = true) (zc : LC.length ≤ 1000) (zl : LC.length ≤ n) (hM : Hid (∀ j, j < n → (decide ((gX l j, gR l j) ∈ LC) = true ↔ f ≤ gX l j ∧ gX l j ≤ t))) (n1 : n ≤ 128) (hk : k < n) (g0 : gX l k ≤ f) (g1 : k + 1 < n → f < gX l (k + 1)) (bf : 0 ≤ f ∧ f ≤ 10000)
    (C1 : Hid (∀ W, Pts W (.slice a n cap) l → Calls Tryd.prog 14 #[.slice a n cap, .int .i64 f] W fun e w' => e = .returned (.tuple #[.int .i64 k, .int .i64 0]) ∧ Below W.heap.size W w'))
    (C2 : Hid (∀ W, Pts W (.slice a n cap) l → Calls Tryd.prog 16 #[.slice a n cap, .int .i64 f, .int .i64 t] W fun e w' => ∃ u, e = .returned (.tuple #[u, .int .i64 0]) ∧ Pts w' u LC ∧ Below W.heap.size W w')) :
    Calls Tryd.prog 8 #[.slice a n cap, .int .i64 f, .int .i64 t] w fun e w' => e = .returned (.bool true) ∧ Below w.heap.size w w' := by
  have l0 : (k : Int) < (n : Int) := by omega
  have d0 : decide (f < gX l k) = false := decide_eq_false (by omega)
  have d0' : decide ((n : Int) ≤ (k : Int)) = false := decide_eq_false (by omega)
  have dn3 : decide (n ≤ k) = false := decide_eq_false (by omega)
  have dk9 : decide ((k : Int) < 0) = false := decide_eq_false (by omega)
  have wk : IntKind.i64.wrap ((k : Int) + 1) = ((k + 1 : Nat) : Int) := by rw [wrap_in _ ⟨by omega, by omega⟩]; omega
  have FW := Lib.hid (fun v W h => few_any v l W h)
  rw [hf] at FW
  have HB := Lib.hid (Below.refl w.heap.size w)
  go_enter Tryd.func8, Tryd.ntmps8
  go_wp2_with fail
  refine (nawake_any w HV.out).mono ?_
  rintro e w0 ⟨rfl, h1⟩
  replace NV := Lib.hid (NV.out.below h1)
  replace HB := Lib.hid (bel_trans HB.out h1); clear h1
  go_wp2_with fail
  refine (FW.out _ _ NV.out).mono ?_
  rintro e w90 ⟨rfl, hw⟩
  subst hw
  go_wp2_with fail
  refine (C1.out _ NV.out).mono ?_
  rintro e w19 ⟨rfl, h1⟩
  replace NV := Lib.hid (NV.out.below h1)
  replace HB := Lib.hid (bel_trans HB.out h1); clear h1
  obtain ⟨b, off, rfl, hb, hc⟩ := NV.out.at (by omega)
  have c0 := (hc k hk).1
  have HC := Lib.hid hc
  by_cases hk1 : k + 1 < n
  · have c1 := (hc (k + 1) hk1).1
    have g1 := g1 hk1
    have d1 : decide (gX l (k + 1) ≤ f) = false := decide_eq_false (by omega)
    have l1 : ((k + 1 : Nat) : Int) < (n : Int) := by omega
    have l2 : decide (((k + 1 : Nat) : Int) < (n : Int)) = true := decide_eq_true l1
    clear hc
    generalize gX l k = y0 at *
    generalize gX l (k + 1) = y1 at *
    generalize hq : k + 1 = k1 at *
    go_wp2_with fail
    refine (C2.out _ NV.out).mono ?_
    rintro e w60 ⟨u, rfl, hu, h1⟩
    replace NV := Lib.hid (NV.out.below h1)
    replace HB := Lib.hid (bel_trans HB.out h1); clear h1
    have NU := Lib.hid hu
    obtain ⟨a2, cap2, rfl, _, _⟩ := hu.shape
    clear hu HC c0 c1
    replace hk := Lib.hid hk
    obtain ⟨b', off', eb, hb2, hc2⟩ := NV.out.at (by have := hk.out; omega)
    simp only [Option.some.injEq, Addr.mk.injEq] at eb
    obtain ⟨rfl, rfl, _⟩ := eb
    have HC := Lib.hid hc2; clear hc2
    have dl : decide ((LC.length : Int) ≤ (n : Int)) = true := decide_eq_true (by omega)
    go_wp2_with fail
    go_loopw [85] (fun ii wr => ∃ j : Nat, j ≤ n ∧ ii = .int .i64 (j : Int) ∧ Hid (Below w60.heap.size w60 wr)) (fun ii _ => n - (intOf ii).toNat)
    case atStart => exact ⟨0, Nat.zero_le _, rfl, Below.refl _ _⟩
    case round =>
      obtain ⟨j, hj, rfl, hR⟩ := hrel
      by_cases hlt : j < n
      · have l9 : (j : Int) < (n : Int) := by omega
        obtain ⟨q0, q1⟩ := HC.out j hlt
        replace q0 := cell_bel q0 hR.out
        replace q1 := cell_bel q1 hR.out
        have HM := Lib.hid (hM.out j hlt)
        generalize gX l j = x at *
        generalize gR l j = r at *
        have HH := Lib.hid (fun W h => hasg_any (.slice a2 LC.length cap2) LC x r W zc h)
        generalize decide ((x, r) ∈ LC) = B at *
        have NR := Lib.hid (NU.out.below hR.out)
        have T1 := Lib.hid ((Two.new wr (.int .i64 x) (.int .i64 r) 40).below (bel_drew _))
        have XR : Hid (Below w60.heap.size w60 (wr.alloc (.cells #[.int .i64 x, .int .i64 r] 40)).drew) := Lib.hid (bel_trans hR.out (bel_alloc (bel_drew _)))
        replace NR := Lib.hid ((NR.out.alloc (.cells #[.int .i64 x, .int .i64 r] 40)).below (bel_drew _))
        obtain ⟨t0, t1, _, _, _⟩ := T1.out
        by_cases e1 : f ≤ x
        · have e1' : decide (f ≤ x) = true := decide_eq_true e1
          by_cases e2 : x ≤ t
          · have e2' : decide (x ≤ t) = true := decide_eq_true e2
            obtain rfl : B = true := HM.out.2 ⟨e1, e2⟩
            clear HM e1 e2
            go_wp2_with fail
            go_region_held3 (fun w' => w'.cell? ⟨wr.heap.size, 0, none⟩ = some (.int .i64 x) ∧ w'.cell? ⟨wr.heap.size, 1, none⟩ = some (.int .i64 r)) (go_keep) (first
              | (go_at_call 26; (with_reducible refine (HH.out _ NR.out).mono ?_); rintro e w71 ⟨rfl, h1⟩; replace T1 := Lib.hid (T1.out.below h1); replace XR := Lib.hid (bel_trans XR.out h1); obtain ⟨t0, t1, _, _, _⟩ := T1.out; clear h1))
            all_goals
              go_wp2
              go_roundw
              case rel => exact ⟨j + 1, by omega, by go_num, XR⟩
              case measure => simp [intOf]; omega
          · have e2' : decide (x ≤ t) = false := decide_eq_false e2
            obtain rfl : B = false := by
              cases B with
              | false => rfl
              | true => exact absurd (HM.out.1 rfl).2 e2
            clear HM e1 e2
            go_wp2_with fail
            go_region_held3 (fun w' => w'.cell? ⟨wr.heap.size, 0, none⟩ = some (.int .i64 x) ∧ w'.cell? ⟨wr.heap.size, 1, none⟩ = some (.int .i64 r)) (go_keep) (first
              | (go_at_call 26; (with_reducible refine (HH.out _ NR.out).mono ?_); rintro e w71 ⟨rfl, h1⟩; replace T1 := Lib.hid (T1.out.below h1); replace XR := Lib.hid (bel_trans XR.out h1); obtain ⟨t0, t1, _, _, _⟩ := T1.out; clear h1))
            all_goals
              go_wp2
              go_roundw
              case rel => exact ⟨j + 1, by omega, by go_num, XR⟩
              case measure => simp [intOf]; omega
        · have e1' : decide (f ≤ x) = false := decide_eq_false e1
          obtain rfl : B = false := by
            cases B with
            | false => rfl
            | true => exact absurd (HM.out.1 rfl).1 e1
          clear HM e1
          go_wp2_with fail
          refine wp_region_held_drew (S := (fun w' => w'.cell? ⟨wr.heap.size, 0, none⟩ = some (.int .i64 x) ∧ w'.cell? ⟨wr.heap.size, 1, none⟩ = some (.int .i64 r))) (by kernel_rfl) (by go_keep) (fun hHeld => ?_)
          refine wpAnyH_take (i := 0) (v := ?_) rfl (by kernel_rfl) (by kernel_rfl) (by kernel_rfl) (fun _ _ _ h => h) (Or.inl ⟨by rfl, ?_⟩) (by assumption) ?_
          rotate_left
          · intro w hSw; (try dsimp only at hSw); go_simp; try (with_reducible rfl)
          try simp only [Act.put, List.setIfInBounds_toArray, List.set_cons_zero, List.set_cons_succ]
          refine wpAnyH_take (i := 1) (v := ?_) rfl (by kernel_rfl) (by kernel_rfl) (by kernel_rfl) (fun _ _ _ h => h) (Or.inl ⟨by rfl, ?_⟩) (by assumption) ?_
          rotate_left
          · intro w hSw; (try dsimp only at hSw); go_simp; try (with_reducible rfl)
          try simp only [Act.put, List.setIfInBounds_toArray, List.set_cons_zero, List.set_cons_succ]
          refine wpAnyH_take (i := 3) (v := ?_) rfl (by kernel_rfl) (by kernel_rfl) (by kernel_rfl) (fun _ _ _ h => h) (Or.inl ⟨by rfl, ?_⟩) (by assumption) ?_
          rotate_left
          · intro w hSw; (try dsimp only at hSw); go_simp; try (with_reducible rfl)
          try simp only [Act.put, List.setIfInBounds_toArray, List.set_cons_zero, List.set_cons_succ]
          refine wpAnyH_take (i := 4) (v := ?_) rfl (by kernel_rfl) (by kernel_rfl) (by kernel_rfl) (fun _ _ _ h => h) (Or.inl ⟨by rfl, ?_⟩) (by assumption) ?_
          rotate_left
          · intro w hSw; (try dsimp only at hSw); go_simp; try (with_reducible rfl)
          try simp only [Act.put, List.setIfInBounds_toArray, List.set_cons_zero, List.set_cons_succ]
          refine wpAnyH_take (i := 5) (v := ?_) rfl (by kernel_rfl) (by kernel_rfl) (by kernel_rfl) (fun _ _ _ h => h) (Or.inl ⟨by rfl, ?_⟩) (by assumption) ?_
          rotate_left
          · intro w hSw; (try dsimp only at hSw); go_simp; try (with_reducible rfl)
          try simp only [Act.put, List.setIfInBounds_toArray, List.set_cons_zero, List.set_cons_succ]
          refine wpAnyH_take (i := 6) (v := ?_) rfl (by kernel_rfl) (by kernel_rfl) (by kernel_rfl) (fun _ _ _ h => h) (Or.inl ⟨by rfl, ?_⟩) (by assumption) ?_
          rotate_left
          · intro w hSw; (try dsimp only at hSw); go_simp; try (with_reducible rfl)
          try simp only [Act.put, List.setIfInBounds_toArray, List.set_cons_zero, List.set_cons_succ]
          refine wpAnyH_ready (rs := [2]) (by kernel_rfl) (by simp) ?_
          refine AllReadyH.cons rfl (fun K hK => ?_) AllReadyH.nil
          go_simp
          refine (HH.out _ NR.out).mono ?_
          rintro e w71 ⟨rfl, h1⟩
          replace T1 := Lib.hid (T1.out.below h1)
          replace XR := Lib.hid (bel_trans XR.out h1)
          obtain ⟨t0, t1, _, _, _⟩ := T1.out
          clear h1
          refine hK.out _ _ (by first | go_keep | (simp [*])) (fun hHeld => ?_)
          clear hK K
          try simp only [Act.put, List.setIfInBounds_toArray, List.set_cons_zero, List.set_cons_succ]
          refine wpAnyH_take (i := 7) (v := ?_) rfl (by kernel_rfl) (by kernel_rfl) (by kernel_rfl) (fun _ _ _ h => h) (Or.inl ⟨by rfl, ?_⟩) (by assumption) ?_
          rotate_left
          · intro w hSw; (try dsimp only at hSw); go_simp; try (with_reducible rfl)
          try simp only [Act.put, List.setIfInBounds_toArray, List.set_cons_zero, List.set_cons_succ]
          try rw [e1']
          refine wpAnyH_take (i := 8) (v := undef) rfl (by kernel_rfl) (by kernel_rfl) (by kernel_rfl) (fun _ _ _ h => h) (Or.inr ⟨by rfl, rfl⟩) (by assumption) ?_
          try simp only [Act.put, List.setIfInBounds_toArray, List.set_cons_zero, List.set_cons_succ]
          refine wpAnyH_take (i := 9) (v := undef) rfl (by kernel_rfl) (by kernel_rfl) (by kernel_rfl) (fun _ _ _ h => h) (Or.inr ⟨by rfl, rfl⟩) (by assumption) ?_
          try simp only [Act.put, List.setIfInBounds_toArray, List.set_cons_zero, List.set_cons_succ]
          refine wpAnyH_take (i := 10) (v := undef) rfl (by kernel_rfl) (by kernel_rfl) (by kernel_rfl) (fun _ _ _ h => h) (Or.inr ⟨by rfl, rfl⟩) (by assumption) ?_
          try simp only [Act.put, List.setIfInBounds_toArray, List.set_cons_zero, List.set_cons_succ]
          refine wpAnyH_take (i := 11) (v := undef) rfl (by kernel_rfl) (by kernel_rfl) (by kernel_rfl) (fun _ _ _ h => h) (Or.inr ⟨by rfl, rfl⟩) (by assumption) ?_
          try simp only [Act.put, List.setIfInBounds_toArray, List.set_cons_zero, List.set_cons_succ]
          refine wpAnyH_take (i := 12) (v := ?_) rfl (by kernel_rfl) (by kernel_rfl) (by kernel_rfl) (fun _ _ _ h => h) (Or.inl ⟨by rfl, ?_⟩) (by assumption) ?_
          rotate_left
          · intro w hSw; (try dsimp only at hSw); go_simp; try (with_reducible rfl)
          try simp only [Act.put, List.setIfInBounds_toArray, List.set_cons_zero, List.set_cons_succ]
          refine wpAnyH_take (i := 13) (v := ?_) rfl (by kernel_rfl) (by kernel_rfl) (by kernel_rfl) (fun _ _ _ h => h) (Or.inl ⟨by rfl, ?_⟩) (by assumption) ?_
          rotate_left
          · intro w hSw; (try dsimp only at hSw); go_simp; try (with_reducible rfl)
          try simp only [Act.put, List.setIfInBounds_toArray, List.set_cons_zero, List.set_cons_succ]
          refine wpAnyH_done (by kernel_rfl) ?_ _
          all_goals
            go_wp2
            go_roundw
            case rel => exact ⟨j + 1, by omega, by go_num, XR⟩
            case measure => simp [intOf]; omega
      · obtain rfl : j = n := by omega
        have XX := Lib.hid (bel_trans HB.out hR.out)
        go_wp2
        go_returns
        exact ⟨rfl, XX.out⟩
  · have l2 : decide (((k + 1 : Nat) : Int) < (n : Int)) = false := decide_eq_false (by omega)
    clear hc
    generalize gX l k = y0 at *
    generalize hq : k + 1 = k1 at *
    go_wp2_with fail
    refine (C2.out _ NV.out).mono ?_
    rintro e w60 ⟨u, rfl, hu, h1⟩
    replace NV := Lib.hid (NV.out.below h1)
    replace HB := Lib.hid (bel_trans HB.out h1); clear h1
    have NU := Lib.hid hu
    obtain ⟨a2, cap2, rfl, _, _⟩ := hu.shape
    clear hu HC c0
    replace hk := Lib.hid hk
    obtain ⟨b', off', eb, hb2, hc2⟩ := NV.out.at (by have := hk.out; omega)
    simp only [Option.some.injEq, Addr.mk.injEq] at eb
    obtain ⟨rfl, rfl, _⟩ := eb
    have HC := Lib.hid hc2; clear hc2
    have dl : decide ((LC.length : Int) ≤ (n : Int)) = true := decide_eq_true (by omega)
    go_wp2_with fail
    go_loopw [85] (fun ii wr => ∃ j : Nat, j ≤ n ∧ ii = .int .i64 (j : Int) ∧ Hid (Below w60.heap.size w60 wr)) (fun ii _ => n - (intOf ii).toNat)
    case atStart => exact ⟨0, Nat.zero_le _, rfl, Below.refl _ _⟩
    case round =>
      obtain ⟨j, hj, rfl, hR⟩ := hrel
      by_cases hlt : j < n
      · have l9 : (j : Int) < (n : Int) := by omega
        obtain ⟨q0, q1⟩ := HC.out j hlt
        replace q0 := cell_bel q0 hR.out
        replace q1 := cell_bel q1 hR.out
        have HM := Lib.hid (hM.out j hlt)
        generalize gX l j = x at *
        generalize gR l j = r at *
        have HH := Lib.hid (fun W h => hasg_any (.slice a2 LC.length cap2) LC x r W zc h)
        generalize decide ((x, r) ∈ LC) = B at *
        have NR := Lib.hid (NU.out.below hR.out)
        have T1 := Lib.hid ((Two.new wr (.int .i64 x) (.int .i64 r) 40).below (bel_drew _))
        have XR : Hid (Below w60.heap.size w60 (wr.alloc (.cells #[.int .i64 x, .int .i64 r] 40)).drew) := Lib.hid (bel_trans hR.out (bel_alloc (bel_drew _)))
        replace NR := Lib.hid ((NR.out.alloc (.cells #[.int .i64 x, .int .i64 r] 40)).below (bel_drew _))
        obtain ⟨t0, t1, _, _, _⟩ := T1.out
        by_cases e1 : f ≤ x
        · have e1' : decide (f ≤ x) = true := decide_eq_true e1
          by_cases e2 : x ≤ t
          · have e2' : decide (x ≤ t) = true := decide_eq_true e2
            obtain rfl : B = true := HM.out.2 ⟨e1, e2⟩
            clear HM e1 e2
            go_wp2_with fail
            go_region_held3 (fun w' => w'.cell? ⟨wr.heap.size, 0, none⟩ = some (.int .i64 x) ∧ w'.cell? ⟨wr.heap.size, 1, none⟩ = some (.int .i64 r)) (go_keep) (first
              | (go_at_call 26; (with_reducible refine (HH.out _ NR.out).mono ?_); rintro e w71 ⟨rfl, h1⟩; replace T1 := Lib.hid (T1.out.below h1); replace XR := Lib.hid (bel_trans XR.out h1); obtain ⟨t0, t1, _, _, _⟩ := T1.out; clear h1))
            all_goals
              go_wp2
              go_roundw
              case rel => exact ⟨j + 1, by omega, by go_num, XR⟩
              case measure => simp [intOf]; omega
          · have e2' : decide (x ≤ t) = false := decide_eq_false e2
            obtain rfl : B = false := by
              cases B with
              | false => rfl
              | true => exact absurd (HM.out.1 rfl).2 e2
            clear HM e1 e2
            go_wp2_with fail
            go_region_held3 (fun w' => w'.cell? ⟨wr.heap.size, 0, none⟩ = some (.int .i64 x) ∧ w'.cell? ⟨wr.heap.size, 1, none⟩ = some (.int .i64 r)) (go_keep) (first
              | (go_at_call 26; (with_reducible refine (HH.out _ NR.out).mono ?_); rintro e w71 ⟨rfl, h1⟩; replace T1 := Lib.hid (T1.out.below h1); replace XR := Lib.hid (bel_trans XR.out h1); obtain ⟨t0, t1, _, _, _⟩ := T1.out; clear h1))
            all_goals
              go_wp2
              go_roundw
              case rel => exact ⟨j + 1, by omega, by go_num, XR⟩
              case measure => simp [intOf]; omega
        · have e1' : decide (f ≤ x) = false := decide_eq_false e1
          obtain rfl : B = false := by
            cases B with
            | false => rfl
            | true => exact absurd (HM.out.1 rfl).1 e1
          clear HM e1
          go_wp2_with fail
          refine wp_region_held_drew (S := (fun w' => w'.cell? ⟨wr.heap.size, 0, none⟩ = some (.int .i64 x) ∧ w'.cell? ⟨wr.heap.size, 1, none⟩ = some (.int .i64 r))) (by kernel_rfl) (by go_keep) (fun hHeld => ?_)
          refine wpAnyH_take (i := 0) (v := ?_) rfl (by kernel_rfl) (by kernel_rfl) (by kernel_rfl) (fun _ _ _ h => h) (Or.inl ⟨by rfl, ?_⟩) (by assumption) ?_
          rotate_left
          · intro w hSw; (try dsimp only at hSw); go_simp; try (with_reducible rfl)
          try simp only [Act.put, List.setIfInBounds_toArray, List.set_cons_zero, List.set_cons_succ]
          refine wpAnyH_take (i := 1) (v := ?_) rfl (by kernel_rfl) (by kernel_rfl) (by kernel_rfl) (fun _ _ _ h => h) (Or.inl ⟨by rfl, ?_⟩) (by assumption) ?_
          rotate_left
          · intro w hSw; (try dsimp only at hSw); go_simp; try (with_reducible rfl)
          try simp only [Act.put, List.setIfInBounds_toArray, List.set_cons_zero, List.set_cons_succ]
          refine wpAnyH_take (i := 3) (v := ?_) rfl (by kernel_rfl) (by kernel_rfl) (by kernel_rfl) (fun _ _ _ h => h) (Or.inl ⟨by rfl, ?_⟩) (by assumption) ?_
          rotate_left
          · intro w hSw; (try dsimp only at hSw); go_simp; try (with_reducible rfl)
          try simp only [Act.put, List.setIfInBounds_toArray, List.set_cons_zero, List.set_cons_succ]
          refine wpAnyH_take (i := 4) (v := ?_) rfl (by kernel_rfl) (by kernel_rfl) (by kernel_rfl) (fun _ _ _ h => h) (Or.inl ⟨by rfl, ?_⟩) (by assumption) ?_
          rotate_left
          · intro w hSw; (try dsimp only at hSw); go_simp; try (with_reducible rfl)
          try simp only [Act.put, List.setIfInBounds_toArray, List.set_cons_zero, List.set_cons_succ]
          refine wpAnyH_take (i := 5) (v := ?_) rfl (by kernel_rfl) (by kernel_rfl) (by kernel_rfl) (fun _ _ _ h => h) (Or.inl ⟨by rfl, ?_⟩) (by assumption) ?_
          rotate_left
          · intro w hSw; (try dsimp only at hSw); go_simp; try (with_reducible rfl)
          try simp only [Act.put, List.setIfInBounds_toArray, List.set_cons_zero, List.set_cons_succ]
          refine wpAnyH_take (i := 6) (v := ?_) rfl (by kernel_rfl) (by kernel_rfl) (by kernel_rfl) (fun _ _ _ h => h) (Or.inl ⟨by rfl, ?_⟩) (by assumption) ?_
          rotate_left
          · intro w hSw; (try dsimp only at hSw); go_simp; try (with_reducible rfl)
          try simp only [Act.put, List.setIfInBounds_toArray, List.set_cons_zero, List.set_cons_succ]
          refine wpAnyH_ready (rs := [2]) (by kernel_rfl) (by simp) ?_
          refine AllReadyH.cons rfl (fun K hK => ?_) AllReadyH.nil
          go_simp
          refine (HH.out _ NR.out).mono ?_
          rintro e w71 ⟨rfl, h1⟩
          replace T1 := Lib.hid (T1.out.below h1)
          replace XR := Lib.hid (bel_trans XR.out h1)
          obtain ⟨t0, t1, _, _, _⟩ := T1.out
          clear h1
          refine hK.out _ _ (by first | go_keep | (simp [*])) (fun hHeld => ?_)
          clear hK K
          try simp only [Act.put, List.setIfInBounds_toArray, List.set_cons_zero, List.set_cons_succ]
          refine wpAnyH_take (i := 7) (v := ?_) rfl (by kernel_rfl) (by kernel_rfl) (by kernel_rfl) (fun _ _ _ h => h) (Or.inl ⟨by rfl, ?_⟩) (by assumption) ?_
          rotate_left
          · intro w hSw; (try dsimp only at hSw); go_simp; try (with_reducible rfl)
          try simp only [Act.put, List.setIfInBounds_toArray, List.set_cons_zero, List.set_cons_succ]
          try rw [e1']
          refine wpAnyH_take (i := 8) (v := undef) rfl (by kernel_rfl) (by kernel_rfl) (by kernel_rfl) (fun _ _ _ h => h) (Or.inr ⟨by rfl, rfl⟩) (by assumption) ?_
          try simp only [Act.put, List.setIfInBounds_toArray, List.set_cons_zero, List.set_cons_succ]
          refine wpAnyH_take (i := 9) (v := undef) rfl (by kernel_rfl) (by kernel_rfl) (by kernel_rfl) (fun _ _ _ h => h) (Or.inr ⟨by rfl, rfl⟩) (by assumption) ?_
          try simp only [Act.put, List.setIfInBounds_toArray, List.set_cons_zero, List.set_cons_succ]
          refine wpAnyH_take (i := 10) (v := undef) rfl (by kernel_rfl) (by kernel_rfl) (by kernel_rfl) (fun _ _ _ h => h) (Or.inr ⟨by rfl, rfl⟩) (by assumption) ?_
          try simp only [Act.put, List.setIfInBounds_toArray, List.set_cons_zero, List.set_cons_succ]
          refine wpAnyH_take (i := 11) (v := undef) rfl (by kernel_rfl) (by kernel_rfl) (by kernel_rfl) (fun _ _ _ h => h) (Or.inr ⟨by rfl, rfl⟩) (by assumption) ?_
          try simp only [Act.put, List.setIfInBounds_toArray, List.set_cons_zero, List.set_cons_succ]
          refine wpAnyH_take (i := 12) (v := ?_) rfl (by kernel_rfl) (by kernel_rfl) (by kernel_rfl) (fun _ _ _ h => h) (Or.inl ⟨by rfl, ?_⟩) (by assumption) ?_
          rotate_left
          · intro w hSw; (try dsimp only at hSw); go_simp; try (with_reducible rfl)
          try simp only [Act.put, List.setIfInBounds_toArray, List.set_cons_zero, List.set_cons_succ]
          refine wpAnyH_take (i := 13) (v := ?_) rfl (by kernel_rfl) (by kernel_rfl) (by kernel_rfl) (fun _ _ _ h => h) (Or.inl ⟨by rfl, ?_⟩) (by assumption) ?_
          rotate_left
          · intro w hSw; (try dsimp only at hSw); go_simp; try (with_reducible rfl)
          try simp only [Act.put, List.setIfInBounds_toArray, List.set_cons_zero, List.set_cons_succ]
          refine wpAnyH_done (by kernel_rfl) ?_ _
          all_goals
            go_wp2
            go_roundw
            case rel => exact ⟨j + 1, by omega, by go_num, XR⟩
            case measure => simp [intOf]; omega
      · obtain rfl : j = n := by omega
        have XX := Lib.hid (bel_trans HB.out hR.out)
        go_wp2
        go_returns
        exact ⟨rfl, XX.out⟩
theorem walk (v : Value) (l : List (Int × Int)) (f t : Int) (w : World) (hv : Pts w v l) (_ : -9223372036854775808 ≤ f ∧ f ≤ 9223372036854775807) (_ : -9223372036854775808 ≤ t ∧ t ≤ 9223372036854775807) (hw : CV w) :
    Calls Tryd.prog 8 #[v, .int .i64 f, .int .i64 t] w fun e w' => e = .returned (.bool true) ∧ Below w.heap.size w w' := by
  have hv2 := Lib.hid hv
  have hw2 := Lib.hid hw
  obtain ⟨a, cap, rfl, _, _⟩ := hv.shape
  cases h : fwB l.length with
  | false => exact long a l.length cap f t l w hw2 hv2 h
  | true =>
    have C1 := fun W h => dnFn_any (.slice a l.length cap) l f W h
    have C2 := fun W h => dnCut_any (.slice a l.length cap) l f t W h
    by_cases he : fnE l f = 0
    · have hD : DR l := by
        by_cases q : dnE l = 0
        · exact dnE_zero.1 q
        · unfold fnE at he; rw [if_pos q] at he; cases he
      have bf : 0 ≤ f ∧ f ≤ 10000 := by
        unfold fnE at he
        rw [if_neg (by have := dnE_zero.2 hD; omega)] at he
        split at he
        · assumption
        · cases he
      have n1 := hD.n1
      obtain ⟨r1, r2, r3⟩ := rcN_spec hD (f + 1)
      have rp := rcN_pos hD bf.1
      rw [show fnI l f = ((rcN l (f + 1) - 1 : Nat) : Int) by unfold fnI; rw [if_pos he]; omega, he] at C1
      have g0 : gX l (rcN l (f + 1) - 1) ≤ f := by have := r2 (rcN l (f + 1) - 1) (by omega); omega
      have g1 : rcN l (f + 1) - 1 + 1 < l.length → f < gX l (rcN l (f + 1) - 1 + 1) := fun q => by
        have := r3 (rcN l (f + 1) - 1 + 1) (by omega) q; omega
      by_cases hc : cutE l f t = 0
      · rw [hc] at C2
        exact good a l.length cap f t (rcN l (f + 1) - 1) (cutL l f t) l w hw2 hv2 h (Nat.le_trans (cutL_len l f t) (by omega)) (cutL_len l f t) (Lib.hid fun j hj => by rw [decide_eq_true_eq]; exact cut_mem hc hj) n1 (by omega) g0 g1 bf (Lib.hid C1) (Lib.hid C2)
      · have e2 : cutL l f t = [] := by unfold cutL; rw [if_neg hc]
        have ct : ¬ ((0 ≤ t ∧ t ≤ 10000) ∧ f ≤ t) := fun q => hc (cutE_zero.2 ⟨hD, bf, q.1, q.2⟩)
        have hlc : (cutL l f t).length = 0 := by rw [e2]; rfl
        by_cases g : t < f
        · exact noA a l.length cap f t _ (rcN l (f + 1) - 1) (cutL l f t) l w hw2 hv2 h (by simpa using hc) hlc (decide_eq_true g) n1 (by omega) g0 g1 bf (Lib.hid C1) (Lib.hid C2)
        · exact noB a l.length cap f t _ (rcN l (f + 1) - 1) (cutL l f t) l w hw2 hv2 h (by simpa using hc) hlc (decide_eq_false g) (decide_eq_true (by omega)) n1 (by omega) g0 g1 bf (Lib.hid C1) (Lib.hid C2)
    · rw [show fnI l f = 0 by unfold fnI; rw [if_neg he]] at C1
      exact bad a l.length cap f t _ l w hw2 hv2 h (by simpa using he) (Lib.hid C1)

set_option maxRecDepth 100000 in
theorem contract (H : Type) (enc : TypeId × Value → H) (W : World) (base : Nat) (args : Array Value) (ds gs : List (DataW H)) (before : List MemPlace)
    (hval : ∀ (j : Nat) t v, Tryd.f8.params[j]? = some t → args[j]? = some v → Value.okWide Tryd.prog W .any base t v)
    (hW : DataW.Whole enc Tryd.prog Tryd.f8.params.toList Rows.densityBetweenSpec.vars false W args.toList ds gs before) (hL : laidMetH Tryd.prog Rows.densityBetweenRow.laid W) (hSh : W.ShapedOpen Tryd.prog) :
    Calls Tryd.prog 8 args W fun e W' => ∃ v, e = .returned v ∧ Rows.densityBetweenSpec.post enc Tryd.prog Tryd.f8 false true false false W args v W' := by
  have hW' := hW
  obtain ⟨p, q, hA0, hV, rfl, hfz, hnd⟩ := hW
  have hA : DataW.TrodAll enc Tryd.prog W 0 (fun _ => true) true Tryd.f8.params.toList args.toList ds p := hA0
  rw [Tryd.params8] at hA hval
  obtain ⟨v0, vs0, d0, ds0, p0, q0, hargs, rfl, rfl, h0, r0⟩ := trodAll_cons hA
  obtain ⟨v1, vs1, d1, ds1, p1, q1, rfl, rfl, rfl, h1, r1⟩ := trodAll_cons r0
  obtain ⟨v2, vs2, d2, ds2, p2, q2, rfl, rfl, rfl, h2, r2⟩ := trodAll_cons r1
  obtain ⟨rfl, rfl, rfl⟩ := trodAll_nil r2
  obtain rfl : args = #[v0, v1, v2] := by cases args; simp_all
  obtain ⟨rfl, rfl⟩ := trodVars_none hV
  have k0 := h0
  have lt0 : ∀ x ∈ p0, x.block < W.heap.size := by obtain ⟨m, hm⟩ := k0; exact DataW.trod_lt m _ _ _ hm
  have k1 := h1
  have lt1 : ∀ x ∈ p1, x.block < W.heap.size := by obtain ⟨m, hm⟩ := k1; exact DataW.trod_lt m _ _ _ hm
  have k2 := h2
  have lt2 : ∀ x ∈ p2, x.block < W.heap.size := by obtain ⟨m, hm⟩ := k2; exact DataW.trod_lt m _ _ _ hm
  obtain ⟨z0, w0⟩ := open_pts (hval 0 22 v0 rfl rfl) h0
  obtain ⟨a1, rfl, rfl, rfl, w1⟩ := open_int Tryd.underlying3 (hval 1 3 v1 rfl rfl) h1
  obtain ⟨a2, rfl, rfl, rfl, w2⟩ := open_int Tryd.underlying3 (hval 2 3 v2 rfl rfl) h2
  clear hA0
  refine (walk v0 z0 a1 a2 W w0 (wf_bd w1) (wf_bd w2) (laid_of rfl hL hSh)).mono fun e W' ⟨he, bel⟩ => ?_
  subst he
  exact ⟨_, rfl, _, _, _, [], _, [], hW', trodAll_mk1 (shut_bool Tryd.underlying4 _), (trodAll_cons_mk (Below.trod laidOut (by kernel_rfl) (of_decide_eq_true (by kernel_rfl)) k0 bel lt0) (trodAll_cons_mk (Below.trod laidOut (by kernel_rfl) (of_decide_eq_true (by kernel_rfl)) k1 bel lt1) (trodAll_cons_mk (Below.trod laidOut (by kernel_rfl) (of_decide_eq_true (by kernel_rfl)) k2 bel lt2) trodAll_mk0))), rfl, bel.frame _, fun h => by cases h⟩

noncomputable def laidWorld (os : Os) : World := World.laidAll Tryd.prog os Rows.densityBetweenRow.laid
theorem laid_met (os : Os) : laidMet Tryd.prog Rows.densityBetweenRow.laid ((laidWorld os).forCall (fun _ _ => 0) ⟨#[], #[.slice none 0 0, .int .i64 0, .int .i64 0], []⟩).memory :=
  laidMet_laidAll _ (by kernel_rfl) (by kernel_rfl)
theorem reads (os : Os) {H : Type} (enc : TypeId × Value → H) : ∃ places, DataW.whole enc Tryd.prog ((laidWorld os).forCall (fun _ _ => 0) ⟨#[], #[.slice none 0 0, .int .i64 0, .int .i64 0], []⟩).memory Tryd.f8.params.toList Rows.densityBetweenSpec.vars false (#[.slice none 0 0, .int .i64 0, .int .i64 0] : Array Value).toList 8 = some ([.nil, .lit (.int .i64 0), .lit (.int .i64 0)], [], places) :=
  ⟨[], by kernel_rfl⟩

set_option maxRecDepth 100000 in
theorem lifted (os : Os) (started : os.Started) (H : Type) (enc : TypeId × Value → H) (F : Stop.Interp) :
    ReturnsInHanded {} Tryd.checked os 8 .any ((OpenSpec.ofChange Rows.densityBetweenSpec).preRow enc Tryd.prog Tryd.f8 Rows.densityBetweenRow.domain false Rows.densityBetweenRow.laid) (((OpenSpec.ofChange Rows.densityBetweenSpec).at F).post enc Tryd.prog Tryd.f8 false true false false) := by
  obtain ⟨places, hx⟩ := reads os enc
  refine returnsInHanded_of_row (C := Tryd.checked) (s := OpenSpec.ofChange Rows.densityBetweenSpec) own started (by kernel_rfl) Tryd.func8
    (witness_row_at (enc := enc) (C := Tryd.checked) false (laidWorld os) #[.slice none 0 0, .int .i64 0, .int .i64 0] (World.laidAll_os _ _ _) (by kernel_rfl) (by kernel_rfl) (by kernel_rfl)
      (OpenSpec.preRow_of_cond 8 hx (by kernel_rfl) (fun k hk => by cases hk) (by kernel_rfl) (laid_met os))) ?_
  intro W base args ds gs before hval hW _ _ _ hL hSh _
  exact contract H enc W base args ds gs before hval hW hL hSh

theorem said : Rows.DensityBetweenSaid :=
  OpenClaim.holds_of_cond 8 Tryd.f8 rfl rfl rfl rfl rfl rfl rfl ⟨rfl, rfl, rfl, rfl, rfl⟩ rfl rfl rfl rfl rfl (by kernel_rfl) Tryd.func8 (by kernel_rfl)
    (of_decide_eq_true (by kernel_rfl)) (by unfold Func.isWrapper; first | (rw [if_pos (by decide +kernel)]; kernel_rfl) | (rw [if_neg (by decide +kernel)]; exact ⟨rfl, rfl⟩))
    (fun os started H enc _ F => by rw [OpenClaim.pre_eq_preRow]; exact lifted os started H enc F)

theorem plain (f : FuncId) (fn : Func) (hf : Tryd.pinned.checked.prog.funcNamed "spile/spilelaw16.DensityBetween" = some f) (hfn : Tryd.pinned.checked.prog.funcs[f]? = some fn) :
    true = Tryd.pinned.checked.prog.looks [] ∧ ∀ (j : Nat) t, fn.params[j]? = some t → Tryd.pinned.checked.prog.wantsStandIn t = false := by
  obtain rfl : f = 8 := Option.some.inj ((show Tryd.prog.funcNamed "spile/spilelaw16.DensityBetween" = some 8 by kernel_rfl).symm.trans hf) |>.symm
  obtain rfl : fn = Tryd.f8 := (Option.some.inj (Tryd.func8.symm.trans hfn)).symm
  refine ⟨by kernel_rfl, fun j t ht => ?_⟩
  rw [Tryd.params8] at ht
  rcases j with _ | _ | _ | j
  · obtain rfl : t = 22 := by simpa using ht.symm
    exact (show Tryd.prog.wantsStandIn 22 = false by kernel_rfl)
  · obtain rfl : t = 3 := by simpa using ht.symm
    exact (show Tryd.prog.wantsStandIn 3 = false by kernel_rfl)
  · obtain rfl : t = 3 := by simpa using ht.symm
    exact (show Tryd.prog.wantsStandIn 3 = false by kernel_rfl)
  · simp at ht

theorem proved : Rows.DensityBetweenCardSaid :=
  Claim7.holds_tied_plain_at .later [] _ _ _ _ said (fun _ h => by cases h) (by kernel_rfl) (fun _ h => by cases h) densityBetween_row_tie rfl ⟨rfl, rfl⟩ (by kernel_rfl) rfl plain (by kernel_rfl)
#print axioms proved
end Go.Proofs.YtnoagfpffdalnaaDoor.densityBetween
