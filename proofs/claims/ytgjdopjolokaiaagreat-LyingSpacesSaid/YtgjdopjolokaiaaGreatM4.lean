/- Texts that the proofs of this seat share, one behind the other: SPd, SPf, LPC, PPF, Num, Div, OfK, Up1, PPG, PPH, PPT, LDV, LPD, LCF, LPB, OwnR. -/
import Derived.Test.YtgjdopjolokaiaaGreatM3
import Derived.Laws.EntriesVeiled
import Derived.Test.YtgjdopjolokaiaaGreatM1
import Derived.Lib.BitFns
import Derived.Lib.ItoaNum
import Derived.Laws.Bits64
import Derived.Laws.BitsAllLaws
import Derived.Test.YtgjdopjolokaiaaGreatProg
import Derived.Test.YtgjdopjolokaiaaGreatShelf
import Derived.WalkKit
import Derived.Handy
import Derived.Lib.Hide
import Derived.Outline
import Derived.Deep.DeepCutAuto
import Derived.Deep.CutBlock
import Derived.Deep.QuietTactic
import Derived.BigQuiet
import Derived.RangeFuncBound
import Derived.RangeFuncLeaves
import Derived.Shelf.Abstract
import Derived.Shelf.RegionOpen
import Derived.OwnWalkIn
import Derived.TacticsInMore
import Derived.LoopNIn
import Derived.LoopIn
import Derived.Deep.RegionHeld3
import Derived.Sort.CutIn
import Derived.FnLit
import Derived.StillTailTactics
import Derived.Test.YtgjdopjolokaiaaGreatM2
import Derived.RangeFuncBox
import Derived.Laws.MakeOwn

set_option linter.unusedVariables false
set_option linter.unusedSimpArgs false

/- Package segment: areas between heights. -/
namespace Go.Proofs.YtgjdopjolokaiaaGreat
open Go.RowKit Go.Shelf
attribute [local go_sem] Oper.semAt_some

theorem area_range (r c : Int) (v : Value) (w : World) (h : (lenB r && lenB c) = false) :
    Calls Tryz.prog 73 #[.int .i64 r, .int .i64 c, v] w fun e w' => e = .returned (.tuple #[.agg #[.int .i64 0, .int .i64 0], .int .i64 2]) ∧ Below w.heap.size w w' := by
  have H1 := Lib.hid (fun W => isRt_any r c W)
  rw [h] at H1
  clear h
  have T0 := Lib.hid ((Two.new w (.int .i64 0) (.int .i64 0) 29).alloc (.cells #[.int .i64 r, .int .i64 c] 108))
  go_enter Tryz.func73, Tryz.ntmps73
  go_wp2_with fail
  refine (H1.out _).mono ?_
  rintro e w1 ⟨rfl, gg⟩
  replace T0 := Lib.hid (T0.out.below gg)
  have X1 := Lib.hid (bel_alloc (bel_alloc gg)); clear gg
  obtain ⟨z0, z1, f0, f1, hlt⟩ := T0.out
  go_wp2
  obtain ⟨t0, t1⟩ := two_read w1 w.heap.size (.int .i64 0) (.int .i64 0) z0 z1
  refine bodyPost_ret (v := .tuple #[.agg #[.int .i64 0, .int .i64 0], .int .i64 2]) (by simp [results, Tryz.results73, go_sem, t0, t1]) rfl ?_
  exact ⟨rfl, (X1.out.setCell (Nat.le_refl _) _).setCell (Nat.le_refl _) _⟩
theorem area_bad (r c E : Int) (v : Value) (w : World) (h : (lenB r && lenB c) = true) (e1 : (E == 0) = false) (e2 : (E != 0) = true)
    (H3 : Hid (∀ W, Below w.heap.size w W → Calls Tryz.prog 46 #[v] W fun e w' => e = .returned (.int .i64 E) ∧ Below W.heap.size W w')) :
    Calls Tryz.prog 73 #[.int .i64 r, .int .i64 c, v] w fun e w' => e = .returned (.tuple #[.agg #[.int .i64 0, .int .i64 0], .int .i64 E]) ∧ Below w.heap.size w w' := by
  have H1 := Lib.hid (fun W => isRt_any r c W)
  rw [h] at H1
  clear h
  have T0 := Lib.hid ((Two.new w (.int .i64 0) (.int .i64 0) 29).alloc (.cells #[.int .i64 r, .int .i64 c] 108))
  go_enter Tryz.func73, Tryz.ntmps73
  go_wp2_with fail
  refine (H1.out _).mono ?_
  rintro e w1 ⟨rfl, gg⟩
  replace T0 := Lib.hid (T0.out.below gg)
  have X1 := Lib.hid (bel_alloc (bel_alloc gg)); clear gg
  go_wp2_with fail
  refine (H3.out _ X1.out).mono ?_
  rintro e w2 ⟨rfl, gg⟩
  replace T0 := Lib.hid (T0.out.below gg)
  replace X1 := Lib.hid (bel_trans X1.out gg); clear gg
  obtain ⟨z0, z1, f0, f1, hlt⟩ := T0.out
  go_wp2
  obtain ⟨t0, t1⟩ := two_read w2 w.heap.size (.int .i64 0) (.int .i64 0) z0 z1
  refine bodyPost_ret (v := .tuple #[.agg #[.int .i64 0, .int .i64 0], .int .i64 E]) (by simp [results, Tryz.results73, go_sem, t0, t1]) rfl ?_
  exact ⟨rfl, (X1.out.setCell (Nat.le_refl _) _).setCell (Nat.le_refl _) _⟩

/-- sums over some of the strips -/
noncomputable def smL (r c : Int) (l : List Int) {m : Nat} (pre : List (Fin m)) : Int := (pre.map fun j => ofL r c (l.getD j.val 0) (l.getD (j.val + 1) 0)).sum
noncomputable def smH (r c : Int) (l : List Int) {m : Nat} (pre : List (Fin m)) : Int := (pre.map fun j => ofH r c (l.getD j.val 0) (l.getD (j.val + 1) 0)).sum
theorem sm_snoc (r c : Int) (l : List Int) {m : Nat} (pre : List (Fin m)) (j : Fin m) : smL r c l (pre ++ [j]) = smL r c l pre + ofL r c (l.getD j.val 0) (l.getD (j.val + 1) 0) ∧ smH r c l (pre ++ [j]) = smH r c l pre + ofH r c (l.getD j.val 0) (l.getD (j.val + 1) 0) := by
  simp [smL, smH]
theorem sm_all (r c : Int) (l : List Int) {m : Nat} (k : Nat) (h : k ≤ m) : smL r c l (ups m k) = prL r c l k ∧ smH r c l (ups m k) = prH r c l k := by
  induction k with
  | zero => exact ⟨rfl, rfl⟩
  | succ k ih =>
    have i := ih (by omega)
    rw [ups_succ (by omega), (sm_snoc r c l _ _).1, (sm_snoc r c l _ _).2, i.1, i.2]
    exact ⟨rfl, rfl⟩
theorem sm_bd {r c : Int} {l : List Int} {m : Nat} (r0 : 0 ≤ r) (r1 : r ≤ 100000) (h : ∀ j : Fin m, (0 ≤ l.getD j.val 0 ∧ l.getD j.val 0 ≤ 200000) ∧ l.getD j.val 0 ≤ l.getD (j.val + 1) 0 ∧ l.getD (j.val + 1) 0 ≤ 200000) (pre : List (Fin m)) :
    0 ≤ smL r c l pre ∧ smL r c l pre ≤ smH r c l pre ∧ smH r c l pre ≤ 40000000000 * pre.length := by
  induction pre with
  | nil => simp [smL, smH]
  | cons j pre ih =>
    obtain ⟨⟨a0, a1⟩, a2, a3⟩ := h j
    have b := of_bd r c _ _ r0 a2
    have q : (l.getD (j.val + 1) 0 - l.getD j.val 0) * (2 * r) ≤ 200000 * 200000 := Int.mul_le_mul (by omega) (by omega) (by omega) (by omega)
    have e1 : smL r c l (j :: pre) = ofL r c (l.getD j.val 0) (l.getD (j.val + 1) 0) + smL r c l pre := by simp [smL]
    have e2 : smH r c l (j :: pre) = ofH r c (l.getD j.val 0) (l.getD (j.val + 1) 0) + smH r c l pre := by simp [smH]
    rw [e1, e2, List.length_cons]
    omega
set_option maxRecDepth 100000 in
set_option maxHeartbeats 8000000 in
theorem area_ok (b off n cap : Nat) (l : List Int) (r c : Int) (w : World) (hl : n = l.length) (hR : Hid (HR l)) (h : (lenB r && lenB c) = true) (hb : b < w.heap.size)
    (hc : Hid (∀ j, j < n → w.cell? ⟨b, off + j, none⟩ = some (.int .i64 (l.getD j 0))))
    (H3 : Hid (∀ W, Below w.heap.size w W → Calls Tryz.prog 46 #[.slice (some ⟨b, off, none⟩) n cap] W fun e w' => e = .returned (.int .i64 0) ∧ Below W.heap.size W w')) :
    Calls Tryz.prog 73 #[.int .i64 r, .int .i64 c, .slice (some ⟨b, off, none⟩) n cap] w fun e w' => e = .returned (.tuple #[.agg #[.int .i64 (prL r c l (n - 1)), .int .i64 (prH r c l (n - 1))], .int .i64 0]) ∧ Below w.heap.size w w' := by
  have hh : lenB r = true ∧ lenB c = true := by simpa using h
  have H1 := Lib.hid (fun W => isRt_any r c W)
  obtain ⟨r0, r1⟩ := (lenB_iff r).1 hh.1
  obtain ⟨c0, c1⟩ := (lenB_iff c).1 hh.2
  rw [h] at H1
  have n0 : 2 ≤ n := by have := hR.out.n0; omega
  have n1 : n ≤ 65 := by have := hR.out.n1; omega
  have HL := Lib.hid hl
  clear h hh hl
  have hmf : ∀ (fn : Fn) (first cap : Array Value) (w : World), (Instr.makeFunc fn first cap).run Tryz.prog w = .ok (.func fn first cap) w := fun _ _ _ _ => rfl
  have T0 := Lib.hid ((Two.new w (.int .i64 0) (.int .i64 0) 29).alloc (.cells #[.int .i64 r, .int .i64 c] 108))
  have TC : Hid (Two (w.heap.size + 1) ((w.alloc (.cells #[.int .i64 0, .int .i64 0] 29)).alloc (.cells #[.int .i64 r, .int .i64 c] 108)) (.int .i64 r) (.int .i64 c)) := by
    have := Two.new (w.alloc (.cells #[.int .i64 0, .int .i64 0] 29)) (.int .i64 r) (.int .i64 c) 108
    rwa [World.size_alloc] at this
  refine (callsIn_wide (n := 10)).1 ?_
  refine callsIn_of_wp_marks Tryz.func73 rfl trivial ?_ rfl
  simp only [Tryz.ntmps73, List.size_toArray, List.length_cons, List.length_nil, Nat.reduceAdd, Nat.reduceSub, Array.replicate_succ, Array.replicate_zero, List.push_toArray, List.append_toArray, List.nil_append, List.cons_append]
  gi_wp2_with fail
  refine ⟨trivial, (callsIn_wide.2 (H1.out _)).mono ?_⟩
  rintro e w1 ⟨rfl, gg⟩
  replace T0 := Lib.hid (T0.out.below gg)
  replace TC := Lib.hid (TC.out.below gg)
  have X1 := Lib.hid (bel_alloc (bel_alloc gg)); clear gg
  gi_wp2_with fail
  refine ⟨trivial, (callsIn_wide.2 (H3.out _ X1.out)).mono ?_⟩
  rintro e w2 ⟨rfl, gg⟩
  have hz : w.heap.size + 1 < w2.heap.size := (TC.out.below gg).2.2.2.2
  replace T0 := Lib.hid (((T0.out.below gg).alloc (.cells #[.int .i64 0, .int .i64 0] 109)).alloc (.cells #[.func (.func 90) #[.pointer (some ⟨w2.heap.size, 0, none⟩)] #[]] 76))
  replace TC := Lib.hid (((TC.out.below gg).alloc (.cells #[.int .i64 0, .int .i64 0] 109)).alloc (.cells #[.func (.func 90) #[.pointer (some ⟨w2.heap.size, 0, none⟩)] #[]] 76))
  have TS := Lib.hid ((Two.new w2 (.int .i64 0) (.int .i64 0) 109).alloc (.cells #[.func (.func 90) #[.pointer (some ⟨w2.heap.size, 0, none⟩)] #[]] 76))
  replace X1 := Lib.hid (bel_trans (bel_trans X1.out gg) (bel_alloc (bel_alloc (Below.refl ((w2.alloc (.cells #[.int .i64 0, .int .i64 0] 109)).alloc (.cells #[.func (.func 90) #[.pointer (some ⟨w2.heap.size, 0, none⟩)] #[]] 76)).heap.size _)))); clear gg
  clear H1 H3
  gi_wp2_with fail
  refine ⟨trivial, (callsIn_wide.2 (strips_any _ _ _ _)).mono ?_⟩
  rintro e w3 ⟨rfl, rfl⟩
  gi_wp2_with fail
  have BX : Hid ((((w2.alloc (.cells #[.int .i64 0, .int .i64 0] 109)).alloc (.cells #[.func (.func 90) #[.pointer (some ⟨w2.heap.size, 0, none⟩)] #[]] 76)).alloc (.cells #[.slice (some ⟨b, off, none⟩) n cap] 25)).cell? ⟨w2.heap.size + 1 + 1, 0, none⟩ = some (.slice (some ⟨b, off, none⟩) n cap)) := by
    show _ = _
    have := (Boxed.new ((w2.alloc (.cells #[.int .i64 0, .int .i64 0] 109)).alloc (.cells #[.func (.func 90) #[.pointer (some ⟨w2.heap.size, 0, none⟩)] #[]] 76)) 25 (.slice (some ⟨b, off, none⟩) n cap)).cell
    rwa [World.size_alloc, World.size_alloc] at this
  have CL : Hid (((w2.alloc (.cells #[.int .i64 0, .int .i64 0] 109)).alloc (.cells #[.func (.func 90) #[.pointer (some ⟨w2.heap.size, 0, none⟩)] #[]] 76)).cell? ⟨w2.heap.size + 1, 0, none⟩ = some (.func (.func 90) #[.pointer (some ⟨w2.heap.size, 0, none⟩)] #[])) := by
    show _ = _
    have := (Boxed.new (w2.alloc (.cells #[.int .i64 0, .int .i64 0] 109)) 76 (.func (.func 90) #[.pointer (some ⟨w2.heap.size, 0, none⟩)] #[])).cell
    rwa [World.size_alloc] at this
  obtain ⟨W0, hW0⟩ : ∃ W0, (((w2.alloc (.cells #[.int .i64 0, .int .i64 0] 109)).alloc (.cells #[.func (.func 90) #[.pointer (some ⟨w2.heap.size, 0, none⟩)] #[]] 76)).alloc (.cells #[.slice (some ⟨b, off, none⟩) n cap] 25)) = W0 := ⟨_, rfl⟩
  have hsz : W0.heap.size = w2.heap.size + 1 + 1 + 1 := by rw [← hW0]; simp
  replace T0 := Lib.hid (T0.out.alloc (.cells #[.slice (some ⟨b, off, none⟩) n cap] 25))
  replace TC := Lib.hid (TC.out.alloc (.cells #[.slice (some ⟨b, off, none⟩) n cap] 25))
  replace TS := Lib.hid (TS.out.alloc (.cells #[.slice (some ⟨b, off, none⟩) n cap] 25))
  replace X1 := Lib.hid (bA X1.out (.cells #[.slice (some ⟨b, off, none⟩) n cap] 25))
  replace CL := Lib.hid ((bel_alloc (Below.refl _ _)).cell (p := ⟨w2.heap.size + 1, 0, none⟩) (by simp) |>.trans CL.out : (((w2.alloc (.cells #[.int .i64 0, .int .i64 0] 109)).alloc (.cells #[.func (.func 90) #[.pointer (some ⟨w2.heap.size, 0, none⟩)] #[]] 76)).alloc (.cells #[.slice (some ⟨b, off, none⟩) n cap] 25)).cell? ⟨w2.heap.size + 1, 0, none⟩ = _)
  rw [hW0] at T0 TC TS X1 BX CL ⊢
  clear hW0
  generalize w2.heap.size = g at *
  clear w1 w2
  have hl1 : ∀ j, j < n → W0.cell? ⟨b, off + j, none⟩ = some (.int .i64 (l.getD j 0)) := fun j hj => by rw [(bcell X1.out).1 _ _ hb]; exact hc.out j hj
  have hRR : ∀ j : Fin (n - 1), (0 ≤ l.getD j.val 0 ∧ l.getD j.val 0 ≤ 200000) ∧ l.getD j.val 0 ≤ l.getD (j.val + 1) 0 ∧ l.getD (j.val + 1) 0 ≤ 200000 := fun j => by
    have hj := j.isLt
    have a1 := hR.out.bd j.val (by rw [← HL.out]; omega)
    have a2 := hR.out.bd (j.val + 1) (by rw [← HL.out]; omega)
    have a3 := hR.out.asc j.val (by rw [← HL.out]; omega)
    exact ⟨a1, a3, a2.2⟩
  refine wpIn_rangeFunc_ownH rfl (by omega) (gf := 104) (lb := #[.pointer (some ⟨g + 1 + 1, 0, none⟩)]) rfl trivial (enters_of Tryz.func104 (by kernel_rfl) rfl)
    (strips_stops 9 (g + 1 + 1) w.heap.size b off n cap l (by omega) (by omega) hb W0 X1.out.size BX.out hl1) kpS_t (kpS_b X1.out.size) (Below.refl _ _) (fun _ => rfl)
    (fun pre W => Two w.heap.size W (.int .i64 0) (.int .i64 0) ∧ Two (w.heap.size + 1) W (.int .i64 r) (.int .i64 c) ∧ Two g W (.int .i64 (smL r c l pre)) (.int .i64 (smH r c l pre)) ∧ W.cell? ⟨g + 1, 0, none⟩ = some (.func (.func 90) #[.pointer (some ⟨g, 0, none⟩)] #[]) ∧ W.cell? ⟨g + 1 + 1, 0, none⟩ = some (.slice (some ⟨b, off, none⟩) n cap) ∧ Below w.heap.size w W)
    (fun _ _ _ => False)
    (fun s A B row ⟨i1, i2, i3, i4, i5, i6⟩ hg hr => ⟨two_kept i1 hg (fun r e => (hr r e).2), two_kept i2 hg (fun r e => (hr r e).2), two_kept i3 hg (fun r e => (hr r e).2), cell_kept i4 hg (fun r e => (hr r e).2), cell_kept i5 hg (fun r e => (hr r e).2), ownFrom_below (β := Unit) (Nat.le_refl _) X1.out.size () A B row i6 hg hr⟩)
    (fun _ _ _ _ _ hs _ _ => hs)
    ⟨T0.out, TC.out, TS.out, CL.out, BX.out, X1.out⟩
    (fun x a' W => ∃ Bx : Nat, g + 1 + 1 < Bx ∧ Two Bx W (.int .i64 (l.getD x.val 0)) (.int .i64 (l.getD (x.val + 1) 0)) ∧ a' = { tmps := #[.int .i64 r, .int .i64 c, .slice (some ⟨b, off, none⟩) n cap, undef, undef, undef, .pointer (some ⟨w.heap.size, 0, none⟩), .int .i64 0, .pointer (some ⟨w.heap.size + 1, 0, none⟩), .int .i64 0, .pointer (some ⟨g, 0, none⟩), .pointer (some ⟨g + 1, 0, none⟩), .pointer (some ⟨Bx, 0, none⟩), .int .i64 r, .int .i64 c, .agg #[.int .i64 r, .int .i64 c], .agg #[.int .i64 r, .int .i64 c], .bool true, .bool false, undef, .slice (some ⟨b, off, none⟩) n cap, .int .i64 0, .int .i64 0, .bool false, undef, undef, .func (.func 90) #[.pointer (some ⟨g, 0, none⟩)] #[], .slice (some ⟨b, off, none⟩) n cap, .func (.func 104) #[] #[.pointer (some ⟨g + 1 + 1, 0, none⟩)], .agg #[.int .i64 (l.getD x.val 0), .int .i64 (l.getD (x.val + 1) 0)], undef, undef, undef, undef, undef, undef], defers := [] })
    (fun x a' _ A B row ⟨Bx, h1, h2, h3⟩ hg hr => ⟨Bx, h1, two_kept h2 hg (fun r e => (hr r e).2), h3⟩) ?assign ?body ?done ?stop
  case assign =>
    rintro lp pre x W K ⟨i1, i2, i3, i4, i5, i6⟩ hK
    have hgl : g + 1 + 1 < W.heap.size := World.block_lt_of_cell? W _ i5
    dsimp only [encB]
    generalize l.getD x.val 0 = u at *
    generalize l.getD (x.val + 1) 0 = v at *
    gi_wp2
    refine hK _ _ ((KeepsOthers.alloc _ _).from _) ⟨(Below.refl _ W).alloc i6.size _, fun v e => (cell_al _ e)⟩ ⟨i1.alloc _, i2.alloc _, i3.alloc _, cell_al _ i4, cell_al _ i5, bA i6 _⟩ ⟨W.heap.size, hgl, Two.new _ _ _ _, rfl⟩
  case body =>
    rintro lp pre x a' W hlp ⟨rr, hrr⟩ ⟨i1, i2, i3, i4, i5, i6⟩ ⟨Bx, hBx, iX, rfl⟩ hlen
    obtain ⟨⟨x0, x1⟩, x2, x3⟩ := hRR x
    have hmx : Tryz.prog.follows .mixedOrders = true := by kernel_rfl
    have HA := Lib.hid (fun W => cArea_any r c (l.getD x.val 0) (l.getD (x.val + 1) 0) W r0 r1 c0 c1 x0 x2 x3)
    have bd := sm_bd (c := c) r0 r1 hRR pre
    have ob := of_bd r c _ _ r0 x2
    have oq : (l.getD (x.val + 1) 0 - l.getD x.val 0) * (2 * r) ≤ 200000 * 200000 := Int.mul_le_mul (by omega) (by omega) (by omega) (by omega)
    have es := sm_snoc r c l pre x
    generalize ofL r c (l.getD x.val 0) (l.getD (x.val + 1) 0) = oL at *
    generalize ofH r c (l.getD x.val 0) (l.getD (x.val + 1) 0) = oH at *
    generalize l.getD x.val 0 = u at *
    generalize l.getD (x.val + 1) 0 = v at *
    generalize smL r c l pre = pL at *
    generalize smH r c l pre = pH at *
    have hc0 := i2.1
    have hc1 := i2.2.1
    have hx0 := iX.1
    have hx1 := iX.2.1
    gi_wp2
    obtain ⟨bd0, bd1, bd2⟩ := bd
    obtain ⟨ob0, ob1, ob2⟩ := ob
    have hlen2 : (pre.length : Int) ≤ 64 := by omega
    have HS : Hid (∀ w4, Below W.drew.heap.size W.drew w4 → w4.cell? ⟨g + 1, 0, none⟩ = some (.func (.func 90) #[.pointer (some ⟨g, 0, none⟩)] #[]) ∧ Two g w4 (.int .i64 pL) (.int .i64 pH)) := fun w4 gg =>
      ⟨(gg.cell (p := ⟨g + 1, 0, none⟩) (World.block_lt_of_cell? W _ i4)).trans i4, (i3.below (bel_drew W)).below gg⟩
    have HD : Hid (∀ w4, Two g w4 (.int .i64 pL) (.int .i64 pH) → Calls Tryz.prog 90 #[.pointer (some ⟨g, 0, none⟩), .agg #[.int .i64 oL, .int .i64 oH]] w4 fun e w' => e = .returned (.tuple #[]) ∧ ∃ w2, Below w4.heap.size w4 w2 ∧ w' = (w2.setCell ⟨g, 0, none⟩ (.int .i64 (pL + oL))).setCell ⟨g, 1, none⟩ (.int .i64 (pH + oH))) := fun w4 h4 =>
      add_any g pL pH oL oH w4 h4 (by omega) (by omega) (by omega) (by omega) (by omega) (by omega) (by omega) (by omega)
    have HI := Lib.hid (And.intro i1 (And.intro i2 (And.intro i3 (And.intro i5 i6))))
    clear bd0 bd1 bd2 ob0 ob1 ob2 i1 i2 i3 i5 i6 iX hlen hlen2 oq x0 x1 x2 x3
    gi_region_with_o (first
      | (refine ⟨trivial, ?_⟩; gi_at_call 92; refine (CallsIn.inRound lp (callsIn_wide.2 (HA.out _))).mono ?_; rintro e w4 ⟨rfl, gg⟩; have X4 := Lib.hid gg; obtain ⟨k4, k5⟩ := HS.out _ gg; have K5 := Lib.hid k5; clear k5 gg)
      | (refine ⟨trivial, ?_⟩; gi_at_call 90; refine (CallsIn.inRound lp (callsIn_wide.2 (HD.out _ K5.out))).mono ?_; rintro e w5 ⟨rfl, w6, gg, rfl⟩; have X6 := Lib.hid gg; clear gg))
    all_goals gi_wp2
    all_goals
      obtain ⟨i1, i2, i3, i5, i6⟩ := HI.out
      have Y : Below W.heap.size W w6 := bel_trans (bel_trans (bel_drew W) X4.out) X6.out
      have j5 := (bcell Y).1 _ _ (World.block_lt_of_cell? W _ i5) |>.trans i5
      have j4 := (bcell Y).1 _ _ (World.block_lt_of_cell? W _ i4) |>.trans i4
      have h5 := cell_apart (j := 1) (.int .i64 (pH + oH)) (cell_apart (j := 0) (.int .i64 (pL + oL)) j5 (show g + 1 + 1 ≠ g by omega)) (show g + 1 + 1 ≠ g by omega)
      have hB : ∀ {Z : World}, Below w.heap.size Z W → Below w.heap.size Z ((w6.setCell ⟨g, 0, none⟩ (.int .i64 (pL + oL))).setCell ⟨g, 1, none⟩ (.int .i64 (pH + oH))) := fun hZ =>
        ((hZ.trans (Y.mono i6.size)).setCell (p := ⟨g, 0, none⟩) (by show _ ≤ g; omega) _).setCell (p := ⟨g, 1, none⟩) (by show _ ≤ g; omega) _
      refine ⟨keeps_set2 _ _ _ _ _ Y, ⟨hB (Below.refl _ W), fun v e => ?_⟩, ((i1.below Y).apart g 0 _ (by omega)).apart g 1 _ (by omega), ((i2.below Y).apart g 0 _ (by omega)).apart g 1 _ (by omega), ?_, ?_, h5, hB i6⟩
      · rw [i5] at e; cases e; exact h5
      · rw [es.1, es.2]; exact (i3.below Y).both _ _
      · exact cell_apart _ (cell_apart _ j4 (by omega)) (by omega)
  case done =>
    rintro D ys W hD rfl ⟨i1, i2, i3, i4, i5, i6⟩ hK
    rw [(sm_all r c l (n - 1) (Nat.le_refl _)).1, (sm_all r c l (n - 1) (Nat.le_refl _)).2] at i3
    obtain ⟨qL, hqL⟩ : ∃ q, prL r c l (n - 1) = q := ⟨_, rfl⟩
    obtain ⟨qH, hqH⟩ : ∃ q, prH r c l (n - 1) = q := ⟨_, rfl⟩
    rw [hqL, hqH] at i3
    obtain ⟨s0, s1, sf0, sf1, slt⟩ := i3
    obtain ⟨z0, z1, zf0, zf1, zlt⟩ := i1
    gi_wp2
    have hK' := ((KeepsOthers.setCell W ⟨w.heap.size, 0, none⟩ (.int .i64 qL)).trans (KeepsOthers.setCell _ ⟨w.heap.size, 1, none⟩ (.int .i64 qH))).same D _ hK rfl
    refine ⟨by simp, .inl ⟨_, _, rfl, run_takeDeferred hK', ?_⟩⟩
    obtain ⟨t0, t1⟩ := two_read W w.heap.size (.int .i64 qL) (.int .i64 qH) z0 z1
    have hc5 := cell_kept t0 (grownBy_putObj' _ D (.deferred none)) (fun r e => by cases e; exact ⟨_, hK', rfl⟩)
    have hc6 := cell_kept t1 (grownBy_putObj' _ D (.deferred none)) (fun r e => by cases e; exact ⟨_, hK', rfl⟩)
    refine ⟨.tuple #[.agg #[.int .i64 qL, .int .i64 qH], .int .i64 0], ?_, by rw [hqL, hqH], ((i6.setCell (p := ⟨w.heap.size, 0, none⟩) (Nat.le_refl _) _).setCell (p := ⟨w.heap.size, 1, none⟩) (Nat.le_refl _) _).trans (belowK_b (w := w) (Nat.le_refl _) _ D _ _ (by omega) hK' rfl rfl)⟩
    simp [results, Tryz.results73, go_sem, hc5, hc6]
  case stop =>
    rintro D cc pre W _ _ h _
    exact h.elim
end Go.Proofs.YtgjdopjolokaiaaGreat

/- Package segment: Area, Strip, Whole. -/
namespace Go.Proofs.YtgjdopjolokaiaaGreat
open Go.RowKit

theorem area_any (r c : Int) (v : Value) (l : List Int) (w : World) (hv : Nums w v l) :
    Calls Tryz.prog 73 #[.int .i64 r, .int .i64 c, v] w fun e w' => e = .returned (.tuple #[.agg #[.int .i64 (arL r c l), .int .i64 (arH r c l)], .int .i64 (arE r c l)]) ∧ Below w.heap.size w w' := by
  unfold arL arH
  by_cases h : lenB r = true ∧ lenB c = true
  · have h' : (lenB r && lenB c) = true := by rw [h.1, h.2]; rfl
    have e : arE r c l = hcE l := by unfold arE; rw [if_pos h]
    rw [e]
    have HC := fun W (hb : Below w.heap.size w W) => chk_any v l W (hv.below hb)
    by_cases h0 : hcE l = 0
    · rw [if_pos h0, if_pos h0, h0]
      rw [h0] at HC
      have hR := (hcE_iff l).1 h0
      obtain ⟨a, cap, rfl, hl, hh⟩ := hv
      rcases hh with hh | ⟨b, off, rfl, hb, hc⟩
      · have := hR.n0; omega
      · exact area_ok b off l.length cap l r c w rfl hR h' hb hc HC
    · rw [if_neg h0, if_neg h0]
      exact area_bad r c _ v w h' (by simpa using h0) (by simpa using h0) HC
  · have e : arE r c l = 2 := by unfold arE; rw [if_neg h]
    rw [e, if_neg (by omega), if_neg (by omega)]
    exact area_range r c v w (by simpa using h)

end Go.Proofs.YtgjdopjolokaiaaGreat

/- Package lying: the axis of a cask, the space of a slice. -/
namespace Go.Proofs.YtgjdopjolokaiaaGreat
open Go.RowKit

set_option maxHeartbeats 4000000 in
theorem lyMid_some (b off n cap i : Nat) (r : Int) (w : World) (hi : i < n) (hb : b < w.heap.size) (hc : Hid (w.cell? ⟨b, off + i * 2 + 1, none⟩ = some (.int .i64 r)))
    (H1 : Hid (∀ W, Below w.heap.size w W → Calls Tryz.prog 70 #[.slice (some ⟨b, off, none⟩) n cap] W fun e w' => e = .returned (.tuple #[.int .i64 i, .int .i64 0]) ∧ Below W.heap.size W w')) :
    Calls Tryz.prog 48 #[.slice (some ⟨b, off, none⟩) n cap] w fun e w' => e = .returned (.int .i64 r) ∧ Below w.heap.size w w' := by
  have l1 : (i : Int) < (n : Int) := by omega
  have l2 : 0 ≤ (i : Int) := by omega
  go_enter Tryz.func48, Tryz.ntmps48
  go_wp2_with fail
  refine (H1.out _ (Below.refl _ _)).mono ?_
  rintro e w1 ⟨rfl, gg⟩
  have X1 := Lib.hid gg; clear gg
  have c1 : w1.cell? ⟨b, off + i * 2 + 1, none⟩ = some (.int .i64 r) := by rw [(bcell X1.out).1 _ _ hb]; exact hc.out
  go_wp2
  go_returns
  exact ⟨rfl, X1.out⟩
theorem lyMid_any (v : Value) (l : List (Int × Int)) (w : World) (hv : Pts w v l) (hR : RP l) :
    Calls Tryz.prog 48 #[v] w fun e w' => e = .returned (.int .i64 (bgR l)) ∧ Below w.heap.size w w' := by
  have e0 := (ckE_iff _).2 hR
  have n0 := hR.n0
  have hl : bg l l.length < l.length := by have := bg_lt l l.length; omega
  have HB : Hid (∀ W, Below w.heap.size w W → _) := Lib.hid fun W hW => bung_any v l W (hv.below hW)
  unfold buQ at HB
  rw [if_pos e0, e0] at HB
  obtain ⟨a, cap, rfl, _, h0 | ⟨b, off, rfl, hb, hc⟩⟩ := hv
  · omega
  · exact lyMid_some b off _ cap _ _ w hl hb (hc _ hl).2 HB
/-- a block with three cells -/
def Trio (b : Nat) (W : World) (x y z : Value) : Prop := W.cell? ⟨b, 0, none⟩ = some x ∧ W.cell? ⟨b, 1, none⟩ = some y ∧ W.cell? ⟨b, 2, none⟩ = some z ∧ b < W.heap.size
theorem Trio.below {b : Nat} {W W' : World} {x y z : Value} (h : Trio b W x y z) (hb : Below W.heap.size W W') : Trio b W' x y z := by
  obtain ⟨h0, h1, h2, h3⟩ := h
  exact ⟨by rw [(bcell hb).1 _ _ h3]; exact h0, by rw [(bcell hb).1 _ _ h3]; exact h1, by rw [(bcell hb).1 _ _ h3]; exact h2, Nat.lt_of_lt_of_le h3 hb.size⟩
theorem Trio.alloc {b : Nat} {W : World} {x y z : Value} (h : Trio b W x y z) (o : Obj) : Trio b (W.alloc o) x y z := h.below (bel_alloc (Below.refl _ _))
theorem Trio.new (W : World) (x y z : Value) (T : TypeId) : Trio W.heap.size (W.alloc (.cells #[x, y, z] T)) x y z :=
  ⟨by simp [go_sem], by simp [go_sem], by simp [go_sem], by simp⟩
set_option maxHeartbeats 8000000 in
theorem lySpc_core (d r1 r2 c A1 B1 A2 B2 : Int) (v : Value) (a : Option Addr) (n cap : Nat) (hv : v = .slice a n cap) (w : World) (wA : IntKind.i64.wrap (d * A1) = d * A1) (wB : IntKind.i64.wrap (d * B2) = d * B2)
    (H1 : Hid (∀ W, Below w.heap.size w W → Calls Tryz.prog 73 #[.int .i64 r1, .int .i64 c, v] W fun e w' => e = .returned (.tuple #[.agg #[.int .i64 A1, .int .i64 B1], .int .i64 0]) ∧ Below W.heap.size W w'))
    (H2 : Hid (∀ W, Below w.heap.size w W → Calls Tryz.prog 73 #[.int .i64 r2, .int .i64 c, v] W fun e w' => e = .returned (.tuple #[.agg #[.int .i64 A2, .int .i64 B2], .int .i64 0]) ∧ Below W.heap.size W w')) :
    Calls Tryz.prog 50 #[.agg #[.int .i64 d, .int .i64 r1, .int .i64 r2], .int .i64 c, v] w fun e w' => e = .returned (.agg #[.int .i64 (d * A1), .int .i64 (d * B2)]) ∧ Below w.heap.size w w' := by
  subst hv
  have F0 := Lib.hid ((Trio.new w (.int .i64 d) (.int .i64 r1) (.int .i64 r2) 82).alloc (.cells #[.int .i64 0, .int .i64 0] 29))
  have T0 := Lib.hid (Two.new (w.alloc (.cells #[.int .i64 d, .int .i64 r1, .int .i64 r2] 82)) (.int .i64 0) (.int .i64 0) 29)
  rw [World.size_alloc] at T0
  go_enter Tryz.func50, Tryz.ntmps50
  go_wp2_with fail
  refine (H1.out _ (bel_alloc (bel_alloc (Below.refl _ _)))).mono ?_
  rintro e w1 ⟨rfl, gg⟩
  replace T0 := Lib.hid ((T0.out.below gg).alloc (.cells #[.int .i64 A1, .int .i64 B1] 29))
  replace F0 := Lib.hid ((F0.out.below gg).alloc (.cells #[.int .i64 A1, .int .i64 B1] 29))
  have T1 := Lib.hid (Two.new w1 (.int .i64 A1) (.int .i64 B1) 29)
  have X1 := Lib.hid (bA (bel_alloc (bel_alloc gg)) (.cells #[.int .i64 A1, .int .i64 B1] 29)); clear gg
  obtain ⟨y0, y1, y2, _⟩ := F0.out
  go_wp2_with fail
  refine (H2.out _ X1.out).mono ?_
  rintro e w2 ⟨rfl, gg⟩
  clear y0 y1 y2
  replace T0 := Lib.hid ((T0.out.below gg).alloc (.cells #[.int .i64 A2, .int .i64 B2] 29))
  replace T1 := Lib.hid ((T1.out.below gg).alloc (.cells #[.int .i64 A2, .int .i64 B2] 29))
  replace F0 := Lib.hid ((F0.out.below gg).alloc (.cells #[.int .i64 A2, .int .i64 B2] 29))
  have T2 := Lib.hid (Two.new w2 (.int .i64 A2) (.int .i64 B2) 29)
  replace X1 := Lib.hid (bA (bel_trans X1.out gg) (.cells #[.int .i64 A2, .int .i64 B2] 29)); clear gg
  obtain ⟨y0, y1, y2, _⟩ := F0.out
  obtain ⟨r0, r1', rf0, rf1, _⟩ := T0.out
  obtain ⟨s0, s1, _, _, _⟩ := T1.out
  obtain ⟨q0, q1, _, _, _⟩ := T2.out
  go_wp2
  obtain ⟨t0, t1⟩ := two_read (w2.alloc (.cells #[.int .i64 A2, .int .i64 B2] 29)) (w.heap.size + 1) (.int .i64 (d * A1)) (.int .i64 (d * B2)) r0 r1'
  refine bodyPost_ret (v := .agg #[.int .i64 (d * A1), .int .i64 (d * B2)]) (by simp [results, Tryz.results50, go_sem, t0, t1]) rfl ?_
  exact ⟨rfl, (X1.out.setCell (Nat.le_succ _) _).setCell (Nat.le_succ _) _⟩
theorem lySpc_any (d r1 r2 c : Int) (v : Value) (l : List Int) (w : World) (hv : Nums w v l) (hH : HR l) (hd : 0 ≤ d ∧ d ≤ 100000) (h1 : 0 ≤ r1 ∧ r1 ≤ r2 ∧ r2 ≤ 100000) (hc : 0 ≤ c ∧ c ≤ 100000) :
    Calls Tryz.prog 50 #[.agg #[.int .i64 d, .int .i64 r1, .int .i64 r2], .int .i64 c, v] w fun e w' => e = .returned (.agg #[.int .i64 (d * prL r1 c l (l.length - 1)), .int .i64 (d * prH r2 c l (l.length - 1))]) ∧ Below w.heap.size w w' := by
  have n0 := hH.n0
  have e0 := (hcE_iff l).2 hH
  obtain ⟨p0, p1, p2⟩ := pr_both (c := c) h1.1 h1.2.1 h1.2.2 hH (l.length - 1) (by omega)
  have q0 := pr_both (c := c) (r := r2) (s := r2) (by omega) (by omega) h1.2.2 hH (l.length - 1) (by omega)
  have lb : ∀ r, 0 ≤ r → r ≤ 100000 → lenB r = true := fun r a b => (lenB_iff r).2 ⟨a, b⟩
  have AR : ∀ r, 0 ≤ r → r ≤ 100000 → arL r c l = prL r c l (l.length - 1) ∧ arH r c l = prH r c l (l.length - 1) ∧ arE r c l = 0 := fun r a b => by
    unfold arL arH arE
    simp [lb r a b, lb c hc.1 hc.2, e0]
  obtain ⟨a1, a2, a3⟩ := AR r1 h1.1 (by omega)
  obtain ⟨b1, b2, b3⟩ := AR r2 (by omega) h1.2.2
  have m0 := Int.mul_nonneg hd.1 p0
  have m1 := Int.mul_nonneg hd.1 q0.1
  have m2 : d * prH r2 c l (l.length - 1) ≤ 100000 * 40000000000 := Int.mul_le_mul hd.2 p2 (by omega) (by omega)
  have m3 := Int.mul_le_mul_of_nonneg_left p1 hd.1
  have hv' := hv
  obtain ⟨a, cap, e, _⟩ := hv'
  refine lySpc_core d r1 r2 c (prL r1 c l (l.length - 1)) (prH r1 c l (l.length - 1)) (prL r2 c l (l.length - 1)) (prH r2 c l (l.length - 1)) v a l.length cap e w (wrap_in _ ⟨by omega, by omega⟩) (wrap_in _ ⟨by omega, by omega⟩) (Lib.hid fun W hW => ?_) (Lib.hid fun W hW => ?_)
  · have := area_any r1 c v l W (hv.below hW)
    rwa [a1, a2, a3] at this
  · have := area_any r2 c v l W (hv.below hW)
    rwa [b1, b2, b3] at this
end Go.Proofs.YtgjdopjolokaiaaGreat

/- Package profile: the piece that reaches to x. -/
namespace Go.Proofs.YtgjdopjolokaiaaGreat
open Go.RowKit Go.Shelf
attribute [local go_sem] Oper.semAt_some

/-- a block with four cells that can be written -/
def FourF (b : Nat) (W : World) (x p y q : Value) : Prop := Four b W x p y q ∧ W.frozen? ⟨b, 0, none⟩ = false ∧ W.frozen? ⟨b, 1, none⟩ = false ∧ W.frozen? ⟨b, 2, none⟩ = false ∧ W.frozen? ⟨b, 3, none⟩ = false
theorem FourF.new (W : World) (x p y q : Value) (T : TypeId) : FourF W.heap.size (W.alloc (.cells #[x, p, y, q] T)) x p y q := ⟨Four.new W x p y q T, by simp [go_sem], by simp [go_sem], by simp [go_sem], by simp [go_sem]⟩
theorem fourF_kept {b : Nat} {A B : World} {x p y q : Value} {row : Option Nat} (h : FourF b A x p y q) (hg : A.grownBy B row) (hr : ∀ r, row = some r → ∃ o : Obj, A.heap[r]? = some o ∧ o.isCells = false) : FourF b B x p y q := by
  obtain ⟨h0, h1, h2, h3, h4⟩ := h
  have k := h0
  obtain ⟨k0, k1, k2, k3⟩ := k
  exact ⟨four_kept h0 hg hr, (frozen_kept k0 hg hr).trans h1, (frozen_kept k1 hg hr).trans h2, (frozen_kept k2 hg hr).trans h3, (frozen_kept k3 hg hr).trans h4⟩
theorem FourF.alloc {b : Nat} {W : World} {x p y q : Value} (h : FourF b W x p y q) (o : Obj) : FourF b (W.alloc o) x p y q := fourF_kept h (World.grownBy_alloc W o none) (fun r e => by cases e)
theorem Four.below {b : Nat} {W W' : World} {x p y q : Value} (h : Four b W x p y q) (hb : Below W.heap.size W W') : Four b W' x p y q := by
  obtain ⟨h0, h1, h2, h3⟩ := h
  have hl := World.block_lt_of_cell? W _ h0
  exact ⟨((bcell hb).1 _ _ hl).trans h0, ((bcell hb).1 _ _ hl).trans h1, ((bcell hb).1 _ _ hl).trans h2, ((bcell hb).1 _ _ hl).trans h3⟩
theorem Four.alloc {b : Nat} {W : World} {x p y q : Value} (h : Four b W x p y q) (o : Obj) : Four b (W.alloc o) x p y q := h.below (bel_alloc (Below.refl _ _))
theorem FourF.below {b : Nat} {W W' : World} {x p y q : Value} (h : FourF b W x p y q) (hb : Below W.heap.size W W') : FourF b W' x p y q := by
  obtain ⟨h0, h1, h2, h3, h4⟩ := h
  have hl := World.block_lt_of_cell? W _ h0.1
  exact ⟨h0.below hb, ((bcell hb).2 _ _ hl).trans h1, ((bcell hb).2 _ _ hl).trans h2, ((bcell hb).2 _ _ hl).trans h3, ((bcell hb).2 _ _ hl).trans h4⟩
/-- four stores -/
def set4 (W : World) (b : Nat) (x p y q : Value) : World := (((W.setCell ⟨b, 0, none⟩ x).setCell ⟨b, 1, none⟩ p).setCell ⟨b, 2, none⟩ y).setCell ⟨b, 3, none⟩ q
theorem four_set {b : Nat} {W : World} {x p y q : Value} (h : Four b W x p y q) (u v w z : Value) : Four b (set4 W b u v w z) u v w z := by
  obtain ⟨h0, h1, h2, h3⟩ := h
  refine ⟨?_, ?_, ?_, ?_⟩
  · unfold set4
    rw [World.cell?_setCell_other _ _ _ _ (by simp), World.cell?_setCell_other _ _ _ _ (by simp), World.cell?_setCell_other _ _ _ _ (by simp), World.cell?_setCell_same _ _ _ h0]
  · unfold set4
    rw [World.cell?_setCell_other _ _ _ _ (by simp), World.cell?_setCell_other _ _ _ _ (by simp), World.cell?_setCell_same (u := p)]
    rw [World.cell?_setCell_other _ _ _ _ (by simp)]; exact h1
  · unfold set4
    rw [World.cell?_setCell_other _ _ _ _ (by simp), World.cell?_setCell_same (u := y)]
    rw [World.cell?_setCell_other _ _ _ _ (by simp), World.cell?_setCell_other _ _ _ _ (by simp)]; exact h2
  · unfold set4
    rw [World.cell?_setCell_same (u := q)]
    rw [World.cell?_setCell_other _ _ _ _ (by simp), World.cell?_setCell_other _ _ _ _ (by simp), World.cell?_setCell_other _ _ _ _ (by simp)]; exact h3
theorem keeps_set4 (W : World) (b : Nat) (x p y q : Value) : KeepsOthers W (set4 W b x p y q) :=
  (((KeepsOthers.setCell W ⟨b, 0, none⟩ x).trans (KeepsOthers.setCell _ ⟨b, 1, none⟩ p)).trans (KeepsOthers.setCell _ ⟨b, 2, none⟩ y)).trans (KeepsOthers.setCell _ ⟨b, 3, none⟩ q)
theorem bel_set4 {n₀ : Nat} {w W : World} (h : Below n₀ w W) (b : Nat) (hb : n₀ ≤ b) (x p y q : Value) : Below n₀ w (set4 W b x p y q) :=
  (((h.setCell (p := ⟨b, 0, none⟩) hb x).setCell (p := ⟨b, 1, none⟩) hb p).setCell (p := ⟨b, 2, none⟩) hb y).setCell (p := ⟨b, 3, none⟩) hb q
theorem four_apart {b g i : Nat} {W : World} {x p y q : Value} (h : Four b W x p y q) (u : Value) (hn : b ≠ g) : Four b (W.setCell ⟨g, i, none⟩ u) x p y q := by
  obtain ⟨h0, h1, h2, h3⟩ := h
  exact ⟨cell_apart _ h0 hn, cell_apart _ h1 hn, cell_apart _ h2 hn, cell_apart _ h3 hn⟩
theorem box_apart {b g i : Nat} {W : World} {t : TypeId} {v : Value} (h : Boxed W b t v) (hn : b ≠ g) (u : Value) : Boxed (W.setCell ⟨g, i, none⟩ u) b t v := by
  show (W.heap.modify g _)[b]? = _
  rw [Array.getElem?_modify, if_neg (fun e => hn e.symm)]
  exact h
theorem box_set4 {b g : Nat} {W : World} {t : TypeId} {v : Value} (h : Boxed W b t v) (hn : b ≠ g) (x p y q : Value) : Boxed (set4 W g x p y q) b t v :=
  box_apart (box_apart (box_apart (box_apart h hn x) hn p) hn y) hn q
theorem froz_set4 {b i g : Nat} {W : World} (h : W.frozen? ⟨b, i, none⟩ = false) (x p y q : Value) : (set4 W g x p y q).frozen? ⟨b, i, none⟩ = false := by
  unfold set4; simp only [World.frozen?_setCell]; exact h

set_option maxRecDepth 100000 in
set_option maxHeartbeats 8000000 in
theorem find_some (b off n cap : Nat) (l : List (Int × Int)) (x : Int) (i : Nat) (w : World) (n0 : 2 ≤ n) (n1 : n ≤ 1000) (hn : n = l.length) (hb : b < w.heap.size)
    (hc : Hid (∀ j, j < n → w.cell? ⟨b, off + j * 2, none⟩ = some (.int .i64 (gX l j)) ∧ w.cell? ⟨b, off + j * 2 + 1, none⟩ = some (.int .i64 (gR l j))))
    (hi : Hid (IsPc l x i)) :
    Calls Tryz.prog 87 #[.slice (some ⟨b, off, none⟩) n cap, .int .i64 x] w fun e w' => e = .returned (.tuple #[.agg #[.int .i64 (gX l (i - 1)), .int .i64 (gR l (i - 1)), .int .i64 (gX l i), .int .i64 (gR l i)], .int .i64 i]) ∧ Below w.heap.size w w' := by
  have HN := Lib.hid hn
  clear hn
  refine (callsIn_wide (n := 10)).1 ?_
  refine callsIn_of_wp_marks Tryz.func87 rfl trivial ?_ rfl
  simp only [Tryz.ntmps87, List.size_toArray, List.length_cons, List.length_nil, Nat.reduceAdd, Nat.reduceSub, Array.replicate_succ, Array.replicate_zero, List.push_toArray, List.append_toArray, List.nil_append, List.cons_append]
  gi_wp2_with fail
  refine ⟨trivial, (callsIn_wide.2 (pieces_any _ _ _ _)).mono ?_⟩
  rintro e w3 ⟨rfl, rfl⟩
  gi_wp2_with fail
  have BA : Hid (Boxed (w.alloc (.cells #[.int .i64 x] 3)) w.heap.size 3 (.int .i64 x)) := Boxed.new w 3 (.int .i64 x)
  have BP : Hid (FourF (w.heap.size + 1) ((w.alloc (.cells #[.int .i64 x] 3)).alloc (.cells #[.int .i64 0, .int .i64 0, .int .i64 0, .int .i64 0] 100)) (.int .i64 0) (.int .i64 0) (.int .i64 0) (.int .i64 0)) := by
    have := FourF.new (w.alloc (.cells #[.int .i64 x] 3)) (.int .i64 0) (.int .i64 0) (.int .i64 0) (.int .i64 0) 100
    rwa [World.size_alloc] at this
  have BI : Hid (Boxed (((w.alloc (.cells #[.int .i64 x] 3)).alloc (.cells #[.int .i64 0, .int .i64 0, .int .i64 0, .int .i64 0] 100)).alloc (.cells #[.int .i64 0] 3)) (w.heap.size + 1 + 1) 3 (.int .i64 0)) := by
    have := Boxed.new ((w.alloc (.cells #[.int .i64 x] 3)).alloc (.cells #[.int .i64 0, .int .i64 0, .int .i64 0, .int .i64 0] 100)) 3 (.int .i64 0)
    rwa [World.size_alloc, World.size_alloc] at this
  have BX : Hid (Boxed ((((w.alloc (.cells #[.int .i64 x] 3)).alloc (.cells #[.int .i64 0, .int .i64 0, .int .i64 0, .int .i64 0] 100)).alloc (.cells #[.int .i64 0] 3)).alloc (.cells #[.slice (some ⟨b, off, none⟩) n cap] 22)) (w.heap.size + 1 + 1 + 1) 22 (.slice (some ⟨b, off, none⟩) n cap)) := by
    have := Boxed.new (((w.alloc (.cells #[.int .i64 x] 3)).alloc (.cells #[.int .i64 0, .int .i64 0, .int .i64 0, .int .i64 0] 100)).alloc (.cells #[.int .i64 0] 3)) 22 (.slice (some ⟨b, off, none⟩) n cap)
    rwa [World.size_alloc, World.size_alloc, World.size_alloc] at this
  replace BA := Lib.hid (((BA.out.alloc (.cells #[.int .i64 0, .int .i64 0, .int .i64 0, .int .i64 0] 100)).alloc (.cells #[.int .i64 0] 3)).alloc (.cells #[.slice (some ⟨b, off, none⟩) n cap] 22))
  replace BP := Lib.hid ((BP.out.alloc (.cells #[.int .i64 0] 3)).alloc (.cells #[.slice (some ⟨b, off, none⟩) n cap] 22))
  replace BI := Lib.hid (BI.out.alloc (.cells #[.slice (some ⟨b, off, none⟩) n cap] 22))
  have X1 : Hid (Below w.heap.size w ((((w.alloc (.cells #[.int .i64 x] 3)).alloc (.cells #[.int .i64 0, .int .i64 0, .int .i64 0, .int .i64 0] 100)).alloc (.cells #[.int .i64 0] 3)).alloc (.cells #[.slice (some ⟨b, off, none⟩) n cap] 22))) := bel_alloc (bel_alloc (bel_alloc (bel_alloc (Below.refl _ _))))
  obtain ⟨W0, hW0⟩ : ∃ W0, ((((w.alloc (.cells #[.int .i64 x] 3)).alloc (.cells #[.int .i64 0, .int .i64 0, .int .i64 0, .int .i64 0] 100)).alloc (.cells #[.int .i64 0] 3)).alloc (.cells #[.slice (some ⟨b, off, none⟩) n cap] 22)) = W0 := ⟨_, rfl⟩
  have hsz : W0.heap.size = w.heap.size + 1 + 1 + 1 + 1 := by rw [← hW0]; simp
  rw [hW0] at BA BP BI BX X1 ⊢
  clear hW0
  have hl1 : ∀ j, j < n → W0.cell? ⟨b, off + j * 2, none⟩ = some (.int .i64 (gX l j)) ∧ W0.cell? ⟨b, off + j * 2 + 1, none⟩ = some (.int .i64 (gR l j)) := fun j hj => by rw [(bcell X1.out).1 _ _ hb, (bcell X1.out).1 _ _ hb]; exact hc.out j hj
  refine wpIn_rangeFunc_ownH rfl (by omega) (gf := 96) (lb := #[.pointer (some ⟨w.heap.size + 1 + 1 + 1, 0, none⟩)]) rfl trivial (enters_of Tryz.func96 (by kernel_rfl) rfl)
    (pieces_stops 9 (w.heap.size + 1 + 1 + 1) w.heap.size b off n cap l (by omega) (by omega) hb W0 X1.out.size BX.out.cell hl1) kpB_t (kpB_b X1.out.size) (Below.refl _ _) (fun _ => rfl)
    (fun pre W => (∀ j ∈ pre, gX l (j.val + 1) < x) ∧ Boxed W w.heap.size 3 (.int .i64 x) ∧ FourF (w.heap.size + 1) W (.int .i64 0) (.int .i64 0) (.int .i64 0) (.int .i64 0) ∧ Boxed W (w.heap.size + 1 + 1) 3 (.int .i64 0) ∧ Boxed W (w.heap.size + 1 + 1 + 1) 22 (.slice (some ⟨b, off, none⟩) n cap) ∧ Below w.heap.size w W)
    (fun c pre W => c = .ret ∧ (∃ pre' j, pre = pre' ++ [j] ∧ (∀ i ∈ pre', gX l (i.val + 1) < x) ∧ x ≤ gX l (j.val + 1) ∧ Four (w.heap.size + 1) W (.int .i64 (gX l j.val)) (.int .i64 (gR l j.val)) (.int .i64 (gX l (j.val + 1))) (.int .i64 (gR l (j.val + 1))) ∧ W.cell? ⟨w.heap.size + 1 + 1, 0, none⟩ = some (.int .i64 ((j.val : Int) + 1))) ∧ Below w.heap.size w W)
    (fun s A B row ⟨i1, i2, i3, i4, i5, i6⟩ hg hr => ⟨i1, box_kept i2 hg (fun r e => (hr r e).2), fourF_kept i3 hg (fun r e => (hr r e).2), box_kept i4 hg (fun r e => (hr r e).2), box_kept i5 hg (fun r e => (hr r e).2), ownFrom_below (β := Unit) (Nat.le_refl _) X1.out.size () A B row i6 hg hr⟩)
    (fun c s A B row ⟨i1, ⟨pre', j, h1, h2, h3, h4, h5⟩, i6⟩ hg hr => ⟨i1, ⟨pre', j, h1, h2, h3, four_kept h4 hg (fun r e => (hr r e).2), cell_kept h5 hg (fun r e => (hr r e).2)⟩, ownFrom_below (β := Unit) (Nat.le_refl _) X1.out.size () A B row i6 hg hr⟩)
    ⟨(fun j hj => by cases hj), BA.out, BP.out, BI.out, BX.out, X1.out⟩
    (fun y a' W => ∃ Bx : Nat, w.heap.size + 1 + 1 + 1 < Bx ∧ Four Bx W (.int .i64 (gX l y.val)) (.int .i64 (gR l y.val)) (.int .i64 (gX l (y.val + 1))) (.int .i64 (gR l (y.val + 1))) ∧ a' = { tmps := #[.slice (some ⟨b, off, none⟩) n cap, .int .i64 x, undef, .pointer (some ⟨w.heap.size, 0, none⟩), .pointer (some ⟨w.heap.size + 1, 0, none⟩), .pointer (some ⟨w.heap.size + 1 + 1, 0, none⟩), .int .i64 ((y.val : Int) + 1), .pointer (some ⟨Bx, 0, none⟩), .slice (some ⟨b, off, none⟩) n cap, .func (.func 96) #[] #[.pointer (some ⟨w.heap.size + 1 + 1 + 1, 0, none⟩)], .int .i64 ((y.val : Int) + 1), .agg #[.int .i64 (gX l y.val), .int .i64 (gR l y.val), .int .i64 (gX l (y.val + 1)), .int .i64 (gR l (y.val + 1))], undef, undef, undef, undef, undef, undef, undef, undef], defers := [] })
    (fun y a' _ A B row ⟨Bx, h1, h2, h3⟩ hg hr => ⟨Bx, h1, four_kept h2 hg (fun r e => (hr r e).2), h3⟩) ?assign ?body ?done ?stop
  case assign =>
    rintro lp pre y W K ⟨i1, i2, i3, i4, i5, i6⟩ hK
    dsimp only [encP]
    generalize gX l y.val = u at *
    generalize gR l y.val = p at *
    generalize gX l (y.val + 1) = v at *
    generalize gR l (y.val + 1) = q at *
    gi_wp2
    exact hK _ _ ((KeepsOthers.alloc _ _).from _) ⟨(Below.refl _ W).alloc i6.size _, fun v e => (cell_al _ e)⟩ ⟨i1, i2.alloc _, i3.alloc _, i4.alloc _, i5.alloc _, bA i6 _⟩ ⟨W.heap.size, i5.lt, Four.new _ _ _ _ _ _, rfl⟩
  case body =>
    rintro lp pre y aa W hlp ⟨rr, hrr⟩ ⟨i1, i2, i3, i4, i5, i6⟩ ⟨Bx, hBx, iX, rfl⟩ hlen
    have hyl := y.isLt
    have hcx := i2.cell
    have hci := i4.cell
    have hfi := i4.frozen
    have FF := Lib.hid iX
    by_cases hq : x ≤ gX l (y.val + 1)
    · have hq2 : Hid (x ≤ gX l (y.val + 1)) := hq
      have e1 : Hid (∀ (W' : World), Four (w.heap.size + 1) W' (.int .i64 (gX l y.val)) (.int .i64 (gR l y.val)) (.int .i64 (gX l (y.val + 1))) (.int .i64 (gR l (y.val + 1))) → W'.cell? ⟨w.heap.size + 1 + 1, 0, none⟩ = some (.int .i64 ((y.val : Int) + 1)) → ∃ pre' j, pre ++ [y] = pre' ++ [j] ∧ (∀ i ∈ pre', gX l (i.val + 1) < x) ∧ x ≤ gX l (j.val + 1) ∧ Four (w.heap.size + 1) W' (.int .i64 (gX l j.val)) (.int .i64 (gR l j.val)) (.int .i64 (gX l (j.val + 1))) (.int .i64 (gR l (j.val + 1))) ∧ W'.cell? ⟨w.heap.size + 1 + 1, 0, none⟩ = some (.int .i64 ((j.val : Int) + 1))) := fun W' h4 h5 => ⟨pre, y, rfl, i1, hq2.out, h4, h5⟩
      clear hq2
      generalize gX l y.val = u at *
      generalize gR l y.val = p at *
      generalize gX l (y.val + 1) = v at *
      generalize gR l (y.val + 1) = q at *
      obtain ⟨f0, f1, f2, f3⟩ := iX
      obtain ⟨⟨z0, z1, z2, z3⟩, zf0, zf1, zf2, zf3⟩ := i3
      gi_wp2
      refine ⟨((keeps_set4 W (w.heap.size + 1) (.int .i64 u) (.int .i64 p) (.int .i64 v) (.int .i64 q)).trans (KeepsOthers.setCell _ ⟨w.heap.size + 1 + 1, 0, none⟩ (.int .i64 ((y.val : Int) + 1)))).from _, rfl, e1.out _ ?_ ?_, (bel_set4 i6 (w.heap.size + 1) (by omega) _ _ _ _).setCell (p := ⟨w.heap.size + 1 + 1, 0, none⟩) (by show w.heap.size ≤ w.heap.size + 1 + 1; omega) _⟩
      · exact four_apart (four_set ⟨z0, z1, z2, z3⟩ _ _ _ _) _ (by omega)
      · exact World.cell?_setCell_same _ _ _ (box_set4 (g := w.heap.size + 1) i4 (by omega) (.int .i64 u) (.int .i64 p) (.int .i64 v) (.int .i64 q)).cell
    · have e1 : ∀ j ∈ pre ++ [y], gX l (j.val + 1) < x := fun j hj => by
        rcases List.mem_append.1 hj with h | h
        · exact i1 j h
        · rw [List.mem_singleton.1 h]; omega
      generalize gX l y.val = u at *
      generalize gR l y.val = p at *
      generalize gX l (y.val + 1) = v at *
      generalize gR l (y.val + 1) = q at *
      obtain ⟨f0, f1, f2, f3⟩ := iX
      gi_wp2
      exact ⟨(KeepsOthers.refl _).from _, kpB_refl _ _ _, e1, i2, i3, i4, i5, i6⟩
  case done =>
    rintro D ys W hD rfl ⟨i1, _⟩ hK
    exfalso
    have hp := hi.out
    have h2 := hp.h2
    have h1 := hp.h1
    rw [← HN.out] at h2
    have := i1 ⟨i - 1, by omega⟩ (by
      have hv := ups_val (m := n - 1) (Nat.le_refl _)
      have : i - 1 ∈ (ups (n - 1) (n - 1)).map (fun j => j.val) := by rw [hv]; exact List.mem_range.2 (by omega)
      obtain ⟨y, hy, he⟩ := List.mem_map.1 this
      have : y = ⟨i - 1, by omega⟩ := Fin.ext he
      rwa [this] at hy)
    simp only [show i - 1 + 1 = i by omega] at this
    have := hp.h3
    omega
  case stop =>
    rintro D cc pre W hD ⟨k, hk, hpre⟩ ⟨rfl, ⟨pre', j, hpj, h2, h3, h4, h5⟩, i6⟩ hK
    have hji : j.val + 1 = i := by
      have hv := ups_val hk
      rw [← hpre, hpj, List.map_append] at hv
      have hlen := congrArg List.length hv
      simp only [List.length_append, List.length_map, List.length_cons, List.length_nil, List.length_range] at hlen
      obtain ⟨k', rfl⟩ : ∃ k', k = k' + 1 := ⟨k - 1, by omega⟩
      rw [List.range_succ] at hv
      have hinj := List.append_inj hv (by simp; omega)
      have hj : j.val = k' := by have := hinj.2; simpa using this
      have hm : pre'.map (fun j => j.val) = List.range k' := hinj.1
      refine (IsPc.one (x := x) (l := l) ⟨by omega, ?_, h3, fun m m1 m2 => ?_⟩ hi.out)
      · have := j.isLt; have := HN.out; omega
      · have : m - 1 ∈ pre'.map (fun j => j.val) := by rw [hm]; exact List.mem_range.2 (by omega)
        obtain ⟨y, hy, he⟩ := List.mem_map.1 this
        have h := h2 y hy
        have he' : y.val = m - 1 := he
        rwa [show y.val + 1 = m by omega] at h
    have ei : ((j.val : Int) + 1) = (i : Int) := by omega
    obtain ⟨k0, k1, k2, k3⟩ := h4
    gi_wp2
    refine ⟨by simp, .inl ⟨_, _, rfl, run_takeDeferred hK, ?_⟩⟩
    have c0 := cell_kept k0 (grownBy_putObj' _ D (.deferred none)) (fun r e => by cases e; exact ⟨_, hK, rfl⟩)
    have c1 := cell_kept k1 (grownBy_putObj' _ D (.deferred none)) (fun r e => by cases e; exact ⟨_, hK, rfl⟩)
    have c2 := cell_kept k2 (grownBy_putObj' _ D (.deferred none)) (fun r e => by cases e; exact ⟨_, hK, rfl⟩)
    have c3 := cell_kept k3 (grownBy_putObj' _ D (.deferred none)) (fun r e => by cases e; exact ⟨_, hK, rfl⟩)
    have c4 := cell_kept h5 (grownBy_putObj' _ D (.deferred none)) (fun r e => by cases e; exact ⟨_, hK, rfl⟩)
    refine ⟨.tuple #[.agg #[.int .i64 (gX l j.val), .int .i64 (gR l j.val), .int .i64 (gX l (j.val + 1)), .int .i64 (gR l (j.val + 1))], .int .i64 ((j.val : Int) + 1)], ?_, by subst hji; simp, i6.trans (belowK_b (w := w) (Nat.le_refl _) _ D _ _ (by omega) hK rfl rfl)⟩
    simp [results, Tryz.results87, go_sem, c0, c1, c2, c3, c4]
end Go.Proofs.YtgjdopjolokaiaaGreat

/- Plain arithmetic: amounts, and the steps of the division of two words by one. No program stands in this text. -/
namespace Go.Proofs.YtgjdopjolokaiaaGreat

/-- an amount -/
def isAm (n : Int) : Bool := decide (0 ≤ n) && decide (n ≤ 128849018880000)

theorem isAm_iff (n : Int) : isAm n = true ↔ 0 ≤ n ∧ n ≤ 128849018880000 := by simp [isAm]
theorem isAm_not (n : Int) : isAm n = false ↔ n < 0 ∨ 128849018880000 < n := by
  rw [Bool.eq_false_iff, ne_eq, isAm_iff]; omega

theorem all_take_succ (zs : List Int) (k : Nat) (hk : k < zs.length) : ((zs.take (k + 1)).all isAm) = ((zs.take k).all isAm && isAm (zs.getD k 0)) := by
  rw [List.take_add_one, List.all_append]
  simp [List.getD, List.getElem?_eq_getElem hk]

theorem all_false_at (zs : List Int) (k : Nat) (hk : k < zs.length) (h : isAm (zs.getD k 0) = false) : zs.all isAm = false := by
  rw [Bool.eq_false_iff]; intro hall
  rw [List.all_eq_true] at hall
  have := hall (zs.getD k 0) (by simp [List.getD, List.getElem?_eq_getElem hk])
  rw [this] at h; cases h

/-! the division of two words by one -/

theorem norm_shift (y : Nat) (h1 : 1 ≤ y) (h2 : y < 2 ^ 47) : ∃ s : Nat, 64 - Lib.bitLen y = s ∧ 17 ≤ s ∧ s ≤ 63 ∧ Lib.bitLen y ≤ 64 ∧ 2 ^ 63 ≤ y * 2 ^ s ∧ y * 2 ^ s < 2 ^ 64 := by
  obtain ⟨a, b, c⟩ := Lib.bitLenAux_bounds 64 y (by omega) (by omega)
  have hle := Lib.bitLen_le y 47 (by omega) h2
  unfold Lib.bitLen at *
  generalize hL : Lib.bitLenAux 64 y = L at *
  refine ⟨64 - L, rfl, by omega, by omega, by omega, ?_, ?_⟩
  · have : 2 ^ (L - 1) * 2 ^ (64 - L) ≤ y * 2 ^ (64 - L) := Nat.mul_le_mul_right _ b
    rw [← Nat.pow_add, show L - 1 + (64 - L) = 63 by omega] at this
    exact this
  · have : y * 2 ^ (64 - L) < 2 ^ L * 2 ^ (64 - L) := Nat.mul_lt_mul_of_pos_right c (Nat.two_pow_pos _)
    rw [← Nat.pow_add, show L + (64 - L) = 64 by omega] at this
    exact this

theorem split_prod (q Y a c : Int) (hY : Y = a * 4294967296 + c) : q * Y = q * a * 4294967296 + q * c := by
  rw [hY, Int.mul_add, Int.mul_assoc]

/-- the first guess is not too small -/
theorem dig_start (U u Y a c : Int) (hY : Y = a * 4294967296 + c) (c0 : 0 ≤ c) (ha : 1 ≤ a) (hU : 0 ≤ U) (u0 : 0 ≤ u) (u1 : u < 4294967296) :
    (U * 4294967296 + u) / Y ≤ U / a := by
  have hYp : 0 < Y := by omega
  apply Int.le_ediv_of_mul_le (by omega)
  have h1 : (U * 4294967296 + u) / Y * Y ≤ U * 4294967296 + u := Int.ediv_mul_le _ (by omega)
  have hq : 0 ≤ (U * 4294967296 + u) / Y := Int.ediv_nonneg (by omega) (by omega)
  generalize (U * 4294967296 + u) / Y = q at *
  rw [split_prod q Y a c hY] at h1
  have := Int.mul_nonneg hq c0
  omega

/-- if the guess's test says 'too great', the next one is not too small -/
theorem dig_next (U u Y a c q1 r : Int) (hY : Y = a * 4294967296 + c) (hYp : 0 < Y) (hU : U < Y) (u1 : u < 4294967296) (hr : q1 * a + r = U)
    (ht : 4294967296 ≤ q1 ∨ 4294967296 * r + u < q1 * c) : (U * 4294967296 + u) / Y ≤ q1 - 1 := by
  have h1 : (U * 4294967296 + u) / Y < q1 := by
    apply Int.ediv_lt_of_lt_mul hYp
    rcases ht with ht | ht
    · have : 4294967296 * Y ≤ q1 * Y := Int.mul_le_mul_of_nonneg_right ht (by omega)
      omega
    · rw [split_prod q1 Y a c hY]; omega
  omega

/-- if the guess's test says 'not too great', it is right -/
theorem dig_done (U u Y a c q1 r : Int) (hY : Y = a * 4294967296 + c) (hYp : 0 < Y) (hr : q1 * a + r = U)
    (hq : (U * 4294967296 + u) / Y ≤ q1) (ht : q1 * c ≤ 4294967296 * r + u) : q1 = (U * 4294967296 + u) / Y := by
  have : q1 ≤ (U * 4294967296 + u) / Y := by
    apply Int.le_ediv_of_mul_le hYp
    rw [split_prod q1 Y a c hY]; omega
  omega

/-- where the rest has become as great as 2^32, the guess is right -/
theorem dig_stop (U u Y a c q1 r : Int) (hY : Y = a * 4294967296 + c) (c0 : 0 ≤ c) (c1 : c < 4294967296) (ha : 1 ≤ a) (hU : U < Y) (hr : q1 * a + r = U) (hq0 : 0 ≤ q1)
    (u0 : 0 ≤ u) (hrb : 4294967296 ≤ r) (hq : (U * 4294967296 + u) / Y ≤ q1) : q1 = (U * 4294967296 + u) / Y := by
  have hlt : q1 < 4294967296 := by
    apply Int.not_le.1; intro hge
    have := Int.mul_le_mul_of_nonneg_right hge (show 0 ≤ a by omega)
    omega
  apply dig_done U u Y a c q1 r hY (by omega) hr hq
  have h1 : q1 * c ≤ 4294967295 * 4294967295 := Int.mul_le_mul (by omega) (by omega) c0 (by omega)
  omega

/-- the digit fits 32 bits -/
theorem dig_lt (U u Y : Int) (hU0 : 0 ≤ U) (hU : U < Y) (u0 : 0 ≤ u) (u1 : u < 4294967296) : 0 ≤ (U * 4294967296 + u) / Y ∧ (U * 4294967296 + u) / Y < 4294967296 := by
  constructor
  · exact Int.ediv_nonneg (by omega) (by omega)
  · apply Int.ediv_lt_of_lt_mul (by omega); omega

/-- what is left behind a digit, in wrapped words -/
theorem dig_rest (U u Y q : Int) (hY : 0 < Y) (hY1 : Y ≤ 18446744073709551616) (hq : q = (U * 4294967296 + u) / Y) :
    IntKind.u64.wrap (IntKind.u64.wrap (IntKind.u64.wrap (U * 4294967296) + u) - IntKind.u64.wrap (q * Y)) = (U * 4294967296 + u) % Y := by
  have h1 := Int.emod_add_mul_ediv (U * 4294967296 + u) Y
  have h2 := Int.emod_nonneg (U * 4294967296 + u) (show Y ≠ 0 by omega)
  have h3 := Int.emod_lt_of_pos (U * 4294967296 + u) hY
  rw [← hq, Int.mul_comm Y q] at h1
  simp only [IntKind.wrap_u64]
  omega

theorem dig_quot (U u0 u1 Y : Int) (hY : 0 < Y) :
    (U * 4294967296 + u1) / Y * 4294967296 + ((U * 4294967296 + u1) % Y * 4294967296 + u0) / Y = ((U * 4294967296 + u1) * 4294967296 + u0) / Y := by
  have h1 := Int.emod_add_mul_ediv (U * 4294967296 + u1) Y
  generalize U * 4294967296 + u1 = N at *
  have : N * 4294967296 + u0 = (N % Y * 4294967296 + u0) + (N / Y * 4294967296) * Y := by
    have e : N / Y * 4294967296 * Y = Y * (N / Y) * 4294967296 := by
      rw [Int.mul_right_comm, Int.mul_comm (N / Y) Y]
    rw [e]; omega
  rw [this, Int.add_mul_ediv_right _ _ (by omega)]
  omega

theorem dig_rem (U u0 u1 Y : Int) :
    ((U * 4294967296 + u1) % Y * 4294967296 + u0) % Y = ((U * 4294967296 + u1) * 4294967296 + u0) % Y := by
  have h1 := Int.emod_add_mul_ediv (U * 4294967296 + u1) Y
  generalize U * 4294967296 + u1 = N at *
  have : N * 4294967296 + u0 = (N % Y * 4294967296 + u0) + (N / Y * 4294967296) * Y := by
    have e : N / Y * 4294967296 * Y = Y * (N / Y) * 4294967296 := by
      rw [Int.mul_right_comm, Int.mul_comm (N / Y) Y]
    rw [e]; omega
  rw [this, Int.add_mul_emod_self_right]

/-- two words as one number -/
def twoW (hi lo : Int) : Int := hi * 18446744073709551616 + lo

/-- the upper and the lower word -/
def hiW (p : Int) : Int := p / 18446744073709551616
def loW (p : Int) : Int := p % 18446744073709551616
theorem hiW_big (p c : Int) (h : 128849018880000 * c < p) (hp : p < 18446744073709551616 * c) (hc : 0 < c): hiW p < c := by unfold hiW; exact Int.ediv_lt_of_lt_mul (by omega) (by rw [Int.mul_comm]; omega)
theorem hiW_ge (p c : Int) (h : c ≤ hiW p) (hc : 0 < c) : 18446744073709551616 ≤ p / c := by
  apply Int.le_ediv_of_mul_le hc
  unfold hiW at h; rw [Int.mul_comm]; omega
theorem twoW_split (p : Int) : twoW (hiW p) (loW p) = p := by unfold twoW hiW loW; omega
theorem loW_nonneg (p : Int) : 0 ≤ loW p := by unfold loW; omega
theorem loW_le (p : Int) : loW p ≤ 18446744073709551615 := by unfold loW; omega
theorem hiW_nonneg (p : Int) (h : 0 ≤ p) : 0 ≤ hiW p := by unfold hiW; omega

theorem or_add (h g : Int) (s : Nat) (h0 : 0 ≤ h) (g0 : 0 ≤ g) (gs : g < 2 ^ s) (b : h * 2 ^ s + g < 18446744073709551616) : bits .or .u64 (h * 2 ^ s) g = h * 2 ^ s + g := by
  obtain ⟨A, rfl⟩ := Int.eq_ofNat_of_zero_le h0
  obtain ⟨B, rfl⟩ := Int.eq_ofNat_of_zero_le g0
  have e : ((A : Int) * 2 ^ s) = ((A * 2 ^ s : Nat) : Int) := by simp
  have gs' : B < 2 ^ s := by exact_mod_cast gs
  rw [e] at b ⊢
  rw [u64_or_nat _ _ (by omega) (by omega), Nat.mul_comm A, ← Nat.two_pow_add_eq_or_of_lt gs']
  omega

theorem and_low (n : Int) (h0 : 0 ≤ n) (h1 : n ≤ 18446744073709551615) : bits .and .u64 n 4294967295 = n % 4294967296 := by
  obtain ⟨A, rfl⟩ := Int.eq_ofNat_of_zero_le h0
  have := u64_and_nat A 4294967295 (by omega) (by omega)
  rw [nat_mask32] at this
  simpa using this

theorem shift_low (lo : Int) (s : Nat) (h0 : 0 ≤ lo) (hs : s ≤ 64) :
    lo * 2 ^ s = lo / 2 ^ (64 - s) * 18446744073709551616 + lo * 2 ^ s % 18446744073709551616 := by
  have hp : (2 : Int) ^ (64 - s) * 2 ^ s = 18446744073709551616 := by
    rw [← Int.pow_add, show 64 - s + s = 64 by omega]; rfl
  have hs0 : (0 : Int) < 2 ^ s := Int.pow_pos (by omega)
  have hs1 : (0 : Int) < 2 ^ (64 - s) := Int.pow_pos (by omega)
  have e1 := Int.emod_add_mul_ediv lo (2 ^ (64 - s))
  have e2 := Int.emod_nonneg lo (show (2 : Int) ^ (64 - s) ≠ 0 by omega)
  have e3 := Int.emod_lt_of_pos lo hs1
  generalize lo / 2 ^ (64 - s) = G at *
  generalize lo % 2 ^ (64 - s) = t at *
  have e4 : lo * 2 ^ s = t * 2 ^ s + G * 18446744073709551616 := by
    rw [← e1, Int.add_mul, Int.mul_right_comm, hp, Int.mul_comm G]
  have e5 : 0 ≤ t * 2 ^ s := Int.mul_nonneg e2 (by omega)
  have e6 : t * 2 ^ s < 18446744073709551616 := by
    rw [← hp]; exact Int.mul_lt_mul_of_pos_right e3 hs0
  rw [e4]; omega

/-- all that the walk of Div64 has to be told of its numbers -/
structure Shifted (hi lo y : Int) (s : Nat) (H G L U : Int) : Prop where
  G0 : 0 ≤ G
  Gs : G < 2 ^ s
  H0 : 0 ≤ H
  sum : U = H + G
  L0 : 0 ≤ L
  L1 : L < 18446744073709551616
  tot : U * 18446744073709551616 + L = twoW hi lo * 2 ^ s
  lt : U < y * 2 ^ s

theorem Shifted.mk' (hi lo y : Int) (s : Nat) (h0 : 0 ≤ hi) (h1 : hi < y) (h2 : 0 ≤ lo) (h3 : lo ≤ 18446744073709551615) (hs : s ≤ 64) :
    Shifted hi lo y s (hi * 2 ^ s) (lo / 2 ^ (64 - s)) (lo * 2 ^ s % 18446744073709551616) (hi * 2 ^ s + lo / 2 ^ (64 - s)) := by
  have hs0 : (0 : Int) < 2 ^ s := Int.pow_pos (by omega)
  have hs1 : (0 : Int) < 2 ^ (64 - s) := Int.pow_pos (by omega)
  have hp : (2 : Int) ^ s * 2 ^ (64 - s) = 18446744073709551616 := by
    rw [← Int.pow_add, show s + (64 - s) = 64 by omega]; rfl
  have tot : (hi * 2 ^ s + lo / 2 ^ (64 - s)) * 18446744073709551616 + lo * 2 ^ s % 18446744073709551616 = twoW hi lo * 2 ^ s := by
    have := shift_low lo s h2 hs
    unfold twoW
    rw [Int.add_mul, Int.add_mul, Int.mul_right_comm hi]
    omega
  have hL0 := Int.emod_nonneg (lo * 2 ^ s) (show (18446744073709551616 : Int) ≠ 0 by omega)
  have hL1 := Int.emod_lt_of_pos (lo * 2 ^ s) (show (0 : Int) < 18446744073709551616 by omega)
  refine ⟨Int.ediv_nonneg h2 (by omega), ?_, Int.mul_nonneg h0 (by omega), rfl, hL0, hL1, tot, ?_⟩
  · apply Int.ediv_lt_of_lt_mul hs1; rw [hp]; omega
  · have hlt : twoW hi lo * 2 ^ s < y * 18446744073709551616 * 2 ^ s := by
      apply Int.mul_lt_mul_of_pos_right _ hs0
      unfold twoW; omega
    rw [Int.mul_right_comm y] at hlt
    generalize hi * 2 ^ s + lo / 2 ^ (64 - s) = U at *
    generalize y * 2 ^ s = Y at *
    generalize lo * 2 ^ s % 18446744073709551616 = L at *
    omega

theorem fin_quot (U L Y N y : Int) (s : Nat) (hY : Y = y * 2 ^ s) (hYp : 0 < Y) (hU0 : 0 ≤ U) (hU : U < Y) (hY1 : Y ≤ 18446744073709551616) (L0 : 0 ≤ L) (L1 : L < 18446744073709551616)
    (tot : U * 18446744073709551616 + L = N * 2 ^ s) :
    IntKind.u64.wrap (IntKind.u64.wrap ((U * 4294967296 + L / 4294967296) / Y * 4294967296) + ((U * 4294967296 + L / 4294967296) % Y * 4294967296 + L % 4294967296) / Y) = N / y := by
  have a1 := dig_lt U (L / 4294967296) Y hU0 hU (by omega) (by omega)
  have b0 := Int.emod_nonneg (U * 4294967296 + L / 4294967296) (show Y ≠ 0 by omega)
  have b1 := Int.emod_lt_of_pos (U * 4294967296 + L / 4294967296) hYp
  have a2 := dig_lt ((U * 4294967296 + L / 4294967296) % Y) (L % 4294967296) Y b0 b1 (by omega) (by omega)
  have e := dig_quot U (L % 4294967296) (L / 4294967296) Y hYp
  have e2 : (U * 4294967296 + L / 4294967296) * 4294967296 + L % 4294967296 = N * 2 ^ s := by omega
  have hs0 : (0 : Int) < 2 ^ s := Int.pow_pos (by omega)
  rw [e2] at e
  have e3 : N * 2 ^ s / Y = N / y := by rw [hY, Int.mul_ediv_mul_of_pos_left _ _ hs0]
  rw [e3] at e
  rw [← e]
  simp only [IntKind.wrap_u64]
  omega

theorem fin_rest (U L Y N y : Int) (s : Nat) (hY : Y = y * 2 ^ s) (hYp : 0 < Y) (hY1 : Y ≤ 18446744073709551616)
    (tot : U * 18446744073709551616 + L = N * 2 ^ s) :
    IntKind.u64.wrap (IntKind.u64.wrap (IntKind.u64.wrap ((U * 4294967296 + L / 4294967296) % Y * 4294967296) + L % 4294967296) - IntKind.u64.wrap (((U * 4294967296 + L / 4294967296) % Y * 4294967296 + L % 4294967296) / Y * Y)) / 2 ^ s = N % y := by
  rw [dig_rest _ (L % 4294967296) Y _ hYp hY1 rfl, dig_rem]
  have e2 : (U * 4294967296 + L / 4294967296) * 4294967296 + L % 4294967296 = N * 2 ^ s := by omega
  have hs0 : (0 : Int) < 2 ^ s := Int.pow_pos (by omega)
  rw [e2, hY, Int.mul_comm N, Int.mul_comm y, Int.mul_emod_mul_of_pos _ _ hs0, Int.mul_ediv_cancel_left _ (by omega)]

/-- what proportion.Of returns: the error, the quotient, the remainder -/
def ofE (a b c : Int) : Int :=
  if isAm a && isAm b && isAm c then (if c = 0 then 16 else if a * b / c ≤ 128849018880000 then 0 else 15) else 2
def ofQ (a b c : Int) : Int := if ofE a b c = 0 then a * b / c else 0
def ofR (a b c : Int) : Int := if ofE a b c = 0 then a * b % c else 0

/-- what Up makes of what Of returns -/
def upE (q r e : Int) : Int := if e = 0 then (if q + (if 0 < r then 1 else 0) ≤ 128849018880000 then 0 else 15) else e
def upQ (q r e : Int) : Int := if upE q r e = 0 then q + (if 0 < r then 1 else 0) else 0
/-- what Compare returns -/
def cmpE (a b c d : Int) : Int := if isAm a && isAm b && isAm c && isAm d then (if b = 0 then 16 else if d = 0 then 16 else 0) else 2
def cmpN (x y : Int) : Int := if x < y then -1 else if y < x then 1 else 0
def cmpC (a b c d : Int) : Int := if cmpE a b c d = 0 then cmpN (a * d) (c * b) else 0

theorem ofQ_bd (a b c : Int) : 0 ≤ ofQ a b c ∧ ofQ a b c ≤ 128849018880000 := by
  unfold ofQ
  by_cases h : ofE a b c = 0
  · rw [if_pos h]
    unfold ofE at h
    split at h
    · rename_i h1
      simp only [Bool.and_eq_true, isAm_iff] at h1
      split at h
      · omega
      · split at h
        · exact ⟨Int.ediv_nonneg (Int.mul_nonneg h1.1.1.1 h1.1.2.1) h1.2.1, by assumption⟩
        · omega
    · omega
  · rw [if_neg h]; omega
theorem ofR_bd (a b c : Int) : 0 ≤ ofR a b c ∧ ofR a b c ≤ 128849018880000 := by
  unfold ofR
  by_cases h : ofE a b c = 0
  · rw [if_pos h]
    unfold ofE at h
    split at h
    · rename_i h1
      simp only [Bool.and_eq_true, isAm_iff] at h1
      split at h
      · omega
      · have := Int.emod_nonneg (a * b) (show c ≠ 0 by assumption)
        have := Int.emod_lt_of_pos (a * b) (show 0 < c by omega)
        omega
    · omega
  · rw [if_neg h]; omega

end Go.Proofs.YtgjdopjolokaiaaGreat

/- math/bits.Div64: what it returns where the upper word is less than the divisor. -/
namespace Go.Proofs.YtgjdopjolokaiaaGreat
open Go.RowKit

/-- what the guess's loop has to be told of a digit: 'D' is the digit -/
structure Dig (a c U u D : Int) : Prop where
  next : ∀ q r : Int, D ≤ q → q * a + r = U → (4294967296 ≤ q ∨ 4294967296 * r + u < q * c) → D ≤ q - 1
  done : ∀ q r : Int, D ≤ q → q * a + r = U → q * c ≤ 4294967296 * r + u → q = D
  stop : ∀ q r : Int, D ≤ q → q * a + r = U → 4294967296 ≤ r → q = D
  prod : ∀ q : Int, 0 ≤ q → q < 4294967296 → 0 ≤ q * c ∧ q * c ≤ 18446744073709551615
  pos : 0 ≤ D

theorem Dig.mk' (U u Y a c : Int) (hY : Y = a * 4294967296 + c) (c0 : 0 ≤ c) (c1 : c < 4294967296) (ha : 1 ≤ a) (hU0 : 0 ≤ U) (hU : U < Y) (u0 : 0 ≤ u) (u1 : u < 4294967296) :
    Dig a c U u ((U * 4294967296 + u) / Y) where
  next q r _ hr ht := dig_next U u Y a c q r hY (by omega) hU u1 hr ht
  done q r hq hr ht := dig_done U u Y a c q r hY (by omega) hr hq ht
  stop q r hq hr ht := dig_stop U u Y a c q r hY c0 c1 ha hU hr (by have := (dig_lt U u Y hU0 hU u0 u1).1; omega) u0 ht hq
  prod q h0 h1 := by
    have a1 := Int.mul_nonneg h0 c0
    have a2 : q * c ≤ 4294967295 * 4294967295 := Int.mul_le_mul (by omega) (by omega) c0 (by omega)
    omega
  pos := (dig_lt U u Y hU0 hU u0 u1).1

theorem ret_two {k l : IntKind} {a b c d : Int} (h : a = b) (g : c = d) : Ending.returned (.tuple #[.int k a, .int l c]) = .returned (.tuple #[.int k b, .int l d]) := by rw [h, g]

theorem mul_pred (q a r U : Int) (h : q * a + r = U) : (q - 1) * a + (r + a) = U := by
  rw [Int.sub_mul]; omega

set_option maxHeartbeats 1000000 in
set_option maxRecDepth 100000 in
theorem div64_core (hi lo y : Int) (s : Nat) (Y a c H G U L u1 u0 g r g2 r2 Q1 R1 Q0 Q R : Int) (w : World) (h0 : 1 ≤ hi) (h1 : hi < y) (h2 : 0 ≤ lo) (h3 : lo ≤ 18446744073709551615) (h4 : y ≤ 140737488355327)
   (hs0 : 17 ≤ s) (hs1 : s ≤ 63)
   (lz : Hid (Calls Tryz.prog 116 #[.int .u64 y] w fun e w' => e = .returned (.int .i64 s) ∧ w = w'))
   (yb0 : 0 ≤ y * 2 ^ s) (yb1 : y * 2 ^ s ≤ 18446744073709551615) (hb0 : 0 ≤ hi * 2 ^ s) (hb1 : hi * 2 ^ s ≤ 18446744073709551615)
   (eY : y * 2 ^ s = Y) (ea : Y / 4294967296 = a) (ec : bits .and .u64 Y 4294967295 = c) (eH : hi * 2 ^ s = H) (eG : lo / 2 ^ (64 - s) = G) (eU : bits .or .u64 H G = U)
   (eL : IntKind.u64.wrap (lo * 2 ^ s) = L) (e1 : L / 4294967296 = u1) (e0 : bits .and .u64 L 4294967295 = u0) (eg : U / a = g) (er : U - g * a = r) 
   (b1 : 2147483648 ≤ a) (b2 : 0 ≤ U) (b3 : U ≤ 18446744073709551615) (b4 : a ≤ 4294967295) (b5 : 0 ≤ c) (b6 : c ≤ 4294967295) (b7 : 0 ≤ u1) (b8 : u1 ≤ 4294967295) (b9 : 0 ≤ u0) (b10 : u0 ≤ 4294967295) (b11 : 9223372036854775808 ≤ Y) (b12 : Y ≤ 18446744073709551615) (b13 : 0 ≤ g * a) (b14 : g * a ≤ U)
   (hR1 : Hid (IntKind.u64.wrap (IntKind.u64.wrap (IntKind.u64.wrap (U * 4294967296) + u1) - IntKind.u64.wrap (Q1 * Y)) = R1)) (c1 : 0 ≤ R1) (c2 : R1 ≤ 18446744073709551615) (eg2 : Hid (R1 / a = g2)) (er2 : Hid (R1 - R1 / a * a = r2)) (b15 : 0 ≤ R1 / a * a) (b16 : R1 / a * a ≤ R1)
   (dg2 : Dig a c R1 u0 Q0) (st2 : Q0 ≤ g2 ∧ 0 ≤ g2 ∧ g2 ≤ 18446744073709551615 ∧ 0 ≤ r2 ∧ r2 < 4294967296 ∧ Hid (g2 * a + r2 = R1))
   (dg1 : Dig a c U u1 Q1) (st1 : Q1 ≤ g ∧ 0 ≤ g ∧ g ≤ 18446744073709551615 ∧ 0 ≤ r ∧ r < 4294967296 ∧ Hid (g * a + r = U))
   (hQ : Hid (IntKind.u64.wrap (IntKind.u64.wrap (Q1 * 4294967296) + Q0) = Q)) (hR : Hid (IntKind.u64.wrap (IntKind.u64.wrap (IntKind.u64.wrap (R1 * 4294967296) + u0) - IntKind.u64.wrap (Q0 * Y)) / 2 ^ s = R)) :
    Calls Tryz.prog 112 #[.int .u64 hi, .int .u64 lo, .int .u64 y] w fun e w' => e = .returned (.tuple #[.int .u64 Q, .int .u64 R]) ∧ w' = w := by
  go_enter Tryz.func112, Tryz.ntmps112
  go_upto_region 16 with (go_at_call 116; refine (lz.out).mono ?_; rintro e w' ⟨rfl, rfl⟩)
  go_cut [2, 8, 9, 10, 11, 13, 14, 15, 16] (fun s2 s8 s9 s10 s11 s13 s14 s15 s16 wx => s2 = .int .u64 Y ∧ s8 = .int .u64 s ∧ s9 = .int .u64 a ∧ s10 = .int .u64 c ∧ s11 = .int .u64 U ∧ s13 = .int .u64 u1 ∧ s14 = .int .u64 u0 ∧ s15 = .int .u64 g ∧ s16 = .int .u64 r ∧ w = wx)
  case first =>
    go_wp2
    go_meet
    case rel => exact ⟨rfl, rfl, rfl, rfl, rfl, rfl, rfl, by rw [eg], rfl, rfl⟩
  case rest =>
  obtain ⟨rfl, rfl, rfl, rfl, rfl, rfl, rfl, rfl, rfl, rfl⟩ := hcut
  clear eY ea ec eH eG eU eL e1 e0 eg er
  go_upto_block 0 with fail
  go_cut [15] (fun s15 wx => s15 = .int .u64 Q1 ∧ w = wx)
  case first =>
    go_wp2_with fail
    go_loop [15, 16] (fun q r => ∃ q1 r1 : Int, q = .int .u64 q1 ∧ r = .int .u64 r1 ∧ Q1 ≤ q1 ∧ 0 ≤ q1 ∧ q1 ≤ 18446744073709551615 ∧ 0 ≤ r1 ∧ r1 < 4294967296 ∧ Hid (q1 * a + r1 = U)) (fun q _ => (intOf q).toNat)
    case atStart => exact ⟨g, r, rfl, rfl, st1.1, st1.2.1, st1.2.2.1, st1.2.2.2.1, st1.2.2.2.2.1, st1.2.2.2.2.2⟩
    case round =>
      obtain ⟨q1, r1, rfl, rfl, p1, p2, p2', p3, p4, p5⟩ := hrel
      by_cases t1 : 4294967296 ≤ q1
      · have HN := Lib.hid (dg1.next q1 r1 p1 p5.out (Or.inl t1))
        have HS := Lib.hid (dg1.stop (q1 - 1) (r1 + a) HN.out (mul_pred _ _ _ _ p5.out))
        have HR := Lib.hid (mul_pred _ _ _ _ p5.out)
        go_wp2
        · have ht : 4294967296 ≤ r1 + a := by assumption
          go_meet
          case rel => exact ⟨by rw [HS.out ht], rfl⟩
        · have ht : r1 + a < 4294967296 := by assumption
          go_round
          case rel => exact ⟨q1 - 1, r1 + a, rfl, rfl, HN.out, by omega, by omega, by omega, ht, HR.out⟩
          case measure => simp [intOf]; omega
      · obtain ⟨m1, m2⟩ := dg1.prod q1 p2 (by omega)
        by_cases t2 : 4294967296 * r1 + u1 < q1 * c
        · have HN := Lib.hid (dg1.next q1 r1 p1 p5.out (Or.inr t2))
          have HS := Lib.hid (dg1.stop (q1 - 1) (r1 + a) HN.out (mul_pred _ _ _ _ p5.out))
          have HR := Lib.hid (mul_pred _ _ _ _ p5.out)
          have q1p : 1 ≤ q1 := by have := dg1.pos; have := HN.out; omega
          go_wp2
          · have ht : 4294967296 ≤ r1 + a := by assumption
            go_meet
            case rel => exact ⟨by rw [HS.out ht], rfl⟩
          · have ht : r1 + a < 4294967296 := by assumption
            go_round
            case rel => exact ⟨q1 - 1, r1 + a, rfl, rfl, HN.out, by omega, by omega, by omega, ht, HR.out⟩
            case measure => simp [intOf]; omega
        · have HD := Lib.hid (dg1.done q1 r1 p1 p5.out (by omega))
          go_wp2
          go_meet
          case rel => exact ⟨by rw [HD.out], rfl⟩
  case rest =>
  obtain ⟨rfl, rfl⟩ := hcut
  clear st1 b13 b14
  go_upto_region 21 with fail
  go_cut [17] (fun s17 wx => s17 = .int .u64 R1 ∧ w = wx)
  case first =>
    go_wp2
    go_meet
    case rel => exact ⟨by rw [← hR1.out], rfl⟩
  case rest =>
  obtain ⟨rfl, rfl⟩ := hcut
  go_upto_region 23 with fail
  go_cut [18, 16] (fun s18 s16 wx => s18 = .int .u64 g2 ∧ s16 = .int .u64 r2 ∧ w = wx)
  case first =>
    go_wp2
    go_meet
    case rel => exact ⟨by rw [← eg2.out], by rw [← er2.out], rfl⟩
  case rest =>
  obtain ⟨rfl, rfl, rfl⟩ := hcut
  clear b15 b16
  go_upto_block 2 with fail
  go_cut [18] (fun s18 wx => s18 = .int .u64 Q0 ∧ w = wx)
  case first =>
    go_wp2_with fail
    go_loop [18, 16] (fun q r => ∃ q1 r1 : Int, q = .int .u64 q1 ∧ r = .int .u64 r1 ∧ Q0 ≤ q1 ∧ 0 ≤ q1 ∧ q1 ≤ 18446744073709551615 ∧ 0 ≤ r1 ∧ r1 < 4294967296 ∧ Hid (q1 * a + r1 = R1)) (fun q _ => (intOf q).toNat)
    case atStart => exact ⟨g2, r2, rfl, rfl, st2.1, st2.2.1, st2.2.2.1, st2.2.2.2.1, st2.2.2.2.2.1, st2.2.2.2.2.2⟩
    case round =>
      obtain ⟨q1, r1, rfl, rfl, p1, p2, p2', p3, p4, p5⟩ := hrel
      by_cases t1 : 4294967296 ≤ q1
      · have HN := Lib.hid (dg2.next q1 r1 p1 p5.out (Or.inl t1))
        have HS := Lib.hid (dg2.stop (q1 - 1) (r1 + a) HN.out (mul_pred _ _ _ _ p5.out))
        have HR := Lib.hid (mul_pred _ _ _ _ p5.out)
        go_wp2
        · have ht : 4294967296 ≤ r1 + a := by assumption
          go_meet
          case rel => exact ⟨by rw [HS.out ht], rfl⟩
        · have ht : r1 + a < 4294967296 := by assumption
          go_round
          case rel => exact ⟨q1 - 1, r1 + a, rfl, rfl, HN.out, by omega, by omega, by omega, ht, HR.out⟩
          case measure => simp [intOf]; omega
      · obtain ⟨m1, m2⟩ := dg2.prod q1 p2 (by omega)
        by_cases t2 : 4294967296 * r1 + u0 < q1 * c
        · have HN := Lib.hid (dg2.next q1 r1 p1 p5.out (Or.inr t2))
          have HS := Lib.hid (dg2.stop (q1 - 1) (r1 + a) HN.out (mul_pred _ _ _ _ p5.out))
          have HR := Lib.hid (mul_pred _ _ _ _ p5.out)
          have q1p : 1 ≤ q1 := by have := dg2.pos; have := HN.out; omega
          go_wp2
          · have ht : 4294967296 ≤ r1 + a := by assumption
            go_meet
            case rel => exact ⟨by rw [HS.out ht], rfl⟩
          · have ht : r1 + a < 4294967296 := by assumption
            go_round
            case rel => exact ⟨q1 - 1, r1 + a, rfl, rfl, HN.out, by omega, by omega, by omega, ht, HR.out⟩
            case measure => simp [intOf]; omega
        · have HD := Lib.hid (dg2.done q1 r1 p1 p5.out (by omega))
          go_wp2
          go_meet
          case rel => exact ⟨by rw [HD.out], rfl⟩
  case rest =>
  obtain ⟨rfl, rfl⟩ := hcut
  clear st2
  go_wp2
  go_ret2
  exact ⟨ret_two hQ.out hR.out, rfl⟩

theorem div64_pos (hi lo y : Int) (w : World) (h0 : 1 ≤ hi) (h1 : hi < y) (h2 : 0 ≤ lo) (h3 : lo ≤ 18446744073709551615) (h4 : y ≤ 140737488355327) :
    Calls Tryz.prog 112 #[.int .u64 hi, .int .u64 lo, .int .u64 y] w fun e w' => e = .returned (.tuple #[.int .u64 (twoW hi lo / y), .int .u64 (twoW hi lo % y)]) ∧ w' = w := by
  obtain ⟨s, e1, s0, s1, hL, n0, n1⟩ := norm_shift y.toNat (by omega) (by omega)
  have lz := Tryz.bits_LeadingZeros64 y w (by omega) (by omega)
  rw [show (64 - (Lib.bitLen y.toNat : Int)) = (s : Int) by omega] at lz
  have lz' : Calls Tryz.prog 116 #[.int .u64 y] w fun e w' => e = .returned (.int .i64 s) ∧ w = w' := lz.mono fun _ _ h => ⟨h.1, h.2.symm⟩
  have hy : ((y.toNat * 2 ^ s : Nat) : Int) = y * 2 ^ s := by rw [Int.natCast_mul, Int.toNat_of_nonneg (by omega)]; simp
  have m0 : 9223372036854775808 ≤ y * 2 ^ s := by rw [← hy]; have : 2 ^ 63 = 9223372036854775808 := rfl; omega
  have m1 : y * 2 ^ s ≤ 18446744073709551615 := by rw [← hy]; have : 2 ^ 64 = 18446744073709551616 := rfl; omega
  have sh := Shifted.mk' hi lo y s (by omega) h1 h2 h3 (by omega)
  have or := or_add hi (lo / 2 ^ (64 - s)) s (by omega) sh.G0 sh.Gs (by have := sh.lt; omega)
  have g0 := sh.G0
  have H0 := sh.H0
  have L0 := sh.L0
  have L1 := sh.L1
  have tot := sh.tot
  have lt := sh.lt
  clear sh e1 hL n0 n1 hy lz
  generalize hY : y * 2 ^ s = Y at *
  generalize hG : lo / 2 ^ (64 - s) = G at *
  generalize hLL : lo * 2 ^ s % 18446744073709551616 = L at *
  generalize hH : hi * 2 ^ s = H at *
  generalize hU : H + G = U at *
  have lt0 := and_low Y (by omega) (by omega)
  have lt1 := and_low L (by omega) (by omega)
  have u0 : 0 ≤ U := by omega
  have a0 : 2147483648 ≤ Y / 4294967296 := by omega
  have p0 : 0 ≤ U / (Y / 4294967296) * (Y / 4294967296) := Int.mul_nonneg (Int.ediv_nonneg u0 (by omega)) (by omega)
  have p1 : U / (Y / 4294967296) * (Y / 4294967296) ≤ U := Int.ediv_mul_le _ (by omega)
  have p2 : U % (Y / 4294967296) = U - U / (Y / 4294967296) * (Y / 4294967296) := by
    have := Int.emod_add_mul_ediv U (Y / 4294967296); rw [Int.mul_comm] at this; omega
  have p3 := Int.emod_nonneg U (show Y / 4294967296 ≠ 0 by omega)
  have p4 := Int.emod_lt_of_pos U (show 0 < Y / 4294967296 by omega)
  have p5 : U / (Y / 4294967296) ≤ U := Int.ediv_le_self _ u0
  have hYs : Y = Y / 4294967296 * 4294967296 + Y % 4294967296 := by omega
  have r0 := Int.emod_nonneg (U * 4294967296 + L / 4294967296) (show Y ≠ 0 by omega)
  have r1 := Int.emod_lt_of_pos (U * 4294967296 + L / 4294967296) (show 0 < Y by omega)
  have dg1 := Dig.mk' U (L / 4294967296) Y (Y / 4294967296) (Y % 4294967296) hYs (by omega) (by omega) (by omega) u0 lt (by omega) (by omega)
  have st1 := dig_start U (L / 4294967296) Y (Y / 4294967296) (Y % 4294967296) hYs (by omega) (by omega) u0 (by omega) (by omega)
  have rest := dig_rest U (L / 4294967296) Y _ (by omega) (by omega) rfl
  have fq := fin_quot U L Y (twoW hi lo) y s hY.symm (by omega) u0 lt (by omega) L0 (by omega) tot
  have fr := fin_rest U L Y (twoW hi lo) y s hY.symm (by omega) (by omega) tot
  generalize hR1 : (U * 4294967296 + L / 4294967296) % Y = R1 at *
  have dg2 := Dig.mk' R1 (L % 4294967296) Y (Y / 4294967296) (Y % 4294967296) hYs (by omega) (by omega) (by omega) r0 r1 (by omega) (by omega)
  have st2 := dig_start R1 (L % 4294967296) Y (Y / 4294967296) (Y % 4294967296) hYs (by omega) (by omega) r0 (by omega) (by omega)
  have q0 : 0 ≤ R1 / (Y / 4294967296) * (Y / 4294967296) := Int.mul_nonneg (Int.ediv_nonneg r0 (by omega)) (by omega)
  have q1 : R1 / (Y / 4294967296) * (Y / 4294967296) ≤ R1 := Int.ediv_mul_le _ (by omega)
  have q2 : R1 % (Y / 4294967296) = R1 - R1 / (Y / 4294967296) * (Y / 4294967296) := by
    have := Int.emod_add_mul_ediv R1 (Y / 4294967296); rw [Int.mul_comm] at this; omega
  have q3 := Int.emod_nonneg R1 (show Y / 4294967296 ≠ 0 by omega)
  have q4 := Int.emod_lt_of_pos R1 (show 0 < Y / 4294967296 by omega)
  have q5 : R1 / (Y / 4294967296) ≤ R1 := Int.ediv_le_self _ r0
  exact div64_core hi lo y s Y (Y / 4294967296) (Y % 4294967296) H G U L (L / 4294967296) (L % 4294967296) (U / (Y / 4294967296)) (U - U / (Y / 4294967296) * (Y / 4294967296)) (R1 / (Y / 4294967296)) (R1 - R1 / (Y / 4294967296) * (Y / 4294967296))
    ((U * 4294967296 + L / 4294967296) / Y) R1 ((R1 * 4294967296 + L % 4294967296) / Y) _ _ w h0 h1 h2 h3 h4 s0 s1 lz' (by rw [hY]; omega) (by rw [hY]; omega) (by rw [hH]; omega) (by rw [hH]; omega)
    hY rfl lt0 hH hG (by rw [or]) (by rw [IntKind.wrap_u64]; exact hLL) rfl lt1 rfl rfl a0 u0 (by omega) (by omega) (by omega) (by omega) (by omega) (by omega) (by omega) (by omega) (by omega) (by omega) p0 p1
    rest r0 (by omega) rfl rfl q0 q1 dg2 ⟨st2, Int.ediv_nonneg r0 (by omega), by omega, by omega, by omega, by show _ = _; omega⟩
    dg1 ⟨st1, Int.ediv_nonneg u0 (by omega), by omega, by omega, by omega, by show _ = _; omega⟩ fq fr

set_option maxHeartbeats 1000000 in
set_option maxRecDepth 100000 in
theorem div64_zero (lo y : Int) (w : World) (h1 : 0 < y) (h2 : 0 ≤ lo) (h3 : lo ≤ 18446744073709551615) (h4 : y ≤ 140737488355327) :
    Calls Tryz.prog 112 #[.int .u64 0, .int .u64 lo, .int .u64 y] w fun e w' => e = .returned (.tuple #[.int .u64 (lo / y), .int .u64 (lo % y)]) ∧ ∃ n, w' = w.drewN n := by
  go_enter Tryz.func112, Tryz.ntmps112
  go_wp2_with fail
  go_quiet (fail)
  go_wp2
  go_ret2
  exact ⟨rfl, _, rfl⟩

theorem div64_any (hi lo y : Int) (w : World) (h0 : 0 ≤ hi) (h1 : hi < y) (h2 : 0 ≤ lo) (h3 : lo ≤ 18446744073709551615) (h4 : y ≤ 140737488355327) :
    Calls Tryz.prog 112 #[.int .u64 hi, .int .u64 lo, .int .u64 y] w fun e w' => e = .returned (.tuple #[.int .u64 (twoW hi lo / y), .int .u64 (twoW hi lo % y)]) ∧ ∃ n, w' = w.drewN n := by
  by_cases hz : hi = 0
  · subst hz
    rw [show twoW 0 lo = lo by unfold twoW; omega]
    exact div64_zero lo y w (by omega) h2 h3 h4
  · exact (div64_pos hi lo y w (by omega) h1 h2 h3 h4).mono fun _ _ h => ⟨h.1, 0, h.2⟩

end Go.Proofs.YtgjdopjolokaiaaGreat

/- Package proportion: what Of, Up and Compare return, for every input. -/
namespace Go.Proofs.YtgjdopjolokaiaaGreat
open Go.RowKit

theorem amounts_any (b off len cap : Nat) (zs : List Int) (w : World) (hz : len = zs.length) (hbig : len ≤ 9223372036854775807) (hc : ∀ j, j < zs.length → w.cell? ⟨b, off + j, none⟩ = some (.int .i64 (zs.getD j 0))) :
    Calls Tryz.prog 110 #[.slice (some ⟨b, off, none⟩) len cap] w fun e w' => e = .returned (.bool (zs.all isAm)) ∧ w' = w := by
  have HC := Lib.hid hc; clear hc
  have HZ := Lib.hid hz; clear hz
  go_enter Tryz.func110, Tryz.ntmps110
  go_wp2
  go_loop [7] (fun i => ∃ k : Nat, k ≤ len ∧ i = .int .i64 k ∧ (zs.take k).all isAm = true) (fun i => len - (intOf i).toNat)
  case atStart => exact ⟨0, Nat.zero_le _, rfl, by simp⟩
  case round =>
    obtain ⟨k, hk, rfl, hall⟩ := hrel
    have HA := Lib.hid hall; clear hall
    by_cases hlt : k < len
    · have hkz : k < zs.length := by rw [← HZ.out]; exact hlt
      have hcell : w.cell? ⟨b, off + k, none⟩ = some (.int .i64 (zs.getD k 0)) := HC.out k hkz
      have HS := Lib.hid (all_take_succ zs k hkz)
      have HF := Lib.hid (all_false_at zs k hkz)
      generalize zs.getD k 0 = z at *
      by_cases hb : 0 ≤ z ∧ z ≤ 128849018880000
      · have HB := Lib.hid ((isAm_iff z).2 hb)
        obtain ⟨hb1, hb2⟩ := hb
        clear hkz
        go_wp2
        go_round
        case rel => exact ⟨k + 1, by omega, by go_num, by rw [HS.out, HA.out, HB.out]; rfl⟩
        case measure => simp [intOf]; omega
      · have HB := Lib.hid (HF.out (by rw [isAm_not]; omega))
        by_cases hz0 : z < 0
        · clear hb hkz
          go_wp2
          go_ret
          rw [HB.out]; exact ⟨rfl, rfl⟩
        · have hz1 : 128849018880000 < z := by omega
          clear hb hkz
          go_wp2
          go_ret
          rw [HB.out]; exact ⟨rfl, rfl⟩
    · have HT : RowKit.Hid (zs.take k = zs) := by
        show zs.take k = zs
        exact List.take_of_length_le (by have := HZ.out; omega)
      go_wp2
      go_ret
      rw [← HA.out, HT.out]; exact ⟨rfl, rfl⟩

theorem mul64_int (x y : Int) (w : World) (hx0 : 0 ≤ x) (hx : x ≤ 9223372036854775807) (hy0 : 0 ≤ y) (hy : y ≤ 9223372036854775807) :
    Calls Tryz.prog 115 #[.int .u64 x, .int .u64 y] w fun e w' => e = .returned (.tuple #[.int .u64 (hiW (x * y)), .int .u64 (loW (x * y))]) ∧ w = w' := by
  obtain ⟨A, rfl⟩ := Int.eq_ofNat_of_zero_le hx0
  obtain ⟨B, rfl⟩ := Int.eq_ofNat_of_zero_le hy0
  refine (Tryz.bits_Mul64 A B (by omega) (by omega) w).mono fun e w' h => ⟨?_, h.2.symm⟩
  rw [h.1, hiW, loW]; simp

theorem multiply_any (a b : Int) (w : World) (ha0 : 0 ≤ a) (ha : a ≤ 9223372036854775807) (hb0 : 0 ≤ b) (hb : b ≤ 9223372036854775807) :
    Calls Tryz.prog 111 #[.int .i64 a, .int .i64 b] w fun e w' => e = .returned (.agg #[.int .u64 (hiW (a * b)), .int .u64 (loW (a * b))]) ∧ Below w.heap.size w w' := by
  go_enter Tryz.func111, Tryz.ntmps111
  go_wp2_with (go_at_call 115; refine (mul64_int a b _ ha0 ha hb0 hb).mono ?_; rintro e w' ⟨rfl, rfl⟩)
  go_returns
  exact ⟨rfl, by go_grown⟩

theorem amounts_row (zs : List Int) (vs : List Value) (w : World) (hv : vs = zs.map (Value.int .i64)) (hl : zs.length ≤ 1000) (r : Bool) (h : zs.all isAm = r) :
    Calls Tryz.prog 110 #[.slice (some ⟨w.heap.size, 0, none⟩) zs.length zs.length] (w.alloc (.cells vs.toArray 3)) fun e w' => e = .returned (.bool r) ∧ (w.alloc (.cells vs.toArray 3)) = w' := by
  refine (amounts_any _ 0 zs.length zs.length zs _ rfl (by omega) ?_).mono fun e w' g => ⟨by rw [g.1, h], g.2.symm⟩
  intro j hj
  subst hv
  rw [World.cell?_alloc_new]
  simp [List.getD, List.getElem?_eq_getElem hj]

theorem amounts1 (a : Int) (w : World) (r : Bool) (h : isAm a = r) :
    Calls Tryz.prog 110 #[.slice (some ⟨w.heap.size, 0, none⟩) 1 1] (w.alloc (.cells #[.int .i64 a] 3)) fun e w' => e = .returned (.bool r) ∧ (w.alloc (.cells #[.int .i64 a] 3)) = w' :=
  amounts_row [a] [.int .i64 a] w rfl (by simp) r (by simpa using h)
theorem amounts2 (a b : Int) (w : World) (r : Bool) (h : (isAm a && isAm b) = r) :
    Calls Tryz.prog 110 #[.slice (some ⟨w.heap.size, 0, none⟩) 2 2] (w.alloc (.cells #[.int .i64 a, .int .i64 b] 3)) fun e w' => e = .returned (.bool r) ∧ (w.alloc (.cells #[.int .i64 a, .int .i64 b] 3)) = w' :=
  amounts_row [a, b] [.int .i64 a, .int .i64 b] w rfl (by simp) r (by simpa using h)
theorem amounts3 (a b c : Int) (w : World) (r : Bool) (h : (isAm a && isAm b && isAm c) = r) :
    Calls Tryz.prog 110 #[.slice (some ⟨w.heap.size, 0, none⟩) 3 3] (w.alloc (.cells #[.int .i64 a, .int .i64 b, .int .i64 c] 3)) fun e w' => e = .returned (.bool r) ∧ (w.alloc (.cells #[.int .i64 a, .int .i64 b, .int .i64 c] 3)) = w' :=
  amounts_row [a, b, c] [.int .i64 a, .int .i64 b, .int .i64 c] w rfl (by simp) r (by simpa [Bool.and_assoc] using h)
theorem amounts4 (a b c d : Int) (w : World) (r : Bool) (h : (isAm a && isAm b && isAm c && isAm d) = r) :
    Calls Tryz.prog 110 #[.slice (some ⟨w.heap.size, 0, none⟩) 4 4] (w.alloc (.cells #[.int .i64 a, .int .i64 b, .int .i64 c, .int .i64 d] 3)) fun e w' => e = .returned (.bool r) ∧ (w.alloc (.cells #[.int .i64 a, .int .i64 b, .int .i64 c, .int .i64 d] 3)) = w' :=
  amounts_row [a, b, c, d] [.int .i64 a, .int .i64 b, .int .i64 c, .int .i64 d] w rfl (by simp) r (by simpa [Bool.and_assoc] using h)

theorem of_bad (a b c : Int) (w : World) (h : (isAm a && isAm b && isAm c) = false) :
    Calls Tryz.prog 101 #[.int .i64 a, .int .i64 b, .int .i64 c] w fun e w' => e = .returned (.tuple #[.int .i64 0, .int .i64 0, .int .i64 2]) ∧ Below w.heap.size w w' := by
  have H := Lib.hid h; clear h
  go_enter Tryz.func101, Tryz.ntmps101
  go_wp2_with (go_at_call 110; refine (amounts3 _ _ _ _ _ H.out).mono ?_; rintro e w' ⟨rfl, rfl⟩)
  go_returns
  exact ⟨rfl, by go_grown⟩

theorem of_zero (a b : Int) (w : World) (h : (isAm a && isAm b && isAm 0) = true) :
    Calls Tryz.prog 101 #[.int .i64 a, .int .i64 b, .int .i64 0] w fun e w' => e = .returned (.tuple #[.int .i64 0, .int .i64 0, .int .i64 16]) ∧ Below w.heap.size w w' := by
  have H := Lib.hid h; clear h
  go_enter Tryz.func101, Tryz.ntmps101
  go_wp2_with (go_at_call 110; refine (amounts3 _ _ _ _ _ H.out).mono ?_; rintro e w' ⟨rfl, rfl⟩)
  go_returns
  exact ⟨rfl, by go_grown⟩

theorem of_ok (a b c Q R : Int) (w : World) (h : (isAm a && isAm b && isAm c) = true) (hc : 1 ≤ c) (hQ : Hid (a * b / c = Q)) (hR : Hid (a * b % c = R)) (hq : Q ≤ 128849018880000) :
    Calls Tryz.prog 101 #[.int .i64 a, .int .i64 b, .int .i64 c] w fun e w' => e = .returned (.tuple #[.int .i64 Q, .int .i64 R, .int .i64 0]) ∧ Below w.heap.size w w' := by
  have h' := h
  simp only [Bool.and_eq_true, isAm_iff] at h'
  obtain ⟨⟨⟨a0, a1⟩, b0, b1⟩, c0, c1⟩ := h'
  have H := Lib.hid h; clear h
  have p0 : 0 ≤ a * b := Int.mul_nonneg a0 b0
  have q0 : 0 ≤ Q := by rw [← hQ.out]; exact Int.ediv_nonneg p0 c0
  have r0 : 0 ≤ R := by rw [← hR.out]; exact Int.emod_nonneg _ (by omega)
  have r1 : R < c := by rw [← hR.out]; exact Int.emod_lt_of_pos _ (by omega)
  have k : hiW (a * b) < c := by
    rcases Int.lt_or_le (hiW (a * b)) c with k | k
    · exact k
    · have := hiW_ge _ _ k (by omega); rw [hQ.out] at this; omega
  have k0 := hiW_nonneg _ p0
  clear p0
  go_enter Tryz.func101, Tryz.ntmps101
  go_wp2_with (go_at_call 110; refine (amounts3 _ _ _ _ _ H.out).mono ?_; rintro e w' ⟨rfl, rfl⟩)
  refine (multiply_any a b _ a0 (by omega) b0 (by omega)).mono ?_
  rintro e w1 ⟨rfl, hb1⟩
  go_wp2_with fail
  refine (div64_any (hiW (a * b)) (loW (a * b)) c _ k0 k (loW_nonneg _) (loW_le _) (by omega)).mono ?_
  rw [twoW_split, hQ.out, hR.out]
  rintro e w2 ⟨rfl, n, rfl⟩
  go_wp2
  go_returns
  exact ⟨rfl, bel_trans (bel_alloc hb1) (bel_alloc (bel_drewN _ _))⟩

theorem of_big (a b c Q R : Int) (w : World) (h : (isAm a && isAm b && isAm c) = true) (hc : 1 ≤ c) (hQ : Hid (a * b / c = Q)) (hR : Hid (a * b % c = R)) (hq : 128849018880000 < Q) :
    Calls Tryz.prog 101 #[.int .i64 a, .int .i64 b, .int .i64 c] w fun e w' => e = .returned (.tuple #[.int .i64 0, .int .i64 0, .int .i64 15]) ∧ Below w.heap.size w w' := by
  have h' := h
  simp only [Bool.and_eq_true, isAm_iff] at h'
  obtain ⟨⟨⟨a0, a1⟩, b0, b1⟩, c0, c1⟩ := h'
  have H := Lib.hid h; clear h
  have p0 : 0 ≤ a * b := Int.mul_nonneg a0 b0
  have k0 := hiW_nonneg _ p0
  by_cases k : hiW (a * b) < c
  · have q1 : Q ≤ 18446744073709551615 := by
      rw [← hQ.out]
      have : a * b / c < 18446744073709551616 := by
        apply Int.ediv_lt_of_lt_mul (by omega)
        unfold hiW at k; omega
      omega
    have r0 : 0 ≤ R := by rw [← hR.out]; exact Int.emod_nonneg _ (by omega)
    have r1 : R < c := by rw [← hR.out]; exact Int.emod_lt_of_pos _ (by omega)
    clear p0
    go_enter Tryz.func101, Tryz.ntmps101
    go_wp2_with (go_at_call 110; refine (amounts3 _ _ _ _ _ H.out).mono ?_; rintro e w' ⟨rfl, rfl⟩)
    refine (multiply_any a b _ a0 (by omega) b0 (by omega)).mono ?_
    rintro e w1 ⟨rfl, hb1⟩
    go_wp2_with fail
    refine (div64_any (hiW (a * b)) (loW (a * b)) c _ k0 k (loW_nonneg _) (loW_le _) (by omega)).mono ?_
    rw [twoW_split, hQ.out, hR.out]
    rintro e w2 ⟨rfl, n, rfl⟩
    go_wp2
    go_returns
    exact ⟨rfl, bel_trans (bel_alloc hb1) (bel_alloc (bel_drewN _ _))⟩
  · clear p0
    go_enter Tryz.func101, Tryz.ntmps101
    go_wp2_with (go_at_call 110; refine (amounts3 _ _ _ _ _ H.out).mono ?_; rintro e w' ⟨rfl, rfl⟩)
    refine (multiply_any a b _ a0 (by omega) b0 (by omega)).mono ?_
    rintro e w1 ⟨rfl, hb1⟩
    go_wp2
    go_returns
    exact ⟨rfl, bel_trans (bel_alloc hb1) (bel_alloc (Below.refl _ _))⟩

/-- 'Of', whatever it is handed -/
theorem of_any (a b c : Int) (w : World) :
    Calls Tryz.prog 101 #[.int .i64 a, .int .i64 b, .int .i64 c] w fun e w' => e = .returned (.tuple #[.int .i64 (ofQ a b c), .int .i64 (ofR a b c), .int .i64 (ofE a b c)]) ∧ Below w.heap.size w w' := by
  unfold ofQ ofR
  cases h : (isAm a && isAm b && isAm c) with
  | false =>
    have e : ofE a b c = 2 := by unfold ofE; rw [h]; rfl
    rw [e]; exact of_bad a b c w h
  | true =>
    by_cases hc : c = 0
    · subst hc
      have e : ofE a b 0 = 16 := by unfold ofE; rw [h]; rfl
      rw [e]; exact of_zero a b w h
    · have h' := h
      simp only [Bool.and_eq_true, isAm_iff] at h'
      by_cases hq : a * b / c ≤ 128849018880000
      · have e : ofE a b c = 0 := by unfold ofE; rw [h, if_pos rfl, if_neg hc, if_pos hq]
        rw [e]; exact of_ok a b c _ _ w h (by omega) rfl rfl hq
      · have e : ofE a b c = 15 := by unfold ofE; rw [h, if_pos rfl, if_neg hc, if_neg hq]
        rw [e]; exact of_big a b c _ _ w h (by omega) rfl rfl (by omega)

end Go.Proofs.YtgjdopjolokaiaaGreat

/- Package proportion: Up. -/
namespace Go.Proofs.YtgjdopjolokaiaaGreat
open Go.RowKit


theorem up_walk (a b c q r x : Int) (w : World) (q0 : 0 ≤ q) (q1 : q ≤ 128849018880000) (hof : Hid (∀ W, Calls Tryz.prog 101 #[.int .i64 a, .int .i64 b, .int .i64 c] W fun e w' => e = .returned (.tuple #[.int .i64 q, .int .i64 r, .int .i64 x]) ∧ Below W.heap.size W w')) :
    Calls Tryz.prog 102 #[.int .i64 a, .int .i64 b, .int .i64 c] w fun e w' => e = .returned (.tuple #[.int .i64 (upQ q r x), .int .i64 (upE q r x)]) ∧ Below w.heap.size w w' := by
  go_enter Tryz.func102, Tryz.ntmps102
  go_wp2_with fail
  refine (hof.out _).mono ?_
  rintro e w1 ⟨rfl, hb1⟩
  go_wp2
  all_goals
    go_returns
    refine ⟨ret_two ?_ ?_, hb1⟩
  all_goals (simp only [upQ, upE]; grind)

theorem up_any (a b c : Int) (w : World) :
    Calls Tryz.prog 102 #[.int .i64 a, .int .i64 b, .int .i64 c] w fun e w' => e = .returned (.tuple #[.int .i64 (upQ (ofQ a b c) (ofR a b c) (ofE a b c)), .int .i64 (upE (ofQ a b c) (ofR a b c) (ofE a b c))]) ∧ Below w.heap.size w w' :=
  up_walk a b c _ _ _ w (ofQ_bd a b c).1 (ofQ_bd a b c).2 (fun W => of_any a b c W)

end Go.Proofs.YtgjdopjolokaiaaGreat

/- Package profile: distances, the radius on a piece, At. -/
namespace Go.Proofs.YtgjdopjolokaiaaGreat
open Go.RowKit

theorem cdv_of {n d : Int} (h : 0 < d) : cdv n d = n / d + (if 0 < n % d then 1 else 0) := by
  have h1 := Int.emod_add_mul_ediv n d
  have h2 := Int.emod_lt_of_pos n h
  have h3 := Int.emod_nonneg n (show d ≠ 0 by omega)
  rw [Int.mul_comm] at h1
  apply Int.le_antisymm
  · rw [cl_iff _ _ _ h, Int.add_mul]
    by_cases g : 0 < n % d
    · rw [if_pos g]; omega
    · rw [if_neg g]; omega
  · by_cases g : 0 < n % d
    · rw [if_pos g]
      have : ¬ cdv n d ≤ n / d := fun hh => by
        rw [cl_iff _ _ _ h] at hh
        omega
      omega
    · rw [if_neg g]
      have := (fl_cl n d h).1
      omega
theorem cdv_add (m p d : Int) (h : 0 < d) : cdv (m + p * d) d = cdv m d + p := by
  unfold cdv
  rw [show m + p * d + d - 1 = m + d - 1 + p * d by omega]
  exact Int.add_mul_ediv_right _ _ (by omega)
theorem ln_up {a p b q x : Int} (hab : a < b) : lnL a p b q x = p + (q - p) * (x - a) / (b - a) ∧ lnH a p b q x = p + cdv ((q - p) * (x - a)) (b - a) := by
  unfold lnL lnH lnN
  rw [Int.add_comm (p * (b - a)), Int.add_mul_ediv_right _ _ (by omega), cdv_add _ _ _ (by omega)]
  omega
theorem ln_dn {a p b q x : Int} (hab : a < b) : lnL a p b q x = q + (p - q) * (b - x) / (b - a) ∧ lnH a p b q x = q + cdv ((p - q) * (b - x)) (b - a) := by
  have e : lnN a p b q x = (p - q) * (b - x) + q * (b - a) := by unfold lnN; grind
  unfold lnL lnH
  rw [e, Int.add_mul_ediv_right _ _ (by omega), cdv_add _ _ _ (by omega)]
  omega
theorem prop_facts {a b c : Int} (ha : 0 ≤ a ∧ a ≤ 100000) (hb : 0 ≤ b ∧ b ≤ 100000) (hc : 1 ≤ c ∧ c ≤ 100000) :
    ofE a b c = 0 ∧ ofQ a b c = a * b / c ∧ upQ (ofQ a b c) (ofR a b c) (ofE a b c) = cdv (a * b) c ∧ upE (ofQ a b c) (ofR a b c) (ofE a b c) = 0 := by
  have m0 : 0 ≤ a * b := Int.mul_nonneg ha.1 hb.1
  have m1 : a * b ≤ 100000 * 100000 := Int.mul_le_mul ha.2 hb.2 hb.1 (by omega)
  have q1 : a * b / c ≤ a * b := Int.ediv_le_self _ m0
  have i : (isAm a && isAm b && isAm c) = true := by
    simp only [isAm, Bool.and_eq_true, decide_eq_true_eq]
    omega
  have e : ofE a b c = 0 := by
    unfold ofE
    rw [if_pos i, if_neg (by omega), if_pos (by omega)]
  have eq : ofQ a b c = a * b / c := by unfold ofQ; rw [if_pos e]
  have er : ofR a b c = a * b % c := by unfold ofR; rw [if_pos e]
  have ue : upE (ofQ a b c) (ofR a b c) (ofE a b c) = 0 := by
    unfold upE
    rw [if_pos e, if_pos]
    rw [eq]
    split <;> omega
  refine ⟨e, eq, ?_, ue⟩
  unfold upQ
  rw [if_pos ue, eq, er, cdv_of (by omega)]

theorem dist_any (a b : Int) (w : World) (a0 : 0 ≤ a) (a1 : a ≤ 100000) (b0 : 0 ≤ b) (b1 : b ≤ 100000) :
    Calls Tryz.prog 100 #[.int .i64 a, .int .i64 b] w fun e w' => e = .returned (.int .i64 (max (a - b) (b - a))) ∧ w' = w := by
  have w1 : IntKind.i64.wrap (a - b) = a - b := wrap_in _ ⟨by omega, by omega⟩
  have w2 : IntKind.i64.wrap (b - a) = b - a := wrap_in _ ⟨by omega, by omega⟩
  go_enter Tryz.func100, Tryz.ntmps100
  go_wp2
  go_ret
  exact ⟨rfl, rfl⟩

set_option maxRecDepth 100000 in
set_option maxHeartbeats 16000000 in
theorem at_up (a p b q x Q V : Int) (w : World) (a0 : 0 ≤ a) (ab : a < b) (b1 : b ≤ 100000) (p0 : 0 ≤ p) (p1 : p ≤ 100000) (q0 : 0 ≤ q) (pq : p ≤ q) (q1 : q ≤ 100000) (hQ0 : 0 ≤ Q) (hQ : Q ≤ 100000) (hV0 : 0 ≤ V) (hV : V ≤ 100000)
    (x0 : a ≤ x) (x1 : x ≤ b) (m1 : max (a - x) (x - a) = (x - a)) (m2 : max (a - b) (b - a) = b - a)
    (HD : Hid (∀ u v W, (0 ≤ u ∧ u ≤ 100000 ∧ 0 ≤ v ∧ v ≤ 100000) → Calls Tryz.prog 100 #[.int .i64 u, .int .i64 v] W fun e w' => e = .returned (.int .i64 (max (u - v) (v - u))) ∧ w' = W))
    (H3 : Hid (∀ W, Calls Tryz.prog 101 #[.int .i64 (q - p), .int .i64 (x - a), .int .i64 (b - a)] W fun e w' => ∃ R, e = .returned (.tuple #[.int .i64 Q, .int .i64 R, .int .i64 0]) ∧ Below W.heap.size W w'))
    (H4 : Hid (∀ W, Calls Tryz.prog 102 #[.int .i64 (q - p), .int .i64 (x - a), .int .i64 (b - a)] W fun e w' => e = .returned (.tuple #[.int .i64 V, .int .i64 0]) ∧ Below W.heap.size W w')) :
    Calls Tryz.prog 88 #[.agg #[.int .i64 a, .int .i64 p, .int .i64 b, .int .i64 q], .int .i64 x] w fun e w' => e = .returned (.agg #[.int .i64 (p + Q), .int .i64 (p + V)]) ∧ Below w.heap.size w w' := by
  have w1 : IntKind.i64.wrap (q - p) = (q - p) := wrap_in _ ⟨by omega, by omega⟩
  have w2 : IntKind.i64.wrap (p + Q) = p + Q := wrap_in _ ⟨by omega, by omega⟩
  have w3 : IntKind.i64.wrap (p + V) = p + V := wrap_in _ ⟨by omega, by omega⟩
  go_enter Tryz.func88, Tryz.ntmps88
  go_wp2_with fail
  go_region
  · have TR : Hid (Two (w.heap.size + 1) ((((w.alloc (.cells #[.int .i64 a, .int .i64 p, .int .i64 b, .int .i64 q] 100)).alloc (.cells #[.int .i64 0, .int .i64 0] 29)).alloc (.cells #[.int .i64 a, .int .i64 p] 46)).alloc (.cells #[.int .i64 b, .int .i64 q] 46)) (.int .i64 0) (.int .i64 0)) := by
      have := ((Two.new (w.alloc (.cells #[.int .i64 a, .int .i64 p, .int .i64 b, .int .i64 q] 100)) (.int .i64 0) (.int .i64 0) 29).alloc (.cells #[.int .i64 a, .int .i64 p] 46)).alloc (.cells #[.int .i64 b, .int .i64 q] 46)
      rwa [World.size_alloc] at this
    have T1 : Hid (Two (w.heap.size + 1 + 1) ((((w.alloc (.cells #[.int .i64 a, .int .i64 p, .int .i64 b, .int .i64 q] 100)).alloc (.cells #[.int .i64 0, .int .i64 0] 29)).alloc (.cells #[.int .i64 a, .int .i64 p] 46)).alloc (.cells #[.int .i64 b, .int .i64 q] 46)) (.int .i64 a) (.int .i64 p)) := by
      have := (Two.new ((w.alloc (.cells #[.int .i64 a, .int .i64 p, .int .i64 b, .int .i64 q] 100)).alloc (.cells #[.int .i64 0, .int .i64 0] 29)) (.int .i64 a) (.int .i64 p) 46).alloc (.cells #[.int .i64 b, .int .i64 q] 46)
      rwa [World.size_alloc, World.size_alloc] at this
    have T2 : Hid (Two (w.heap.size + 1 + 1 + 1) ((((w.alloc (.cells #[.int .i64 a, .int .i64 p, .int .i64 b, .int .i64 q] 100)).alloc (.cells #[.int .i64 0, .int .i64 0] 29)).alloc (.cells #[.int .i64 a, .int .i64 p] 46)).alloc (.cells #[.int .i64 b, .int .i64 q] 46)) (.int .i64 b) (.int .i64 q)) := by
      have := Two.new (((w.alloc (.cells #[.int .i64 a, .int .i64 p, .int .i64 b, .int .i64 q] 100)).alloc (.cells #[.int .i64 0, .int .i64 0] 29)).alloc (.cells #[.int .i64 a, .int .i64 p] 46)) (.int .i64 b) (.int .i64 q) 46
      rwa [World.size_alloc, World.size_alloc, World.size_alloc] at this
    have HB : Hid (Below w.heap.size w ((((w.alloc (.cells #[.int .i64 a, .int .i64 p, .int .i64 b, .int .i64 q] 100)).alloc (.cells #[.int .i64 0, .int .i64 0] 29)).alloc (.cells #[.int .i64 a, .int .i64 p] 46)).alloc (.cells #[.int .i64 b, .int .i64 q] 46))) := bel_alloc (bel_alloc (bel_alloc (bel_alloc (Below.refl _ _))))
    replace TR := Lib.hid (TR.out.below (bel_drew _))
    replace T1 := Lib.hid (T1.out.below (bel_drew _))
    replace T2 := Lib.hid (T2.out.below (bel_drew _))
    replace HB := Lib.hid (bel_trans HB.out (bel_drew _))
    generalize ((((w.alloc (.cells #[.int .i64 a, .int .i64 p, .int .i64 b, .int .i64 q] 100)).alloc (.cells #[.int .i64 0, .int .i64 0] 29)).alloc (.cells #[.int .i64 a, .int .i64 p] 46)).alloc (.cells #[.int .i64 b, .int .i64 q] 46)).drew = wa at *
    obtain ⟨t0, t1, t2, t3, t4⟩ := T1.out
    obtain ⟨s0, s1, s2, s3, s4⟩ := T2.out
    go_wp2_with fail
    go_quiet ((go_at_call 100; refine Calls.quiet_of_same (HD.out _ _ _ ⟨by omega, by omega, by omega, by omega⟩)))
    replace TR := Lib.hid (TR.out.below (bel_drewN _ nq))
    replace T1 := Lib.hid (T1.out.below (bel_drewN _ nq))
    replace HB := Lib.hid (bel_trans HB.out (bel_drewN _ nq))
    generalize wa.drewN nq = wb at *
    clear t0 t1 t2 t3 t4 s0 s1 s2 s3 s4
    go_wp2_with fail
    refine (H3.out _).mono ?_
    rintro e w4 ⟨R, rfl, h1⟩
    replace TR := Lib.hid (TR.out.below h1)
    replace T1 := Lib.hid (T1.out.below h1)
    replace HB := Lib.hid (bel_trans HB.out h1); clear h1
    go_wp2_with fail
    refine (H4.out _).mono ?_
    rintro e w5 ⟨rfl, h1⟩
    replace TR := Lib.hid (TR.out.below h1)
    replace T1 := Lib.hid (T1.out.below h1)
    replace HB := Lib.hid (bel_trans HB.out h1); clear h1
    obtain ⟨t0, t1, _, _, _⟩ := T1.out
    obtain ⟨r0, r1, r2, r3, _⟩ := TR.out
    go_wp2
    obtain ⟨z0, z1⟩ := two_read w5 (w.heap.size + 1) (.int .i64 (p + Q)) (.int .i64 (p + V)) r0 r1
    refine bodyPost_ret (v := .agg #[.int .i64 (p + Q), .int .i64 (p + V)]) (by simp [results, Tryz.results88, go_sem, z0, z1]) rfl ?_
    exact ⟨rfl, (HB.out.setCell (p := ⟨w.heap.size + 1, 0, none⟩) (Nat.le_succ _) _).setCell (p := ⟨w.heap.size + 1, 1, none⟩) (Nat.le_succ _) _⟩
  · have TR : Hid (Two (w.heap.size + 1) ((((w.alloc (.cells #[.int .i64 a, .int .i64 p, .int .i64 b, .int .i64 q] 100)).alloc (.cells #[.int .i64 0, .int .i64 0] 29)).alloc (.cells #[.int .i64 b, .int .i64 q] 46)).alloc (.cells #[.int .i64 a, .int .i64 p] 46)) (.int .i64 0) (.int .i64 0)) := by
      have := ((Two.new (w.alloc (.cells #[.int .i64 a, .int .i64 p, .int .i64 b, .int .i64 q] 100)) (.int .i64 0) (.int .i64 0) 29).alloc (.cells #[.int .i64 b, .int .i64 q] 46)).alloc (.cells #[.int .i64 a, .int .i64 p] 46)
      rwa [World.size_alloc] at this
    have T1 : Hid (Two (w.heap.size + 1 + 1) ((((w.alloc (.cells #[.int .i64 a, .int .i64 p, .int .i64 b, .int .i64 q] 100)).alloc (.cells #[.int .i64 0, .int .i64 0] 29)).alloc (.cells #[.int .i64 b, .int .i64 q] 46)).alloc (.cells #[.int .i64 a, .int .i64 p] 46)) (.int .i64 b) (.int .i64 q)) := by
      have := (Two.new ((w.alloc (.cells #[.int .i64 a, .int .i64 p, .int .i64 b, .int .i64 q] 100)).alloc (.cells #[.int .i64 0, .int .i64 0] 29)) (.int .i64 b) (.int .i64 q) 46).alloc (.cells #[.int .i64 a, .int .i64 p] 46)
      rwa [World.size_alloc, World.size_alloc] at this
    have T2 : Hid (Two (w.heap.size + 1 + 1 + 1) ((((w.alloc (.cells #[.int .i64 a, .int .i64 p, .int .i64 b, .int .i64 q] 100)).alloc (.cells #[.int .i64 0, .int .i64 0] 29)).alloc (.cells #[.int .i64 b, .int .i64 q] 46)).alloc (.cells #[.int .i64 a, .int .i64 p] 46)) (.int .i64 a) (.int .i64 p)) := by
      have := Two.new (((w.alloc (.cells #[.int .i64 a, .int .i64 p, .int .i64 b, .int .i64 q] 100)).alloc (.cells #[.int .i64 0, .int .i64 0] 29)).alloc (.cells #[.int .i64 b, .int .i64 q] 46)) (.int .i64 a) (.int .i64 p) 46
      rwa [World.size_alloc, World.size_alloc, World.size_alloc] at this
    have HB : Hid (Below w.heap.size w ((((w.alloc (.cells #[.int .i64 a, .int .i64 p, .int .i64 b, .int .i64 q] 100)).alloc (.cells #[.int .i64 0, .int .i64 0] 29)).alloc (.cells #[.int .i64 b, .int .i64 q] 46)).alloc (.cells #[.int .i64 a, .int .i64 p] 46))) := bel_alloc (bel_alloc (bel_alloc (bel_alloc (Below.refl _ _))))
    replace TR := Lib.hid (TR.out.below (bel_drew _))
    replace T1 := Lib.hid (T1.out.below (bel_drew _))
    replace T2 := Lib.hid (T2.out.below (bel_drew _))
    replace HB := Lib.hid (bel_trans HB.out (bel_drew _))
    generalize ((((w.alloc (.cells #[.int .i64 a, .int .i64 p, .int .i64 b, .int .i64 q] 100)).alloc (.cells #[.int .i64 0, .int .i64 0] 29)).alloc (.cells #[.int .i64 b, .int .i64 q] 46)).alloc (.cells #[.int .i64 a, .int .i64 p] 46)).drew = wa at *
    obtain ⟨t0, t1, t2, t3, t4⟩ := T1.out
    obtain ⟨s0, s1, s2, s3, s4⟩ := T2.out
    go_wp2_with fail
    go_quiet ((go_at_call 100; refine Calls.quiet_of_same (HD.out _ _ _ ⟨by omega, by omega, by omega, by omega⟩)))
    replace TR := Lib.hid (TR.out.below (bel_drewN _ nq))
    replace T2 := Lib.hid (T2.out.below (bel_drewN _ nq))
    replace HB := Lib.hid (bel_trans HB.out (bel_drewN _ nq))
    generalize wa.drewN nq = wb at *
    clear t0 t1 t2 t3 t4 s0 s1 s2 s3 s4
    go_wp2_with fail
    refine (H3.out _).mono ?_
    rintro e w4 ⟨R, rfl, h1⟩
    replace TR := Lib.hid (TR.out.below h1)
    replace T2 := Lib.hid (T2.out.below h1)
    replace HB := Lib.hid (bel_trans HB.out h1); clear h1
    go_wp2_with fail
    refine (H4.out _).mono ?_
    rintro e w5 ⟨rfl, h1⟩
    replace TR := Lib.hid (TR.out.below h1)
    replace T2 := Lib.hid (T2.out.below h1)
    replace HB := Lib.hid (bel_trans HB.out h1); clear h1
    obtain ⟨t0, t1, _, _, _⟩ := T2.out
    obtain ⟨r0, r1, r2, r3, _⟩ := TR.out
    go_wp2
    obtain ⟨z0, z1⟩ := two_read w5 (w.heap.size + 1) (.int .i64 (p + Q)) (.int .i64 (p + V)) r0 r1
    refine bodyPost_ret (v := .agg #[.int .i64 (p + Q), .int .i64 (p + V)]) (by simp [results, Tryz.results88, go_sem, z0, z1]) rfl ?_
    exact ⟨rfl, (HB.out.setCell (p := ⟨w.heap.size + 1, 0, none⟩) (Nat.le_succ _) _).setCell (p := ⟨w.heap.size + 1, 1, none⟩) (Nat.le_succ _) _⟩
set_option maxRecDepth 100000 in
set_option maxHeartbeats 16000000 in
theorem at_dn (a p b q x Q V : Int) (w : World) (a0 : 0 ≤ a) (ab : a < b) (b1 : b ≤ 100000) (p0 : 0 ≤ p) (p1 : p ≤ 100000) (q0 : 0 ≤ q) (pq : q < p) (q1 : q ≤ 100000) (hQ0 : 0 ≤ Q) (hQ : Q ≤ 100000) (hV0 : 0 ≤ V) (hV : V ≤ 100000)
    (x0 : a ≤ x) (x1 : x ≤ b) (m1 : max (b - x) (x - b) = (b - x)) (m2 : max (b - a) (a - b) = b - a)
    (HD : Hid (∀ u v W, (0 ≤ u ∧ u ≤ 100000 ∧ 0 ≤ v ∧ v ≤ 100000) → Calls Tryz.prog 100 #[.int .i64 u, .int .i64 v] W fun e w' => e = .returned (.int .i64 (max (u - v) (v - u))) ∧ w' = W))
    (H3 : Hid (∀ W, Calls Tryz.prog 101 #[.int .i64 (p - q), .int .i64 (b - x), .int .i64 (b - a)] W fun e w' => ∃ R, e = .returned (.tuple #[.int .i64 Q, .int .i64 R, .int .i64 0]) ∧ Below W.heap.size W w'))
    (H4 : Hid (∀ W, Calls Tryz.prog 102 #[.int .i64 (p - q), .int .i64 (b - x), .int .i64 (b - a)] W fun e w' => e = .returned (.tuple #[.int .i64 V, .int .i64 0]) ∧ Below W.heap.size W w')) :
    Calls Tryz.prog 88 #[.agg #[.int .i64 a, .int .i64 p, .int .i64 b, .int .i64 q], .int .i64 x] w fun e w' => e = .returned (.agg #[.int .i64 (q + Q), .int .i64 (q + V)]) ∧ Below w.heap.size w w' := by
  have w1 : IntKind.i64.wrap (p - q) = (p - q) := wrap_in _ ⟨by omega, by omega⟩
  have w2 : IntKind.i64.wrap (q + Q) = q + Q := wrap_in _ ⟨by omega, by omega⟩
  have w3 : IntKind.i64.wrap (q + V) = q + V := wrap_in _ ⟨by omega, by omega⟩
  go_enter Tryz.func88, Tryz.ntmps88
  go_wp2_with fail
  go_region
  · have TR : Hid (Two (w.heap.size + 1) ((((w.alloc (.cells #[.int .i64 a, .int .i64 p, .int .i64 b, .int .i64 q] 100)).alloc (.cells #[.int .i64 0, .int .i64 0] 29)).alloc (.cells #[.int .i64 a, .int .i64 p] 46)).alloc (.cells #[.int .i64 b, .int .i64 q] 46)) (.int .i64 0) (.int .i64 0)) := by
      have := ((Two.new (w.alloc (.cells #[.int .i64 a, .int .i64 p, .int .i64 b, .int .i64 q] 100)) (.int .i64 0) (.int .i64 0) 29).alloc (.cells #[.int .i64 a, .int .i64 p] 46)).alloc (.cells #[.int .i64 b, .int .i64 q] 46)
      rwa [World.size_alloc] at this
    have T1 : Hid (Two (w.heap.size + 1 + 1) ((((w.alloc (.cells #[.int .i64 a, .int .i64 p, .int .i64 b, .int .i64 q] 100)).alloc (.cells #[.int .i64 0, .int .i64 0] 29)).alloc (.cells #[.int .i64 a, .int .i64 p] 46)).alloc (.cells #[.int .i64 b, .int .i64 q] 46)) (.int .i64 a) (.int .i64 p)) := by
      have := (Two.new ((w.alloc (.cells #[.int .i64 a, .int .i64 p, .int .i64 b, .int .i64 q] 100)).alloc (.cells #[.int .i64 0, .int .i64 0] 29)) (.int .i64 a) (.int .i64 p) 46).alloc (.cells #[.int .i64 b, .int .i64 q] 46)
      rwa [World.size_alloc, World.size_alloc] at this
    have T2 : Hid (Two (w.heap.size + 1 + 1 + 1) ((((w.alloc (.cells #[.int .i64 a, .int .i64 p, .int .i64 b, .int .i64 q] 100)).alloc (.cells #[.int .i64 0, .int .i64 0] 29)).alloc (.cells #[.int .i64 a, .int .i64 p] 46)).alloc (.cells #[.int .i64 b, .int .i64 q] 46)) (.int .i64 b) (.int .i64 q)) := by
      have := Two.new (((w.alloc (.cells #[.int .i64 a, .int .i64 p, .int .i64 b, .int .i64 q] 100)).alloc (.cells #[.int .i64 0, .int .i64 0] 29)).alloc (.cells #[.int .i64 a, .int .i64 p] 46)) (.int .i64 b) (.int .i64 q) 46
      rwa [World.size_alloc, World.size_alloc, World.size_alloc] at this
    have HB : Hid (Below w.heap.size w ((((w.alloc (.cells #[.int .i64 a, .int .i64 p, .int .i64 b, .int .i64 q] 100)).alloc (.cells #[.int .i64 0, .int .i64 0] 29)).alloc (.cells #[.int .i64 a, .int .i64 p] 46)).alloc (.cells #[.int .i64 b, .int .i64 q] 46))) := bel_alloc (bel_alloc (bel_alloc (bel_alloc (Below.refl _ _))))
    replace TR := Lib.hid (TR.out.below (bel_drew _))
    replace T1 := Lib.hid (T1.out.below (bel_drew _))
    replace T2 := Lib.hid (T2.out.below (bel_drew _))
    replace HB := Lib.hid (bel_trans HB.out (bel_drew _))
    generalize ((((w.alloc (.cells #[.int .i64 a, .int .i64 p, .int .i64 b, .int .i64 q] 100)).alloc (.cells #[.int .i64 0, .int .i64 0] 29)).alloc (.cells #[.int .i64 a, .int .i64 p] 46)).alloc (.cells #[.int .i64 b, .int .i64 q] 46)).drew = wa at *
    obtain ⟨t0, t1, t2, t3, t4⟩ := T1.out
    obtain ⟨s0, s1, s2, s3, s4⟩ := T2.out
    go_wp2_with fail
    replace TR := Lib.hid ((((TR.out.apart (w.heap.size + 1 + 1) 0 (.int .i64 b) (by omega)).apart (w.heap.size + 1 + 1) 1 (.int .i64 q) (by omega)).apart (w.heap.size + 1 + 1 + 1) 0 (.int .i64 a) (by omega)).apart (w.heap.size + 1 + 1 + 1) 1 (.int .i64 p) (by omega))
    replace T1 := Lib.hid ((T1.out.both (.int .i64 b) (.int .i64 q)).apart (w.heap.size + 1 + 1 + 1) 0 (.int .i64 a) (by omega) |>.apart (w.heap.size + 1 + 1 + 1) 1 (.int .i64 p) (by omega))
    replace T2 := Lib.hid (((T2.out.apart (w.heap.size + 1 + 1) 0 (.int .i64 b) (by omega)).apart (w.heap.size + 1 + 1) 1 (.int .i64 q) (by omega)).both (.int .i64 a) (.int .i64 p))
    replace HB := Lib.hid ((((HB.out.setCell (p := ⟨w.heap.size + 1 + 1, 0, none⟩) (by show w.heap.size ≤ w.heap.size + 1 + 1; omega) (.int .i64 b)).setCell (p := ⟨w.heap.size + 1 + 1, 1, none⟩) (by show w.heap.size ≤ w.heap.size + 1 + 1; omega) (.int .i64 q)).setCell (p := ⟨w.heap.size + 1 + 1 + 1, 0, none⟩) (by show w.heap.size ≤ w.heap.size + 1 + 1 + 1; omega) (.int .i64 a)).setCell (p := ⟨w.heap.size + 1 + 1 + 1, 1, none⟩) (by show w.heap.size ≤ w.heap.size + 1 + 1 + 1; omega) (.int .i64 p))
    clear t0 t1 t2 t3 t4 s0 s1 s2 s3 s4
    generalize ((((wa.setCell ⟨w.heap.size + 1 + 1, 0, none⟩ (.int .i64 b)).setCell ⟨w.heap.size + 1 + 1, 1, none⟩ (.int .i64 q)).setCell ⟨w.heap.size + 1 + 1 + 1, 0, none⟩ (.int .i64 a)).setCell ⟨w.heap.size + 1 + 1 + 1, 1, none⟩ (.int .i64 p)) = wc at *
    obtain ⟨t0, t1, t2, t3, t4⟩ := T1.out
    obtain ⟨s0, s1, s2, s3, s4⟩ := T2.out
    go_quiet ((go_at_call 100; refine Calls.quiet_of_same (HD.out _ _ _ ⟨by omega, by omega, by omega, by omega⟩)))
    replace TR := Lib.hid (TR.out.below (bel_drewN _ nq))
    replace T1 := Lib.hid (T1.out.below (bel_drewN _ nq))
    replace HB := Lib.hid (bel_trans HB.out (bel_drewN _ nq))
    generalize wc.drewN nq = wb at *
    clear t0 t1 t2 t3 t4 s0 s1 s2 s3 s4
    go_wp2_with fail
    refine (H3.out _).mono ?_
    rintro e w4 ⟨R, rfl, h1⟩
    replace TR := Lib.hid (TR.out.below h1)
    replace T1 := Lib.hid (T1.out.below h1)
    replace HB := Lib.hid (bel_trans HB.out h1); clear h1
    go_wp2_with fail
    refine (H4.out _).mono ?_
    rintro e w5 ⟨rfl, h1⟩
    replace TR := Lib.hid (TR.out.below h1)
    replace T1 := Lib.hid (T1.out.below h1)
    replace HB := Lib.hid (bel_trans HB.out h1); clear h1
    obtain ⟨t0, t1, _, _, _⟩ := T1.out
    obtain ⟨r0, r1, r2, r3, _⟩ := TR.out
    go_wp2
    obtain ⟨z0, z1⟩ := two_read w5 (w.heap.size + 1) (.int .i64 (q + Q)) (.int .i64 (q + V)) r0 r1
    refine bodyPost_ret (v := .agg #[.int .i64 (q + Q), .int .i64 (q + V)]) (by simp [results, Tryz.results88, go_sem, z0, z1]) rfl ?_
    exact ⟨rfl, (HB.out.setCell (p := ⟨w.heap.size + 1, 0, none⟩) (Nat.le_succ _) _).setCell (p := ⟨w.heap.size + 1, 1, none⟩) (Nat.le_succ _) _⟩
  · have TR : Hid (Two (w.heap.size + 1) ((((w.alloc (.cells #[.int .i64 a, .int .i64 p, .int .i64 b, .int .i64 q] 100)).alloc (.cells #[.int .i64 0, .int .i64 0] 29)).alloc (.cells #[.int .i64 b, .int .i64 q] 46)).alloc (.cells #[.int .i64 a, .int .i64 p] 46)) (.int .i64 0) (.int .i64 0)) := by
      have := ((Two.new (w.alloc (.cells #[.int .i64 a, .int .i64 p, .int .i64 b, .int .i64 q] 100)) (.int .i64 0) (.int .i64 0) 29).alloc (.cells #[.int .i64 b, .int .i64 q] 46)).alloc (.cells #[.int .i64 a, .int .i64 p] 46)
      rwa [World.size_alloc] at this
    have T1 : Hid (Two (w.heap.size + 1 + 1) ((((w.alloc (.cells #[.int .i64 a, .int .i64 p, .int .i64 b, .int .i64 q] 100)).alloc (.cells #[.int .i64 0, .int .i64 0] 29)).alloc (.cells #[.int .i64 b, .int .i64 q] 46)).alloc (.cells #[.int .i64 a, .int .i64 p] 46)) (.int .i64 b) (.int .i64 q)) := by
      have := (Two.new ((w.alloc (.cells #[.int .i64 a, .int .i64 p, .int .i64 b, .int .i64 q] 100)).alloc (.cells #[.int .i64 0, .int .i64 0] 29)) (.int .i64 b) (.int .i64 q) 46).alloc (.cells #[.int .i64 a, .int .i64 p] 46)
      rwa [World.size_alloc, World.size_alloc] at this
    have T2 : Hid (Two (w.heap.size + 1 + 1 + 1) ((((w.alloc (.cells #[.int .i64 a, .int .i64 p, .int .i64 b, .int .i64 q] 100)).alloc (.cells #[.int .i64 0, .int .i64 0] 29)).alloc (.cells #[.int .i64 b, .int .i64 q] 46)).alloc (.cells #[.int .i64 a, .int .i64 p] 46)) (.int .i64 a) (.int .i64 p)) := by
      have := Two.new (((w.alloc (.cells #[.int .i64 a, .int .i64 p, .int .i64 b, .int .i64 q] 100)).alloc (.cells #[.int .i64 0, .int .i64 0] 29)).alloc (.cells #[.int .i64 b, .int .i64 q] 46)) (.int .i64 a) (.int .i64 p) 46
      rwa [World.size_alloc, World.size_alloc, World.size_alloc] at this
    have HB : Hid (Below w.heap.size w ((((w.alloc (.cells #[.int .i64 a, .int .i64 p, .int .i64 b, .int .i64 q] 100)).alloc (.cells #[.int .i64 0, .int .i64 0] 29)).alloc (.cells #[.int .i64 b, .int .i64 q] 46)).alloc (.cells #[.int .i64 a, .int .i64 p] 46))) := bel_alloc (bel_alloc (bel_alloc (bel_alloc (Below.refl _ _))))
    replace TR := Lib.hid (TR.out.below (bel_drew _))
    replace T1 := Lib.hid (T1.out.below (bel_drew _))
    replace T2 := Lib.hid (T2.out.below (bel_drew _))
    replace HB := Lib.hid (bel_trans HB.out (bel_drew _))
    generalize ((((w.alloc (.cells #[.int .i64 a, .int .i64 p, .int .i64 b, .int .i64 q] 100)).alloc (.cells #[.int .i64 0, .int .i64 0] 29)).alloc (.cells #[.int .i64 b, .int .i64 q] 46)).alloc (.cells #[.int .i64 a, .int .i64 p] 46)).drew = wa at *
    obtain ⟨t0, t1, t2, t3, t4⟩ := T1.out
    obtain ⟨s0, s1, s2, s3, s4⟩ := T2.out
    go_wp2_with fail
    replace TR := Lib.hid ((((TR.out.apart (w.heap.size + 1 + 1 + 1) 0 (.int .i64 b) (by omega)).apart (w.heap.size + 1 + 1 + 1) 1 (.int .i64 q) (by omega)).apart (w.heap.size + 1 + 1) 0 (.int .i64 a) (by omega)).apart (w.heap.size + 1 + 1) 1 (.int .i64 p) (by omega))
    replace T2 := Lib.hid ((T2.out.both (.int .i64 b) (.int .i64 q)).apart (w.heap.size + 1 + 1) 0 (.int .i64 a) (by omega) |>.apart (w.heap.size + 1 + 1) 1 (.int .i64 p) (by omega))
    replace T1 := Lib.hid (((T1.out.apart (w.heap.size + 1 + 1 + 1) 0 (.int .i64 b) (by omega)).apart (w.heap.size + 1 + 1 + 1) 1 (.int .i64 q) (by omega)).both (.int .i64 a) (.int .i64 p))
    replace HB := Lib.hid ((((HB.out.setCell (p := ⟨w.heap.size + 1 + 1 + 1, 0, none⟩) (by show w.heap.size ≤ w.heap.size + 1 + 1 + 1; omega) (.int .i64 b)).setCell (p := ⟨w.heap.size + 1 + 1 + 1, 1, none⟩) (by show w.heap.size ≤ w.heap.size + 1 + 1 + 1; omega) (.int .i64 q)).setCell (p := ⟨w.heap.size + 1 + 1, 0, none⟩) (by show w.heap.size ≤ w.heap.size + 1 + 1; omega) (.int .i64 a)).setCell (p := ⟨w.heap.size + 1 + 1, 1, none⟩) (by show w.heap.size ≤ w.heap.size + 1 + 1; omega) (.int .i64 p))
    clear t0 t1 t2 t3 t4 s0 s1 s2 s3 s4
    generalize ((((wa.setCell ⟨w.heap.size + 1 + 1 + 1, 0, none⟩ (.int .i64 b)).setCell ⟨w.heap.size + 1 + 1 + 1, 1, none⟩ (.int .i64 q)).setCell ⟨w.heap.size + 1 + 1, 0, none⟩ (.int .i64 a)).setCell ⟨w.heap.size + 1 + 1, 1, none⟩ (.int .i64 p)) = wc at *
    obtain ⟨t0, t1, t2, t3, t4⟩ := T1.out
    obtain ⟨s0, s1, s2, s3, s4⟩ := T2.out
    go_quiet ((go_at_call 100; refine Calls.quiet_of_same (HD.out _ _ _ ⟨by omega, by omega, by omega, by omega⟩)))
    replace TR := Lib.hid (TR.out.below (bel_drewN _ nq))
    replace T2 := Lib.hid (T2.out.below (bel_drewN _ nq))
    replace HB := Lib.hid (bel_trans HB.out (bel_drewN _ nq))
    generalize wc.drewN nq = wb at *
    clear t0 t1 t2 t3 t4 s0 s1 s2 s3 s4
    go_wp2_with fail
    refine (H3.out _).mono ?_
    rintro e w4 ⟨R, rfl, h1⟩
    replace TR := Lib.hid (TR.out.below h1)
    replace T2 := Lib.hid (T2.out.below h1)
    replace HB := Lib.hid (bel_trans HB.out h1); clear h1
    go_wp2_with fail
    refine (H4.out _).mono ?_
    rintro e w5 ⟨rfl, h1⟩
    replace TR := Lib.hid (TR.out.below h1)
    replace T2 := Lib.hid (T2.out.below h1)
    replace HB := Lib.hid (bel_trans HB.out h1); clear h1
    obtain ⟨t0, t1, _, _, _⟩ := T2.out
    obtain ⟨r0, r1, r2, r3, _⟩ := TR.out
    go_wp2
    obtain ⟨z0, z1⟩ := two_read w5 (w.heap.size + 1) (.int .i64 (q + Q)) (.int .i64 (q + V)) r0 r1
    refine bodyPost_ret (v := .agg #[.int .i64 (q + Q), .int .i64 (q + V)]) (by simp [results, Tryz.results88, go_sem, z0, z1]) rfl ?_
    exact ⟨rfl, (HB.out.setCell (p := ⟨w.heap.size + 1, 0, none⟩) (Nat.le_succ _) _).setCell (p := ⟨w.heap.size + 1, 1, none⟩) (Nat.le_succ _) _⟩
theorem at_any (a p b q x : Int) (w : World) (a0 : 0 ≤ a) (ab : a < b) (b1 : b ≤ 100000) (p0 : 0 ≤ p) (p1 : p ≤ 100000) (q0 : 0 ≤ q) (q1 : q ≤ 100000) (x0 : a ≤ x) (x1 : x ≤ b) :
    Calls Tryz.prog 88 #[.agg #[.int .i64 a, .int .i64 p, .int .i64 b, .int .i64 q], .int .i64 x] w fun e w' => e = .returned (.agg #[.int .i64 (lnL a p b q x), .int .i64 (lnH a p b q x)]) ∧ Below w.heap.size w w' := by
  have hd : 1 ≤ b - a ∧ b - a ≤ 100000 := by omega
  by_cases h : p ≤ q
  · obtain ⟨f1, f2, f3, f4⟩ := prop_facts (a := q - p) (b := x - a) (c := b - a) (by omega) (by omega) hd
    have bt := ln_between (p := p) (q := q) ab x0 x1
    have e := ln_up (p := p) (q := q) (x := x) ab
    have e1 : lnL a p b q x = lnN a p b q x / (b - a) := rfl
    have e2 : lnH a p b q x = cdv (lnN a p b q x) (b - a) := rfl
    have fc := fl_cl (lnN a p b q x) (b - a) (by omega)
    rw [e.1, e.2]
    refine at_up a p b q x _ _ w a0 ab b1 p0 p1 q0 h q1 (by omega) (by omega) (by omega) (by omega) x0 x1 (by omega) (by omega) (Lib.hid fun u v W h => dist_any u v W h.1 h.2.1 h.2.2.1 h.2.2.2) (fun W => ?_) (fun W => ?_)
    · have := of_any (q - p) (x - a) (b - a) W
      rw [f1, f2] at this
      exact this.mono fun _ _ g => ⟨_, g.1, g.2⟩
    · have := up_any (q - p) (x - a) (b - a) W
      rw [f3, f4] at this
      exact this
  · obtain ⟨f1, f2, f3, f4⟩ := prop_facts (a := p - q) (b := b - x) (c := b - a) (by omega) (by omega) hd
    have bt := ln_between (p := p) (q := q) ab x0 x1
    have e := ln_dn (p := p) (q := q) (x := x) ab
    have e1 : lnL a p b q x = lnN a p b q x / (b - a) := rfl
    have e2 : lnH a p b q x = cdv (lnN a p b q x) (b - a) := rfl
    have fc := fl_cl (lnN a p b q x) (b - a) (by omega)
    rw [e.1, e.2]
    refine at_dn a p b q x _ _ w a0 ab b1 p0 p1 q0 (by omega) q1 (by omega) (by omega) (by omega) (by omega) x0 x1 (by omega) (by omega) (Lib.hid fun u v W h => dist_any u v W h.1 h.2.1 h.2.2.1 h.2.2.2) (fun W => ?_) (fun W => ?_)
    · have := of_any (p - q) (b - x) (b - a) W
      rw [f1, f2] at this
      exact this.mono fun _ _ g => ⟨_, g.1, g.2⟩
    · have := up_any (p - q) (b - x) (b - a) W
      rw [f3, f4] at this
      exact this
end Go.Proofs.YtgjdopjolokaiaaGreat

/- Package profile: a place on its piece. -/
namespace Go.Proofs.YtgjdopjolokaiaaGreat
open Go.RowKit

theorem find_of {v : Value} {l : List (Int × Int)} {w : World} (hv : Pts w v l) (h : RP l) (x : Int) (i : Nat) (hi : IsPc l x i) :
    Calls Tryz.prog 87 #[v, .int .i64 x] w fun e w' => e = .returned (.tuple #[.agg #[.int .i64 (gX l (i - 1)), .int .i64 (gR l (i - 1)), .int .i64 (gX l i), .int .i64 (gR l i)], .int .i64 i]) ∧ Below w.heap.size w w' := by
  have n0 := h.n0
  have n1 := h.n1
  obtain ⟨a, cap, rfl, hl, hh⟩ := hv
  rcases hh with hh | ⟨b, off, rfl, hb, hc⟩
  · omega
  · exact find_some b off l.length cap l x i w n0 (by omega) rfl hb (Lib.hid hc) (Lib.hid hi)
/-- the radius on the piece -/
theorem at_of {l : List (Int × Int)} {x : Int} {i : Nat} (h : RP l) (x0 : 0 ≤ x) (hi : IsPc l x i) (w : World) :
    Calls Tryz.prog 88 #[.agg #[.int .i64 (gX l (i - 1)), .int .i64 (gR l (i - 1)), .int .i64 (gX l i), .int .i64 (gR l i)], .int .i64 x] w fun e w' => e = .returned (.agg #[.int .i64 (rdL l x), .int .i64 (rdH l x)]) ∧ Below w.heap.size w w' := by
  obtain ⟨h1, h2, ⟨b0, b1, b2⟩, ⟨c0, c1⟩, ⟨d0, d1⟩, g0, g1⟩ := pc_bd h x0 hi
  have e := pc_of hi
  unfold rdL rdH
  rw [e]
  exact at_any _ _ _ _ x w b0 b1 b2 (by omega) c1 (by omega) d1 g0 g1

theorem plE_zero {l : List (Int × Int)} {x : Int} : plE l x = 0 ↔ RP l ∧ 0 ≤ x ∧ x ≤ gX l (l.length - 1) := by
  unfold plE
  by_cases h : ckE l = 0
  · rw [if_pos h]
    have := (ckE_iff l).1 h
    by_cases g : x < 0 ∨ gX l (l.length - 1) < x
    · rw [if_pos g]; exact ⟨fun e => by omega, fun e => by omega⟩
    · rw [if_neg g]; exact ⟨fun _ => ⟨this, by omega, by omega⟩, fun _ => rfl⟩
  · rw [if_neg h]
    exact ⟨fun e => by omega, fun e => absurd ((ckE_iff l).2 e.1) h⟩
end Go.Proofs.YtgjdopjolokaiaaGreat

/- Package profile: At. -/
namespace Go.Proofs.YtgjdopjolokaiaaGreat
open Go.RowKit

theorem At_bad (v : Value) (x E : Int) (w : World) (e1 : (E == 0) = false) (e2 : (E != 0) = true)
    (H1 : Hid (∀ W, Below w.heap.size w W → Calls Tryz.prog 86 #[v, .int .i64 x] W fun e w' => e = .returned (.int .i64 E) ∧ Below W.heap.size W w')) :
    Calls Tryz.prog 72 #[v, .int .i64 x] w fun e w' => e = .returned (.tuple #[.agg #[.int .i64 0, .int .i64 0], .int .i64 E]) ∧ Below w.heap.size w w' := by
  have T0 := Lib.hid (Two.new w (.int .i64 0) (.int .i64 0) 29)
  go_enter Tryz.func72, Tryz.ntmps72
  go_wp2_with fail
  refine (H1.out _ (bel_alloc (Below.refl _ _))).mono ?_
  rintro e w1 ⟨rfl, gg⟩
  replace T0 := Lib.hid (T0.out.below gg)
  have X1 := Lib.hid (bel_alloc gg); clear gg
  obtain ⟨z0, z1, f0, f1, hlt⟩ := T0.out
  go_wp2
  obtain ⟨t0, t1⟩ := two_read w1 w.heap.size (.int .i64 0) (.int .i64 0) z0 z1
  refine bodyPost_ret (v := .tuple #[.agg #[.int .i64 0, .int .i64 0], .int .i64 E]) (by simp [results, Tryz.results72, go_sem, t0, t1]) rfl ?_
  exact ⟨rfl, (X1.out.setCell (Nat.le_refl _) _).setCell (Nat.le_refl _) _⟩
set_option maxHeartbeats 4000000 in
theorem At_ok (v : Value) (x a p b q i L H : Int) (w : World)
    (H1 : Hid (∀ W, Below w.heap.size w W → Calls Tryz.prog 86 #[v, .int .i64 x] W fun e w' => e = .returned (.int .i64 0) ∧ Below W.heap.size W w'))
    (H2 : Hid (∀ W, Below w.heap.size w W → Calls Tryz.prog 87 #[v, .int .i64 x] W fun e w' => e = .returned (.tuple #[.agg #[.int .i64 a, .int .i64 p, .int .i64 b, .int .i64 q], .int .i64 i]) ∧ Below W.heap.size W w'))
    (H3 : Hid (∀ W, Calls Tryz.prog 88 #[.agg #[.int .i64 a, .int .i64 p, .int .i64 b, .int .i64 q], .int .i64 x] W fun e w' => e = .returned (.agg #[.int .i64 L, .int .i64 H]) ∧ Below W.heap.size W w')) :
    Calls Tryz.prog 72 #[v, .int .i64 x] w fun e w' => e = .returned (.tuple #[.agg #[.int .i64 L, .int .i64 H], .int .i64 0]) ∧ Below w.heap.size w w' := by
  have T0 := Lib.hid (Two.new w (.int .i64 0) (.int .i64 0) 29)
  go_enter Tryz.func72, Tryz.ntmps72
  go_wp2_with fail
  refine (H1.out _ (bel_alloc (Below.refl _ _))).mono ?_
  rintro e w1 ⟨rfl, gg⟩
  replace T0 := Lib.hid (T0.out.below gg)
  have X1 := Lib.hid (bel_alloc gg); clear gg
  go_wp2_with fail
  refine (H2.out _ X1.out).mono ?_
  rintro e w2 ⟨rfl, gg⟩
  replace T0 := Lib.hid (T0.out.below gg)
  replace X1 := Lib.hid (bel_trans X1.out gg); clear gg
  go_wp2_with fail
  refine (H3.out _).mono ?_
  rintro e w3 ⟨rfl, gg⟩
  replace T0 := Lib.hid ((T0.out.alloc _).below gg)
  replace X1 := Lib.hid (bel_trans X1.out (bel_alloc gg)); clear gg
  obtain ⟨z0, z1, f0, f1, hlt⟩ := T0.out
  go_wp2
  obtain ⟨t0, t1⟩ := two_read w3 w.heap.size (.int .i64 L) (.int .i64 H) z0 z1
  refine bodyPost_ret (v := .tuple #[.agg #[.int .i64 L, .int .i64 H], .int .i64 0]) (by simp [results, Tryz.results72, go_sem, t0, t1]) rfl ?_
  exact ⟨rfl, (X1.out.setCell (Nat.le_refl _) _).setCell (Nat.le_refl _) _⟩
theorem At_any (v : Value) (l : List (Int × Int)) (x : Int) (w : World) (hv : Pts w v l) :
    Calls Tryz.prog 72 #[v, .int .i64 x] w fun e w' => e = .returned (.tuple #[.agg #[.int .i64 (atL l x), .int .i64 (atH l x)], .int .i64 (plE l x)]) ∧ Below w.heap.size w w' := by
  have HC : Hid (∀ W, Below w.heap.size w W → _) := fun W hW => place_any v l x W (hv.below hW)
  unfold atL atH
  by_cases h : plE l x = 0
  · obtain ⟨hR, x0, x1⟩ := plE_zero.1 h
    have hi := pc_is hR.n0 x1
    rw [if_pos h, if_pos h, h]
    rw [h] at HC
    exact At_ok v x _ _ _ _ _ _ _ w HC (Lib.hid fun W hW => find_of (hv.below hW) hR x _ hi) (Lib.hid fun W => at_of hR x0 hi W)
  · rw [if_neg h, if_neg h]
    exact At_bad v x _ w (by simpa using h) (by simpa using h) HC
end Go.Proofs.YtgjdopjolokaiaaGreat

/- Package lying: slices are yielded. -/
namespace Go.Proofs.YtgjdopjolokaiaaGreat
open Go.RowKit Go.Shelf
attribute [local go_sem] Oper.semAt_some

/-- a slice between two of the places -/
noncomputable def encS (l : List (Int × Int)) (ps : List Int) {m : Nat} (j : Fin m) : Array Value := #[.agg #[.int .i64 (ps.getD (j.val + 1) 0 - ps.getD j.val 0), .int .i64 (slL l (ps.getD j.val 0) (ps.getD (j.val + 1) 0)), .int .i64 (slH l (ps.getD j.val 0) (ps.getD (j.val + 1) 0))]]
theorem keep_cell {G : Nat} {A B : World} {k i : Nat} (h : KeepB G A B) (hk : k < A.heap.size) (hg : k ≠ G) : B.cell? ⟨k, i, none⟩ = A.cell? ⟨k, i, none⟩ := by
  simp only [World.cell?, h.2 k hk hg]
theorem keepB_bel (G : Nat) {A B : World} (h : Below A.heap.size A B) : KeepB G A B := ⟨h.size, fun k hk _ => h.block k hk⟩
theorem grown_bel {A B : World} (h : Below A.heap.size A B) : A.grownBy B none := ⟨h.os, h.tape, h.output, h.size, fun k hk _ => h.block k hk⟩
theorem pts_keep {G b off len cap : Nat} {A B : World} {l : List (Int × Int)} (h : Pts A (.slice (some ⟨b, off, none⟩) len cap) l) (hk : KeepB G A B) (hb : b < A.heap.size) (hg : b ≠ G) : Pts B (.slice (some ⟨b, off, none⟩) len cap) l := by
  obtain ⟨a, c, e, hl, hh⟩ := h
  refine ⟨a, c, e, hl, ?_⟩
  simp only [Value.slice.injEq] at e
  obtain ⟨rfl, _, _⟩ := e
  rcases hh with hh | ⟨b', off', e, hlt, hc⟩
  · exact .inl hh
  · simp only [Option.some.injEq, Addr.mk.injEq, and_true] at e
    obtain ⟨rfl, rfl⟩ := e
    exact .inr ⟨b, off, rfl, Nat.lt_of_lt_of_le hb hk.1, fun j hj => by rw [keep_cell hk hb hg, keep_cell hk hb hg]; exact hc j hj⟩

theorem two_keep {G b : Nat} {A B : World} {x y : Value} (h : Two b A x y) (hk : KeepB G A B) (hg : b ≠ G) : Two b B x y := by
  obtain ⟨h0, h1, h2, h3, h4⟩ := h
  refine ⟨by rw [keep_cell hk h4 hg]; exact h0, by rw [keep_cell hk h4 hg]; exact h1, ?_, ?_, Nat.lt_of_lt_of_le h4 hk.1⟩
  · simp only [World.frozen?, hk.2 b h4 hg] at h2 ⊢; exact h2
  · simp only [World.frozen?, hk.2 b h4 hg] at h3 ⊢; exact h3
theorem grown_cell (W : World) (b i : Nat) (u : Value) : W.grownBy (W.setCell ⟨b, i, none⟩ u) (some b) :=
  ⟨rfl, rfl, rfl, by simp [World.setCell], fun k _ hk => by
    show (W.heap.modify b _)[k]? = _
    rw [Array.getElem?_modify, if_neg (fun e => hk (by rw [e]))]⟩
theorem keep_set {G b i : Nat} {W A : World} (h : KeepB G W A) (hb : W.heap.size ≤ b) (u : Value) : KeepB G W (A.setCell ⟨b, i, none⟩ u) :=
  ⟨Nat.le_trans h.1 (grown_cell A b i u).size, fun k hk hg => ((grown_cell A b i u).block k (Nat.lt_of_lt_of_le hk h.1) (fun e => by cases e; omega)).trans (h.2 k hk hg)⟩
theorem dv_first {α : Type} {W w4 : World} {J : List α → World → Prop} {L0 H0 : Int} (hJ : Hid (∀ s A B row, J s A → A.grownBy B row → (∀ r, row = some r → W.heap.size ≤ r) → J s B)) (h0 : Hid (J [] W)) (X4 : Hid (Below W.drew.heap.size W.drew w4)) :
    ∃ B4 : Nat, Value.pointer (some ⟨w4.heap.size, 0, none⟩) = .pointer (some ⟨B4, 0, none⟩) ∧ Hid (Two B4 (w4.alloc (.cells #[.int .i64 L0, .int .i64 H0] 29)) (.int .i64 L0) (.int .i64 H0)) ∧ W.heap.size ≤ B4 ∧ Hid (Below W.heap.size W (w4.alloc (.cells #[.int .i64 L0, .int .i64 H0] 29))) ∧ Hid (J [] (w4.alloc (.cells #[.int .i64 L0, .int .i64 H0] 29))) := by
  have YB := bA (bel_trans (bel_drew W) X4.out) (.cells #[.int .i64 L0, .int .i64 H0] 29)
  exact ⟨_, rfl, Two.new _ _ _ _, (bel_trans (bel_drew W) X4.out).size, YB, hJ.out _ _ _ none h0.out (grown_bel YB) (fun r e => by cases e)⟩
theorem dv_second {α : Type} {W w4 : World} {J : List α → World → Prop} {L0 H0 : Int} (hJ : Hid (∀ s A B row, J s A → A.grownBy B row → (∀ r, row = some r → W.heap.size ≤ r) → J s B)) (h0 : Hid (J [] W)) (X4 : Hid (Below (W.alloc (.cells #[.int .i64 0, .int .i64 0] 29)).drew.heap.size (W.alloc (.cells #[.int .i64 0, .int .i64 0] 29)).drew w4))
    (TQ : Hid (Two W.heap.size (W.alloc (.cells #[.int .i64 0, .int .i64 0] 29)).drew (.int .i64 0) (.int .i64 0) → Two W.heap.size w4 (.int .i64 0) (.int .i64 0))) :
    ∃ B4 : Nat, Value.pointer (some ⟨W.heap.size, 0, none⟩) = .pointer (some ⟨B4, 0, none⟩) ∧ Hid (Two B4 ((w4.setCell ⟨W.heap.size, 0, none⟩ (.int .i64 L0)).setCell ⟨W.heap.size, 1, none⟩ (.int .i64 H0)) (.int .i64 L0) (.int .i64 H0)) ∧ W.heap.size ≤ B4 ∧ Hid (Below W.heap.size W ((w4.setCell ⟨W.heap.size, 0, none⟩ (.int .i64 L0)).setCell ⟨W.heap.size, 1, none⟩ (.int .i64 H0))) ∧ Hid (J [] ((w4.setCell ⟨W.heap.size, 0, none⟩ (.int .i64 L0)).setCell ⟨W.heap.size, 1, none⟩ (.int .i64 H0))) := by
  have YB := (((bel_alloc (bel_trans (bel_drew _) X4.out)).setCell (p := ⟨W.heap.size, 0, none⟩) (Nat.le_refl _) (.int .i64 L0)).setCell (p := ⟨W.heap.size, 1, none⟩) (Nat.le_refl _) (.int .i64 H0))
  exact ⟨_, rfl, (TQ.out (Two.new _ _ _ _)).both _ _, Nat.le_refl _, YB, hJ.out _ _ _ none h0.out (grown_bel YB) (fun r e => by cases e)⟩
theorem ups_split {m k : Nat} : ∀ {n : Nat} (hk : k < n) (hn : n ≤ m), ∃ rest, ups m n = ups m k ++ ⟨k, Nat.lt_of_lt_of_le hk hn⟩ :: rest
  | 0, hk, _ => absurd hk (Nat.not_lt_zero _)
  | n + 1, hk, hn => by
    by_cases e : k = n
    · subst e
      exact ⟨[], ups_succ (by omega)⟩
    · obtain ⟨rest, h⟩ := ups_split (n := n) (k := k) (m := m) (by omega) (by omega)
      exact ⟨rest ++ [⟨n, by omega⟩], by rw [ups_succ (show n < m by omega), h]; simp⟩
set_option maxRecDepth 100000 in
set_option maxHeartbeats 8000000 in
theorem divide1_in (n l Bs B2 b off len cap b2 off2 q cap2 G : Nat) (X : Int) (zs : List (Int × Int)) (ps : List Int) (q1 : 1 ≤ q) (q2 : q ≤ 64) (hcap : q + 1 ≤ cap2)
    (W : World) (J : List (Fin q) → World → Prop)
    (hJ : Hid (∀ s A B row, J s A → A.grownBy B row → (∀ r, row = some r → W.heap.size ≤ r) → J s B))
    (hY : Hid (∀ pre x rest W1, ups q q = pre ++ x :: rest → J pre W1 → YieldAt Fence.wide (n - 1) Tryz.prog l (encS zs ps x) W1 fun e W' => e = .returned (.bool true) ∧ J (pre ++ [x]) W' ∧ KeepB G W1 W'))
    (hBs : Hid (W.cell? ⟨Bs, 0, none⟩ = some (.slice (some ⟨b, off, none⟩) len cap))) (hB2 : Hid (W.cell? ⟨B2, 0, none⟩ = some (.slice (some ⟨b2, off2, none⟩) (q + 1) cap2)))
    (hP : Hid (Pts W (.slice (some ⟨b, off, none⟩) len cap) zs)) (hps : Hid (∀ j, j < q + 1 → W.cell? ⟨b2, off2 + j, none⟩ = some (.int .i64 (ps.getD j 0))))
    (hlt : Bs < W.heap.size ∧ B2 < W.heap.size ∧ b < W.heap.size ∧ b2 < W.heap.size ∧ G < W.heap.size) (hne : Bs ≠ G ∧ B2 ≠ G ∧ b ≠ G ∧ b2 ≠ G)
    (HR : Hid (∀ j, j < q + 1 → 0 ≤ ps.getD j 0 ∧ ps.getD j 0 ≤ X)) (HS : Hid (∀ j, j < q → 0 ≤ ps.getD (j + 1) 0 - ps.getD j 0 ∧ ps.getD (j + 1) 0 - ps.getD j 0 ≤ 100000))
    (HA : Hid (∀ x W', 0 ≤ x → x ≤ X → Pts W' (.slice (some ⟨b, off, none⟩) len cap) zs → Calls Tryz.prog 72 #[.slice (some ⟨b, off, none⟩) len cap, .int .i64 x] W' fun e w' => e = .returned (.tuple #[.agg #[.int .i64 (rdL zs x), .int .i64 (rdH zs x)], .int .i64 0]) ∧ Below W'.heap.size W' w'))
    (h0 : Hid (J [] W)) :
    CallsIn Fence.wide n Tryz.prog 71 #[.func (.yield l) #[] #[], .pointer (some ⟨Bs, 0, none⟩), .pointer (some ⟨B2, 0, none⟩)] W fun e W' => (∃ v, e = .returned v) ∧ J (ups q q) W' := by
  have hc1 : ¬ cap2 = 1 := by omega
  have kb0 := hBs.out
  have kb1 := hB2.out
  have kp0 : W.cell? ⟨b2, off2, none⟩ = some (.int .i64 (ps.getD 0 0)) := hps.out 0 (by omega)
  have HA0 : Hid (∀ W', Below W.heap.size W W' → Calls Tryz.prog 72 #[.slice (some ⟨b, off, none⟩) len cap, .int .i64 (ps.getD 0 0)] W' fun e w' => e = .returned (.tuple #[.agg #[.int .i64 (rdL zs (ps.getD 0 0)), .int .i64 (rdH zs (ps.getD 0 0))], .int .i64 0]) ∧ Below W'.heap.size W' w' ∧ (Two W.heap.size W' (.int .i64 0) (.int .i64 0) → Two W.heap.size w' (.int .i64 0) (.int .i64 0))) := Lib.hid fun W' hW => (HA.out _ W' (HR.out 0 (by omega)).1 (HR.out 0 (by omega)).2 (pts_keep hP.out (keepB_bel G hW) hlt.2.2.1 hne.2.2.1)).mono fun e w' g => ⟨g.1, g.2, fun h => h.below g.2⟩
  have hmx : Tryz.prog.follows .mixedOrders = true := by kernel_rfl
  generalize hL0 : rdL zs (ps.getD 0 0) = L0 at *
  generalize hH0 : rdH zs (ps.getD 0 0) = H0 at *
  generalize hx0 : ps.getD 0 0 = x0 at *
  refine callsIn_of_wp Tryz.func71 rfl trivial ?_ rfl
  simp only [Tryz.ntmps71, List.size_toArray, List.length_cons, List.length_nil, Nat.reduceAdd, Nat.reduceSub, Array.replicate_succ, Array.replicate_zero, List.push_toArray, List.append_toArray, List.nil_append, List.cons_append]
  have hmx : Tryz.prog.follows .mixedOrders = true := by kernel_rfl
  gi_upto_region 0 with fail
  gi_cut [4] from 19 (fun s wx => ∃ B4 : Nat, s = .pointer (some ⟨B4, 0, none⟩) ∧ Hid (Two B4 wx (.int .i64 L0) (.int .i64 H0)) ∧ W.heap.size ≤ B4 ∧ Hid (Below W.heap.size W wx) ∧ Hid (J [] wx))
  case first =>
    gi_region_with_o (refine ⟨trivial, (fun h => by cases h), ?_⟩; gi_at_call 72; refine (callsIn_wide.2 (HA0.out _ (by first | exact bel_drew _ | exact bel_alloc (bel_drew _)))).mono ?_; rintro e w4 ⟨rfl, gg, hq⟩; have X4 := Lib.hid gg; have TQ := Lib.hid hq; clear gg; simp [Two, go_sem] at hq)
    all_goals gi_wp2_with fail
    all_goals gi_meet
    all_goals first
      | exact dv_first hJ h0 X4
      | exact dv_second hJ h0 X4 TQ
  case rest =>
    obtain ⟨B4, rfl, hT0, hB4, hYB, hJ0⟩ := hcut
    clear kb0 kb1 kp0 HA0
    obtain ⟨aL, haL⟩ : ∃ aL : Nat → Int, Hid (∀ k, aL k = rdL zs (ps.getD k 0)) := ⟨_, Lib.hid fun _ => rfl⟩
    obtain ⟨aH, haH⟩ : ∃ aH : Nat → Int, Hid (∀ k, aH k = rdH zs (ps.getD k 0)) := ⟨_, Lib.hid fun _ => rfl⟩
    have T0 : Hid (Two B4 wc (.int .i64 (aL 0)) (.int .i64 (aH 0))) := Lib.hid (by rw [haL.out, haH.out, hx0, hL0, hH0]; exact hT0.out)
    have kb1 : wc.cell? ⟨B2, 0, none⟩ = some (.slice (some ⟨b2, off2, none⟩) (q + 1) cap2) := (keep_cell (keepB_bel G hYB.out) hlt.2.1 hne.2.1).trans hB2.out
    have K0 := Lib.hid (keepB_bel G hYB.out)
    have J0 := hJ0
    have hB4' := Lib.hid hB4
    clear hT0 hYB hJ0 hB4
    replace hx0 := Lib.hid hx0
    replace hL0 := Lib.hid hL0
    replace hH0 := Lib.hid hH0
    gi_wp2
    gi_loopw [22] (fun i wr => ∃ k : Nat, k ≤ q ∧ i = .int .i64 k ∧ Hid (J (ups q k) wr) ∧ Hid (Two B4 wr (.int .i64 (aL k)) (.int .i64 (aH k))) ∧ Hid (KeepB G W wr)) (fun i _ => q - (intOf i).toNat)
    case atStart => exact ⟨0, Nat.zero_le _, rfl, J0, T0, K0⟩
    case round =>
      obtain ⟨k, hk, rfl, hJk, hT, hK⟩ := hrel
      clear kb1
      by_cases hkq : k < q
      · have kb0 : wr.cell? ⟨Bs, 0, none⟩ = some (.slice (some ⟨b, off, none⟩) len cap) := (keep_cell hK.out hlt.1 hne.1).trans hBs.out
        have kb1 : wr.cell? ⟨B2, 0, none⟩ = some (.slice (some ⟨b2, off2, none⟩) (q + 1) cap2) := (keep_cell hK.out hlt.2.1 hne.2.1).trans hB2.out
        have kp0 : wr.cell? ⟨b2, off2 + k, none⟩ = some (.int .i64 (ps.getD k 0)) := (keep_cell hK.out hlt.2.2.2.1 hne.2.2.2).trans (hps.out k (by omega))
        have kp1 : wr.cell? ⟨b2, off2 + 1 + k, none⟩ = some (.int .i64 (ps.getD (k + 1) 0)) := by rw [show off2 + 1 + k = off2 + (k + 1) by omega]; exact (keep_cell hK.out hlt.2.2.2.1 hne.2.2.2).trans (hps.out (k + 1) (by omega))
        have hr := HR.out (k + 1) (by omega)
        have hs := HS.out k hkq
        have HA1 := Lib.hid (HA.out (ps.getD (k + 1) 0) wr hr.1 hr.2 (pts_keep hP.out hK.out hlt.2.2.1 hne.2.2.1))
        have hsz := hK.out.1
        obtain ⟨rest, hrest⟩ := ups_split (m := q) (n := q) hkq (Nat.le_refl _)
        have hW := hY.out (ups q k) ⟨k, hkq⟩ rest
        have hY1 := Lib.hid (fun W1 hJ1 => hW W1 hrest hJ1)
        clear hW hrest hr
        simp only [encS] at hY1
        rw [← ups_succ hkq] at hY1
        have eL : Hid (slL zs (ps.getD k 0) (ps.getD (k + 1) 0) = min (rdL zs (ps.getD k 0)) (rdL zs (ps.getD (k + 1) 0))) := Lib.hid rfl
        have eH : Hid (slH zs (ps.getD k 0) (ps.getD (k + 1) 0) = max (rdH zs (ps.getD k 0)) (rdH zs (ps.getD (k + 1) 0))) := Lib.hid rfl
        rw [eL.out, eH.out] at hY1
        clear eL eH
        have g1 : aL (k + 1) = rdL zs (ps.getD (k + 1) 0) := haL.out _
        have g2 : aH (k + 1) = rdH zs (ps.getD (k + 1) 0) := haH.out _
        rw [haL.out, haH.out] at hT
        generalize rdL zs (ps.getD k 0) = La at *
        generalize rdH zs (ps.getD k 0) = Ha at *
        generalize rdL zs (ps.getD (k + 1) 0) = Lb at *
        generalize rdH zs (ps.getD (k + 1) 0) = Hb at *
        generalize ps.getD k 0 = xa at *
        generalize ps.getD (k + 1) 0 = xb at *
        replace g1 := Lib.hid g1
        replace g2 := Lib.hid g2
        have l1 : (k : Int) < (q : Int) := by omega
        have l2 : (k : Int) < (q : Int) + 1 := by omega
        have ws : IntKind.i64.wrap (xb - xa) = xb - xa := wrap_in _ ⟨by omega, by omega⟩
        gi_wp2
        refine ⟨trivial, (fun h => by cases h), (callsIn_wide.2 HA1.out).mono ?_⟩
        rintro e w5 ⟨rfl, gg⟩
        gi_upto_region 5 with fail
        have V1 := bA gg (.cells #[.int .i64 Lb, .int .i64 Hb] 29)
        have T8 := Lib.hid (Two.new w5 (.int .i64 Lb) (.int .i64 Hb) 29)
        have hz8 : w5.heap.size < (w5.alloc (.cells #[.int .i64 Lb, .int .i64 Hb] 29)).heap.size := by simp
        have hz9 := gg.size
        clear gg kb0 kp1 HA1
        generalize w5.alloc (.cells #[.int .i64 Lb, .int .i64 Hb] 29) = V at *
        generalize w5.heap.size = B8 at *
        replace kb1 : V.cell? ⟨B2, 0, none⟩ = some (.slice (some ⟨b2, off2, none⟩) (q + 1) cap2) := by rw [(bcell V1).1 _ _ (Nat.lt_of_lt_of_le hlt.2.1 hsz)]; exact kb1
        replace kp0 : V.cell? ⟨b2, off2 + k, none⟩ = some (.int .i64 xa) := by rw [(bcell V1).1 _ _ (Nat.lt_of_lt_of_le hlt.2.2.2.1 hsz)]; exact kp0
        have T4 := Lib.hid (hT.out.below V1)
        have hb2 : B2 < V.heap.size := Nat.lt_of_lt_of_le (Nat.lt_of_lt_of_le hlt.2.1 hsz) V1.size
        have hb2' : b2 < V.heap.size := Nat.lt_of_lt_of_le (Nat.lt_of_lt_of_le hlt.2.2.2.1 hsz) V1.size
        obtain ⟨s0, s1, _, _, s4⟩ := T4.out
        obtain ⟨r0, r1, _, _, r4⟩ := T8.out
        have e0 : ∀ o, (V.alloc o).cell? ⟨B2, 0, none⟩ = some (.slice (some ⟨b2, off2, none⟩) (q + 1) cap2) := fun o => by rw [World.cell?_alloc_lt V o _ hb2]; exact kb1
        have e1 : ∀ o, (V.alloc o).cell? ⟨b2, off2 + k, none⟩ = some (.int .i64 xa) := fun o => by rw [World.cell?_alloc_lt V o _ hb2']; exact kp0
        have e2 : ∀ o, (V.alloc o).cell? ⟨B4, 0, none⟩ = some (.int .i64 La) := fun o => by rw [World.cell?_alloc_lt V o _ s4]; exact s0
        have e3 : ∀ o, (V.alloc o).cell? ⟨B4, 1, none⟩ = some (.int .i64 Ha) := fun o => by rw [World.cell?_alloc_lt V o _ s4]; exact s1
        have e4 : ∀ o, (V.alloc o).cell? ⟨B8, 0, none⟩ = some (.int .i64 Lb) := fun o => by rw [World.cell?_alloc_lt V o _ r4]; exact r0
        have e5 : ∀ o, (V.alloc o).cell? ⟨B8, 1, none⟩ = some (.int .i64 Hb) := fun o => by rw [World.cell?_alloc_lt V o _ r4]; exact r1
        gi_cut [10] from 56 (fun s wx => ∃ B10 : Nat, s = .pointer (some ⟨B10, 0, none⟩) ∧ Hid (Trio B10 wx (.int .i64 (xb - xa)) (.int .i64 (min La Lb)) (.int .i64 (max Ha Hb))) ∧ Hid (Below V.heap.size V wx))
        case first =>
          refine wpIn_wide.2 ?_
          go_region_held3 (fun w' => w'.cell? ⟨B2, 0, none⟩ = some (.slice (some ⟨b2, off2, none⟩) (q + 1) cap2) ∧ w'.cell? ⟨b2, off2 + k, none⟩ = some (.int .i64 xa) ∧ w'.cell? ⟨B4, 0, none⟩ = some (.int .i64 La) ∧ w'.cell? ⟨B4, 1, none⟩ = some (.int .i64 Ha) ∧ w'.cell? ⟨B8, 0, none⟩ = some (.int .i64 Lb) ∧ w'.cell? ⟨B8, 1, none⟩ = some (.int .i64 Hb)) (go_keep) (fail)
          all_goals go_wp2_with fail
          all_goals go_meet
          all_goals exact ⟨_, rfl, Lib.hid (Trio.new V _ _ _ 82), Lib.hid (bel_alloc (bel_drew _))⟩
        case rest =>
          obtain ⟨B10, rfl, hS, hBV⟩ := hcut
          clear s0 s1 s4 r0 r1 r4 e0 e1 e2 e3 e4 e5 kb1 kp0 hb2 hb2'
          have V2 := bel_trans V1 hBV.out
          replace T4 := Lib.hid (T4.out.below hBV.out)
          replace T8 := Lib.hid (T8.out.below hBV.out)
          have hJw := hJ.out _ _ _ none hJk.out (grown_bel V2) (fun r e => by cases e)
          have hKw := Lib.hid (keepB_t hK.out (keepB_bel G V2))
          obtain ⟨fn, tmps, assign, body, hy, hRR⟩ := hY1.out wc hJw
          have HR2 := Lib.hid hRR
          obtain ⟨x0', x1, x2, _⟩ := hS.out
          clear hRR hJw hY1 hJk hK hT V1 V2 hBV
          gi_wp2
          refine ⟨(fun h => by cases h), HR2.out.mono ?_⟩
          rintro e W3 ⟨rfl, hJ3, hK3⟩
          have hG4 : B4 ≠ G := by have := hB4'.out; omega
          have hG8 : B8 ≠ G := by omega
          have Y4 := Lib.hid (two_keep T4.out hK3 hG4)
          have Y8 := Lib.hid (two_keep T8.out hK3 hG8)
          have J3 := Lib.hid hJ3
          have K3 := Lib.hid (keepB_t hKw.out hK3)
          clear T4 T8 hS x0' x1 x2 HR2 hy hJ3 hK3
          obtain ⟨s0, s1, s2, s3, s4⟩ := Y4.out
          obtain ⟨r0, r1, _, _, r4⟩ := Y8.out
          gi_wp2
          go_roundw
          case rel =>
            refine ⟨k + 1, by omega, by go_num, Lib.hid ?_, Lib.hid ?_, Lib.hid ?_⟩
            · refine hJ.out _ _ _ (some B4) (hJ.out _ _ _ (some B4) J3.out (grown_cell _ _ _ _) (fun r e => by cases e; exact hB4'.out)) (grown_cell _ _ _ _) (fun r e => by cases e; exact hB4'.out)
            · rw [g1.out, g2.out]
              exact Y4.out.both _ _
            · exact keep_set (keep_set K3.out hB4'.out _) hB4'.out _
          case measure => simp [intOf]; omega
      · obtain rfl : k = q := by omega
        gi_wp2
        go_end0
        exact ⟨⟨_, rfl⟩, hJk.out⟩
theorem divide_any (a : Option Addr) (len cap : Nat) (a2 : Option Addr) (n cap2 : Nat) (w : World) :
    Calls Tryz.prog 49 #[.slice a len cap, .slice a2 n cap2] w fun e w' => e = .returned (.func (.func 71) #[] #[.pointer (some ⟨w.heap.size, 0, none⟩), .pointer (some ⟨w.heap.size + 1, 0, none⟩)]) ∧ w' = (w.alloc (.cells #[.slice a len cap] 22)).alloc (.cells #[.slice a2 n cap2] 25) := by
  have hmf : ∀ (fn : Fn) (first cap : Array Value) (w : World), (Instr.makeFunc fn first cap).run Tryz.prog w = .ok (.func fn first cap) w := fun _ _ _ _ => rfl
  go_enter Tryz.func49, Tryz.ntmps49
  go_wp2
  go_ret
  exact ⟨rfl, rfl⟩
/-- what divide returns yields all slices -/
theorem divide_seq (n Bs B2 b off len cap b2 off2 q cap2 G : Nat) (X : Int) (zs : List (Int × Int)) (ps : List Int) (q1 : 1 ≤ q) (q2 : q ≤ 64) (hcap : q + 1 ≤ cap2) (W : World)
    (hBs : W.cell? ⟨Bs, 0, none⟩ = some (.slice (some ⟨b, off, none⟩) len cap)) (hB2 : W.cell? ⟨B2, 0, none⟩ = some (.slice (some ⟨b2, off2, none⟩) (q + 1) cap2))
    (hP : Pts W (.slice (some ⟨b, off, none⟩) len cap) zs) (hps : ∀ j, j < q + 1 → W.cell? ⟨b2, off2 + j, none⟩ = some (.int .i64 (ps.getD j 0)))
    (hlt : Bs < W.heap.size ∧ B2 < W.heap.size ∧ b < W.heap.size ∧ b2 < W.heap.size ∧ G < W.heap.size) (hne : Bs ≠ G ∧ B2 ≠ G ∧ b ≠ G ∧ b2 ≠ G)
    (HR : ∀ j, j < q + 1 → 0 ≤ ps.getD j 0 ∧ ps.getD j 0 ≤ X) (HS : ∀ j, j < q → 0 ≤ ps.getD (j + 1) 0 - ps.getD j 0 ∧ ps.getD (j + 1) 0 - ps.getD j 0 ≤ 100000)
    (HA : Hid (∀ x W', 0 ≤ x → x ≤ X → Pts W' (.slice (some ⟨b, off, none⟩) len cap) zs → Calls Tryz.prog 72 #[.slice (some ⟨b, off, none⟩) len cap, .int .i64 x] W' fun e w' => e = .returned (.tuple #[.agg #[.int .i64 (rdL zs x), .int .i64 (rdH zs x)], .int .i64 0]) ∧ Below W'.heap.size W' w')) :
    SeqAll Fence.wide n Tryz.prog 71 #[.pointer (some ⟨Bs, 0, none⟩), .pointer (some ⟨B2, 0, none⟩)] (fun x : Fin q => encS zs ps x) G (ups q q) W := fun l J Y hW hJ hY h0 => by
  obtain ⟨l0, l1, l2, l3, l4⟩ := hlt
  have s := hW.size
  exact divide1_in n l Bs B2 b off len cap b2 off2 q cap2 G X zs ps q1 q2 hcap Y J hJ hY (Lib.hid (by rw [(bcell hW).1 _ _ l0]; exact hBs)) (Lib.hid (by rw [(bcell hW).1 _ _ l1]; exact hB2)) (hP.below hW) (Lib.hid fun j hj => by rw [(bcell hW).1 _ _ l3]; exact hps j hj) ⟨by omega, by omega, by omega, by omega, by omega⟩ hne HR HS HA h0
end Go.Proofs.YtgjdopjolokaiaaGreat

/- Package lying: the space between heights. -/
namespace Go.Proofs.YtgjdopjolokaiaaGreat
open Go.RowKit Go.Shelf
attribute [local go_sem] Oper.semAt_some

theorem ups_at {m : Nat} {pre rest : List (Fin m)} {x : Fin m} (h : ups m m = pre ++ x :: rest) : x.val = pre.length := by
  have e := congrArg (List.map (fun j => j.val)) h
  rw [ups_val (Nat.le_refl _), List.map_append, List.map_cons] at e
  have hl := congrArg List.length e
  simp only [List.length_range, List.length_append, List.length_map, List.length_cons] at hl
  have e2 : (List.range m)[pre.length]? = (pre.map (fun j => j.val) ++ x.val :: rest.map (fun j => j.val))[pre.length]? := by rw [e]
  rw [List.getElem?_range (by omega), List.getElem?_append_right (by simp)] at e2
  simpa using e2.symm
theorem cell_grown {A B : World} {row : Option Nat} {b i : Nat} {v : Value} (h : A.cell? ⟨b, i, none⟩ = some v) (hg : A.grownBy B row) (hr : ∀ r, row = some r → b < r) : B.cell? ⟨b, i, none⟩ = some v := by
  have hb := World.block_lt_of_cell? A _ h
  have e := hg.block b hb (fun e => by have := hr b e.symm; omega)
  simp only [World.cell?, e] at h ⊢
  exact h
theorem two_grown {A B : World} {row : Option Nat} {b : Nat} {x y : Value} (h : Two b A x y) (hg : A.grownBy B row) (hr : ∀ r, row = some r → b < r) : Two b B x y := by
  obtain ⟨h0, h1, h2, h3, h4⟩ := h
  have e := hg.block b h4 (fun e => by have := hr b e.symm; omega)
  refine ⟨cell_grown h0 hg hr, cell_grown h1 hg hr, ?_, ?_, Nat.lt_of_lt_of_le h4 hg.size⟩
  · simp only [World.frozen?, e] at h2 ⊢; exact h2
  · simp only [World.frozen?, e] at h3 ⊢; exact h3
theorem trio_kept {b r : Nat} {A B : World} {x y z : Value} (h : Trio b A x y z) (hg : A.grownBy B (some r)) (hc : ∃ o : Obj, A.heap[r]? = some o ∧ o.isCells = false) : Trio b B x y z := by
  obtain ⟨h0, h1, h2, h3⟩ := h
  exact ⟨cell_kept h0 hg (fun k e => by cases e; exact hc), cell_kept h1 hg (fun k e => by cases e; exact hc), cell_kept h2 hg (fun k e => by cases e; exact hc), Nat.lt_of_lt_of_le h3 hg.size⟩
theorem keep_setG {G i : Nat} {W A : World} (h : KeepB G W A) (u : Value) : KeepB G W (A.setCell ⟨G, i, none⟩ u) :=
  ⟨Nat.le_trans h.1 (grown_cell A G i u).size, fun k hk hg => ((grown_cell A G i u).block k (Nat.lt_of_lt_of_le hk h.1) (fun e => hg (by cases e; rfl))).trans (h.2 k hk hg)⟩
theorem bel_grown {n : Nat} {w A B : World} {row : Option Nat} (h : Below n w A) (hn : n ≤ A.heap.size) (hg : A.grownBy B row) (hr : ∀ r, row = some r → n ≤ r) : Below n w B :=
  ⟨hg.os.trans h.os, hg.tape.trans h.tape, hg.output.trans h.output, Nat.le_trans h.size hg.size, fun k hk => (hg.block k (by omega) (fun e => by have := hr k e.symm; omega)).trans (h.block k hk)⟩
set_option maxHeartbeats 4000000 in
theorem lyAdd_any (b : Nat) (pL pH oL oH : Int) (w : World) (h : Two b w (.int .i64 pL) (.int .i64 pH)) (wL : IntKind.i64.wrap (pL + oL) = pL + oL) (wH : IntKind.i64.wrap (pH + oH) = pH + oH) :
    Calls Tryz.prog 47 #[.agg #[.int .i64 oL, .int .i64 oH], .pointer (some ⟨b, 0, none⟩)] w fun e w' => e = .returned (.tuple #[]) ∧ ∃ w2, Below w.heap.size w w2 ∧ w' = (w2.setCell ⟨b, 0, none⟩ (.int .i64 (pL + oL))).setCell ⟨b, 1, none⟩ (.int .i64 (pH + oH)) := by
  have hlt := h.2.2.2.2
  have hne2 : w.heap.size ≠ b := by omega
  have HW : Hid (((w.setCell ⟨b, 0, none⟩ (.int .i64 (pL + oL))).setCell ⟨b, 1, none⟩ (.int .i64 (pH + oH))).alloc (.cells #[.int .i64 oL, .int .i64 oH] 29) = ((w.alloc (.cells #[.int .i64 oL, .int .i64 oH] 29)).setCell ⟨b, 0, none⟩ (.int .i64 (pL + oL))).setCell ⟨b, 1, none⟩ (.int .i64 (pH + oH))) := by
    show _ = _
    rw [World.setCell_alloc_past _ _ _ _ hlt, World.setCell_alloc_past _ _ _ _ (by simpa [World.setCell] using hlt)]
  have T := Lib.hid (h.alloc (.cells #[.int .i64 oL, .int .i64 oH] 29))
  have S := Lib.hid (Two.new w (.int .i64 oL) (.int .i64 oH) 29)
  have hb : b ≠ w.heap.size := by have := h.2.2.2.2; omega
  obtain ⟨z0, z1, z2, z3, _⟩ := h
  obtain ⟨t0, t1, t2, t3, _⟩ := T.out
  obtain ⟨s0, s1, _, _, _⟩ := S.out
  go_enter Tryz.func47, Tryz.ntmps47
  clear T
  go_wp2
  go_end0
  exact ⟨rfl, _, bel_alloc (Below.refl _ _), HW.out⟩
/-- the blocks that are laid first -/
theorem bt_four (w : World) (v fv : Value) (W4 : World) (h : W4 = (((w.alloc (.cells #[v] 25)).alloc (.cells #[.int .i64 0, .int .i64 0] 29)).alloc (.cells #[.int .i64 0, .int .i64 0] 29)).alloc (.cells #[fv] 76)) :
    W4.cell? ⟨w.heap.size, 0, none⟩ = some v ∧ Two (w.heap.size + 1) W4 (.int .i64 0) (.int .i64 0) ∧ Two (w.heap.size + 1 + 1) W4 (.int .i64 0) (.int .i64 0) ∧ W4.cell? ⟨w.heap.size + 1 + 1 + 1, 0, none⟩ = some fv ∧ W4.heap.size = w.heap.size + 4 ∧ Below w.heap.size w W4 := by
  subst h
  refine ⟨?_, ?_, ?_, ?_, by simp, bel_alloc (bel_alloc (bel_alloc (bel_alloc (Below.refl _ _))))⟩
  · exact cell_al _ (cell_al _ (cell_al _ (Boxed.new w 25 v).cell))
  · have := Two.new (w.alloc (.cells #[v] 25)) (.int .i64 0) (.int .i64 0) 29
    rw [World.size_alloc] at this
    exact (this.alloc _).alloc _
  · have := Two.new ((w.alloc (.cells #[v] 25)).alloc (.cells #[.int .i64 0, .int .i64 0] 29)) (.int .i64 0) (.int .i64 0) 29
    rw [World.size_alloc, World.size_alloc] at this
    exact this.alloc _
  · have := (Boxed.new (((w.alloc (.cells #[v] 25)).alloc (.cells #[.int .i64 0, .int .i64 0] 29)).alloc (.cells #[.int .i64 0, .int .i64 0] 29)) 76 fv).cell
    rwa [World.size_alloc, World.size_alloc, World.size_alloc] at this
theorem bt_three (w : World) (x y z : Value) (W3 : World) (h : W3 = ((w.alloc (.cells #[x] 3)).alloc (.cells #[y] 22)).alloc (.cells #[z] 25)) :
    W3.cell? ⟨w.heap.size, 0, none⟩ = some x ∧ W3.cell? ⟨w.heap.size + 1, 0, none⟩ = some y ∧ W3.cell? ⟨w.heap.size + 1 + 1, 0, none⟩ = some z ∧ W3.heap.size = w.heap.size + 1 + 1 + 1 ∧ Below w.heap.size w W3 := by
  subst h
  refine ⟨?_, ?_, ?_, by simp, bel_alloc (bel_alloc (bel_alloc (Below.refl _ _)))⟩
  · exact cell_al _ (cell_al _ (Boxed.new w 3 x).cell)
  · have := (Boxed.new (w.alloc (.cells #[x] 3)) 22 y).cell
    rw [World.size_alloc] at this
    exact cell_al _ this
  · have := (Boxed.new ((w.alloc (.cells #[x] 3)).alloc (.cells #[y] 22)) 25 z).cell
    rwa [World.size_alloc, World.size_alloc] at this
/-- what stands before each round -/
def BtI (w : World) (m : Nat) (hv : Value) (c : Int) (sL sH : Int) (W : World) : Prop :=
  W.cell? ⟨w.heap.size, 0, none⟩ = some hv ∧ Two (w.heap.size + 1) W (.int .i64 0) (.int .i64 0) ∧ Two (w.heap.size + 1 + 1) W (.int .i64 sL) (.int .i64 sH) ∧ W.cell? ⟨w.heap.size + 1 + 1 + 1, 0, none⟩ = some (.func (.func 47) #[] #[.pointer (some ⟨w.heap.size + 1 + 1, 0, none⟩)]) ∧ W.cell? ⟨m, 0, none⟩ = some (.int .i64 c) ∧ Below w.heap.size w W
theorem BtI.grown {w : World} {m : Nat} {hv : Value} {c sL sH : Int} {A B : World} {row : Option Nat} (h : BtI w m hv c sL sH A) (hm : w.heap.size + 1 + 1 + 1 < m) (hg : A.grownBy B row) (hr : ∀ r, row = some r → m < r) : BtI w m hv c sL sH B := by
  obtain ⟨h1, h2, h3, h4, h5, h6⟩ := h
  exact ⟨cell_grown h1 hg (fun r e => by have := hr r e; omega), two_grown h2 hg (fun r e => by have := hr r e; omega), two_grown h3 hg (fun r e => by have := hr r e; omega), cell_grown h4 hg (fun r e => by have := hr r e; omega), cell_grown h5 hg hr, bel_grown h6 h6.size hg (fun r e => by have := hr r e; omega)⟩
theorem BtI.bel {w : World} {m : Nat} {hv : Value} {c sL sH : Int} {A B : World} (h : BtI w m hv c sL sH A) (hm : w.heap.size + 1 + 1 + 1 < m) (hb : Below A.heap.size A B) : BtI w m hv c sL sH B := h.grown hm (grown_bel hb) (fun r e => by cases e)

set_option maxRecDepth 100000 in
set_option maxHeartbeats 8000000 in
theorem lyBt_some (b off len cap b2 off2 q cap2 b3 off3 n3 cap3 : Nat) (l : List (Int × Int)) (ps hs : List Int) (c : Int) (j : Nat) (w : World) (q1 : 1 ≤ q) (q2 : q ≤ 64) (hcap : q + 1 ≤ cap2) (hj : j < hs.length)
    (hR : Hid (RP l)) (hPl : Hid (PlR l ps)) (hq : Hid (ps.length = q + 1)) (hH : Hid (HR hs))
    (hP : Hid (Pts w (.slice (some ⟨b, off, none⟩) len cap) l)) (hps : Hid (∀ j, j < q + 1 → w.cell? ⟨b2, off2 + j, none⟩ = some (.int .i64 (ps.getD j 0)))) (hb : b < w.heap.size) (hb2 : b2 < w.heap.size)
    (HM : Hid (∀ W, Below w.heap.size w W → Calls Tryz.prog 48 #[.slice (some ⟨b, off, none⟩) len cap] W fun e w' => e = .returned (.int .i64 c) ∧ Below W.heap.size W w'))
    (HA : Hid (∀ x W', 0 ≤ x → x ≤ gX l (l.length - 1) → Pts W' (.slice (some ⟨b, off, none⟩) len cap) l → Calls Tryz.prog 72 #[.slice (some ⟨b, off, none⟩) len cap, .int .i64 x] W' fun e w' => e = .returned (.tuple #[.agg #[.int .i64 (rdL l x), .int .i64 (rdH l x)], .int .i64 0]) ∧ Below W'.heap.size W' w'))
    (HS : Hid (∀ k W, k < q → Below w.heap.size w W → Calls Tryz.prog 50 #[.agg #[.int .i64 (ps.getD (k + 1) 0 - ps.getD k 0), .int .i64 (slL l (ps.getD k 0) (ps.getD (k + 1) 0)), .int .i64 (slH l (ps.getD k 0) (ps.getD (k + 1) 0))], .int .i64 c, .slice (some ⟨b3, off3, none⟩) n3 cap3] W fun e w' => e = .returned (.agg #[.int .i64 ((ps.getD (k + 1) 0 - ps.getD k 0) * prL (slL l (ps.getD k 0) (ps.getD (k + 1) 0)) c hs j), .int .i64 ((ps.getD (k + 1) 0 - ps.getD k 0) * prH (slH l (ps.getD k 0) (ps.getD (k + 1) 0)) c hs j)]) ∧ Below W.heap.size W w')) :
    Calls Tryz.prog 26 #[.slice (some ⟨b, off, none⟩) len cap, .slice (some ⟨b2, off2, none⟩) (q + 1) cap2, .slice (some ⟨b3, off3, none⟩) n3 cap3] w fun e w' => e = .returned (.agg #[.int .i64 (tbL l c ps hs j q), .int .i64 (tbH l c ps hs j q)]) ∧ Below w.heap.size w w' := by
  have hmf : ∀ (fn : Fn) (first cap : Array Value) (w : World), (Instr.makeFunc fn first cap).run Tryz.prog w = .ok (.func fn first cap) w := fun _ _ _ _ => rfl
  refine (callsIn_wide (n := 10)).1 ?_
  refine callsIn_of_wp_marks Tryz.func26 rfl trivial ?_ rfl
  simp only [Tryz.ntmps26, List.size_toArray, List.length_cons, List.length_nil, Nat.reduceAdd, Nat.reduceSub, Array.replicate_succ, Array.replicate_zero, List.push_toArray, List.append_toArray, List.nil_append, List.cons_append]
  gi_wp2_with fail
  obtain ⟨W4, hW4⟩ : ∃ W4, W4 = (((w.alloc (.cells #[.slice (some ⟨b3, off3, none⟩) n3 cap3] 25)).alloc (.cells #[.int .i64 0, .int .i64 0] 29)).alloc (.cells #[.int .i64 0, .int .i64 0] 29)).alloc (.cells #[.func (.func 47) #[] #[.pointer (some ⟨w.heap.size + 1 + 1, 0, none⟩)]] 76) := ⟨_, rfl⟩
  obtain ⟨f1, f2, f3, f4, f5, f6⟩ := bt_four w _ _ W4 hW4
  rw [← hW4]
  clear hW4
  refine ⟨trivial, (callsIn_wide.2 (HM.out _ f6)).mono ?_⟩
  rintro e w1 ⟨rfl, gg⟩
  gi_wp2_with fail
  refine ⟨trivial, (callsIn_wide.2 (divide_any _ _ _ _ _ _ _)).mono ?_⟩
  rintro e w3 ⟨rfl, rfl⟩
  gi_wp2_with fail
  obtain ⟨W0, hW0⟩ : ∃ W0, W0 = ((w1.alloc (.cells #[.int .i64 c] 3)).alloc (.cells #[.slice (some ⟨b, off, none⟩) len cap] 22)).alloc (.cells #[.slice (some ⟨b2, off2, none⟩) (q + 1) cap2] 25) := ⟨_, rfl⟩
  obtain ⟨t1, t2, t3, t4, t5⟩ := bt_three w1 _ _ _ W0 hW0
  rw [← hW0]
  clear hW0
  have hm : w.heap.size + 1 + 1 + 1 < w1.heap.size := by have := gg.size; omega
  have B1 := bel_trans gg t5
  have B0 := bel_trans f6 B1
  have I0 : BtI w w1.heap.size (.slice (some ⟨b3, off3, none⟩) n3 cap3) c 0 0 W0 :=
    ⟨(cell_grown f1 (grown_bel B1) (fun r e => by cases e)), two_grown f2 (grown_bel B1) (fun r e => by cases e), two_grown f3 (grown_bel B1) (fun r e => by cases e), cell_grown f4 (grown_bel B1) (fun r e => by cases e), t1, B0⟩
  have T0 := f2
  clear t1 t5 B1 f1 f2 f3 f4 f5 f6 gg
  generalize w1.heap.size = m at *
  have hP0 := hP.out.below B0
  have hps0 : ∀ j, j < q + 1 → W0.cell? ⟨b2, off2 + j, none⟩ = some (.int .i64 (ps.getD j 0)) := fun j hj => by rw [(bcell B0).1 _ _ hb2]; exact hps.out j hj
  have hl0 := hq.out
  have HR0 : ∀ j, j < q + 1 → 0 ≤ ps.getD j 0 ∧ ps.getD j 0 ≤ gX l (l.length - 1) := fun j hj => hPl.out.bd (by omega)
  have HS0 : ∀ j, j < q → 0 ≤ ps.getD (j + 1) 0 - ps.getD j 0 ∧ ps.getD (j + 1) 0 - ps.getD j 0 ≤ 100000 := fun j hj => by have := hPl.out.slice hR.out (k := j) (by omega); omega
  have hz0 := B0.size
  refine wpIn_rangeFunc_all rfl (by omega) (gf := 71) (lb := #[.pointer (some ⟨m + 1, 0, none⟩), .pointer (some ⟨m + 1 + 1, 0, none⟩)]) rfl trivial (enters_of Tryz.func71 (by kernel_rfl) rfl)
    (encs := fun x : Fin q => encS l ps x) (G := w.heap.size + 1 + 1) (L := ups q q)
    (divide_seq 9 (m + 1) (m + 1 + 1) b off len cap b2 off2 q cap2 (w.heap.size + 1 + 1) (gX l (l.length - 1)) l ps q1 q2 hcap W0 t2 t3 hP0 hps0 ⟨by omega, by omega, by omega, by omega, by omega⟩ ⟨by omega, by omega, by omega, by omega⟩ HR0 HS0 HA)
    (by omega) (fun _ => rfl)
    (fun pre W => BtI w m (.slice (some ⟨b3, off3, none⟩) n3 cap3) c (tbL l c ps hs j pre.length) (tbH l c ps hs j pre.length) W)
    (fun s A B row hs hg hr => hs.grown hm hg (fun r e => by have := hr r e; omega))
    I0
    (fun x a' W => ∃ Bx : Nat, W0.heap.size < Bx ∧ Trio Bx W (.int .i64 (ps.getD (x.val + 1) 0 - ps.getD x.val 0)) (.int .i64 (slL l (ps.getD x.val 0) (ps.getD (x.val + 1) 0))) (.int .i64 (slH l (ps.getD x.val 0) (ps.getD (x.val + 1) 0))) ∧ a' = { tmps := #[.slice (some ⟨b, off, none⟩) len cap, .slice (some ⟨b2, off2, none⟩) (q + 1) cap2, .slice (some ⟨b3, off3, none⟩) n3 cap3, undef, undef, .pointer (some ⟨w.heap.size, 0, none⟩), .pointer (some ⟨w.heap.size + 1, 0, none⟩), .pointer (some ⟨w.heap.size + 1 + 1, 0, none⟩), .pointer (some ⟨w.heap.size + 1 + 1 + 1, 0, none⟩), .pointer (some ⟨m, 0, none⟩), .pointer (some ⟨Bx, 0, none⟩), .func (.func 47) #[] #[.pointer (some ⟨w.heap.size + 1 + 1, 0, none⟩)], .slice (some ⟨b, off, none⟩) len cap, .int .i64 c, .slice (some ⟨b, off, none⟩) len cap, .slice (some ⟨b2, off2, none⟩) (q + 1) cap2, .func (.func 71) #[] #[.pointer (some ⟨m + 1, 0, none⟩), .pointer (some ⟨m + 1 + 1, 0, none⟩)], .agg #[.int .i64 (ps.getD (x.val + 1) 0 - ps.getD x.val 0), .int .i64 (slL l (ps.getD x.val 0) (ps.getD (x.val + 1) 0)), .int .i64 (slH l (ps.getD x.val 0) (ps.getD (x.val + 1) 0))], undef, undef, undef, undef, undef, undef, undef], defers := [] })
    (fun x a' A B ⟨Bx, h1, h2, h3⟩ hg hc => ⟨Bx, h1, trio_kept h2 hg hc, h3⟩) ?assign ?body ?done
  case assign =>
    rintro lp pre x W K hI hsz hK
    dsimp only [encS]
    generalize ps.getD (x.val + 1) 0 - ps.getD x.val 0 = d at *
    generalize slL l (ps.getD x.val 0) (ps.getD (x.val + 1) 0) = s1 at *
    generalize slH l (ps.getD x.val 0) (ps.getD (x.val + 1) 0) = s2 at *
    gi_wp2
    exact hK _ _ (bel_alloc (Below.refl _ _)) (hI.bel hm (bel_alloc (Below.refl _ _))) ⟨W.heap.size, by omega, Trio.new _ _ _ _ _, rfl⟩
  case body =>
    rintro lp pre ⟨k, hkq⟩ rest a' W hL hsz hI ⟨Bx, hBx, hS, rfl⟩
    have hk := ups_at hL
    replace hk : k = pre.length := hk
    subst hk
    have hmx : Tryz.prog.follows .mixedOrders = true := by kernel_rfl
    have bd := tb_bd (c := c) hR.out hPl.out hH.out j hj (pre.length + 1) (by omega)
    have bd0 := tb_bd (c := c) hR.out hPl.out hH.out j hj pre.length (by omega)
    have bp := hPl.out.bd (i := pre.length + 1) (by omega)
    have bx := hR.out.bx (l.length - 1) (by have := hR.out.n0; omega)
    have e1 : tbL l c ps hs j (pre.length + 1) = tbL l c ps hs j pre.length + (ps.getD (pre.length + 1) 0 - ps.getD pre.length 0) * prL (slL l (ps.getD pre.length 0) (ps.getD (pre.length + 1) 0)) c hs j := rfl
    have e2 : tbH l c ps hs j (pre.length + 1) = tbH l c ps hs j pre.length + (ps.getD (pre.length + 1) 0 - ps.getD pre.length 0) * prH (slH l (ps.getD pre.length 0) (ps.getD (pre.length + 1) 0)) c hs j := rfl
    have eA : tbL l c ps hs j (pre ++ [(⟨pre.length, hkq⟩ : Fin q)]).length = tbL l c ps hs j pre.length + (ps.getD (pre.length + 1) 0 - ps.getD pre.length 0) * prL (slL l (ps.getD pre.length 0) (ps.getD (pre.length + 1) 0)) c hs j := by rw [List.length_append, List.length_singleton]; rfl
    have eB : tbH l c ps hs j (pre ++ [(⟨pre.length, hkq⟩ : Fin q)]).length = tbH l c ps hs j pre.length + (ps.getD (pre.length + 1) 0 - ps.getD pre.length 0) * prH (slH l (ps.getD pre.length 0) (ps.getD (pre.length + 1) 0)) c hs j := by rw [List.length_append, List.length_singleton]; rfl
    have HA1 := Lib.hid (fun W' (hW : Below W.heap.size W W') => HS.out pre.length W' hkq (bel_trans hI.2.2.2.2.2 hW))
    have wL : IntKind.i64.wrap (tbL l c ps hs j pre.length + (ps.getD (pre.length + 1) 0 - ps.getD pre.length 0) * prL (slL l (ps.getD pre.length 0) (ps.getD (pre.length + 1) 0)) c hs j) = tbL l c ps hs j pre.length + (ps.getD (pre.length + 1) 0 - ps.getD pre.length 0) * prL (slL l (ps.getD pre.length 0) (ps.getD (pre.length + 1) 0)) c hs j := by rw [← e1]; exact wrap_in _ ⟨by omega, by omega⟩
    have wH : IntKind.i64.wrap (tbH l c ps hs j pre.length + (ps.getD (pre.length + 1) 0 - ps.getD pre.length 0) * prH (slH l (ps.getD pre.length 0) (ps.getD (pre.length + 1) 0)) c hs j) = tbH l c ps hs j pre.length + (ps.getD (pre.length + 1) 0 - ps.getD pre.length 0) * prH (slH l (ps.getD pre.length 0) (ps.getD (pre.length + 1) 0)) c hs j := by rw [← e2]; exact wrap_in _ ⟨by omega, by omega⟩
    clear bd bd0 bp bx
    generalize tbL l c ps hs j (pre.length + 1) = nL at *
    generalize tbH l c ps hs j (pre.length + 1) = nH at *
    generalize tbL l c ps hs j pre.length = pL at *
    generalize tbH l c ps hs j pre.length = pH at *
    simp only at hS HA1
    generalize (ps.getD (pre.length + 1) 0 - ps.getD pre.length 0) * prL (slL l (ps.getD pre.length 0) (ps.getD (pre.length + 1) 0)) c hs j = oL at *
    generalize (ps.getD (pre.length + 1) 0 - ps.getD pre.length 0) * prH (slH l (ps.getD pre.length 0) (ps.getD (pre.length + 1) 0)) c hs j = oH at *
    generalize slL l (ps.getD pre.length 0) (ps.getD (pre.length + 1) 0) = s1 at *
    generalize slH l (ps.getD pre.length 0) (ps.getD (pre.length + 1) 0) = s2 at *
    generalize ps.getD (pre.length + 1) 0 - ps.getD pre.length 0 = d at *
    clear e1 e2
    replace eA := Lib.hid eA
    replace eB := Lib.hid eB
    have HI := Lib.hid hI
    obtain ⟨i1, i2, i3, i4, i5, i6⟩ := hI
    obtain ⟨x0, x1, x2, x3⟩ := hS
    have HSt : Hid (∀ w4, Below W.drew.heap.size W.drew w4 → w4.cell? ⟨w.heap.size + 1 + 1 + 1, 0, none⟩ = some (.func (.func 47) #[] #[.pointer (some ⟨w.heap.size + 1 + 1, 0, none⟩)]) ∧ Two (w.heap.size + 1 + 1) w4 (.int .i64 pL) (.int .i64 pH)) := Lib.hid fun w4 gg =>
      ⟨(gg.cell (p := ⟨w.heap.size + 1 + 1 + 1, 0, none⟩) (World.block_lt_of_cell? W _ i4)).trans i4, (i3.below (bel_drew W)).below gg⟩
    have HD : Hid (∀ w4, Two (w.heap.size + 1 + 1) w4 (.int .i64 pL) (.int .i64 pH) → Calls Tryz.prog 47 #[.agg #[.int .i64 oL, .int .i64 oH], .pointer (some ⟨w.heap.size + 1 + 1, 0, none⟩)] w4 fun e w' => e = .returned (.tuple #[]) ∧ ∃ w2, Below w4.heap.size w4 w2 ∧ w' = (w2.setCell ⟨w.heap.size + 1 + 1, 0, none⟩ (.int .i64 (pL + oL))).setCell ⟨w.heap.size + 1 + 1, 1, none⟩ (.int .i64 (pH + oH))) := Lib.hid fun w4 h4 =>
      lyAdd_any (w.heap.size + 1 + 1) pL pH oL oH w4 h4 wL wH
    clear i2 i3 i6 hL wL wH
    gi_wp2_with fail
    gi_region_with_o (first
      | (refine ⟨trivial, ?_⟩; gi_at_call 50; refine (CallsIn.inRound lp (callsIn_wide.2 (HA1.out _ (bel_drew _)))).mono ?_; rintro e w4 ⟨rfl, gg⟩; have X4 := Lib.hid gg; obtain ⟨k4, k5⟩ := HSt.out _ gg; have K5 := Lib.hid k5; clear k5 gg)
      | (refine ⟨trivial, ?_⟩; gi_at_call 47; refine (CallsIn.inRound lp (callsIn_wide.2 (HD.out _ K5.out))).mono ?_; rintro e w5 ⟨rfl, w6, gg, rfl⟩; have X6 := Lib.hid gg; clear gg))
    all_goals gi_wp2
    all_goals
      have Y : Below W.heap.size W w6 := bel_trans (bel_trans (bel_drew W) X4.out) X6.out
      obtain ⟨j1, j2, j3, j4, j5, j6⟩ := HI.out.bel hm Y
      refine ⟨keep_setG (keep_setG (keepB_bel _ Y) _) _, ?_⟩
      show BtI _ _ _ _ _ _ _
      rw [eA.out, eB.out]
      exact ⟨cell_apart _ (cell_apart _ j1 (by omega)) (by omega), (j2.apart (w.heap.size + 1 + 1) 0 _ (by omega)).apart (w.heap.size + 1 + 1) 1 _ (by omega), j3.both _ _, cell_apart _ (cell_apart _ j4 (by omega)) (by omega), cell_apart _ (cell_apart _ j5 (by omega)) (by omega), (j6.setCell (p := ⟨w.heap.size + 1 + 1, 0, none⟩) (by show w.heap.size ≤ w.heap.size + 1 + 1; omega) _).setCell (p := ⟨w.heap.size + 1 + 1, 1, none⟩) (by show w.heap.size ≤ w.heap.size + 1 + 1; omega) _⟩
  case done =>
    rintro W hI hK
    rw [ups_len (Nat.le_refl _)] at hI
    obtain ⟨qL, hqL⟩ : ∃ z, tbL l c ps hs j q = z := ⟨_, rfl⟩
    obtain ⟨qH, hqH⟩ : ∃ z, tbH l c ps hs j q = z := ⟨_, rfl⟩
    rw [hqL, hqH] at hI
    obtain ⟨i1, i2, i3, i4, i5, i6⟩ := hI
    obtain ⟨s0, s1, sf0, sf1, slt⟩ := i3
    obtain ⟨z0, z1, zf0, zf1, zlt⟩ := i2
    gi_wp2
    have hK' := ((KeepsOthers.setCell W ⟨w.heap.size + 1, 0, none⟩ (.int .i64 qL)).trans (KeepsOthers.setCell _ ⟨w.heap.size + 1, 1, none⟩ (.int .i64 qH))).same _ _ hK rfl
    refine ⟨by simp, .inl ⟨_, _, rfl, run_takeDeferred hK', ?_⟩⟩
    obtain ⟨t0, t1⟩ := two_read W (w.heap.size + 1) (.int .i64 qL) (.int .i64 qH) z0 z1
    have hc5 := cell_kept t0 (grownBy_putObj' _ W0.heap.size (.deferred none)) (fun r e => by cases e; exact ⟨_, hK', rfl⟩)
    have hc6 := cell_kept t1 (grownBy_putObj' _ W0.heap.size (.deferred none)) (fun r e => by cases e; exact ⟨_, hK', rfl⟩)
    refine ⟨.agg #[.int .i64 qL, .int .i64 qH], ?_, by rw [hqL, hqH], ((i6.setCell (p := ⟨w.heap.size + 1, 0, none⟩) (by show w.heap.size ≤ w.heap.size + 1; omega) _).setCell (p := ⟨w.heap.size + 1, 1, none⟩) (by show w.heap.size ≤ w.heap.size + 1; omega) _).trans (belowK_b (w := w) (Nat.le_refl _) _ W0.heap.size _ _ (by omega) hK' rfl rfl)⟩
    simp [results, Tryz.results26, go_sem, hc5, hc6]
end Go.Proofs.YtgjdopjolokaiaaGreat

/- slices.ContainsFunc over points, and over integers, with a closure that captures one box. -/
namespace Go.Proofs.YtgjdopjolokaiaaGreat
open Go.RowKit

set_option maxHeartbeats 8000000 in
theorem idxq_some (f q : Nat) (p : Nat → Bool) (eg : ∀ args w, (callFunc f args).run Tryz.prog w = .ok (.enter f args) w)
    (b off n cap : Nat) (l : List (Int × Int)) (B : Bool) (w : World) (n1 : n ≤ 1000) (hb : b < w.heap.size)
    (hc : Hid (∀ j, j < n → w.cell? ⟨b, off + j * 2, none⟩ = some (.int .i64 (gX l j)) ∧ w.cell? ⟨b, off + j * 2 + 1, none⟩ = some (.int .i64 (gR l j))))
    (hp : Hid (∀ j W, j < n → Below w.heap.size w W → Calls Tryz.prog f #[.agg #[.int .i64 (gX l j), .int .i64 (gR l j)], .pointer (some ⟨q, 0, none⟩)] W fun e w' => e = .returned (.bool (p j)) ∧ Below W.heap.size W w'))
    (h1 : Hid ((∃ j, j < n ∧ p j = true) → B = true)) (h2 : Hid ((∀ j, j < n → p j = false) → B = false)) :
    Calls Tryz.prog 67 #[.slice (some ⟨b, off, none⟩) n cap, .func (.func f) #[] #[.pointer (some ⟨q, 0, none⟩)]] w fun e w' => ∃ k : Int, e = .returned (.int .i64 k) ∧ decide (0 ≤ k) = B ∧ Below w.heap.size w w' := by
  go_enter Tryz.func67, Tryz.ntmps67
  go_wp2_with fail
  go_loopw [5, 8] (fun _ i wr => ∃ k : Nat, k ≤ n ∧ i = .int .i64 k ∧ Hid (Below w.heap.size w wr) ∧ Hid (∀ j, j < k → p j = false)) (fun _ i _ => n - (intOf i).toNat)
  case atStart => exact ⟨0, Nat.zero_le _, rfl, Below.refl _ _, fun j hj => by omega⟩
  case round =>
    obtain ⟨k, hk, rfl, hB, ha⟩ := hrel
    by_cases hlt : k < n
    · have c0 : wr.cell? ⟨b, off + k * 2, none⟩ = some (.int .i64 (gX l k)) := by rw [(bcell hB.out).1 _ _ hb]; exact (hc.out k hlt).1
      have c1 : wr.cell? ⟨b, off + k * 2 + 1, none⟩ = some (.int .i64 (gR l k)) := by rw [(bcell hB.out).1 _ _ hb]; exact (hc.out k hlt).2
      have HP := Lib.hid (fun W (hW : Below wr.heap.size wr W) => hp.out k W hlt (bel_trans hB.out hW))
      cases hq : p k with
      | true =>
        have hBt := h1.out ⟨k, hlt, hq⟩
        rw [hq] at HP
        generalize gX l k = x at *
        generalize gR l k = r at *
        go_wp2_with fail
        refine (HP.out _ (by first | exact Below.refl _ _ | exact bel_alloc (Below.refl _ _) | exact bel_drew _ | exact bel_alloc (bel_alloc (Below.refl _ _)))).mono ?_
        rintro e w2 ⟨rfl, gg⟩
        have X := Lib.hid (bel_trans hB.out gg); clear gg
        go_wp2
        go_returns
        exact ⟨k, rfl, by rw [hBt]; simp, X.out⟩
      | false =>
        have ha2 : Hid (∀ j, j < k + 1 → p j = false) := fun j hj => by
          by_cases e : j = k
          · rw [e]; exact hq
          · exact ha.out j (by omega)
        rw [hq] at HP
        clear hq ha
        generalize gX l k = x at c0 HP
        generalize gR l k = r at c1 HP
        go_wp2_with fail
        refine (HP.out _ (by first | exact Below.refl _ _ | exact bel_alloc (Below.refl _ _) | exact bel_drew _ | exact bel_alloc (bel_alloc (Below.refl _ _)))).mono ?_
        rintro e w2 ⟨rfl, gg⟩
        have X := Lib.hid (bel_trans hB.out gg); clear gg
        go_wp2
        go_roundw
        case rel => exact ⟨k + 1, by omega, by go_num, X, ha2⟩
        case measure => simp [intOf]; omega
    · obtain rfl : k = n := by omega
      have hBf := h2.out ha.out
      go_wp2
      go_returns
      exact ⟨-1, rfl, by rw [hBf]; simp, hB.out⟩
theorem conq_some (f q : Nat) (p : Nat → Bool) (eg : ∀ args w, (callFunc f args).run Tryz.prog w = .ok (.enter f args) w)
    (b off n cap : Nat) (l : List (Int × Int)) (B : Bool) (w : World) (n1 : n ≤ 1000) (hb : b < w.heap.size)
    (hc : Hid (∀ j, j < n → w.cell? ⟨b, off + j * 2, none⟩ = some (.int .i64 (gX l j)) ∧ w.cell? ⟨b, off + j * 2 + 1, none⟩ = some (.int .i64 (gR l j))))
    (hp : Hid (∀ j W, j < n → Below w.heap.size w W → Calls Tryz.prog f #[.agg #[.int .i64 (gX l j), .int .i64 (gR l j)], .pointer (some ⟨q, 0, none⟩)] W fun e w' => e = .returned (.bool (p j)) ∧ Below W.heap.size W w'))
    (h1 : Hid ((∃ j, j < n ∧ p j = true) → B = true)) (h2 : Hid ((∀ j, j < n → p j = false) → B = false)) :
    Calls Tryz.prog 43 #[.slice (some ⟨b, off, none⟩) n cap, .func (.func f) #[] #[.pointer (some ⟨q, 0, none⟩)]] w fun e w' => e = .returned (.bool B) ∧ Below w.heap.size w w' := by
  have HI := Lib.hid (idxq_some f q p eg b off n cap l B w n1 hb hc hp h1 h2)
  clear eg hp hc h1 h2
  go_enter Tryz.func43, Tryz.ntmps43
  go_wp2_with fail
  refine HI.out.mono ?_
  rintro e w1 ⟨k, rfl, hk, hb⟩
  have HB := Lib.hid hb; clear hb
  subst hk
  go_wp2
  all_goals
    go_ret
    exact ⟨by simp_all, HB.out⟩
end Go.Proofs.YtgjdopjolokaiaaGreat

/- Package lying: Check, check. -/
namespace Go.Proofs.YtgjdopjolokaiaaGreat
open Go.RowKit Go.Shelf

theorem bx_below {W W' : World} {b : Nat} {t : TypeId} {v : Value} (h : Boxed W b t v) (hb : Below W.heap.size W W') : Boxed W' b t v := by
  show W'.heap[b]? = _
  rw [hb.block _ h.lt]
  exact h
theorem contains_any (ps : List Int) (v : Int) : (ps.take ps.length).contains v = ps.any (fun y => y == v) := by
  rw [List.take_length]
  exact (List.any_beq' ..).symm
theorem any_at {ps : List Int} {v : Int} : ps.any (fun y => y == v) = false ↔ ∀ i, i < ps.length → ps.getD i 0 ≠ v := by
  rw [← Bool.not_eq_true, any_eq_iff]
  constructor
  · intro h i hi e
    exact h ⟨i, hi, e⟩
  · rintro h ⟨i, hi, e⟩
    exact h i hi e
set_option maxHeartbeats 4000000 in
theorem lyMis_any (v r : Int) (q b off n cap : Nat) (ps : List Int) (w : World) (n1 : n ≤ 1000) (hn : Hid (n = ps.length)) (h : w.cell? ⟨q, 0, none⟩ = some (.slice (some ⟨b, off, none⟩) n cap)) (hq : q < w.heap.size) (hb : b < w.heap.size)
    (hc : Hid (∀ j, j < n → w.cell? ⟨b, off + j, none⟩ = some (.int .i64 (ps.getD j 0)))) :
    Calls Tryz.prog 40 #[.agg #[.int .i64 v, .int .i64 r], .pointer (some ⟨q, 0, none⟩)] w fun e w' => e = .returned (.bool (!ps.any (fun y => y == v))) ∧ Below w.heap.size w w' := by
  have c0 : ∀ o, (w.alloc o).cell? ⟨q, 0, none⟩ = some (.slice (some ⟨b, off, none⟩) n cap) := fun o => by rw [World.cell?_alloc_lt w o _ hq]; exact h
  have HC : Hid (∀ o, Calls Tryz.prog 41 #[.slice (some ⟨b, off, none⟩) n cap, .int .i64 v] (w.alloc o) fun e w' => e = .returned (.bool (ps.any (fun y => y == v))) ∧ w' = w.alloc o) := Lib.hid fun o => by
    have := Tryz.slices_Contains_int b off n cap ps v (w.alloc o) (by have := hn.out; omega) (by omega) (fun j hj => by rw [World.cell?_alloc_lt w o _ hb]; exact hc.out j (by have := hn.out; omega))
    rwa [show ps.take n = ps.take ps.length by rw [← hn.out], contains_any] at this
  clear hc
  generalize ps.any (fun y => y == v) = B at *
  go_enter Tryz.func40, Tryz.ntmps40
  go_wp2_with fail
  refine (HC.out _).mono ?_
  rintro e w1 ⟨rfl, hw⟩
  subst hw
  cases B with
  | true =>
    go_wp2
    go_ret
    exact ⟨rfl, bel_alloc (Below.refl _ _)⟩
  | false =>
    go_wp2
    go_ret
    exact ⟨rfl, bel_alloc (Below.refl _ _)⟩
theorem lyChk_bad (nm : ByteArray) (cps dc E : Int) (a : Option Addr) (m cap : Nat) (a2 : Option Addr) (n cap2 : Nat) (w : World) (e1 : (E == 0) = false) (e2 : (E != 0) = true)
    (H1 : Hid (∀ W, Below w.heap.size w W → Calls Tryz.prog 38 #[.agg #[.string nm, .int .i64 cps, .slice a m cap, .int .i64 dc]] W fun e w' => e = .returned (.int .i64 E) ∧ Below W.heap.size W w')) :
    Calls Tryz.prog 21 #[.agg #[.string nm, .int .i64 cps, .slice a m cap, .int .i64 dc], .slice a2 n cap2] w fun e w' => e = .returned (.int .i64 E) ∧ Below w.heap.size w w' := by
  go_enter Tryz.func21, Tryz.ntmps21
  go_wp2_with fail
  refine (H1.out _ (bel_alloc (bel_alloc (Below.refl _ _)))).mono ?_
  rintro e w1 ⟨rfl, gg⟩
  have X1 := Lib.hid (bel_alloc (bel_alloc gg)); clear gg
  go_wp2
  go_returns
  exact ⟨rfl, X1.out⟩
/-- the boxes of Check -/
theorem lyChk_box (w : World) (nm : ByteArray) (cps dc : Int) (a : Option Addr) (m cap : Nat) (u : Value) :
    Quad w.heap.size ((w.alloc (.cells #[.string nm, .int .i64 cps, .slice a m cap, .int .i64 dc] 24)).alloc (.cells #[u] 25)) (.string nm) (.int .i64 cps) (.slice a m cap) (.int .i64 dc) ∧
    Boxed ((w.alloc (.cells #[.string nm, .int .i64 cps, .slice a m cap, .int .i64 dc] 24)).alloc (.cells #[u] 25)) (w.heap.size + 1) 25 u := by
  refine ⟨(Quad.new w _ _ _ _ _).alloc _, ?_⟩
  have := Boxed.new (w.alloc (.cells #[.string nm, .int .i64 cps, .slice a m cap, .int .i64 dc] 24)) 25 u
  rwa [World.size_alloc] at this
set_option maxHeartbeats 8000000 in
theorem lyChk_len (nm : ByteArray) (cps dc X : Int) (a : Option Addr) (m cap : Nat) (a2 : Option Addr) (n cap2 : Nat) (V : Int) (w : World) (h : (n < 2 ∧ V = 9) ∨ (¬ n < 2 ∧ 65 < n ∧ n ≤ 9223372036854775807 ∧ V = 8))
    (H1 : Hid (∀ W, Below w.heap.size w W → Calls Tryz.prog 38 #[.agg #[.string nm, .int .i64 cps, .slice a m cap, .int .i64 dc]] W fun e w' => e = .returned (.int .i64 0) ∧ Below W.heap.size W w'))
    (H2 : Hid (∀ W, Below w.heap.size w W → Calls Tryz.prog 39 #[.slice a m cap] W fun e w' => e = .returned (.tuple #[.int .i64 X, .int .i64 0]) ∧ Below W.heap.size W w')) :
    Calls Tryz.prog 21 #[.agg #[.string nm, .int .i64 cps, .slice a m cap, .int .i64 dc], .slice a2 n cap2] w fun e w' => e = .returned (.int .i64 V) ∧ Below w.heap.size w w' := by
  have hmf : ∀ (fn : Fn) (first cap : Array Value) (w : World), (Instr.makeFunc fn first cap).run Tryz.prog w = .ok (.func fn first cap) w := fun _ _ _ _ => rfl
  obtain ⟨f0, b0⟩ := lyChk_box w nm cps dc a m cap (.slice a2 n cap2)
  have F0 := Lib.hid f0
  have B0 := Lib.hid b0
  clear f0 b0
  rcases h with ⟨h, rfl⟩ | ⟨h, h2, h3, rfl⟩
  all_goals
    go_enter Tryz.func21, Tryz.ntmps21
    go_wp2_with fail
    refine (H1.out _ (bel_alloc (bel_alloc (Below.refl _ _)))).mono ?_
    rintro e w1 ⟨rfl, gg⟩
    replace F0 := Lib.hid (F0.out.below gg)
    replace B0 := Lib.hid (bx_below B0.out gg)
    have X1 := Lib.hid (bel_alloc (bel_alloc gg)); clear gg
    obtain ⟨_, _, u2, _, _, _⟩ := F0.out
    go_wp2_with fail
    refine (H2.out _ X1.out).mono ?_
    rintro e w2 ⟨rfl, gg⟩
    clear u2
    replace B0 := Lib.hid (bx_below B0.out gg)
    replace X1 := Lib.hid (bel_trans X1.out gg); clear gg
    have c1 := B0.out.cell
    go_wp2
    go_returns
    exact ⟨rfl, X1.out⟩
set_option maxHeartbeats 8000000 in
theorem lyChk_core (nm : ByteArray) (cps dc X : Int) (a : Option Addr) (m cap b off n cap2 : Nat) (A M : Bool) (V : Int) (w : World) (n0 : 2 ≤ n) (n1 : n ≤ 65) (hV : (A = false ∧ V = 5) ∨ (A = true ∧ M = true ∧ V = 7) ∨ (A = true ∧ M = false ∧ V = 0))
    (H1 : Hid (∀ W, Below w.heap.size w W → Calls Tryz.prog 38 #[.agg #[.string nm, .int .i64 cps, .slice a m cap, .int .i64 dc]] W fun e w' => e = .returned (.int .i64 0) ∧ Below W.heap.size W w'))
    (H2 : Hid (∀ W, Below w.heap.size w W → Calls Tryz.prog 39 #[.slice a m cap] W fun e w' => e = .returned (.tuple #[.int .i64 X, .int .i64 0]) ∧ Below W.heap.size W w'))
    (H3 : Hid (∀ W, Below w.heap.size w W → Calls Tryz.prog 42 #[.slice (some ⟨b, off, none⟩) n cap2, .int .i64 X] W fun e w' => e = .returned (.bool A) ∧ w' = W))
    (H4 : Hid (∀ W, Below w.heap.size w W → Boxed W (w.heap.size + 1) 25 (.slice (some ⟨b, off, none⟩) n cap2) → Calls Tryz.prog 43 #[.slice a m cap, .func (.func 40) #[] #[.pointer (some ⟨w.heap.size + 1, 0, none⟩)]] W fun e w' => e = .returned (.bool M) ∧ Below W.heap.size W w')) :
    Calls Tryz.prog 21 #[.agg #[.string nm, .int .i64 cps, .slice a m cap, .int .i64 dc], .slice (some ⟨b, off, none⟩) n cap2] w fun e w' => e = .returned (.int .i64 V) ∧ Below w.heap.size w w' := by
  have hmf : ∀ (fn : Fn) (first cap : Array Value) (w : World), (Instr.makeFunc fn first cap).run Tryz.prog w = .ok (.func fn first cap) w := fun _ _ _ _ => rfl
  obtain ⟨f0, b0⟩ := lyChk_box w nm cps dc a m cap (.slice (some ⟨b, off, none⟩) n cap2)
  have F0 := Lib.hid f0
  have B0 := Lib.hid b0
  clear f0 b0
  go_enter Tryz.func21, Tryz.ntmps21
  go_wp2_with fail
  refine (H1.out _ (bel_alloc (bel_alloc (Below.refl _ _)))).mono ?_
  rintro e w1 ⟨rfl, gg⟩
  replace F0 := Lib.hid (F0.out.below gg)
  replace B0 := Lib.hid (bx_below B0.out gg)
  have X1 := Lib.hid (bel_alloc (bel_alloc gg)); clear gg
  obtain ⟨_, _, u2, _, _, _⟩ := F0.out
  go_wp2_with fail
  refine (H2.out _ X1.out).mono ?_
  rintro e w2 ⟨rfl, gg⟩
  clear u2
  replace F0 := Lib.hid (F0.out.below gg)
  replace B0 := Lib.hid (bx_below B0.out gg)
  replace X1 := Lib.hid (bel_trans X1.out gg); clear gg
  have c1 := B0.out.cell
  obtain ⟨_, _, u2, _, _, _⟩ := F0.out
  go_wp2_with fail
  refine (H3.out _ X1.out).mono ?_
  rintro e w3 ⟨rfl, hw⟩
  subst hw
  rcases hV with ⟨rfl, rfl⟩ | ⟨rfl, rfl, rfl⟩ | ⟨rfl, rfl, rfl⟩
  · go_wp2
    go_returns
    exact ⟨rfl, X1.out⟩
  · go_wp2_with fail
    refine (H4.out _ X1.out B0.out).mono ?_
    rintro e w4 ⟨rfl, gg⟩
    replace X1 := Lib.hid (bel_trans X1.out gg); clear gg
    go_wp2
    go_returns
    exact ⟨rfl, X1.out⟩
  · go_wp2_with fail
    refine (H4.out _ X1.out B0.out).mono ?_
    rintro e w4 ⟨rfl, gg⟩
    replace X1 := Lib.hid (bel_trans X1.out gg); clear gg
    go_wp2
    go_returns
    exact ⟨rfl, X1.out⟩
theorem lyChk_any (v u : Value) (c : Ck) (ps : List Int) (w : World) (hv : CkV w v c) (hu : Nums w u ps) :
    Calls Tryz.prog 21 #[v, u] w fun e w' => e = .returned (.int .i64 (lcE c ps)) ∧ Below w.heap.size w w' := by
  have H1 : Hid (∀ W, Below w.heap.size w W → _) := Lib.hid fun W hW => lyPos_any v c W (hv.below hW)
  have hv' := hv
  obtain ⟨a, cap, rfl, hp, _⟩ := hv'
  unfold lcE
  by_cases h : liSE c = 0
  · rw [if_pos h]
    rw [h] at H1
    obtain ⟨h1, h2⟩ := liSE_zero.1 h
    obtain ⟨_, _, _, hR⟩ := ccE_pf h1
    have e0 := (ckE_iff _).2 hR
    have m0 := hR.n0
    have m1 := hR.n1
    have H2 : Hid (∀ W, Below w.heap.size w W → _) := Lib.hid fun W hW => len_any _ c.pf W (hp.below hW)
    unfold lgQ at H2
    rw [if_pos e0, e0] at H2
    have hu' := hu
    obtain ⟨a2, cap2, rfl, hcap, hh⟩ := hu'
    unfold plcE
    by_cases g1 : ps.length < 2
    · rw [if_pos g1]
      exact lyChk_len _ _ _ _ a _ cap a2 _ cap2 _ w (.inl ⟨g1, rfl⟩) H1 H2
    · rw [if_neg g1]
      by_cases g2 : 65 < ps.length
      · rw [if_pos g2]
        exact lyChk_len _ _ _ _ a _ cap a2 _ cap2 _ w (.inr ⟨g1, g2, by omega, rfl⟩) H1 H2
      · rw [if_neg g2]
        rcases hh with h0 | ⟨b, off, rfl, hb, hc⟩
        · omega
        · obtain ⟨bp, op, rfl, hbp, hpc⟩ := hp.at (by omega)
          obtain ⟨q, hq⟩ : ∃ q, ps.length = q + 1 := ⟨ps.length - 1, by omega⟩
          have HA : Hid (∀ W, Below w.heap.size w W → Calls Tryz.prog 42 #[.slice (some ⟨b, off, none⟩) (q + 1) cap2, .int .i64 (gX c.pf (c.pf.length - 1))] W fun e w' => e = .returned (.bool ((List.range (ps.length - 1)).all (fun i => decide (ps.getD i 0 < ps.getD (i + 1) 0)) && (ps.getD 0 0 == 0 && ps.getD q 0 == gX c.pf (c.pf.length - 1)))) ∧ w' = W) := Lib.hid fun W hW => by
            refine lyAdv_some b off q cap2 ps _ _ W (by omega) (by omega) (by omega) (Lib.hid fun j hj => by rw [(bcell hW).1 _ _ hb]; exact hc j (by omega)) (Lib.hid ?_) (Lib.hid ?_)
            · rintro ⟨i, hi, hx⟩
              rw [Bool.and_eq_false_iff]
              left
              rw [Bool.eq_false_iff]
              intro ha
              have := (plc_asc ps).1 ha i (by omega)
              omega
            · intro ha
              rw [(plc_asc ps).2 (fun i hi => ha i (by omega)), Bool.true_and]
          have HM : Hid (∀ W, Below w.heap.size w W → Boxed W (w.heap.size + 1) 25 (.slice (some ⟨b, off, none⟩) (q + 1) cap2) → Calls Tryz.prog 43 #[.slice (some ⟨bp, op, none⟩) c.pf.length cap, .func (.func 40) #[] #[.pointer (some ⟨w.heap.size + 1, 0, none⟩)]] W fun e w' => e = .returned (.bool (!(List.range c.pf.length).all (fun i => ps.any (fun y => y == gX c.pf i)))) ∧ Below W.heap.size W w') := Lib.hid fun W hW hB => by
            refine conq_some 40 (w.heap.size + 1) (fun j => !ps.any (fun y => y == gX c.pf j)) (enters_of Tryz.func40 (by kernel_rfl) rfl) bp op _ cap c.pf _ W (by omega) (Nat.lt_of_lt_of_le hbp hW.size) (Lib.hid fun j hj => ⟨by rw [(bcell hW).1 _ _ hbp]; exact (hpc j hj).1, by rw [(bcell hW).1 _ _ hbp]; exact (hpc j hj).2⟩) (Lib.hid fun j W2 hj hW2 => ?_) (Lib.hid ?_) (Lib.hid ?_)
            · have hb2 := bx_below hB hW2
              exact lyMis_any _ _ _ b off (q + 1) cap2 ps W2 (by omega) (Lib.hid hq.symm) hb2.cell hb2.lt (Nat.lt_of_lt_of_le (Nat.lt_of_lt_of_le hb hW.size) hW2.size) (Lib.hid fun j hj => by rw [(bcell hW2).1 _ _ (Nat.lt_of_lt_of_le hb hW.size), (bcell hW).1 _ _ hb]; exact hc j (by omega))
            · rintro ⟨j, hj, hx⟩
              rw [Bool.not_eq_true', Bool.eq_false_iff]
              intro hall
              rw [List.all_eq_true] at hall
              rw [hall j (List.mem_range.2 hj)] at hx
              cases hx
            · intro hall
              rw [Bool.not_eq_false', List.all_eq_true]
              intro j hj
              have := hall j (List.mem_range.1 hj)
              simpa using this
          rw [hq]
          refine lyChk_core _ _ _ _ _ _ cap b off (q + 1) cap2 _ _ _ w (by omega) (by omega) ?_ H1 H2 HA HM
          rw [hq, Nat.add_sub_cancel]
          cases (List.range q).all (fun i => decide (ps.getD i 0 < ps.getD (i + 1) 0)) with
          | false => left; simp
          | true =>
            rw [if_neg (by simp)]
            by_cases hz : ps.getD 0 0 ≠ 0 ∨ ps.getD q 0 ≠ gX c.pf (c.pf.length - 1)
            · rw [if_pos hz]
              left
              refine ⟨?_, rfl⟩
              rw [Bool.true_and, Bool.and_eq_false_iff]
              rcases hz with hz | hz
              · left; simpa using hz
              · right; simpa using hz
            · rw [if_neg hz]
              right
              have hz1 : ps.getD 0 0 = 0 := Classical.byContradiction fun e => hz (.inl e)
              have hz2 : ps.getD q 0 = gX c.pf (c.pf.length - 1) := Classical.byContradiction fun e => hz (.inr e)
              rw [hz1, hz2]
              cases (List.range c.pf.length).all (fun i => ps.any (fun y => y == gX c.pf i)) with
              | false => left; simp
              | true => right; simp
  · rw [if_neg h]
    obtain ⟨a2, cap2, rfl, _⟩ := hu
    exact lyChk_bad _ _ _ _ a _ cap a2 _ cap2 w (by simpa using h) (by simpa using h) H1
theorem lyRd_bad (v u h : Value) (E : Int) (nm : ByteArray) (cps dc : Int) (a : Option Addr) (m cap : Nat) (hv : v = .agg #[.string nm, .int .i64 cps, .slice a m cap, .int .i64 dc]) (w : World) (e1 : (E == 0) = false) (e2 : (E != 0) = true)
    (H1 : Hid (∀ W, Below w.heap.size w W → Calls Tryz.prog 21 #[v, u] W fun e w' => e = .returned (.int .i64 E) ∧ Below W.heap.size W w')) :
    Calls Tryz.prog 25 #[v, u, h] w fun e w' => e = .returned (.int .i64 E) ∧ Below w.heap.size w w' := by
  subst hv
  go_enter Tryz.func25, Tryz.ntmps25
  go_wp2_with fail
  refine (H1.out _ (bel_alloc (Below.refl _ _))).mono ?_
  rintro e w1 ⟨rfl, gg⟩
  have X1 := Lib.hid (bel_alloc gg); clear gg
  go_wp2
  go_returns
  exact ⟨rfl, X1.out⟩
theorem lyRd_ok (v u h : Value) (E : Int) (nm : ByteArray) (cps dc : Int) (a : Option Addr) (m cap : Nat) (hv : v = .agg #[.string nm, .int .i64 cps, .slice a m cap, .int .i64 dc]) (w : World)
    (H1 : Hid (∀ W, Below w.heap.size w W → Calls Tryz.prog 21 #[v, u] W fun e w' => e = .returned (.int .i64 0) ∧ Below W.heap.size W w'))
    (H2 : Hid (∀ W, Below w.heap.size w W → Calls Tryz.prog 46 #[h] W fun e w' => e = .returned (.int .i64 E) ∧ Below W.heap.size W w')) :
    Calls Tryz.prog 25 #[v, u, h] w fun e w' => e = .returned (.int .i64 E) ∧ Below w.heap.size w w' := by
  subst hv
  go_enter Tryz.func25, Tryz.ntmps25
  go_wp2_with fail
  refine (H1.out _ (bel_alloc (Below.refl _ _))).mono ?_
  rintro e w1 ⟨rfl, gg⟩
  have X1 := Lib.hid (bel_alloc gg); clear gg
  go_wp2_with fail
  refine (H2.out _ X1.out).mono ?_
  rintro e w2 ⟨rfl, gg⟩
  replace X1 := Lib.hid (bel_trans X1.out gg); clear gg
  go_wp2
  go_returns
  exact ⟨rfl, X1.out⟩
theorem lyRd_any (v u h : Value) (c : Ck) (ps hs : List Int) (w : World) (hv : CkV w v c) (hu : Nums w u ps) (hh : Nums w h hs) :
    Calls Tryz.prog 25 #[v, u, h] w fun e w' => e = .returned (.int .i64 (lrE c ps hs)) ∧ Below w.heap.size w w' := by
  have H1 : Hid (∀ W, Below w.heap.size w W → _) := Lib.hid fun W hW => lyChk_any v u c ps W (hv.below hW) (hu.below hW)
  have H2 : Hid (∀ W, Below w.heap.size w W → _) := Lib.hid fun W hW => chk_any h hs W (hh.below hW)
  obtain ⟨a, cap, e, _⟩ := hv
  unfold lrE
  by_cases g : lcE c ps = 0
  · rw [if_pos g]
    rw [g] at H1
    exact lyRd_ok v u h _ _ _ _ a _ cap e w H1 H2
  · rw [if_neg g]
    exact lyRd_bad v u h _ _ _ _ a _ cap e w (by simpa using g) (by simpa using g) H1
end Go.Proofs.YtgjdopjolokaiaaGreat

/- Rows of integers that belong to the call. -/
namespace Go.Proofs.YtgjdopjolokaiaaGreat
open Go.RowKit

/-- a row that the call itself made -/
abbrev Own (w : World) (B g n cap : Nat) (zs : List Int) : Prop := w.ownsRow B 3 1 (.slice (some ⟨g, 0, none⟩) n cap) n (zs.map (Value.int .i64))
theorem Own.len {w : World} {B g n cap : Nat} {zs : List Int} (h : Own w B g n cap zs) : zs.length = n := by
  have := h.1; simpa using this
theorem Own.cell {w : World} {B g n cap : Nat} {zs : List Int} (h : Own w B g n cap zs) (j : Nat) (hj : j < n) : w.cell? ⟨g, j, none⟩ = some (.int .i64 (zs.getD j 0)) := by
  have hl := h.len
  rw [World.ownsRow.cellAt h j (by omega)]
  simp [List.getD, List.getElem?_eq_getElem (show j < zs.length by omega)]
theorem Own.set {w : World} {B g n cap : Nat} {zs : List Int} (h : Own w B g n cap zs) (j : Nat) (x : Int) : Own (w.setCell ⟨g, j, none⟩ (.int .i64 x)) B g n cap (zs.set j x) := by
  have := (World.ownsRow.stored h j (.int .i64 x)).1
  rw [← List.map_set] at this
  exact this
theorem Own.lt {w : World} {B g n cap : Nat} {zs : List Int} (h : Own w B g n cap zs) : B ≤ g ∧ g < w.heap.size := World.ownsRow.lt h g rfl
theorem Own.below {w w' : World} {B g n cap : Nat} {zs : List Int} (h : Own w B g n cap zs) (hb : Below w.heap.size w w') : Own w' B g n cap zs := by
  obtain ⟨h1, h2⟩ := h
  refine ⟨h1, ?_⟩
  rcases h2 with ⟨h2, _⟩ | ⟨g', c', cur, hv, hg, hh, r⟩
  · cases h2
  · refine .inr ⟨g', c', cur, hv, hg, ?_, r⟩
    have hlt : g' < w.heap.size := by
      rcases Nat.lt_or_ge g' w.heap.size with h | h
      · exact h
      · rw [Array.getElem?_eq_none h] at hh; cases hh
    rw [hb.block _ hlt]; exact hh
theorem madeInts (n : Nat) : (madeCells (Value.int .i64 0).cells (n * 1)).toList = (List.replicate n (0 : Int)).map (Value.int .i64) := by
  rw [Nat.mul_one]
  apply List.ext_getElem
  · simp [madeCells, Value.cells]
  · intro i h1 h2
    simp [madeCells, Value.cells, Nat.mod_one]
/-- filled up to a place -/
theorem set_next {f : Nat → Int} (k m : Nat) (h : k < m) : ((List.range k).map f ++ List.replicate (m - k) 0).set k (f k) = (List.range (k + 1)).map f ++ List.replicate (m - (k + 1)) 0 := by
  obtain ⟨d, rfl⟩ : ∃ d, m = k + 1 + d := ⟨m - (k + 1), by omega⟩
  rw [show k + 1 + d - k = d + 1 by omega, show k + 1 + d - (k + 1) = d by omega, List.replicate_succ, List.range_succ, List.map_append, List.set_append_right _ _ (by simp)]
  simp
end Go.Proofs.YtgjdopjolokaiaaGreat
