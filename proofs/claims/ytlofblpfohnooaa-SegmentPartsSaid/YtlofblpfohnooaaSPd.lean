/- Package segment: areas between heights. -/
import Derived.Test.YtlofblpfohnooaaSPb
import Derived.Test.YtlofblpfohnooaaSPc
import Derived.Test.YtlofblpfohnooaaKept
import Derived.Test.YtlofblpfohnooaaSPe
import Derived.Test.YtlofblpfohnooaaSRefF
import Derived.Laws.EntriesVeiled
namespace Go.Proofs.Ytlofblpfohnooaa
open Go.RowKit Go.Shelf
attribute [local go_sem] Oper.semAt_some

theorem area_range (r c : Int) (v : Value) (w : World) (h : (lenB r && lenB c) = false) :
    Calls Try.prog 20 #[.int .i64 r, .int .i64 c, v] w fun e w' => e = .returned (.tuple #[.agg #[.int .i64 0, .int .i64 0], .int .i64 2]) ∧ Below w.heap.size w w' := by
  have H1 := Lib.hid (fun W => isRt_any r c W)
  rw [h] at H1
  clear h
  have T0 := Lib.hid ((Two.new w (.int .i64 0) (.int .i64 0) 33).alloc (.cells #[.int .i64 r, .int .i64 c] 48))
  go_enter Try.func20, Try.ntmps20
  go_wp2_with fail
  refine (H1.out _).mono ?_
  rintro e w1 ⟨rfl, gg⟩
  replace T0 := Lib.hid (T0.out.below gg)
  have X1 := Lib.hid (bel_alloc (bel_alloc gg)); clear gg
  obtain ⟨z0, z1, f0, f1, hlt⟩ := T0.out
  go_wp2
  obtain ⟨t0, t1⟩ := two_read w1 w.heap.size (.int .i64 0) (.int .i64 0) z0 z1
  refine bodyPost_ret (v := .tuple #[.agg #[.int .i64 0, .int .i64 0], .int .i64 2]) (by simp [results, Try.results20, go_sem, t0, t1]) rfl ?_
  exact ⟨rfl, (X1.out.setCell (Nat.le_refl _) _).setCell (Nat.le_refl _) _⟩
theorem area_bad (r c E : Int) (v : Value) (w : World) (h : (lenB r && lenB c) = true) (e1 : (E == 0) = false) (e2 : (E != 0) = true)
    (H3 : Hid (∀ W, Below w.heap.size w W → Calls Try.prog 16 #[v] W fun e w' => e = .returned (.int .i64 E) ∧ Below W.heap.size W w')) :
    Calls Try.prog 20 #[.int .i64 r, .int .i64 c, v] w fun e w' => e = .returned (.tuple #[.agg #[.int .i64 0, .int .i64 0], .int .i64 E]) ∧ Below w.heap.size w w' := by
  have H1 := Lib.hid (fun W => isRt_any r c W)
  rw [h] at H1
  clear h
  have T0 := Lib.hid ((Two.new w (.int .i64 0) (.int .i64 0) 33).alloc (.cells #[.int .i64 r, .int .i64 c] 48))
  go_enter Try.func20, Try.ntmps20
  go_wp2_with fail
  refine (H1.out _).mono ?_
  rintro e w1 ⟨rfl, gg⟩
  replace T0 := Lib.hid (T0.out.below gg)
  have X1 := Lib.hid (bel_alloc (bel_alloc gg)); clear gg
  go_wp2_with fail
  refine (H3.out _ X1.out).mono ?_
  rintro e w2 ⟨rfl, gg⟩
  replace T0 := Lib.hid (T0.out.below gg)
  replace X1 := Lib.hid (bel_trans X1.out gg); clear gg
  obtain ⟨z0, z1, f0, f1, hlt⟩ := T0.out
  go_wp2
  obtain ⟨t0, t1⟩ := two_read w2 w.heap.size (.int .i64 0) (.int .i64 0) z0 z1
  refine bodyPost_ret (v := .tuple #[.agg #[.int .i64 0, .int .i64 0], .int .i64 E]) (by simp [results, Try.results20, go_sem, t0, t1]) rfl ?_
  exact ⟨rfl, (X1.out.setCell (Nat.le_refl _) _).setCell (Nat.le_refl _) _⟩

/-- sums over some of the strips -/
noncomputable def smL (r c : Int) (l : List Int) {m : Nat} (pre : List (Fin m)) : Int := (pre.map fun j => ofL r c (l.getD j.val 0) (l.getD (j.val + 1) 0)).sum
noncomputable def smH (r c : Int) (l : List Int) {m : Nat} (pre : List (Fin m)) : Int := (pre.map fun j => ofH r c (l.getD j.val 0) (l.getD (j.val + 1) 0)).sum
theorem sm_snoc (r c : Int) (l : List Int) {m : Nat} (pre : List (Fin m)) (j : Fin m) : smL r c l (pre ++ [j]) = smL r c l pre + ofL r c (l.getD j.val 0) (l.getD (j.val + 1) 0) ∧ smH r c l (pre ++ [j]) = smH r c l pre + ofH r c (l.getD j.val 0) (l.getD (j.val + 1) 0) := by
  simp [smL, smH]
theorem sm_all (r c : Int) (l : List Int) {m : Nat} (k : Nat) (h : k ≤ m) : smL r c l (ups m k) = prL r c l k ∧ smH r c l (ups m k) = prH r c l k := by
  induction k with
  | zero => exact ⟨rfl, rfl⟩
  | succ k ih =>
    have i := ih (by omega)
    rw [ups_succ (by omega), (sm_snoc r c l _ _).1, (sm_snoc r c l _ _).2, i.1, i.2]
    exact ⟨rfl, rfl⟩
theorem sm_bd {r c : Int} {l : List Int} {m : Nat} (r0 : 0 ≤ r) (r1 : r ≤ 100000) (h : ∀ j : Fin m, (0 ≤ l.getD j.val 0 ∧ l.getD j.val 0 ≤ 200000) ∧ l.getD j.val 0 ≤ l.getD (j.val + 1) 0 ∧ l.getD (j.val + 1) 0 ≤ 200000) (pre : List (Fin m)) :
    0 ≤ smL r c l pre ∧ smL r c l pre ≤ smH r c l pre ∧ smH r c l pre ≤ 40000000000 * pre.length := by
  induction pre with
  | nil => simp [smL, smH]
  | cons j pre ih =>
    obtain ⟨⟨a0, a1⟩, a2, a3⟩ := h j
    have b := of_bd r c _ _ r0 a2
    have q : (l.getD (j.val + 1) 0 - l.getD j.val 0) * (2 * r) ≤ 200000 * 200000 := Int.mul_le_mul (by omega) (by omega) (by omega) (by omega)
    have e1 : smL r c l (j :: pre) = ofL r c (l.getD j.val 0) (l.getD (j.val + 1) 0) + smL r c l pre := by simp [smL]
    have e2 : smH r c l (j :: pre) = ofH r c (l.getD j.val 0) (l.getD (j.val + 1) 0) + smH r c l pre := by simp [smH]
    rw [e1, e2, List.length_cons]
    omega
set_option maxRecDepth 100000 in
set_option maxHeartbeats 8000000 in
theorem area_ok (b off n cap : Nat) (l : List Int) (r c : Int) (w : World) (hl : n = l.length) (hR : Hid (HR l)) (h : (lenB r && lenB c) = true) (hb : b < w.heap.size)
    (hc : Hid (∀ j, j < n → w.cell? ⟨b, off + j, none⟩ = some (.int .i64 (l.getD j 0))))
    (H3 : Hid (∀ W, Below w.heap.size w W → Calls Try.prog 16 #[.slice (some ⟨b, off, none⟩) n cap] W fun e w' => e = .returned (.int .i64 0) ∧ Below W.heap.size W w')) :
    Calls Try.prog 20 #[.int .i64 r, .int .i64 c, .slice (some ⟨b, off, none⟩) n cap] w fun e w' => e = .returned (.tuple #[.agg #[.int .i64 (prL r c l (n - 1)), .int .i64 (prH r c l (n - 1))], .int .i64 0]) ∧ Below w.heap.size w w' := by
  have hh : lenB r = true ∧ lenB c = true := by simpa using h
  have H1 := Lib.hid (fun W => isRt_any r c W)
  obtain ⟨r0, r1⟩ := (lenB_iff r).1 hh.1
  obtain ⟨c0, c1⟩ := (lenB_iff c).1 hh.2
  rw [h] at H1
  have n0 : 2 ≤ n := by have := hR.out.n0; omega
  have n1 : n ≤ 65 := by have := hR.out.n1; omega
  have HL := Lib.hid hl
  clear h hh hl
  have hmf : ∀ (fn : Fn) (first cap : Array Value) (w : World), (Instr.makeFunc fn first cap).run Try.prog w = .ok (.func fn first cap) w := fun _ _ _ _ => rfl
  have T0 := Lib.hid ((Two.new w (.int .i64 0) (.int .i64 0) 33).alloc (.cells #[.int .i64 r, .int .i64 c] 48))
  have TC : Hid (Two (w.heap.size + 1) ((w.alloc (.cells #[.int .i64 0, .int .i64 0] 33)).alloc (.cells #[.int .i64 r, .int .i64 c] 48)) (.int .i64 r) (.int .i64 c)) := by
    have := Two.new (w.alloc (.cells #[.int .i64 0, .int .i64 0] 33)) (.int .i64 r) (.int .i64 c) 48
    rwa [World.size_alloc] at this
  refine (callsIn_wide (n := 10)).1 ?_
  refine callsIn_of_wp_marks Try.func20 rfl trivial ?_ rfl
  simp only [Try.ntmps20, List.size_toArray, List.length_cons, List.length_nil, Nat.reduceAdd, Nat.reduceSub, Array.replicate_succ, Array.replicate_zero, List.push_toArray, List.append_toArray, List.nil_append, List.cons_append]
  gi_wp2_with fail
  refine ⟨trivial, (callsIn_wide.2 (H1.out _)).mono ?_⟩
  rintro e w1 ⟨rfl, gg⟩
  replace T0 := Lib.hid (T0.out.below gg)
  replace TC := Lib.hid (TC.out.below gg)
  have X1 := Lib.hid (bel_alloc (bel_alloc gg)); clear gg
  gi_wp2_with fail
  refine ⟨trivial, (callsIn_wide.2 (H3.out _ X1.out)).mono ?_⟩
  rintro e w2 ⟨rfl, gg⟩
  have hz : w.heap.size + 1 < w2.heap.size := (TC.out.below gg).2.2.2.2
  replace T0 := Lib.hid (((T0.out.below gg).alloc (.cells #[.int .i64 0, .int .i64 0] 49)).alloc (.cells #[.func (.func 28) #[.pointer (some ⟨w2.heap.size, 0, none⟩)] #[]] 50))
  replace TC := Lib.hid (((TC.out.below gg).alloc (.cells #[.int .i64 0, .int .i64 0] 49)).alloc (.cells #[.func (.func 28) #[.pointer (some ⟨w2.heap.size, 0, none⟩)] #[]] 50))
  have TS := Lib.hid ((Two.new w2 (.int .i64 0) (.int .i64 0) 49).alloc (.cells #[.func (.func 28) #[.pointer (some ⟨w2.heap.size, 0, none⟩)] #[]] 50))
  replace X1 := Lib.hid (bel_trans (bel_trans X1.out gg) (bel_alloc (bel_alloc (Below.refl ((w2.alloc (.cells #[.int .i64 0, .int .i64 0] 49)).alloc (.cells #[.func (.func 28) #[.pointer (some ⟨w2.heap.size, 0, none⟩)] #[]] 50)).heap.size _)))); clear gg
  clear H1 H3
  gi_wp2_with fail
  refine ⟨trivial, (callsIn_wide.2 (strips_any _ _ _ _)).mono ?_⟩
  rintro e w3 ⟨rfl, rfl⟩
  gi_wp2_with fail
  have BX : Hid ((((w2.alloc (.cells #[.int .i64 0, .int .i64 0] 49)).alloc (.cells #[.func (.func 28) #[.pointer (some ⟨w2.heap.size, 0, none⟩)] #[]] 50)).alloc (.cells #[.slice (some ⟨b, off, none⟩) n cap] 22)).cell? ⟨w2.heap.size + 1 + 1, 0, none⟩ = some (.slice (some ⟨b, off, none⟩) n cap)) := by
    show _ = _
    have := (Boxed.new ((w2.alloc (.cells #[.int .i64 0, .int .i64 0] 49)).alloc (.cells #[.func (.func 28) #[.pointer (some ⟨w2.heap.size, 0, none⟩)] #[]] 50)) 22 (.slice (some ⟨b, off, none⟩) n cap)).cell
    rwa [World.size_alloc, World.size_alloc] at this
  have CL : Hid (((w2.alloc (.cells #[.int .i64 0, .int .i64 0] 49)).alloc (.cells #[.func (.func 28) #[.pointer (some ⟨w2.heap.size, 0, none⟩)] #[]] 50)).cell? ⟨w2.heap.size + 1, 0, none⟩ = some (.func (.func 28) #[.pointer (some ⟨w2.heap.size, 0, none⟩)] #[])) := by
    show _ = _
    have := (Boxed.new (w2.alloc (.cells #[.int .i64 0, .int .i64 0] 49)) 50 (.func (.func 28) #[.pointer (some ⟨w2.heap.size, 0, none⟩)] #[])).cell
    rwa [World.size_alloc] at this
  obtain ⟨W0, hW0⟩ : ∃ W0, (((w2.alloc (.cells #[.int .i64 0, .int .i64 0] 49)).alloc (.cells #[.func (.func 28) #[.pointer (some ⟨w2.heap.size, 0, none⟩)] #[]] 50)).alloc (.cells #[.slice (some ⟨b, off, none⟩) n cap] 22)) = W0 := ⟨_, rfl⟩
  have hsz : W0.heap.size = w2.heap.size + 1 + 1 + 1 := by rw [← hW0]; simp
  replace T0 := Lib.hid (T0.out.alloc (.cells #[.slice (some ⟨b, off, none⟩) n cap] 22))
  replace TC := Lib.hid (TC.out.alloc (.cells #[.slice (some ⟨b, off, none⟩) n cap] 22))
  replace TS := Lib.hid (TS.out.alloc (.cells #[.slice (some ⟨b, off, none⟩) n cap] 22))
  replace X1 := Lib.hid (bA X1.out (.cells #[.slice (some ⟨b, off, none⟩) n cap] 22))
  replace CL := Lib.hid ((bel_alloc (Below.refl _ _)).cell (p := ⟨w2.heap.size + 1, 0, none⟩) (by simp) |>.trans CL.out : (((w2.alloc (.cells #[.int .i64 0, .int .i64 0] 49)).alloc (.cells #[.func (.func 28) #[.pointer (some ⟨w2.heap.size, 0, none⟩)] #[]] 50)).alloc (.cells #[.slice (some ⟨b, off, none⟩) n cap] 22)).cell? ⟨w2.heap.size + 1, 0, none⟩ = _)
  rw [hW0] at T0 TC TS X1 BX CL ⊢
  clear hW0
  generalize w2.heap.size = g at *
  clear w1 w2
  have hl1 : ∀ j, j < n → W0.cell? ⟨b, off + j, none⟩ = some (.int .i64 (l.getD j 0)) := fun j hj => by rw [(bcell X1.out).1 _ _ hb]; exact hc.out j hj
  have hRR : ∀ j : Fin (n - 1), (0 ≤ l.getD j.val 0 ∧ l.getD j.val 0 ≤ 200000) ∧ l.getD j.val 0 ≤ l.getD (j.val + 1) 0 ∧ l.getD (j.val + 1) 0 ≤ 200000 := fun j => by
    have hj := j.isLt
    have a1 := hR.out.bd j.val (by rw [← HL.out]; omega)
    have a2 := hR.out.bd (j.val + 1) (by rw [← HL.out]; omega)
    have a3 := hR.out.asc j.val (by rw [← HL.out]; omega)
    exact ⟨a1, a3, a2.2⟩
  refine wpIn_rangeFunc_ownH rfl (by omega) (gf := 33) (lb := #[.pointer (some ⟨g + 1 + 1, 0, none⟩)]) rfl trivial (enters_of Try.func33 (by kernel_rfl) rfl)
    (strips_stops 9 (g + 1 + 1) w.heap.size b off n cap l (by omega) (by omega) hb W0 X1.out.size BX.out hl1) kpB_t (kpB_b X1.out.size) (Below.refl _ _) (fun _ => rfl)
    (fun pre W => Two w.heap.size W (.int .i64 0) (.int .i64 0) ∧ Two (w.heap.size + 1) W (.int .i64 r) (.int .i64 c) ∧ Two g W (.int .i64 (smL r c l pre)) (.int .i64 (smH r c l pre)) ∧ W.cell? ⟨g + 1, 0, none⟩ = some (.func (.func 28) #[.pointer (some ⟨g, 0, none⟩)] #[]) ∧ W.cell? ⟨g + 1 + 1, 0, none⟩ = some (.slice (some ⟨b, off, none⟩) n cap) ∧ Below w.heap.size w W)
    (fun _ _ _ => False)
    (fun s A B row ⟨i1, i2, i3, i4, i5, i6⟩ hg hr => ⟨two_kept i1 hg (fun r e => (hr r e).2), two_kept i2 hg (fun r e => (hr r e).2), two_kept i3 hg (fun r e => (hr r e).2), cell_kept i4 hg (fun r e => (hr r e).2), cell_kept i5 hg (fun r e => (hr r e).2), ownFrom_below (β := Unit) (Nat.le_refl _) X1.out.size () A B row i6 hg hr⟩)
    (fun _ _ _ _ _ hs _ _ => hs)
    ⟨T0.out, TC.out, TS.out, CL.out, BX.out, X1.out⟩
    (fun x a' W => ∃ Bx : Nat, g + 1 + 1 < Bx ∧ Two Bx W (.int .i64 (l.getD x.val 0)) (.int .i64 (l.getD (x.val + 1) 0)) ∧ a' = { tmps := #[.int .i64 r, .int .i64 c, .slice (some ⟨b, off, none⟩) n cap, undef, undef, undef, .pointer (some ⟨w.heap.size, 0, none⟩), .int .i64 0, .pointer (some ⟨w.heap.size + 1, 0, none⟩), .int .i64 0, .pointer (some ⟨g, 0, none⟩), .pointer (some ⟨g + 1, 0, none⟩), .pointer (some ⟨Bx, 0, none⟩), .int .i64 r, .int .i64 c, .agg #[.int .i64 r, .int .i64 c], .agg #[.int .i64 r, .int .i64 c], .bool true, .bool false, undef, .slice (some ⟨b, off, none⟩) n cap, .int .i64 0, .int .i64 0, .bool false, undef, undef, .func (.func 28) #[.pointer (some ⟨g, 0, none⟩)] #[], .slice (some ⟨b, off, none⟩) n cap, .func (.func 33) #[] #[.pointer (some ⟨g + 1 + 1, 0, none⟩)], .agg #[.int .i64 (l.getD x.val 0), .int .i64 (l.getD (x.val + 1) 0)], undef, undef, undef, undef, undef, undef], defers := [] })
    (fun x a' _ A B row ⟨Bx, h1, h2, h3⟩ hg hr => ⟨Bx, h1, two_kept h2 hg (fun r e => (hr r e).2), h3⟩) ?assign ?body ?done ?stop
  case assign =>
    rintro lp pre x W K ⟨i1, i2, i3, i4, i5, i6⟩ hK
    have hgl : g + 1 + 1 < W.heap.size := World.block_lt_of_cell? W _ i5
    dsimp only [encB]
    generalize l.getD x.val 0 = u at *
    generalize l.getD (x.val + 1) 0 = v at *
    gi_wp2
    refine hK _ _ ((KeepsOthers.alloc _ _).from _) ⟨(Below.refl _ W).alloc i6.size _, fun v e => (cell_al _ e)⟩ ⟨i1.alloc _, i2.alloc _, i3.alloc _, cell_al _ i4, cell_al _ i5, bA i6 _⟩ ⟨W.heap.size, hgl, Two.new _ _ _ _, rfl⟩
  case body =>
    rintro lp pre x a' W hlp ⟨rr, hrr⟩ ⟨i1, i2, i3, i4, i5, i6⟩ ⟨Bx, hBx, iX, rfl⟩ hlen
    obtain ⟨⟨x0, x1⟩, x2, x3⟩ := hRR x
    have hmx : Try.prog.follows .mixedOrders = true := by kernel_rfl
    have HA := Lib.hid (fun W => cArea_any r c (l.getD x.val 0) (l.getD (x.val + 1) 0) W r0 r1 c0 c1 x0 x2 x3)
    have bd := sm_bd (c := c) r0 r1 hRR pre
    have ob := of_bd r c _ _ r0 x2
    have oq : (l.getD (x.val + 1) 0 - l.getD x.val 0) * (2 * r) ≤ 200000 * 200000 := Int.mul_le_mul (by omega) (by omega) (by omega) (by omega)
    have es := sm_snoc r c l pre x
    generalize ofL r c (l.getD x.val 0) (l.getD (x.val + 1) 0) = oL at *
    generalize ofH r c (l.getD x.val 0) (l.getD (x.val + 1) 0) = oH at *
    generalize l.getD x.val 0 = u at *
    generalize l.getD (x.val + 1) 0 = v at *
    generalize smL r c l pre = pL at *
    generalize smH r c l pre = pH at *
    have hc0 := i2.1
    have hc1 := i2.2.1
    have hx0 := iX.1
    have hx1 := iX.2.1
    gi_wp2
    obtain ⟨bd0, bd1, bd2⟩ := bd
    obtain ⟨ob0, ob1, ob2⟩ := ob
    have hlen2 : (pre.length : Int) ≤ 64 := by omega
    have HS : Hid (∀ w4, Below W.drew.heap.size W.drew w4 → w4.cell? ⟨g + 1, 0, none⟩ = some (.func (.func 28) #[.pointer (some ⟨g, 0, none⟩)] #[]) ∧ Two g w4 (.int .i64 pL) (.int .i64 pH)) := fun w4 gg =>
      ⟨(gg.cell (p := ⟨g + 1, 0, none⟩) (World.block_lt_of_cell? W _ i4)).trans i4, (i3.below (bel_drew W)).below gg⟩
    have HD : Hid (∀ w4, Two g w4 (.int .i64 pL) (.int .i64 pH) → Calls Try.prog 28 #[.pointer (some ⟨g, 0, none⟩), .agg #[.int .i64 oL, .int .i64 oH]] w4 fun e w' => e = .returned (.tuple #[]) ∧ ∃ w2, Below w4.heap.size w4 w2 ∧ w' = (w2.setCell ⟨g, 0, none⟩ (.int .i64 (pL + oL))).setCell ⟨g, 1, none⟩ (.int .i64 (pH + oH))) := fun w4 h4 =>
      add_any g pL pH oL oH w4 h4 (by omega) (by omega) (by omega) (by omega) (by omega) (by omega) (by omega) (by omega)
    have HI := Lib.hid (And.intro i1 (And.intro i2 (And.intro i3 (And.intro i5 i6))))
    clear bd0 bd1 bd2 ob0 ob1 ob2 i1 i2 i3 i5 i6 iX hlen hlen2 oq x0 x1 x2 x3
    gi_region_with_o (first
      | (refine ⟨trivial, ?_⟩; gi_at_call 29; refine (CallsIn.inRound lp (callsIn_wide.2 (HA.out _))).mono ?_; rintro e w4 ⟨rfl, gg⟩; have X4 := Lib.hid gg; obtain ⟨k4, k5⟩ := HS.out _ gg; have K5 := Lib.hid k5; clear k5 gg)
      | (refine ⟨trivial, ?_⟩; gi_at_call 28; refine (CallsIn.inRound lp (callsIn_wide.2 (HD.out _ K5.out))).mono ?_; rintro e w5 ⟨rfl, w6, gg, rfl⟩; have X6 := Lib.hid gg; clear gg))
    all_goals gi_wp2
    all_goals
      obtain ⟨i1, i2, i3, i5, i6⟩ := HI.out
      have Y : Below W.heap.size W w6 := bel_trans (bel_trans (bel_drew W) X4.out) X6.out
      have j5 := (bcell Y).1 _ _ (World.block_lt_of_cell? W _ i5) |>.trans i5
      have j4 := (bcell Y).1 _ _ (World.block_lt_of_cell? W _ i4) |>.trans i4
      have h5 := cell_apart (j := 1) (.int .i64 (pH + oH)) (cell_apart (j := 0) (.int .i64 (pL + oL)) j5 (show g + 1 + 1 ≠ g by omega)) (show g + 1 + 1 ≠ g by omega)
      have hB : ∀ {Z : World}, Below w.heap.size Z W → Below w.heap.size Z ((w6.setCell ⟨g, 0, none⟩ (.int .i64 (pL + oL))).setCell ⟨g, 1, none⟩ (.int .i64 (pH + oH))) := fun hZ =>
        ((hZ.trans (Y.mono i6.size)).setCell (p := ⟨g, 0, none⟩) (by show _ ≤ g; omega) _).setCell (p := ⟨g, 1, none⟩) (by show _ ≤ g; omega) _
      refine ⟨keeps_set2 _ _ _ _ _ Y, ⟨hB (Below.refl _ W), fun v e => ?_⟩, ((i1.below Y).apart g 0 _ (by omega)).apart g 1 _ (by omega), ((i2.below Y).apart g 0 _ (by omega)).apart g 1 _ (by omega), ?_, ?_, h5, hB i6⟩
      · rw [i5] at e; cases e; exact h5
      · rw [es.1, es.2]; exact (i3.below Y).both _ _
      · exact cell_apart _ (cell_apart _ j4 (by omega)) (by omega)
  case done =>
    rintro D ys W hD rfl ⟨i1, i2, i3, i4, i5, i6⟩ hK
    rw [(sm_all r c l (n - 1) (Nat.le_refl _)).1, (sm_all r c l (n - 1) (Nat.le_refl _)).2] at i3
    obtain ⟨qL, hqL⟩ : ∃ q, prL r c l (n - 1) = q := ⟨_, rfl⟩
    obtain ⟨qH, hqH⟩ : ∃ q, prH r c l (n - 1) = q := ⟨_, rfl⟩
    rw [hqL, hqH] at i3
    obtain ⟨s0, s1, sf0, sf1, slt⟩ := i3
    obtain ⟨z0, z1, zf0, zf1, zlt⟩ := i1
    gi_wp2
    have hK' := ((KeepsOthers.setCell W ⟨w.heap.size, 0, none⟩ (.int .i64 qL)).trans (KeepsOthers.setCell _ ⟨w.heap.size, 1, none⟩ (.int .i64 qH))).same D _ hK rfl
    refine ⟨by simp, .inl ⟨_, _, rfl, run_takeDeferred hK', ?_⟩⟩
    obtain ⟨t0, t1⟩ := two_read W w.heap.size (.int .i64 qL) (.int .i64 qH) z0 z1
    have hc5 := cell_kept t0 (grownBy_putObj' _ D (.deferred none)) (fun r e => by cases e; exact ⟨_, hK', rfl⟩)
    have hc6 := cell_kept t1 (grownBy_putObj' _ D (.deferred none)) (fun r e => by cases e; exact ⟨_, hK', rfl⟩)
    refine ⟨.tuple #[.agg #[.int .i64 qL, .int .i64 qH], .int .i64 0], ?_, by rw [hqL, hqH], ((i6.setCell (p := ⟨w.heap.size, 0, none⟩) (Nat.le_refl _) _).setCell (p := ⟨w.heap.size, 1, none⟩) (Nat.le_refl _) _).trans (belowK_b (w := w) (Nat.le_refl _) _ D _ _ (by omega) hK' rfl rfl)⟩
    simp [results, Try.results20, go_sem, hc5, hc6]
  case stop =>
    rintro D cc pre W _ _ h _
    exact h.elim
end Go.Proofs.Ytlofblpfohnooaa
