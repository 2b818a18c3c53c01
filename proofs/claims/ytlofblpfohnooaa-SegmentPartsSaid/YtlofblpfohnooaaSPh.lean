/- Package segment: Refine. -/
import Derived.Test.YtlofblpfohnooaaSPc
import Derived.Test.YtlofblpfohnooaaSPe
import Derived.Test.YtlofblpfohnooaaKept
import Derived.Test.YtlofblpfohnooaaSRefH
import Derived.Maps.AppendAt
import Derived.Laws.EntriesVeiled
namespace Go.Proofs.Ytlofblpfohnooaa
open Go.RowKit Go.Shelf
attribute [local go_sem] Oper.semAt_some

/-- the heights with the middles behind some strips -/
def rfs (l : List Int) (x0 : Int) {m : Nat} (pre : List (Fin m)) : List Int := [x0] ++ pre.flatMap fun j => [(l.getD j.val 0 + l.getD (j.val + 1) 0) / 2, l.getD (j.val + 1) 0]
theorem rfs_snoc (l : List Int) (x0 : Int) {m : Nat} (pre : List (Fin m)) (j : Fin m) : rfs l x0 (pre ++ [j]) = rfs l x0 pre ++ [(l.getD j.val 0 + l.getD (j.val + 1) 0) / 2, l.getD (j.val + 1) 0] := by
  simp [rfs]
theorem rfs_len (l : List Int) (x0 : Int) {m : Nat} (pre : List (Fin m)) : (rfs l x0 pre).length = 2 * pre.length + 1 := by
  induction pre with
  | nil => rfl
  | cons a pre ih => simp [rfs] at ih ⊢; omega
theorem rfs_all (l : List Int) {m : Nat} (k : Nat) (h : k ≤ m) : rfs l (l.getD 0 0) (ups m k) = rfk l k := by
  induction k with
  | zero => rfl
  | succ k ih => rw [ups_succ (by omega), rfs_snoc, ih (by omega)]; rfl

theorem news_two (w : World) (x y : Value) (t : TypeId) : ∀ j u, [x, y][j]? = some u → (w.alloc (.cells #[x, y] t)).cell? ((⟨w.heap.size, 0, none⟩ : Addr).add j) = some u := by
  intro j u hj
  match j, hj with
  | 0, hj => simp at hj; subst hj; simp [Addr.add, go_sem]
  | 1, hj => simp at hj; subst hj; simp [Addr.add, go_sem]
  | j + 2, hj => simp at hj
theorem own_some {W : World} {base : Nat} {e : TypeId} {size : Nat} {v : Value} {k : Nat} {xs : List Value} (hk : 0 < k) (h : W.ownsRow base e size v k xs) : ∃ g cap, v = .slice (some ⟨g, 0, none⟩) k cap := by
  obtain ⟨k', rfl⟩ : ∃ k', k = k' + 1 := ⟨k - 1, by omega⟩
  exact ownsRow_succ h

theorem rfn_bad (v : Value) (E : Int) (w : World) (e1 : (E == 0) = false) (e2 : (E != 0) = true)
    (H3 : Hid (Calls Try.prog 16 #[v] w fun e w' => e = .returned (.int .i64 E) ∧ Below w.heap.size w w')) :
    Calls Try.prog 12 #[v] w fun e w' => e = .returned (.tuple #[.slice none 0 0, .int .i64 E]) ∧ Below w.heap.size w w' := by
  go_enter Try.func12, Try.ntmps12
  go_wp2_with fail
  refine H3.out.mono ?_
  rintro e w1 ⟨rfl, gg⟩
  have X1 := Lib.hid gg; clear gg
  go_wp2
  go_returns
  exact ⟨rfl, X1.out⟩
theorem rfn_many (a : Option Addr) (n cap : Nat) (w : World) (h : 33 < n) (h1 : n ≤ 65)
    (H3 : Hid (Calls Try.prog 16 #[.slice a n cap] w fun e w' => e = .returned (.int .i64 0) ∧ Below w.heap.size w w')) :
    Calls Try.prog 12 #[.slice a n cap] w fun e w' => e = .returned (.tuple #[.slice none 0 0, .int .i64 15]) ∧ Below w.heap.size w w' := by
  go_enter Try.func12, Try.ntmps12
  go_wp2_with fail
  refine H3.out.mono ?_
  rintro e w1 ⟨rfl, gg⟩
  have X1 := Lib.hid gg; clear gg
  go_wp2
  go_returns
  exact ⟨rfl, X1.out⟩

set_option maxRecDepth 100000 in
set_option maxHeartbeats 8000000 in
theorem rfn_ok (b off n cap : Nat) (l : List Int) (w : World) (n0 : 2 ≤ n) (n1 : n ≤ 33) (hb : b < w.heap.size)
    (hc : Hid (∀ j, j < n → w.cell? ⟨b, off + j, none⟩ = some (.int .i64 (l.getD j 0)))) (hd : Hid (∀ j, j < n → 0 ≤ l.getD j 0 ∧ l.getD j 0 ≤ 200000))
    (H3 : Hid (Calls Try.prog 16 #[.slice (some ⟨b, off, none⟩) n cap] w fun e w' => e = .returned (.int .i64 0) ∧ Below w.heap.size w w')) :
    Calls Try.prog 12 #[.slice (some ⟨b, off, none⟩) n cap] w fun e w' => ∃ v, e = .returned (.tuple #[v, .int .i64 0]) ∧ Nums w' v (rfk l (n - 1)) ∧ Below w.heap.size w w' := by
  obtain ⟨i0, hi, hz0, hz1, hz2⟩ := info_parts info_int
  refine (callsIn_wide (n := 10)).1 ?_
  refine callsIn_of_wp_marks Try.func12 rfl trivial ?_ rfl
  simp only [Try.ntmps12, List.size_toArray, List.length_cons, List.length_nil, Nat.reduceAdd, Nat.reduceSub, Array.replicate_succ, Array.replicate_zero, List.push_toArray, List.append_toArray, List.nil_append, List.cons_append]
  gi_wp2_with fail
  refine ⟨trivial, (callsIn_wide.2 H3.out).mono ?_⟩
  rintro e w0 ⟨rfl, gg⟩
  have hx : w0.cell? ⟨b, off, none⟩ = some (.int .i64 (l.getD 0 0)) := by rw [(bcell gg).1 _ _ hb]; simpa using hc.out 0 (by omega)
  have X0 := Lib.hid gg; clear gg H3
  obtain ⟨x0, hl0⟩ : ∃ x0, l.getD 0 0 = x0 := ⟨_, rfl⟩
  rw [hl0] at hx
  gi_wp2_with fail
  refine ⟨trivial, (callsIn_wide.2 (strips_any _ _ _ _)).mono ?_⟩
  rintro e w3 ⟨rfl, rfl⟩
  gi_wp2_with fail
  have O0 : Hid ((w0.alloc (.cells #[.int .i64 x0] 3)).ownsRow w.heap.size 3 1 (.slice (some ⟨w0.heap.size, 0, none⟩) 1 1) 1 ([x0].map (Value.int .i64))) := own_lit w0 _ x0 X0.out.size
  have BO : Hid (Boxed ((w0.alloc (.cells #[.int .i64 x0] 3)).alloc (.cells #[.slice (some ⟨w0.heap.size, 0, none⟩) 1 1] 22)) (w0.heap.size + 1) 22 (.slice (some ⟨w0.heap.size, 0, none⟩) 1 1)) := by
    have := Boxed.new (w0.alloc (.cells #[.int .i64 x0] 3)) 22 (.slice (some ⟨w0.heap.size, 0, none⟩) 1 1)
    rwa [World.size_alloc] at this
  have BX : Hid (Boxed (((w0.alloc (.cells #[.int .i64 x0] 3)).alloc (.cells #[.slice (some ⟨w0.heap.size, 0, none⟩) 1 1] 22)).alloc (.cells #[.slice (some ⟨b, off, none⟩) n cap] 22)) (w0.heap.size + 1 + 1) 22 (.slice (some ⟨b, off, none⟩) n cap)) := by
    have := Boxed.new ((w0.alloc (.cells #[.int .i64 x0] 3)).alloc (.cells #[.slice (some ⟨w0.heap.size, 0, none⟩) 1 1] 22)) 22 (.slice (some ⟨b, off, none⟩) n cap)
    rwa [World.size_alloc, World.size_alloc] at this
  replace O0 := Lib.hid ((O0.out.alloc (.cells #[.slice (some ⟨w0.heap.size, 0, none⟩) 1 1] 22)).alloc (.cells #[.slice (some ⟨b, off, none⟩) n cap] 22))
  replace BO := Lib.hid (BO.out.alloc (.cells #[.slice (some ⟨b, off, none⟩) n cap] 22))
  have X1 : Hid (Below w.heap.size w (((w0.alloc (.cells #[.int .i64 x0] 3)).alloc (.cells #[.slice (some ⟨w0.heap.size, 0, none⟩) 1 1] 22)).alloc (.cells #[.slice (some ⟨b, off, none⟩) n cap] 22))) :=
    bel_trans X0.out (bel_alloc (bel_alloc (bel_alloc (Below.refl _ _))))
  have hwg : w.heap.size ≤ w0.heap.size := X0.out.size
  obtain ⟨W0, hW0⟩ : ∃ W0, (((w0.alloc (.cells #[.int .i64 x0] 3)).alloc (.cells #[.slice (some ⟨w0.heap.size, 0, none⟩) 1 1] 22)).alloc (.cells #[.slice (some ⟨b, off, none⟩) n cap] 22)) = W0 := ⟨_, rfl⟩
  have hsz : W0.heap.size = w0.heap.size + 1 + 1 + 1 := by rw [← hW0]; simp
  rw [hW0] at O0 BO BX X1 ⊢
  clear hW0 X0 hx
  generalize w0.heap.size = g at *
  clear w0
  have hl1 : ∀ j, j < n → W0.cell? ⟨b, off + j, none⟩ = some (.int .i64 (l.getD j 0)) := fun j hj => by rw [(bcell X1.out).1 _ _ hb]; exact hc.out j hj
  refine wpIn_rangeFunc_ownH rfl (by omega) (gf := 33) (lb := #[.pointer (some ⟨g + 1 + 1, 0, none⟩)]) rfl trivial (enters_of Try.func33 (by kernel_rfl) rfl)
    (strips_stops 9 (g + 1 + 1) w.heap.size b off n cap l (by omega) (by omega) hb W0 X1.out.size BX.out.cell hl1) kpB_t (kpB_b X1.out.size) (Below.refl _ _) (fun _ => rfl)
    (fun pre W => ((∃ v, Boxed W (g + 1) 22 v ∧ W.ownsRow w.heap.size 3 1 v (rfs l x0 pre).length ((rfs l x0 pre).map (Value.int .i64)) ∧ True) ∧ Boxed W (g + 1 + 1) 22 (.slice (some ⟨b, off, none⟩) n cap)) ∧ Below w.heap.size w W)
    (fun _ _ _ => False)
    (OwnFrom.and (Own.from (fun s A B row ⟨h1, h2⟩ hg hr => ⟨holdsRow_own w.heap.size (g + 1) 22 3 1 (fun pre => (rfs l x0 pre).length) (fun pre => (rfs l x0 pre).map (Value.int .i64)) (fun _ _ => True) s A B row h1 hg hr, h2.kept hg (fun e => by obtain ⟨o, h3, h4⟩ := hr _ e.symm; rw [show A.heap[g + 1 + 1]? = _ from h2] at h3; cases h3; cases h4)⟩) _) (ownFrom_below (Nat.le_refl _) X1.out.size))
    (fun _ _ _ _ _ hs _ _ => hs)
    ⟨⟨⟨_, BO.out, O0.out, trivial⟩, BX.out⟩, X1.out⟩
    (fun x a' W => ∃ Bx : Nat, g + 1 + 1 < Bx ∧ Two Bx W (.int .i64 (l.getD x.val 0)) (.int .i64 (l.getD (x.val + 1) 0)) ∧ a' = { tmps := #[.slice (some ⟨b, off, none⟩) n cap, undef, .slice none 0 0, .int .i64 0, .int .i64 0, .pointer (some ⟨g + 1, 0, none⟩), .pointer (some ⟨Bx, 0, none⟩), .slice (some ⟨b, off, none⟩) n cap, .int .i64 0, .int .i64 0, .bool false, undef, .slice (some ⟨b, off, none⟩) n cap, .int .i64 n, .int .i64 (2 * n), .int .i64 (2 * n - 1), .bool (decide ((65 : Int) < 2 * n - 1)), .slice (some ⟨b, off, none⟩) n cap, .pointer (some ⟨b, off, none⟩), .int .i64 x0, .slice (some ⟨g, 0, none⟩) 1 1, .slice (some ⟨b, off, none⟩) n cap, .func (.func 33) #[] #[.pointer (some ⟨g + 1 + 1, 0, none⟩)], .agg #[.int .i64 (l.getD x.val 0), .int .i64 (l.getD (x.val + 1) 0)], undef, undef, undef, undef, undef, undef, undef, undef, undef, undef, undef, undef], defers := [] })
    (fun x a' _ A B row ⟨Bx, h1, h2, h3⟩ hg hr => ⟨Bx, h1, two_kept h2 hg (fun r e => (hr r e).2), h3⟩) ?assign ?body ?done ?stop
  case assign =>
    rintro lp pre x W K ⟨⟨⟨v, h1, h2, _⟩, h3⟩, h4⟩ hK
    dsimp only [encB]
    generalize l.getD x.val 0 = u at *
    generalize l.getD (x.val + 1) 0 = z at *
    gi_wp2
    exact hK _ _ ((KeepsOthers.alloc _ _).from _) ⟨(Below.refl _ W).alloc h4.size _, fun v e => (cell_al _ e)⟩ ⟨⟨⟨v, h1.alloc _, h2.alloc _, trivial⟩, h3.alloc _⟩, bA h4 _⟩ ⟨W.heap.size, h3.lt, Two.new _ _ _ _, rfl⟩
  case body =>
    rintro lp pre x aa W hlp ⟨rr, hrr⟩ ⟨⟨⟨v, hv, hrow, _⟩, hbx⟩, hB⟩ ⟨Bx, hBx, iX, rfl⟩ hlen
    have hxl := x.isLt
    obtain ⟨u0, u1⟩ := hd.out x.val (by omega)
    obtain ⟨z0, z1⟩ := hd.out (x.val + 1) (by omega)
    have es := rfs_snoc l x0 pre x
    have e2 : (rfs l x0 (pre ++ [x])).length = 2 * pre.length + 1 + 2 := by rw [rfs_len]; simp; omega
    rw [rfs_len] at hrow
    generalize l.getD x.val 0 = u at *
    generalize l.getD (x.val + 1) 0 = z at *
    have hc := hv.cell
    have hx0 := iX.1
    have hx1 := iX.2.1
    have hsz1 := hB.size
    gi_wp2_with (gi_at_builtin; refine wpListIn_append_own _ rfl _ _ 22 rfl w.heap.size 3 i0 (.int .i64 0) 1 8 Try.underlying22 hi hz0 hz1 hz2 rfl (by decide) _ _ _ rfl (hrow.alloc _) ⟨W.heap.size, 0, none⟩ 2 2 [.int .i64 ((u + z) / 2), .int .i64 z] rfl rfl (news_two _ _ _ _) (by simp [Value.oneCell']) (by unfold maxLen; omega) (by omega) (by simp; omega) ?_; intro v' w1 hown' hgrow _; obtain ⟨g', cap', rfl⟩ := own_some (by omega) hown'; obtain ⟨hv1, hv2, hr2, hk2, hb2⟩ := hv.appended (by decide) hrow hB.size (by omega) hown' hgrow; have hc1 := hv1.cell; have hf1 := hv1.frozen; have hw1 := (hbx.alloc _).kept hgrow (hbx.not_row (by decide) hrow))
    have hw2 := hw1.kept (grownBy_setCell' w1 (g + 1) (.slice (some ⟨g', 0, none⟩) (2 * pre.length + 1 + 2) cap')) (by simp)
    refine ⟨hk2.from _, ⟨hb2, fun y e => ?_⟩, ⟨⟨_, hv2, ?_, trivial⟩, hw2⟩, hB.trans hb2⟩
    · have := hbx.cell.symm.trans e
      cases this
      exact hw2.cell
    · rw [e2, es, List.map_append]
      exact hr2
  case done =>
    rintro D ys W hD rfl ⟨⟨⟨v, hv, hrow, _⟩, hbx⟩, hB⟩ hK
    rw [← hl0, rfs_all l (n - 1) (Nat.le_refl _)] at hrow
    have hc := hv.cell
    gi_wp2
    refine ⟨by simp, .inl ⟨_, _, rfl, run_takeDeferred hK, ?_⟩⟩
    refine ⟨.tuple #[v, .int .i64 0], by simp [results, Try.results12, go_sem], v, rfl, nums_of_own (ownsRow_putObj hrow _ hK rfl), hB.trans (belowK_b (w := w) (Nat.le_refl _) W D _ _ (by omega) hK rfl rfl)⟩
  case stop =>
    rintro D cc pre W _ _ h _
    exact h.elim
theorem rfn_any (v : Value) (l : List Int) (w : World) (hv : Nums w v l) :
    Calls Try.prog 12 #[v] w fun e w' => ∃ u, e = .returned (.tuple #[u, .int .i64 (rfE l)]) ∧ Nums w' u (rfL l) ∧ Below w.heap.size w w' := by
  have HC := chk_any v l w hv
  by_cases h0 : hcE l = 0
  · have hR := (hcE_iff l).1 h0
    rw [h0] at HC
    obtain ⟨a, cap, rfl, hl, hh⟩ := hv
    have n0 := hR.n0
    have n1 := hR.n1
    by_cases h1 : 65 < 2 * l.length - 1
    · have e : rfE l = 15 := by unfold rfE; rw [if_pos h0, if_pos h1]
      have e2 : rfL l = [] := by unfold rfL; rw [e]; rfl
      rw [e, e2]
      exact (rfn_many a l.length cap w (by omega) n1 HC).mono fun _ w' h => ⟨_, h.1, ⟨none, 0, rfl, by simp, .inl rfl⟩, h.2⟩
    · have e : rfE l = 0 := by unfold rfE; rw [if_pos h0, if_neg h1]
      have e2 : rfL l = rfk l (l.length - 1) := by unfold rfL; rw [if_pos e]
      rw [e, e2]
      rcases hh with hh | ⟨b, off, rfl, hb, hc⟩
      · omega
      · exact rfn_ok b off l.length cap l w n0 (by omega) hb hc hR.bd HC
  · have e : rfE l = hcE l := by unfold rfE; rw [if_neg h0]
    have e2 : rfL l = [] := by unfold rfL; rw [e, if_neg h0]
    rw [e, e2]
    exact (rfn_bad v _ w (by simpa using h0) (by simpa using h0) HC).mono fun _ w' h => ⟨_, h.1, ⟨none, 0, rfl, by simp, .inl rfl⟩, h.2⟩
end Go.Proofs.Ytlofblpfohnooaa
