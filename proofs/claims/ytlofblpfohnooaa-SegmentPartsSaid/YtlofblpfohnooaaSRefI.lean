/- The reference of layer 7: Refine's loop. -/
import Derived.Test.YtlofblpfohnooaaSRefH
import Derived.Deep.RegionLaw
import Derived.Laws.AppendOwn
namespace Go.Proofs.Ytlofblpfohnooaa
open Go.RowKit

/-- two integers are appended to a row of the call's own, as one step of a region that draws its order -/
theorem step_two {ops : Array Oper} {o : Oper} {a : Act} {w : World} {K : Act → World → Prop} {Q : Exit → Act → World → Prop} {E : Prop} (hg : o.guard = none) (s x : Operand)
    (hop : o.op = Op.call { callee := Callee.builtin Builtin.append, args := #[s, x], argTypes := #[22, 22] }) (B n g c : Nat) (v : Value) (zs : List Int) (p q : Int)
    (hs : a.eval s = v) (hx : a.eval x = .slice (some ⟨g, 0, none⟩) 2 c) (hown : w.ownsRow B 3 1 v n (zs.map (Value.int .i64))) (hn : n ≤ 1000) (hB : B ≤ w.heap.size)
    (hp : w.cell? ⟨g, 0, none⟩ = some (.int .i64 p)) (hq : w.cell? ⟨g, 1, none⟩ = some (.int .i64 q))
    (h : ∀ v' w', w'.ownsRow B 3 1 v' (n + 2) (zs.map (Value.int .i64) ++ [.int .i64 p, .int .i64 q]) → w.grownBy w' v.ownBlock → K (a.put o.dst v') w') :
    if Region.wanted o (yielded ops a.tmps) = true then Oper.wp Try.prog o a w K Q else E := by
  obtain ⟨i0, hi, hz0, hz1, hz2⟩ := info_parts info_int
  rw [if_pos (by simp [Region.wanted, hg])]
  refine wp_append_own w s x 22 hop B 3 i0 (.int .i64 0) 1 8 Try.underlying22 hi hz0 hz1 hz2 rfl (by decide) v n _ hs hown ⟨g, 0, none⟩ 2 c [.int .i64 p, .int .i64 q] hx rfl (fun j u hj => ?_) (fun u hu => ?_) (by unfold maxLen; omega) (by omega) hB (fun v' w' h1 h2 _ => h v' w' h1 h2)
  · match j, hj with
    | 0, hj => simp at hj; subst hj; simpa [Addr.add] using hp
    | 1, hj => simp at hj; subst hj; simpa [Addr.add] using hq
    | j + 2, hj => simp at hj
  · simp at hu; rcases hu with rfl | rfl <;> rfl

set_option maxHeartbeats 4000000 in
set_option maxRecDepth 1000000 in
theorem refRfn_ok (b off n cap : Nat) (l : List Int) (w : World) (n0 : 2 ≤ n) (n1 : n ≤ 33) (hb : b < w.heap.size)
    (hc : Hid (∀ j, j < n → w.cell? ⟨b, off + j, none⟩ = some (.int .i64 (l.getD j 0)))) (hd : Hid (∀ j, j < n → 0 ≤ l.getD j 0 ∧ l.getD j 0 ≤ 200000))
    (H3 : Hid (Calls Try.prog 17 #[.slice (some ⟨b, off, none⟩) n cap] w fun e w' => e = .returned (.int .i64 0) ∧ Below w.heap.size w w')) :
    Calls Try.prog 14 #[.slice (some ⟨b, off, none⟩) n cap] w fun e w' => ∃ v, e = .returned (.tuple #[v, .int .i64 0]) ∧ Nums w' v (rfk l (n - 1)) ∧ Below w.heap.size w w' := by
  obtain ⟨i0, hi, hz0, hz1, hz2⟩ := info_parts info_int
  go_enter Try.func14, Try.ntmps14
  go_wp2_with fail
  refine H3.out.mono ?_
  rintro e w0 ⟨rfl, gg⟩
  have hx : w0.cell? ⟨b, off, none⟩ = some (.int .i64 (l.getD 0 0)) := by rw [(bcell gg).1 _ _ hb]; simpa using hc.out 0 (by omega)
  have X0 := Lib.hid gg; clear gg H3
  generalize hl0 : l.getD 0 0 = x0 at hx
  have L0 := Lib.hid hl0; clear hl0
  go_wp2_with fail
  clear hx
  go_loopw [5, 6] (fun v ii wr => ∃ j : Nat, j + 1 ≤ n ∧ ii = .int .i64 ((j : Int) + 1) ∧ Hid (wr.ownsRow w.heap.size 3 1 v (2 * j + 1) ((rfk l j).map (Value.int .i64))) ∧ Hid (Below w.heap.size w wr)) (fun _ ii _ => n - (intOf ii).toNat)
  case atStart => exact ⟨0, by omega, rfl, by show _; rw [← L0.out]; exact own_lit w0 _ _ X0.out.size, X0.out.alloc X0.out.size _⟩
  case round =>
    obtain ⟨j, hj, rfl, hown, hB⟩ := hrel
    by_cases hlt : j + 1 < n
    · have d0 : wr.cell? ⟨b, off + j, none⟩ = some (.int .i64 (l.getD j 0)) := by rw [hB.out.cell (p := ⟨b, off + j, none⟩) hb]; exact hc.out j (by omega)
      have d1 : wr.cell? ⟨b, off + (j + 1), none⟩ = some (.int .i64 (l.getD (j + 1) 0)) := by rw [hB.out.cell (p := ⟨b, off + (j + 1), none⟩) hb]; exact hc.out (j + 1) hlt
      have b0 := hd.out j (by omega)
      have b1 := hd.out (j + 1) hlt
      have RK : Hid (rfk l j ++ [(l.getD j 0 + l.getD (j + 1) 0) / 2, l.getD (j + 1) 0] = rfk l (j + 1)) := rfl
      have wk : IntKind.i64.wrap (j : Int) = (j : Int) := wrap_in _ ⟨by omega, by omega⟩
      have l2 : j < n := by omega
      have l3 : 0 ≤ (j : Int) + 1 := by omega
      have l1 : (j : Int) + 1 < (n : Int) := by omega
      have l4 : ((j : Int) + 1).toNat = j + 1 := by omega
      generalize l.getD j 0 = x at *
      generalize l.getD (j + 1) 0 = y at *
      obtain ⟨x0', x1'⟩ := b0
      obtain ⟨y0', y1'⟩ := b1
      have ws : IntKind.i64.wrap (x + y) = x + y := wrap_in _ ⟨by omega, by omega⟩
      have wd : IntKind.i64.wrap ((x + y).tdiv 2) = (x + y) / 2 := by rw [Int.tdiv_eq_ediv_of_nonneg (by omega)]; exact wrap_in _ ⟨by omega, by omega⟩
      have hown2 : Hid (∀ o, (wr.drew.alloc o).ownsRow w.heap.size 3 1 _ (2 * j + 1) ((rfk l j).map (Value.int .i64))) := fun o => (show wr.drew.ownsRow w.heap.size 3 1 _ (2 * j + 1) ((rfk l j).map (Value.int .i64)) from hown.out).alloc o
      have hsz : Hid (w.heap.size ≤ wr.heap.size) := hB.out.size
      go_wp2_with fail
      go_region_law (refine step_two rfl (.tmp 27) (.tmp 43) rfl w.heap.size (2 * j + 1) wr.heap.size 2 _ (rfk l j) ((x + y) / 2) y (by simp [Act.eval, Act.put]) (by simp [Act.eval, Act.put]) (hown2.out _) (by omega) (by have := hsz.out; simp; omega) (by simp [go_sem, wd]) (by simp [go_sem, wd]) ?_; intro v' w1 hown' hgrow)
      all_goals
        have R := own_two (wr := wr.drew) hsz.out (hB.out.trans ((bel_drew wr).mono hsz.out)) (show wr.drew.ownsRow w.heap.size 3 1 _ (2 * j + 1) ((rfk l j).map (Value.int .i64)) from hown.out) hown' hgrow
        rw [RK.out] at R
        clear hown' hgrow
        go_wp2
        go_roundw
        case rel => exact ⟨j + 1, by omega, by go_num, Lib.hid (by rw [show 2 * (j + 1) + 1 = 2 * j + 1 + 2 by omega]; exact R.1), Lib.hid R.2⟩
        case measure => simp [intOf]; omega
    · obtain rfl : n = j + 1 := by omega
      go_wp2
      go_returns
      exact ⟨_, rfl, nums_of_own hown.out, hB.out⟩
theorem refRfn_any (v : Value) (l : List Int) (w : World) (hv : Nums w v l) :
    Calls Try.prog 14 #[v] w fun e w' => ∃ u, e = .returned (.tuple #[u, .int .i64 (rfE l)]) ∧ Nums w' u (rfL l) ∧ Below w.heap.size w w' := by
  have HC := refChk_any v l w hv
  by_cases h0 : hcE l = 0
  · have hR := (hcE_iff l).1 h0
    rw [h0] at HC
    obtain ⟨a, cap, rfl, hl, hh⟩ := hv
    have n0 := hR.n0
    have n1 := hR.n1
    by_cases h1 : 65 < 2 * l.length - 1
    · have e : rfE l = 15 := by unfold rfE; rw [if_pos h0, if_pos h1]
      have e2 : rfL l = [] := by unfold rfL; rw [e]; rfl
      rw [e, e2]
      exact (refRfn_many a l.length cap w (by omega) n1 HC).mono fun _ w' h => ⟨_, h.1, ⟨none, 0, rfl, by simp, .inl rfl⟩, h.2⟩
    · have e : rfE l = 0 := by unfold rfE; rw [if_pos h0, if_neg h1]
      have e2 : rfL l = rfk l (l.length - 1) := by unfold rfL; rw [if_pos e]
      rw [e, e2]
      rcases hh with hh | ⟨b, off, rfl, hb, hc⟩
      · omega
      · exact refRfn_ok b off l.length cap l w n0 (by omega) hb hc hR.bd HC
  · have e : rfE l = hcE l := by unfold rfE; rw [if_neg h0]
    have e2 : rfL l = [] := by unfold rfL; rw [e, if_neg h0]
    rw [e, e2]
    exact (refRfn_bad v _ w (by simpa using h0) (by simpa using h0) HC).mono fun _ w' h => ⟨_, h.1, ⟨none, 0, rfl, by simp, .inl rfl⟩, h.2⟩
end Go.Proofs.Ytlofblpfohnooaa
