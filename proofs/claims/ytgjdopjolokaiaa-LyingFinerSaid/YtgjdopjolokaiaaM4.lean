/- Texts that the proofs of this seat share, one behind the other: LDV, LPD, LCF, PRC, PRD, LRB, LRC, LRE, LPB, OwnR, LPE, LOI, LRF, LOP, LRG, LPF, LRH, LRI, LRJ, CDE, SPg, LPG, LPH, SRefH, SPh. -/
import Derived.Test.YtgjdopjolokaiaaM2
import Derived.Test.YtgjdopjolokaiaaM3
import Derived.Test.YtgjdopjolokaiaaM1
import Derived.RangeFuncBound
import Derived.RangeFuncLeaves
import Derived.Shelf.Abstract
import Derived.Shelf.RegionOpen
import Derived.OwnWalkIn
import Derived.TacticsInMore
import Derived.LoopNIn
import Derived.LoopIn
import Derived.Deep.RegionHeld3
import Derived.Sort.CutIn
import Derived.FnLit
import Derived.StillTailTactics
import Derived.Deep.DeepCutAuto
import Derived.Deep.CutRange
import Derived.BigQuiet
import Derived.Deep.AppendLies
import Derived.RangeFuncBox
import Derived.Laws.MakeOwn
import Derived.Laws.AppendOwn
import Derived.Deep.RegionLaw
import Derived.Maps.AppendAt
import Derived.Laws.OwnMore
import Derived.Laws.EntriesVeiled

set_option linter.unusedVariables false
set_option linter.unusedSimpArgs false

/- Package lying: slices are yielded. -/
namespace Go.Proofs.Ytgjdopjolokaiaa
open Go.RowKit Go.Shelf
attribute [local go_sem] Oper.semAt_some

/-- a slice between two of the places -/
noncomputable def encS (l : List (Int × Int)) (ps : List Int) {m : Nat} (j : Fin m) : Array Value := #[.agg #[.int .i64 (ps.getD (j.val + 1) 0 - ps.getD j.val 0), .int .i64 (slL l (ps.getD j.val 0) (ps.getD (j.val + 1) 0)), .int .i64 (slH l (ps.getD j.val 0) (ps.getD (j.val + 1) 0))]]
theorem keep_cell {G : Nat} {A B : World} {k i : Nat} (h : KeepB G A B) (hk : k < A.heap.size) (hg : k ≠ G) : B.cell? ⟨k, i, none⟩ = A.cell? ⟨k, i, none⟩ := by
  simp only [World.cell?, h.2 k hk hg]
theorem keepB_bel (G : Nat) {A B : World} (h : Below A.heap.size A B) : KeepB G A B := ⟨h.size, fun k hk _ => h.block k hk⟩
theorem grown_bel {A B : World} (h : Below A.heap.size A B) : A.grownBy B none := ⟨h.os, h.tape, h.output, h.size, fun k hk _ => h.block k hk⟩
theorem pts_keep {G b off len cap : Nat} {A B : World} {l : List (Int × Int)} (h : Pts A (.slice (some ⟨b, off, none⟩) len cap) l) (hk : KeepB G A B) (hb : b < A.heap.size) (hg : b ≠ G) : Pts B (.slice (some ⟨b, off, none⟩) len cap) l := by
  obtain ⟨a, c, e, hl, hh⟩ := h
  refine ⟨a, c, e, hl, ?_⟩
  simp only [Value.slice.injEq] at e
  obtain ⟨rfl, _, _⟩ := e
  rcases hh with hh | ⟨b', off', e, hlt, hc⟩
  · exact .inl hh
  · simp only [Option.some.injEq, Addr.mk.injEq, and_true] at e
    obtain ⟨rfl, rfl⟩ := e
    exact .inr ⟨b, off, rfl, Nat.lt_of_lt_of_le hb hk.1, fun j hj => by rw [keep_cell hk hb hg, keep_cell hk hb hg]; exact hc j hj⟩

theorem two_keep {G b : Nat} {A B : World} {x y : Value} (h : Two b A x y) (hk : KeepB G A B) (hg : b ≠ G) : Two b B x y := by
  obtain ⟨h0, h1, h2, h3, h4⟩ := h
  refine ⟨by rw [keep_cell hk h4 hg]; exact h0, by rw [keep_cell hk h4 hg]; exact h1, ?_, ?_, Nat.lt_of_lt_of_le h4 hk.1⟩
  · simp only [World.frozen?, hk.2 b h4 hg] at h2 ⊢; exact h2
  · simp only [World.frozen?, hk.2 b h4 hg] at h3 ⊢; exact h3
theorem grown_cell (W : World) (b i : Nat) (u : Value) : W.grownBy (W.setCell ⟨b, i, none⟩ u) (some b) :=
  ⟨rfl, rfl, rfl, by simp [World.setCell], fun k _ hk => by
    show (W.heap.modify b _)[k]? = _
    rw [Array.getElem?_modify, if_neg (fun e => hk (by rw [e]))]⟩
theorem keep_set {G b i : Nat} {W A : World} (h : KeepB G W A) (hb : W.heap.size ≤ b) (u : Value) : KeepB G W (A.setCell ⟨b, i, none⟩ u) :=
  ⟨Nat.le_trans h.1 (grown_cell A b i u).size, fun k hk hg => ((grown_cell A b i u).block k (Nat.lt_of_lt_of_le hk h.1) (fun e => by cases e; omega)).trans (h.2 k hk hg)⟩
theorem dv_first {α : Type} {W w4 : World} {J : List α → World → Prop} {L0 H0 : Int} (hJ : Hid (∀ s A B row, J s A → A.grownBy B row → (∀ r, row = some r → W.heap.size ≤ r) → J s B)) (h0 : Hid (J [] W)) (X4 : Hid (Below W.drew.heap.size W.drew w4)) :
    ∃ B4 : Nat, Value.pointer (some ⟨w4.heap.size, 0, none⟩) = .pointer (some ⟨B4, 0, none⟩) ∧ Hid (Two B4 (w4.alloc (.cells #[.int .i64 L0, .int .i64 H0] 40)) (.int .i64 L0) (.int .i64 H0)) ∧ W.heap.size ≤ B4 ∧ Hid (Below W.heap.size W (w4.alloc (.cells #[.int .i64 L0, .int .i64 H0] 40))) ∧ Hid (J [] (w4.alloc (.cells #[.int .i64 L0, .int .i64 H0] 40))) := by
  have YB := bA (bel_trans (bel_drew W) X4.out) (.cells #[.int .i64 L0, .int .i64 H0] 40)
  exact ⟨_, rfl, Two.new _ _ _ _, (bel_trans (bel_drew W) X4.out).size, YB, hJ.out _ _ _ none h0.out (grown_bel YB) (fun r e => by cases e)⟩
theorem dv_second {α : Type} {W w4 : World} {J : List α → World → Prop} {L0 H0 : Int} (hJ : Hid (∀ s A B row, J s A → A.grownBy B row → (∀ r, row = some r → W.heap.size ≤ r) → J s B)) (h0 : Hid (J [] W)) (X4 : Hid (Below (W.alloc (.cells #[.int .i64 0, .int .i64 0] 40)).drew.heap.size (W.alloc (.cells #[.int .i64 0, .int .i64 0] 40)).drew w4))
    (TQ : Hid (Two W.heap.size (W.alloc (.cells #[.int .i64 0, .int .i64 0] 40)).drew (.int .i64 0) (.int .i64 0) → Two W.heap.size w4 (.int .i64 0) (.int .i64 0))) :
    ∃ B4 : Nat, Value.pointer (some ⟨W.heap.size, 0, none⟩) = .pointer (some ⟨B4, 0, none⟩) ∧ Hid (Two B4 ((w4.setCell ⟨W.heap.size, 0, none⟩ (.int .i64 L0)).setCell ⟨W.heap.size, 1, none⟩ (.int .i64 H0)) (.int .i64 L0) (.int .i64 H0)) ∧ W.heap.size ≤ B4 ∧ Hid (Below W.heap.size W ((w4.setCell ⟨W.heap.size, 0, none⟩ (.int .i64 L0)).setCell ⟨W.heap.size, 1, none⟩ (.int .i64 H0))) ∧ Hid (J [] ((w4.setCell ⟨W.heap.size, 0, none⟩ (.int .i64 L0)).setCell ⟨W.heap.size, 1, none⟩ (.int .i64 H0))) := by
  have YB := (((bel_alloc (bel_trans (bel_drew _) X4.out)).setCell (p := ⟨W.heap.size, 0, none⟩) (Nat.le_refl _) (.int .i64 L0)).setCell (p := ⟨W.heap.size, 1, none⟩) (Nat.le_refl _) (.int .i64 H0))
  exact ⟨_, rfl, (TQ.out (Two.new _ _ _ _)).both _ _, Nat.le_refl _, YB, hJ.out _ _ _ none h0.out (grown_bel YB) (fun r e => by cases e)⟩
theorem ups_split {m k : Nat} : ∀ {n : Nat} (hk : k < n) (hn : n ≤ m), ∃ rest, ups m n = ups m k ++ ⟨k, Nat.lt_of_lt_of_le hk hn⟩ :: rest
  | 0, hk, _ => absurd hk (Nat.not_lt_zero _)
  | n + 1, hk, hn => by
    by_cases e : k = n
    · subst e
      exact ⟨[], ups_succ (by omega)⟩
    · obtain ⟨rest, h⟩ := ups_split (n := n) (k := k) (m := m) (by omega) (by omega)
      exact ⟨rest ++ [⟨n, by omega⟩], by rw [ups_succ (show n < m by omega), h]; simp⟩
set_option maxRecDepth 100000 in
set_option maxHeartbeats 8000000 in
theorem divide1_in (n l Bs B2 b off len cap b2 off2 q cap2 G : Nat) (X : Int) (zs : List (Int × Int)) (ps : List Int) (q1 : 1 ≤ q) (q2 : q ≤ 64) (hcap : q + 1 ≤ cap2)
    (W : World) (J : List (Fin q) → World → Prop)
    (hJ : Hid (∀ s A B row, J s A → A.grownBy B row → (∀ r, row = some r → W.heap.size ≤ r) → J s B))
    (hY : Hid (∀ pre x rest W1, ups q q = pre ++ x :: rest → J pre W1 → YieldAt Fence.wide (n - 1) Try.prog l (encS zs ps x) W1 fun e W' => e = .returned (.bool true) ∧ J (pre ++ [x]) W' ∧ KeepB G W1 W'))
    (hBs : Hid (W.cell? ⟨Bs, 0, none⟩ = some (.slice (some ⟨b, off, none⟩) len cap))) (hB2 : Hid (W.cell? ⟨B2, 0, none⟩ = some (.slice (some ⟨b2, off2, none⟩) (q + 1) cap2)))
    (hP : Hid (Pts W (.slice (some ⟨b, off, none⟩) len cap) zs)) (hps : Hid (∀ j, j < q + 1 → W.cell? ⟨b2, off2 + j, none⟩ = some (.int .i64 (ps.getD j 0))))
    (hlt : Bs < W.heap.size ∧ B2 < W.heap.size ∧ b < W.heap.size ∧ b2 < W.heap.size ∧ G < W.heap.size) (hne : Bs ≠ G ∧ B2 ≠ G ∧ b ≠ G ∧ b2 ≠ G)
    (HR : Hid (∀ j, j < q + 1 → 0 ≤ ps.getD j 0 ∧ ps.getD j 0 ≤ X)) (HS : Hid (∀ j, j < q → 0 ≤ ps.getD (j + 1) 0 - ps.getD j 0 ∧ ps.getD (j + 1) 0 - ps.getD j 0 ≤ 100000))
    (HA : Hid (∀ x W', 0 ≤ x → x ≤ X → Pts W' (.slice (some ⟨b, off, none⟩) len cap) zs → Calls Try.prog 98 #[.slice (some ⟨b, off, none⟩) len cap, .int .i64 x] W' fun e w' => e = .returned (.tuple #[.agg #[.int .i64 (rdL zs x), .int .i64 (rdH zs x)], .int .i64 0]) ∧ Below W'.heap.size W' w'))
    (h0 : Hid (J [] W)) :
    CallsIn Fence.wide n Try.prog 97 #[.func (.yield l) #[] #[], .pointer (some ⟨Bs, 0, none⟩), .pointer (some ⟨B2, 0, none⟩)] W fun e W' => (∃ v, e = .returned v) ∧ J (ups q q) W' := by
  have hc1 : ¬ cap2 = 1 := by omega
  have kb0 := hBs.out
  have kb1 := hB2.out
  have kp0 : W.cell? ⟨b2, off2, none⟩ = some (.int .i64 (ps.getD 0 0)) := hps.out 0 (by omega)
  have HA0 : Hid (∀ W', Below W.heap.size W W' → Calls Try.prog 98 #[.slice (some ⟨b, off, none⟩) len cap, .int .i64 (ps.getD 0 0)] W' fun e w' => e = .returned (.tuple #[.agg #[.int .i64 (rdL zs (ps.getD 0 0)), .int .i64 (rdH zs (ps.getD 0 0))], .int .i64 0]) ∧ Below W'.heap.size W' w' ∧ (Two W.heap.size W' (.int .i64 0) (.int .i64 0) → Two W.heap.size w' (.int .i64 0) (.int .i64 0))) := Lib.hid fun W' hW => (HA.out _ W' (HR.out 0 (by omega)).1 (HR.out 0 (by omega)).2 (pts_keep hP.out (keepB_bel G hW) hlt.2.2.1 hne.2.2.1)).mono fun e w' g => ⟨g.1, g.2, fun h => h.below g.2⟩
  have hmx : Try.prog.follows .mixedOrders = true := by kernel_rfl
  generalize hL0 : rdL zs (ps.getD 0 0) = L0 at *
  generalize hH0 : rdH zs (ps.getD 0 0) = H0 at *
  generalize hx0 : ps.getD 0 0 = x0 at *
  refine callsIn_of_wp Try.func97 rfl trivial ?_ rfl
  simp only [Try.ntmps97, List.size_toArray, List.length_cons, List.length_nil, Nat.reduceAdd, Nat.reduceSub, Array.replicate_succ, Array.replicate_zero, List.push_toArray, List.append_toArray, List.nil_append, List.cons_append]
  have hmx : Try.prog.follows .mixedOrders = true := by kernel_rfl
  gi_upto_region 0 with fail
  gi_cut [4] from 19 (fun s wx => ∃ B4 : Nat, s = .pointer (some ⟨B4, 0, none⟩) ∧ Hid (Two B4 wx (.int .i64 L0) (.int .i64 H0)) ∧ W.heap.size ≤ B4 ∧ Hid (Below W.heap.size W wx) ∧ Hid (J [] wx))
  case first =>
    gi_region_with_o (refine ⟨trivial, (fun h => by cases h), ?_⟩; gi_at_call 98; refine (callsIn_wide.2 (HA0.out _ (by first | exact bel_drew _ | exact bel_alloc (bel_drew _)))).mono ?_; rintro e w4 ⟨rfl, gg, hq⟩; have X4 := Lib.hid gg; have TQ := Lib.hid hq; clear gg; simp [Two, go_sem] at hq)
    all_goals gi_wp2_with fail
    all_goals gi_meet
    all_goals first
      | exact dv_first hJ h0 X4
      | exact dv_second hJ h0 X4 TQ
  case rest =>
    obtain ⟨B4, rfl, hT0, hB4, hYB, hJ0⟩ := hcut
    clear kb0 kb1 kp0 HA0
    obtain ⟨aL, haL⟩ : ∃ aL : Nat → Int, Hid (∀ k, aL k = rdL zs (ps.getD k 0)) := ⟨_, Lib.hid fun _ => rfl⟩
    obtain ⟨aH, haH⟩ : ∃ aH : Nat → Int, Hid (∀ k, aH k = rdH zs (ps.getD k 0)) := ⟨_, Lib.hid fun _ => rfl⟩
    have T0 : Hid (Two B4 wc (.int .i64 (aL 0)) (.int .i64 (aH 0))) := Lib.hid (by rw [haL.out, haH.out, hx0, hL0, hH0]; exact hT0.out)
    have kb1 : wc.cell? ⟨B2, 0, none⟩ = some (.slice (some ⟨b2, off2, none⟩) (q + 1) cap2) := (keep_cell (keepB_bel G hYB.out) hlt.2.1 hne.2.1).trans hB2.out
    have K0 := Lib.hid (keepB_bel G hYB.out)
    have J0 := hJ0
    have hB4' := Lib.hid hB4
    clear hT0 hYB hJ0 hB4
    replace hx0 := Lib.hid hx0
    replace hL0 := Lib.hid hL0
    replace hH0 := Lib.hid hH0
    gi_wp2
    gi_loopw [22] (fun i wr => ∃ k : Nat, k ≤ q ∧ i = .int .i64 k ∧ Hid (J (ups q k) wr) ∧ Hid (Two B4 wr (.int .i64 (aL k)) (.int .i64 (aH k))) ∧ Hid (KeepB G W wr)) (fun i _ => q - (intOf i).toNat)
    case atStart => exact ⟨0, Nat.zero_le _, rfl, J0, T0, K0⟩
    case round =>
      obtain ⟨k, hk, rfl, hJk, hT, hK⟩ := hrel
      clear kb1
      by_cases hkq : k < q
      · have kb0 : wr.cell? ⟨Bs, 0, none⟩ = some (.slice (some ⟨b, off, none⟩) len cap) := (keep_cell hK.out hlt.1 hne.1).trans hBs.out
        have kb1 : wr.cell? ⟨B2, 0, none⟩ = some (.slice (some ⟨b2, off2, none⟩) (q + 1) cap2) := (keep_cell hK.out hlt.2.1 hne.2.1).trans hB2.out
        have kp0 : wr.cell? ⟨b2, off2 + k, none⟩ = some (.int .i64 (ps.getD k 0)) := (keep_cell hK.out hlt.2.2.2.1 hne.2.2.2).trans (hps.out k (by omega))
        have kp1 : wr.cell? ⟨b2, off2 + 1 + k, none⟩ = some (.int .i64 (ps.getD (k + 1) 0)) := by rw [show off2 + 1 + k = off2 + (k + 1) by omega]; exact (keep_cell hK.out hlt.2.2.2.1 hne.2.2.2).trans (hps.out (k + 1) (by omega))
        have hr := HR.out (k + 1) (by omega)
        have hs := HS.out k hkq
        have HA1 := Lib.hid (HA.out (ps.getD (k + 1) 0) wr hr.1 hr.2 (pts_keep hP.out hK.out hlt.2.2.1 hne.2.2.1))
        have hsz := hK.out.1
        obtain ⟨rest, hrest⟩ := ups_split (m := q) (n := q) hkq (Nat.le_refl _)
        have hW := hY.out (ups q k) ⟨k, hkq⟩ rest
        have hY1 := Lib.hid (fun W1 hJ1 => hW W1 hrest hJ1)
        clear hW hrest hr
        simp only [encS] at hY1
        rw [← ups_succ hkq] at hY1
        have eL : Hid (slL zs (ps.getD k 0) (ps.getD (k + 1) 0) = min (rdL zs (ps.getD k 0)) (rdL zs (ps.getD (k + 1) 0))) := Lib.hid rfl
        have eH : Hid (slH zs (ps.getD k 0) (ps.getD (k + 1) 0) = max (rdH zs (ps.getD k 0)) (rdH zs (ps.getD (k + 1) 0))) := Lib.hid rfl
        rw [eL.out, eH.out] at hY1
        clear eL eH
        have g1 : aL (k + 1) = rdL zs (ps.getD (k + 1) 0) := haL.out _
        have g2 : aH (k + 1) = rdH zs (ps.getD (k + 1) 0) := haH.out _
        rw [haL.out, haH.out] at hT
        generalize rdL zs (ps.getD k 0) = La at *
        generalize rdH zs (ps.getD k 0) = Ha at *
        generalize rdL zs (ps.getD (k + 1) 0) = Lb at *
        generalize rdH zs (ps.getD (k + 1) 0) = Hb at *
        generalize ps.getD k 0 = xa at *
        generalize ps.getD (k + 1) 0 = xb at *
        replace g1 := Lib.hid g1
        replace g2 := Lib.hid g2
        have l1 : (k : Int) < (q : Int) := by omega
        have l2 : (k : Int) < (q : Int) + 1 := by omega
        have ws : IntKind.i64.wrap (xb - xa) = xb - xa := wrap_in _ ⟨by omega, by omega⟩
        gi_wp2
        refine ⟨trivial, (fun h => by cases h), (callsIn_wide.2 HA1.out).mono ?_⟩
        rintro e w5 ⟨rfl, gg⟩
        gi_upto_region 5 with fail
        have V1 := bA gg (.cells #[.int .i64 Lb, .int .i64 Hb] 40)
        have T8 := Lib.hid (Two.new w5 (.int .i64 Lb) (.int .i64 Hb) 40)
        have hz8 : w5.heap.size < (w5.alloc (.cells #[.int .i64 Lb, .int .i64 Hb] 40)).heap.size := by simp
        have hz9 := gg.size
        clear gg kb0 kp1 HA1
        generalize w5.alloc (.cells #[.int .i64 Lb, .int .i64 Hb] 40) = V at *
        generalize w5.heap.size = B8 at *
        replace kb1 : V.cell? ⟨B2, 0, none⟩ = some (.slice (some ⟨b2, off2, none⟩) (q + 1) cap2) := by rw [(bcell V1).1 _ _ (Nat.lt_of_lt_of_le hlt.2.1 hsz)]; exact kb1
        replace kp0 : V.cell? ⟨b2, off2 + k, none⟩ = some (.int .i64 xa) := by rw [(bcell V1).1 _ _ (Nat.lt_of_lt_of_le hlt.2.2.2.1 hsz)]; exact kp0
        have T4 := Lib.hid (hT.out.below V1)
        have hb2 : B2 < V.heap.size := Nat.lt_of_lt_of_le (Nat.lt_of_lt_of_le hlt.2.1 hsz) V1.size
        have hb2' : b2 < V.heap.size := Nat.lt_of_lt_of_le (Nat.lt_of_lt_of_le hlt.2.2.2.1 hsz) V1.size
        obtain ⟨s0, s1, _, _, s4⟩ := T4.out
        obtain ⟨r0, r1, _, _, r4⟩ := T8.out
        have e0 : ∀ o, (V.alloc o).cell? ⟨B2, 0, none⟩ = some (.slice (some ⟨b2, off2, none⟩) (q + 1) cap2) := fun o => by rw [World.cell?_alloc_lt V o _ hb2]; exact kb1
        have e1 : ∀ o, (V.alloc o).cell? ⟨b2, off2 + k, none⟩ = some (.int .i64 xa) := fun o => by rw [World.cell?_alloc_lt V o _ hb2']; exact kp0
        have e2 : ∀ o, (V.alloc o).cell? ⟨B4, 0, none⟩ = some (.int .i64 La) := fun o => by rw [World.cell?_alloc_lt V o _ s4]; exact s0
        have e3 : ∀ o, (V.alloc o).cell? ⟨B4, 1, none⟩ = some (.int .i64 Ha) := fun o => by rw [World.cell?_alloc_lt V o _ s4]; exact s1
        have e4 : ∀ o, (V.alloc o).cell? ⟨B8, 0, none⟩ = some (.int .i64 Lb) := fun o => by rw [World.cell?_alloc_lt V o _ r4]; exact r0
        have e5 : ∀ o, (V.alloc o).cell? ⟨B8, 1, none⟩ = some (.int .i64 Hb) := fun o => by rw [World.cell?_alloc_lt V o _ r4]; exact r1
        gi_cut [10] from 56 (fun s wx => ∃ B10 : Nat, s = .pointer (some ⟨B10, 0, none⟩) ∧ Hid (Trio B10 wx (.int .i64 (xb - xa)) (.int .i64 (min La Lb)) (.int .i64 (max Ha Hb))) ∧ Hid (Below V.heap.size V wx))
        case first =>
          refine wpIn_wide.2 ?_
          go_region_held3 (fun w' => w'.cell? ⟨B2, 0, none⟩ = some (.slice (some ⟨b2, off2, none⟩) (q + 1) cap2) ∧ w'.cell? ⟨b2, off2 + k, none⟩ = some (.int .i64 xa) ∧ w'.cell? ⟨B4, 0, none⟩ = some (.int .i64 La) ∧ w'.cell? ⟨B4, 1, none⟩ = some (.int .i64 Ha) ∧ w'.cell? ⟨B8, 0, none⟩ = some (.int .i64 Lb) ∧ w'.cell? ⟨B8, 1, none⟩ = some (.int .i64 Hb)) (go_keep) (fail)
          all_goals go_wp2_with fail
          all_goals go_meet
          all_goals exact ⟨_, rfl, Lib.hid (Trio.new V _ _ _ 106), Lib.hid (bel_alloc (bel_drew _))⟩
        case rest =>
          obtain ⟨B10, rfl, hS, hBV⟩ := hcut
          clear s0 s1 s4 r0 r1 r4 e0 e1 e2 e3 e4 e5 kb1 kp0 hb2 hb2'
          have V2 := bel_trans V1 hBV.out
          replace T4 := Lib.hid (T4.out.below hBV.out)
          replace T8 := Lib.hid (T8.out.below hBV.out)
          have hJw := hJ.out _ _ _ none hJk.out (grown_bel V2) (fun r e => by cases e)
          have hKw := Lib.hid (keepB_t hK.out (keepB_bel G V2))
          obtain ⟨fn, tmps, assign, body, hy, hRR⟩ := hY1.out wc hJw
          have HR2 := Lib.hid hRR
          obtain ⟨x0', x1, x2, _⟩ := hS.out
          clear hRR hJw hY1 hJk hK hT V1 V2 hBV
          gi_wp2
          refine ⟨(fun h => by cases h), HR2.out.mono ?_⟩
          rintro e W3 ⟨rfl, hJ3, hK3⟩
          have hG4 : B4 ≠ G := by have := hB4'.out; omega
          have hG8 : B8 ≠ G := by omega
          have Y4 := Lib.hid (two_keep T4.out hK3 hG4)
          have Y8 := Lib.hid (two_keep T8.out hK3 hG8)
          have J3 := Lib.hid hJ3
          have K3 := Lib.hid (keepB_t hKw.out hK3)
          clear T4 T8 hS x0' x1 x2 HR2 hy hJ3 hK3
          obtain ⟨s0, s1, s2, s3, s4⟩ := Y4.out
          obtain ⟨r0, r1, _, _, r4⟩ := Y8.out
          gi_wp2
          go_roundw
          case rel =>
            refine ⟨k + 1, by omega, by go_num, Lib.hid ?_, Lib.hid ?_, Lib.hid ?_⟩
            · refine hJ.out _ _ _ (some B4) (hJ.out _ _ _ (some B4) J3.out (grown_cell _ _ _ _) (fun r e => by cases e; exact hB4'.out)) (grown_cell _ _ _ _) (fun r e => by cases e; exact hB4'.out)
            · rw [g1.out, g2.out]
              exact Y4.out.both _ _
            · exact keep_set (keep_set K3.out hB4'.out _) hB4'.out _
          case measure => simp [intOf]; omega
      · obtain rfl : k = q := by omega
        gi_wp2
        go_end0
        exact ⟨⟨_, rfl⟩, hJk.out⟩
theorem divide_any (a : Option Addr) (len cap : Nat) (a2 : Option Addr) (n cap2 : Nat) (w : World) :
    Calls Try.prog 78 #[.slice a len cap, .slice a2 n cap2] w fun e w' => e = .returned (.func (.func 97) #[] #[.pointer (some ⟨w.heap.size, 0, none⟩), .pointer (some ⟨w.heap.size + 1, 0, none⟩)]) ∧ w' = (w.alloc (.cells #[.slice a len cap] 22)).alloc (.cells #[.slice a2 n cap2] 25) := by
  have hmf : ∀ (fn : Fn) (first cap : Array Value) (w : World), (Instr.makeFunc fn first cap).run Try.prog w = .ok (.func fn first cap) w := fun _ _ _ _ => rfl
  go_enter Try.func78, Try.ntmps78
  go_wp2
  go_ret
  exact ⟨rfl, rfl⟩
/-- what divide returns yields all slices -/
theorem divide_seq (n Bs B2 b off len cap b2 off2 q cap2 G : Nat) (X : Int) (zs : List (Int × Int)) (ps : List Int) (q1 : 1 ≤ q) (q2 : q ≤ 64) (hcap : q + 1 ≤ cap2) (W : World)
    (hBs : W.cell? ⟨Bs, 0, none⟩ = some (.slice (some ⟨b, off, none⟩) len cap)) (hB2 : W.cell? ⟨B2, 0, none⟩ = some (.slice (some ⟨b2, off2, none⟩) (q + 1) cap2))
    (hP : Pts W (.slice (some ⟨b, off, none⟩) len cap) zs) (hps : ∀ j, j < q + 1 → W.cell? ⟨b2, off2 + j, none⟩ = some (.int .i64 (ps.getD j 0)))
    (hlt : Bs < W.heap.size ∧ B2 < W.heap.size ∧ b < W.heap.size ∧ b2 < W.heap.size ∧ G < W.heap.size) (hne : Bs ≠ G ∧ B2 ≠ G ∧ b ≠ G ∧ b2 ≠ G)
    (HR : ∀ j, j < q + 1 → 0 ≤ ps.getD j 0 ∧ ps.getD j 0 ≤ X) (HS : ∀ j, j < q → 0 ≤ ps.getD (j + 1) 0 - ps.getD j 0 ∧ ps.getD (j + 1) 0 - ps.getD j 0 ≤ 100000)
    (HA : Hid (∀ x W', 0 ≤ x → x ≤ X → Pts W' (.slice (some ⟨b, off, none⟩) len cap) zs → Calls Try.prog 98 #[.slice (some ⟨b, off, none⟩) len cap, .int .i64 x] W' fun e w' => e = .returned (.tuple #[.agg #[.int .i64 (rdL zs x), .int .i64 (rdH zs x)], .int .i64 0]) ∧ Below W'.heap.size W' w')) :
    SeqAll Fence.wide n Try.prog 97 #[.pointer (some ⟨Bs, 0, none⟩), .pointer (some ⟨B2, 0, none⟩)] (fun x : Fin q => encS zs ps x) G (ups q q) W := fun l J Y hW hJ hY h0 => by
  obtain ⟨l0, l1, l2, l3, l4⟩ := hlt
  have s := hW.size
  exact divide1_in n l Bs B2 b off len cap b2 off2 q cap2 G X zs ps q1 q2 hcap Y J hJ hY (Lib.hid (by rw [(bcell hW).1 _ _ l0]; exact hBs)) (Lib.hid (by rw [(bcell hW).1 _ _ l1]; exact hB2)) (hP.below hW) (Lib.hid fun j hj => by rw [(bcell hW).1 _ _ l3]; exact hps j hj) ⟨by omega, by omega, by omega, by omega, by omega⟩ hne HR HS HA h0
end Go.Proofs.Ytgjdopjolokaiaa

/- Package lying: the space between heights. -/
namespace Go.Proofs.Ytgjdopjolokaiaa
open Go.RowKit Go.Shelf
attribute [local go_sem] Oper.semAt_some

theorem ups_at {m : Nat} {pre rest : List (Fin m)} {x : Fin m} (h : ups m m = pre ++ x :: rest) : x.val = pre.length := by
  have e := congrArg (List.map (fun j => j.val)) h
  rw [ups_val (Nat.le_refl _), List.map_append, List.map_cons] at e
  have hl := congrArg List.length e
  simp only [List.length_range, List.length_append, List.length_map, List.length_cons] at hl
  have e2 : (List.range m)[pre.length]? = (pre.map (fun j => j.val) ++ x.val :: rest.map (fun j => j.val))[pre.length]? := by rw [e]
  rw [List.getElem?_range (by omega), List.getElem?_append_right (by simp)] at e2
  simpa using e2.symm
theorem cell_grown {A B : World} {row : Option Nat} {b i : Nat} {v : Value} (h : A.cell? ⟨b, i, none⟩ = some v) (hg : A.grownBy B row) (hr : ∀ r, row = some r → b < r) : B.cell? ⟨b, i, none⟩ = some v := by
  have hb := World.block_lt_of_cell? A _ h
  have e := hg.block b hb (fun e => by have := hr b e.symm; omega)
  simp only [World.cell?, e] at h ⊢
  exact h
theorem two_grown {A B : World} {row : Option Nat} {b : Nat} {x y : Value} (h : Two b A x y) (hg : A.grownBy B row) (hr : ∀ r, row = some r → b < r) : Two b B x y := by
  obtain ⟨h0, h1, h2, h3, h4⟩ := h
  have e := hg.block b h4 (fun e => by have := hr b e.symm; omega)
  refine ⟨cell_grown h0 hg hr, cell_grown h1 hg hr, ?_, ?_, Nat.lt_of_lt_of_le h4 hg.size⟩
  · simp only [World.frozen?, e] at h2 ⊢; exact h2
  · simp only [World.frozen?, e] at h3 ⊢; exact h3
theorem trio_kept {b r : Nat} {A B : World} {x y z : Value} (h : Trio b A x y z) (hg : A.grownBy B (some r)) (hc : ∃ o : Obj, A.heap[r]? = some o ∧ o.isCells = false) : Trio b B x y z := by
  obtain ⟨h0, h1, h2, h3⟩ := h
  exact ⟨cell_kept h0 hg (fun k e => by cases e; exact hc), cell_kept h1 hg (fun k e => by cases e; exact hc), cell_kept h2 hg (fun k e => by cases e; exact hc), Nat.lt_of_lt_of_le h3 hg.size⟩
theorem keep_setG {G i : Nat} {W A : World} (h : KeepB G W A) (u : Value) : KeepB G W (A.setCell ⟨G, i, none⟩ u) :=
  ⟨Nat.le_trans h.1 (grown_cell A G i u).size, fun k hk hg => ((grown_cell A G i u).block k (Nat.lt_of_lt_of_le hk h.1) (fun e => hg (by cases e; rfl))).trans (h.2 k hk hg)⟩
theorem bel_grown {n : Nat} {w A B : World} {row : Option Nat} (h : Below n w A) (hn : n ≤ A.heap.size) (hg : A.grownBy B row) (hr : ∀ r, row = some r → n ≤ r) : Below n w B :=
  ⟨hg.os.trans h.os, hg.tape.trans h.tape, hg.output.trans h.output, Nat.le_trans h.size hg.size, fun k hk => (hg.block k (by omega) (fun e => by have := hr k e.symm; omega)).trans (h.block k hk)⟩
set_option maxHeartbeats 4000000 in
theorem lyAdd_any (b : Nat) (pL pH oL oH : Int) (w : World) (h : Two b w (.int .i64 pL) (.int .i64 pH)) (wL : IntKind.i64.wrap (pL + oL) = pL + oL) (wH : IntKind.i64.wrap (pH + oH) = pH + oH) :
    Calls Try.prog 76 #[.agg #[.int .i64 oL, .int .i64 oH], .pointer (some ⟨b, 0, none⟩)] w fun e w' => e = .returned (.tuple #[]) ∧ ∃ w2, Below w.heap.size w w2 ∧ w' = (w2.setCell ⟨b, 0, none⟩ (.int .i64 (pL + oL))).setCell ⟨b, 1, none⟩ (.int .i64 (pH + oH)) := by
  have hlt := h.2.2.2.2
  have hne2 : w.heap.size ≠ b := by omega
  have HW : Hid (((w.setCell ⟨b, 0, none⟩ (.int .i64 (pL + oL))).setCell ⟨b, 1, none⟩ (.int .i64 (pH + oH))).alloc (.cells #[.int .i64 oL, .int .i64 oH] 40) = ((w.alloc (.cells #[.int .i64 oL, .int .i64 oH] 40)).setCell ⟨b, 0, none⟩ (.int .i64 (pL + oL))).setCell ⟨b, 1, none⟩ (.int .i64 (pH + oH))) := by
    show _ = _
    rw [World.setCell_alloc_past _ _ _ _ hlt, World.setCell_alloc_past _ _ _ _ (by simpa [World.setCell] using hlt)]
  have T := Lib.hid (h.alloc (.cells #[.int .i64 oL, .int .i64 oH] 40))
  have S := Lib.hid (Two.new w (.int .i64 oL) (.int .i64 oH) 40)
  have hb : b ≠ w.heap.size := by have := h.2.2.2.2; omega
  obtain ⟨z0, z1, z2, z3, _⟩ := h
  obtain ⟨t0, t1, t2, t3, _⟩ := T.out
  obtain ⟨s0, s1, _, _, _⟩ := S.out
  go_enter Try.func76, Try.ntmps76
  clear T
  go_wp2
  go_end0
  exact ⟨rfl, _, bel_alloc (Below.refl _ _), HW.out⟩
/-- the blocks that are laid first -/
theorem bt_four (w : World) (v fv : Value) (W4 : World) (h : W4 = (((w.alloc (.cells #[v] 25)).alloc (.cells #[.int .i64 0, .int .i64 0] 40)).alloc (.cells #[.int .i64 0, .int .i64 0] 40)).alloc (.cells #[fv] 96)) :
    W4.cell? ⟨w.heap.size, 0, none⟩ = some v ∧ Two (w.heap.size + 1) W4 (.int .i64 0) (.int .i64 0) ∧ Two (w.heap.size + 1 + 1) W4 (.int .i64 0) (.int .i64 0) ∧ W4.cell? ⟨w.heap.size + 1 + 1 + 1, 0, none⟩ = some fv ∧ W4.heap.size = w.heap.size + 4 ∧ Below w.heap.size w W4 := by
  subst h
  refine ⟨?_, ?_, ?_, ?_, by simp, bel_alloc (bel_alloc (bel_alloc (bel_alloc (Below.refl _ _))))⟩
  · exact cell_al _ (cell_al _ (cell_al _ (Boxed.new w 25 v).cell))
  · have := Two.new (w.alloc (.cells #[v] 25)) (.int .i64 0) (.int .i64 0) 40
    rw [World.size_alloc] at this
    exact (this.alloc _).alloc _
  · have := Two.new ((w.alloc (.cells #[v] 25)).alloc (.cells #[.int .i64 0, .int .i64 0] 40)) (.int .i64 0) (.int .i64 0) 40
    rw [World.size_alloc, World.size_alloc] at this
    exact this.alloc _
  · have := (Boxed.new (((w.alloc (.cells #[v] 25)).alloc (.cells #[.int .i64 0, .int .i64 0] 40)).alloc (.cells #[.int .i64 0, .int .i64 0] 40)) 96 fv).cell
    rwa [World.size_alloc, World.size_alloc, World.size_alloc] at this
theorem bt_three (w : World) (x y z : Value) (W3 : World) (h : W3 = ((w.alloc (.cells #[x] 3)).alloc (.cells #[y] 22)).alloc (.cells #[z] 25)) :
    W3.cell? ⟨w.heap.size, 0, none⟩ = some x ∧ W3.cell? ⟨w.heap.size + 1, 0, none⟩ = some y ∧ W3.cell? ⟨w.heap.size + 1 + 1, 0, none⟩ = some z ∧ W3.heap.size = w.heap.size + 1 + 1 + 1 ∧ Below w.heap.size w W3 := by
  subst h
  refine ⟨?_, ?_, ?_, by simp, bel_alloc (bel_alloc (bel_alloc (Below.refl _ _)))⟩
  · exact cell_al _ (cell_al _ (Boxed.new w 3 x).cell)
  · have := (Boxed.new (w.alloc (.cells #[x] 3)) 22 y).cell
    rw [World.size_alloc] at this
    exact cell_al _ this
  · have := (Boxed.new ((w.alloc (.cells #[x] 3)).alloc (.cells #[y] 22)) 25 z).cell
    rwa [World.size_alloc, World.size_alloc] at this
/-- what stands before each round -/
def BtI (w : World) (m : Nat) (hv : Value) (c : Int) (sL sH : Int) (W : World) : Prop :=
  W.cell? ⟨w.heap.size, 0, none⟩ = some hv ∧ Two (w.heap.size + 1) W (.int .i64 0) (.int .i64 0) ∧ Two (w.heap.size + 1 + 1) W (.int .i64 sL) (.int .i64 sH) ∧ W.cell? ⟨w.heap.size + 1 + 1 + 1, 0, none⟩ = some (.func (.func 76) #[] #[.pointer (some ⟨w.heap.size + 1 + 1, 0, none⟩)]) ∧ W.cell? ⟨m, 0, none⟩ = some (.int .i64 c) ∧ Below w.heap.size w W
theorem BtI.grown {w : World} {m : Nat} {hv : Value} {c sL sH : Int} {A B : World} {row : Option Nat} (h : BtI w m hv c sL sH A) (hm : w.heap.size + 1 + 1 + 1 < m) (hg : A.grownBy B row) (hr : ∀ r, row = some r → m < r) : BtI w m hv c sL sH B := by
  obtain ⟨h1, h2, h3, h4, h5, h6⟩ := h
  exact ⟨cell_grown h1 hg (fun r e => by have := hr r e; omega), two_grown h2 hg (fun r e => by have := hr r e; omega), two_grown h3 hg (fun r e => by have := hr r e; omega), cell_grown h4 hg (fun r e => by have := hr r e; omega), cell_grown h5 hg hr, bel_grown h6 h6.size hg (fun r e => by have := hr r e; omega)⟩
theorem BtI.bel {w : World} {m : Nat} {hv : Value} {c sL sH : Int} {A B : World} (h : BtI w m hv c sL sH A) (hm : w.heap.size + 1 + 1 + 1 < m) (hb : Below A.heap.size A B) : BtI w m hv c sL sH B := h.grown hm (grown_bel hb) (fun r e => by cases e)

set_option maxRecDepth 100000 in
set_option maxHeartbeats 8000000 in
theorem lyBt_some (b off len cap b2 off2 q cap2 b3 off3 n3 cap3 : Nat) (l : List (Int × Int)) (ps hs : List Int) (c : Int) (j : Nat) (w : World) (q1 : 1 ≤ q) (q2 : q ≤ 64) (hcap : q + 1 ≤ cap2) (hj : j < hs.length)
    (hR : Hid (RP l)) (hPl : Hid (PlR l ps)) (hq : Hid (ps.length = q + 1)) (hH : Hid (HR hs))
    (hP : Hid (Pts w (.slice (some ⟨b, off, none⟩) len cap) l)) (hps : Hid (∀ j, j < q + 1 → w.cell? ⟨b2, off2 + j, none⟩ = some (.int .i64 (ps.getD j 0)))) (hb : b < w.heap.size) (hb2 : b2 < w.heap.size)
    (HM : Hid (∀ W, Below w.heap.size w W → Calls Try.prog 77 #[.slice (some ⟨b, off, none⟩) len cap] W fun e w' => e = .returned (.int .i64 c) ∧ Below W.heap.size W w'))
    (HA : Hid (∀ x W', 0 ≤ x → x ≤ gX l (l.length - 1) → Pts W' (.slice (some ⟨b, off, none⟩) len cap) l → Calls Try.prog 98 #[.slice (some ⟨b, off, none⟩) len cap, .int .i64 x] W' fun e w' => e = .returned (.tuple #[.agg #[.int .i64 (rdL l x), .int .i64 (rdH l x)], .int .i64 0]) ∧ Below W'.heap.size W' w'))
    (HS : Hid (∀ k W, k < q → Below w.heap.size w W → Calls Try.prog 79 #[.agg #[.int .i64 (ps.getD (k + 1) 0 - ps.getD k 0), .int .i64 (slL l (ps.getD k 0) (ps.getD (k + 1) 0)), .int .i64 (slH l (ps.getD k 0) (ps.getD (k + 1) 0))], .int .i64 c, .slice (some ⟨b3, off3, none⟩) n3 cap3] W fun e w' => e = .returned (.agg #[.int .i64 ((ps.getD (k + 1) 0 - ps.getD k 0) * prL (slL l (ps.getD k 0) (ps.getD (k + 1) 0)) c hs j), .int .i64 ((ps.getD (k + 1) 0 - ps.getD k 0) * prH (slH l (ps.getD k 0) (ps.getD (k + 1) 0)) c hs j)]) ∧ Below W.heap.size W w')) :
    Calls Try.prog 49 #[.slice (some ⟨b, off, none⟩) len cap, .slice (some ⟨b2, off2, none⟩) (q + 1) cap2, .slice (some ⟨b3, off3, none⟩) n3 cap3] w fun e w' => e = .returned (.agg #[.int .i64 (tbL l c ps hs j q), .int .i64 (tbH l c ps hs j q)]) ∧ Below w.heap.size w w' := by
  have hmf : ∀ (fn : Fn) (first cap : Array Value) (w : World), (Instr.makeFunc fn first cap).run Try.prog w = .ok (.func fn first cap) w := fun _ _ _ _ => rfl
  refine (callsIn_wide (n := 10)).1 ?_
  refine callsIn_of_wp_marks Try.func49 rfl trivial ?_ rfl
  simp only [Try.ntmps49, List.size_toArray, List.length_cons, List.length_nil, Nat.reduceAdd, Nat.reduceSub, Array.replicate_succ, Array.replicate_zero, List.push_toArray, List.append_toArray, List.nil_append, List.cons_append]
  gi_wp2_with fail
  obtain ⟨W4, hW4⟩ : ∃ W4, W4 = (((w.alloc (.cells #[.slice (some ⟨b3, off3, none⟩) n3 cap3] 25)).alloc (.cells #[.int .i64 0, .int .i64 0] 40)).alloc (.cells #[.int .i64 0, .int .i64 0] 40)).alloc (.cells #[.func (.func 76) #[] #[.pointer (some ⟨w.heap.size + 1 + 1, 0, none⟩)]] 96) := ⟨_, rfl⟩
  obtain ⟨f1, f2, f3, f4, f5, f6⟩ := bt_four w _ _ W4 hW4
  rw [← hW4]
  clear hW4
  refine ⟨trivial, (callsIn_wide.2 (HM.out _ f6)).mono ?_⟩
  rintro e w1 ⟨rfl, gg⟩
  gi_wp2_with fail
  refine ⟨trivial, (callsIn_wide.2 (divide_any _ _ _ _ _ _ _)).mono ?_⟩
  rintro e w3 ⟨rfl, rfl⟩
  gi_wp2_with fail
  obtain ⟨W0, hW0⟩ : ∃ W0, W0 = ((w1.alloc (.cells #[.int .i64 c] 3)).alloc (.cells #[.slice (some ⟨b, off, none⟩) len cap] 22)).alloc (.cells #[.slice (some ⟨b2, off2, none⟩) (q + 1) cap2] 25) := ⟨_, rfl⟩
  obtain ⟨t1, t2, t3, t4, t5⟩ := bt_three w1 _ _ _ W0 hW0
  rw [← hW0]
  clear hW0
  have hm : w.heap.size + 1 + 1 + 1 < w1.heap.size := by have := gg.size; omega
  have B1 := bel_trans gg t5
  have B0 := bel_trans f6 B1
  have I0 : BtI w w1.heap.size (.slice (some ⟨b3, off3, none⟩) n3 cap3) c 0 0 W0 :=
    ⟨(cell_grown f1 (grown_bel B1) (fun r e => by cases e)), two_grown f2 (grown_bel B1) (fun r e => by cases e), two_grown f3 (grown_bel B1) (fun r e => by cases e), cell_grown f4 (grown_bel B1) (fun r e => by cases e), t1, B0⟩
  have T0 := f2
  clear t1 t5 B1 f1 f2 f3 f4 f5 f6 gg
  generalize w1.heap.size = m at *
  have hP0 := hP.out.below B0
  have hps0 : ∀ j, j < q + 1 → W0.cell? ⟨b2, off2 + j, none⟩ = some (.int .i64 (ps.getD j 0)) := fun j hj => by rw [(bcell B0).1 _ _ hb2]; exact hps.out j hj
  have hl0 := hq.out
  have HR0 : ∀ j, j < q + 1 → 0 ≤ ps.getD j 0 ∧ ps.getD j 0 ≤ gX l (l.length - 1) := fun j hj => hPl.out.bd (by omega)
  have HS0 : ∀ j, j < q → 0 ≤ ps.getD (j + 1) 0 - ps.getD j 0 ∧ ps.getD (j + 1) 0 - ps.getD j 0 ≤ 100000 := fun j hj => by have := hPl.out.slice hR.out (k := j) (by omega); omega
  have hz0 := B0.size
  refine wpIn_rangeFunc_all rfl (by omega) (gf := 97) (lb := #[.pointer (some ⟨m + 1, 0, none⟩), .pointer (some ⟨m + 1 + 1, 0, none⟩)]) rfl trivial (enters_of Try.func97 (by kernel_rfl) rfl)
    (encs := fun x : Fin q => encS l ps x) (G := w.heap.size + 1 + 1) (L := ups q q)
    (divide_seq 9 (m + 1) (m + 1 + 1) b off len cap b2 off2 q cap2 (w.heap.size + 1 + 1) (gX l (l.length - 1)) l ps q1 q2 hcap W0 t2 t3 hP0 hps0 ⟨by omega, by omega, by omega, by omega, by omega⟩ ⟨by omega, by omega, by omega, by omega⟩ HR0 HS0 HA)
    (by omega) (fun _ => rfl)
    (fun pre W => BtI w m (.slice (some ⟨b3, off3, none⟩) n3 cap3) c (tbL l c ps hs j pre.length) (tbH l c ps hs j pre.length) W)
    (fun s A B row hs hg hr => hs.grown hm hg (fun r e => by have := hr r e; omega))
    I0
    (fun x a' W => ∃ Bx : Nat, W0.heap.size < Bx ∧ Trio Bx W (.int .i64 (ps.getD (x.val + 1) 0 - ps.getD x.val 0)) (.int .i64 (slL l (ps.getD x.val 0) (ps.getD (x.val + 1) 0))) (.int .i64 (slH l (ps.getD x.val 0) (ps.getD (x.val + 1) 0))) ∧ a' = { tmps := #[.slice (some ⟨b, off, none⟩) len cap, .slice (some ⟨b2, off2, none⟩) (q + 1) cap2, .slice (some ⟨b3, off3, none⟩) n3 cap3, undef, undef, .pointer (some ⟨w.heap.size, 0, none⟩), .pointer (some ⟨w.heap.size + 1, 0, none⟩), .pointer (some ⟨w.heap.size + 1 + 1, 0, none⟩), .pointer (some ⟨w.heap.size + 1 + 1 + 1, 0, none⟩), .pointer (some ⟨m, 0, none⟩), .pointer (some ⟨Bx, 0, none⟩), .func (.func 76) #[] #[.pointer (some ⟨w.heap.size + 1 + 1, 0, none⟩)], .slice (some ⟨b, off, none⟩) len cap, .int .i64 c, .slice (some ⟨b, off, none⟩) len cap, .slice (some ⟨b2, off2, none⟩) (q + 1) cap2, .func (.func 97) #[] #[.pointer (some ⟨m + 1, 0, none⟩), .pointer (some ⟨m + 1 + 1, 0, none⟩)], .agg #[.int .i64 (ps.getD (x.val + 1) 0 - ps.getD x.val 0), .int .i64 (slL l (ps.getD x.val 0) (ps.getD (x.val + 1) 0)), .int .i64 (slH l (ps.getD x.val 0) (ps.getD (x.val + 1) 0))], undef, undef, undef, undef, undef, undef, undef], defers := [] })
    (fun x a' A B ⟨Bx, h1, h2, h3⟩ hg hc => ⟨Bx, h1, trio_kept h2 hg hc, h3⟩) ?assign ?body ?done
  case assign =>
    rintro lp pre x W K hI hsz hK
    dsimp only [encS]
    generalize ps.getD (x.val + 1) 0 - ps.getD x.val 0 = d at *
    generalize slL l (ps.getD x.val 0) (ps.getD (x.val + 1) 0) = s1 at *
    generalize slH l (ps.getD x.val 0) (ps.getD (x.val + 1) 0) = s2 at *
    gi_wp2
    exact hK _ _ (bel_alloc (Below.refl _ _)) (hI.bel hm (bel_alloc (Below.refl _ _))) ⟨W.heap.size, by omega, Trio.new _ _ _ _ _, rfl⟩
  case body =>
    rintro lp pre ⟨k, hkq⟩ rest a' W hL hsz hI ⟨Bx, hBx, hS, rfl⟩
    have hk := ups_at hL
    replace hk : k = pre.length := hk
    subst hk
    have hmx : Try.prog.follows .mixedOrders = true := by kernel_rfl
    have bd := tb_bd (c := c) hR.out hPl.out hH.out j hj (pre.length + 1) (by omega)
    have bd0 := tb_bd (c := c) hR.out hPl.out hH.out j hj pre.length (by omega)
    have bp := hPl.out.bd (i := pre.length + 1) (by omega)
    have bx := hR.out.bx (l.length - 1) (by have := hR.out.n0; omega)
    have e1 : tbL l c ps hs j (pre.length + 1) = tbL l c ps hs j pre.length + (ps.getD (pre.length + 1) 0 - ps.getD pre.length 0) * prL (slL l (ps.getD pre.length 0) (ps.getD (pre.length + 1) 0)) c hs j := rfl
    have e2 : tbH l c ps hs j (pre.length + 1) = tbH l c ps hs j pre.length + (ps.getD (pre.length + 1) 0 - ps.getD pre.length 0) * prH (slH l (ps.getD pre.length 0) (ps.getD (pre.length + 1) 0)) c hs j := rfl
    have eA : tbL l c ps hs j (pre ++ [(⟨pre.length, hkq⟩ : Fin q)]).length = tbL l c ps hs j pre.length + (ps.getD (pre.length + 1) 0 - ps.getD pre.length 0) * prL (slL l (ps.getD pre.length 0) (ps.getD (pre.length + 1) 0)) c hs j := by rw [List.length_append, List.length_singleton]; rfl
    have eB : tbH l c ps hs j (pre ++ [(⟨pre.length, hkq⟩ : Fin q)]).length = tbH l c ps hs j pre.length + (ps.getD (pre.length + 1) 0 - ps.getD pre.length 0) * prH (slH l (ps.getD pre.length 0) (ps.getD (pre.length + 1) 0)) c hs j := by rw [List.length_append, List.length_singleton]; rfl
    have HA1 := Lib.hid (fun W' (hW : Below W.heap.size W W') => HS.out pre.length W' hkq (bel_trans hI.2.2.2.2.2 hW))
    have wL : IntKind.i64.wrap (tbL l c ps hs j pre.length + (ps.getD (pre.length + 1) 0 - ps.getD pre.length 0) * prL (slL l (ps.getD pre.length 0) (ps.getD (pre.length + 1) 0)) c hs j) = tbL l c ps hs j pre.length + (ps.getD (pre.length + 1) 0 - ps.getD pre.length 0) * prL (slL l (ps.getD pre.length 0) (ps.getD (pre.length + 1) 0)) c hs j := by rw [← e1]; exact wrap_in _ ⟨by omega, by omega⟩
    have wH : IntKind.i64.wrap (tbH l c ps hs j pre.length + (ps.getD (pre.length + 1) 0 - ps.getD pre.length 0) * prH (slH l (ps.getD pre.length 0) (ps.getD (pre.length + 1) 0)) c hs j) = tbH l c ps hs j pre.length + (ps.getD (pre.length + 1) 0 - ps.getD pre.length 0) * prH (slH l (ps.getD pre.length 0) (ps.getD (pre.length + 1) 0)) c hs j := by rw [← e2]; exact wrap_in _ ⟨by omega, by omega⟩
    clear bd bd0 bp bx
    generalize tbL l c ps hs j (pre.length + 1) = nL at *
    generalize tbH l c ps hs j (pre.length + 1) = nH at *
    generalize tbL l c ps hs j pre.length = pL at *
    generalize tbH l c ps hs j pre.length = pH at *
    simp only at hS HA1
    generalize (ps.getD (pre.length + 1) 0 - ps.getD pre.length 0) * prL (slL l (ps.getD pre.length 0) (ps.getD (pre.length + 1) 0)) c hs j = oL at *
    generalize (ps.getD (pre.length + 1) 0 - ps.getD pre.length 0) * prH (slH l (ps.getD pre.length 0) (ps.getD (pre.length + 1) 0)) c hs j = oH at *
    generalize slL l (ps.getD pre.length 0) (ps.getD (pre.length + 1) 0) = s1 at *
    generalize slH l (ps.getD pre.length 0) (ps.getD (pre.length + 1) 0) = s2 at *
    generalize ps.getD (pre.length + 1) 0 - ps.getD pre.length 0 = d at *
    clear e1 e2
    replace eA := Lib.hid eA
    replace eB := Lib.hid eB
    have HI := Lib.hid hI
    obtain ⟨i1, i2, i3, i4, i5, i6⟩ := hI
    obtain ⟨x0, x1, x2, x3⟩ := hS
    have HSt : Hid (∀ w4, Below W.drew.heap.size W.drew w4 → w4.cell? ⟨w.heap.size + 1 + 1 + 1, 0, none⟩ = some (.func (.func 76) #[] #[.pointer (some ⟨w.heap.size + 1 + 1, 0, none⟩)]) ∧ Two (w.heap.size + 1 + 1) w4 (.int .i64 pL) (.int .i64 pH)) := Lib.hid fun w4 gg =>
      ⟨(gg.cell (p := ⟨w.heap.size + 1 + 1 + 1, 0, none⟩) (World.block_lt_of_cell? W _ i4)).trans i4, (i3.below (bel_drew W)).below gg⟩
    have HD : Hid (∀ w4, Two (w.heap.size + 1 + 1) w4 (.int .i64 pL) (.int .i64 pH) → Calls Try.prog 76 #[.agg #[.int .i64 oL, .int .i64 oH], .pointer (some ⟨w.heap.size + 1 + 1, 0, none⟩)] w4 fun e w' => e = .returned (.tuple #[]) ∧ ∃ w2, Below w4.heap.size w4 w2 ∧ w' = (w2.setCell ⟨w.heap.size + 1 + 1, 0, none⟩ (.int .i64 (pL + oL))).setCell ⟨w.heap.size + 1 + 1, 1, none⟩ (.int .i64 (pH + oH))) := Lib.hid fun w4 h4 =>
      lyAdd_any (w.heap.size + 1 + 1) pL pH oL oH w4 h4 wL wH
    clear i2 i3 i6 hL wL wH
    gi_wp2_with fail
    gi_region_with_o (first
      | (refine ⟨trivial, ?_⟩; gi_at_call 79; refine (CallsIn.inRound lp (callsIn_wide.2 (HA1.out _ (bel_drew _)))).mono ?_; rintro e w4 ⟨rfl, gg⟩; have X4 := Lib.hid gg; obtain ⟨k4, k5⟩ := HSt.out _ gg; have K5 := Lib.hid k5; clear k5 gg)
      | (refine ⟨trivial, ?_⟩; gi_at_call 76; refine (CallsIn.inRound lp (callsIn_wide.2 (HD.out _ K5.out))).mono ?_; rintro e w5 ⟨rfl, w6, gg, rfl⟩; have X6 := Lib.hid gg; clear gg))
    all_goals gi_wp2
    all_goals
      have Y : Below W.heap.size W w6 := bel_trans (bel_trans (bel_drew W) X4.out) X6.out
      obtain ⟨j1, j2, j3, j4, j5, j6⟩ := HI.out.bel hm Y
      refine ⟨keep_setG (keep_setG (keepB_bel _ Y) _) _, ?_⟩
      show BtI _ _ _ _ _ _ _
      rw [eA.out, eB.out]
      exact ⟨cell_apart _ (cell_apart _ j1 (by omega)) (by omega), (j2.apart (w.heap.size + 1 + 1) 0 _ (by omega)).apart (w.heap.size + 1 + 1) 1 _ (by omega), j3.both _ _, cell_apart _ (cell_apart _ j4 (by omega)) (by omega), cell_apart _ (cell_apart _ j5 (by omega)) (by omega), (j6.setCell (p := ⟨w.heap.size + 1 + 1, 0, none⟩) (by show w.heap.size ≤ w.heap.size + 1 + 1; omega) _).setCell (p := ⟨w.heap.size + 1 + 1, 1, none⟩) (by show w.heap.size ≤ w.heap.size + 1 + 1; omega) _⟩
  case done =>
    rintro W hI hK
    rw [ups_len (Nat.le_refl _)] at hI
    obtain ⟨qL, hqL⟩ : ∃ z, tbL l c ps hs j q = z := ⟨_, rfl⟩
    obtain ⟨qH, hqH⟩ : ∃ z, tbH l c ps hs j q = z := ⟨_, rfl⟩
    rw [hqL, hqH] at hI
    obtain ⟨i1, i2, i3, i4, i5, i6⟩ := hI
    obtain ⟨s0, s1, sf0, sf1, slt⟩ := i3
    obtain ⟨z0, z1, zf0, zf1, zlt⟩ := i2
    gi_wp2
    have hK' := ((KeepsOthers.setCell W ⟨w.heap.size + 1, 0, none⟩ (.int .i64 qL)).trans (KeepsOthers.setCell _ ⟨w.heap.size + 1, 1, none⟩ (.int .i64 qH))).same _ _ hK rfl
    refine ⟨by simp, .inl ⟨_, _, rfl, run_takeDeferred hK', ?_⟩⟩
    obtain ⟨t0, t1⟩ := two_read W (w.heap.size + 1) (.int .i64 qL) (.int .i64 qH) z0 z1
    have hc5 := cell_kept t0 (grownBy_putObj' _ W0.heap.size (.deferred none)) (fun r e => by cases e; exact ⟨_, hK', rfl⟩)
    have hc6 := cell_kept t1 (grownBy_putObj' _ W0.heap.size (.deferred none)) (fun r e => by cases e; exact ⟨_, hK', rfl⟩)
    refine ⟨.agg #[.int .i64 qL, .int .i64 qH], ?_, by rw [hqL, hqH], ((i6.setCell (p := ⟨w.heap.size + 1, 0, none⟩) (by show w.heap.size ≤ w.heap.size + 1; omega) _).setCell (p := ⟨w.heap.size + 1, 1, none⟩) (by show w.heap.size ≤ w.heap.size + 1; omega) _).trans (belowK_b (w := w) (Nat.le_refl _) _ W0.heap.size _ _ (by omega) hK' rfl rfl)⟩
    simp [results, Try.results49, go_sem, hc5, hc6]
end Go.Proofs.Ytgjdopjolokaiaa

/- slices.ContainsFunc over points, and over integers, with a closure that captures one box. -/
namespace Go.Proofs.Ytgjdopjolokaiaa
open Go.RowKit

set_option maxHeartbeats 8000000 in
theorem idxq_some (f q : Nat) (p : Nat → Bool) (eg : ∀ args w, (callFunc f args).run Try.prog w = .ok (.enter f args) w)
    (b off n cap : Nat) (l : List (Int × Int)) (B : Bool) (w : World) (n1 : n ≤ 1000) (hb : b < w.heap.size)
    (hc : Hid (∀ j, j < n → w.cell? ⟨b, off + j * 2, none⟩ = some (.int .i64 (gX l j)) ∧ w.cell? ⟨b, off + j * 2 + 1, none⟩ = some (.int .i64 (gR l j))))
    (hp : Hid (∀ j W, j < n → Below w.heap.size w W → Calls Try.prog f #[.agg #[.int .i64 (gX l j), .int .i64 (gR l j)], .pointer (some ⟨q, 0, none⟩)] W fun e w' => e = .returned (.bool (p j)) ∧ Below W.heap.size W w'))
    (h1 : Hid ((∃ j, j < n ∧ p j = true) → B = true)) (h2 : Hid ((∀ j, j < n → p j = false) → B = false)) :
    Calls Try.prog 74 #[.slice (some ⟨b, off, none⟩) n cap, .func (.func f) #[] #[.pointer (some ⟨q, 0, none⟩)]] w fun e w' => ∃ k : Int, e = .returned (.int .i64 k) ∧ decide (0 ≤ k) = B ∧ Below w.heap.size w w' := by
  go_enter Try.func74, Try.ntmps74
  go_wp2_with fail
  go_loopw [5, 8] (fun _ i wr => ∃ k : Nat, k ≤ n ∧ i = .int .i64 k ∧ Hid (Below w.heap.size w wr) ∧ Hid (∀ j, j < k → p j = false)) (fun _ i _ => n - (intOf i).toNat)
  case atStart => exact ⟨0, Nat.zero_le _, rfl, Below.refl _ _, fun j hj => by omega⟩
  case round =>
    obtain ⟨k, hk, rfl, hB, ha⟩ := hrel
    by_cases hlt : k < n
    · have c0 : wr.cell? ⟨b, off + k * 2, none⟩ = some (.int .i64 (gX l k)) := by rw [(bcell hB.out).1 _ _ hb]; exact (hc.out k hlt).1
      have c1 : wr.cell? ⟨b, off + k * 2 + 1, none⟩ = some (.int .i64 (gR l k)) := by rw [(bcell hB.out).1 _ _ hb]; exact (hc.out k hlt).2
      have HP := Lib.hid (fun W (hW : Below wr.heap.size wr W) => hp.out k W hlt (bel_trans hB.out hW))
      cases hq : p k with
      | true =>
        have hBt := h1.out ⟨k, hlt, hq⟩
        rw [hq] at HP
        generalize gX l k = x at *
        generalize gR l k = r at *
        go_wp2_with fail
        refine (HP.out _ (by first | exact Below.refl _ _ | exact bel_alloc (Below.refl _ _) | exact bel_drew _ | exact bel_alloc (bel_alloc (Below.refl _ _)))).mono ?_
        rintro e w2 ⟨rfl, gg⟩
        have X := Lib.hid (bel_trans hB.out gg); clear gg
        go_wp2
        go_returns
        exact ⟨k, rfl, by rw [hBt]; simp, X.out⟩
      | false =>
        have ha2 : Hid (∀ j, j < k + 1 → p j = false) := fun j hj => by
          by_cases e : j = k
          · rw [e]; exact hq
          · exact ha.out j (by omega)
        rw [hq] at HP
        clear hq ha
        generalize gX l k = x at c0 HP
        generalize gR l k = r at c1 HP
        go_wp2_with fail
        refine (HP.out _ (by first | exact Below.refl _ _ | exact bel_alloc (Below.refl _ _) | exact bel_drew _ | exact bel_alloc (bel_alloc (Below.refl _ _)))).mono ?_
        rintro e w2 ⟨rfl, gg⟩
        have X := Lib.hid (bel_trans hB.out gg); clear gg
        go_wp2
        go_roundw
        case rel => exact ⟨k + 1, by omega, by go_num, X, ha2⟩
        case measure => simp [intOf]; omega
    · obtain rfl : k = n := by omega
      have hBf := h2.out ha.out
      go_wp2
      go_returns
      exact ⟨-1, rfl, by rw [hBf]; simp, hB.out⟩
theorem conq_some (f q : Nat) (p : Nat → Bool) (eg : ∀ args w, (callFunc f args).run Try.prog w = .ok (.enter f args) w)
    (b off n cap : Nat) (l : List (Int × Int)) (B : Bool) (w : World) (n1 : n ≤ 1000) (hb : b < w.heap.size)
    (hc : Hid (∀ j, j < n → w.cell? ⟨b, off + j * 2, none⟩ = some (.int .i64 (gX l j)) ∧ w.cell? ⟨b, off + j * 2 + 1, none⟩ = some (.int .i64 (gR l j))))
    (hp : Hid (∀ j W, j < n → Below w.heap.size w W → Calls Try.prog f #[.agg #[.int .i64 (gX l j), .int .i64 (gR l j)], .pointer (some ⟨q, 0, none⟩)] W fun e w' => e = .returned (.bool (p j)) ∧ Below W.heap.size W w'))
    (h1 : Hid ((∃ j, j < n ∧ p j = true) → B = true)) (h2 : Hid ((∀ j, j < n → p j = false) → B = false)) :
    Calls Try.prog 44 #[.slice (some ⟨b, off, none⟩) n cap, .func (.func f) #[] #[.pointer (some ⟨q, 0, none⟩)]] w fun e w' => e = .returned (.bool B) ∧ Below w.heap.size w w' := by
  have HI := Lib.hid (idxq_some f q p eg b off n cap l B w n1 hb hc hp h1 h2)
  clear eg hp hc h1 h2
  go_enter Try.func44, Try.ntmps44
  go_wp2_with fail
  refine HI.out.mono ?_
  rintro e w1 ⟨k, rfl, hk, hb⟩
  have HB := Lib.hid hb; clear hb
  subst hk
  go_wp2
  all_goals
    go_ret
    exact ⟨by simp_all, HB.out⟩
end Go.Proofs.Ytgjdopjolokaiaa

/- The reference of layer 8: Length, radius, Radius, At. -/
namespace Go.Proofs.Ytgjdopjolokaiaa
open Go.RowKit

/-! ### radius -/
theorem lnN_bd {a p b q x : Int} (a0 : 0 ≤ a) (ab : a < b) (b1 : b ≤ 100000) (p0 : 0 ≤ p) (p1 : p ≤ 100000) (q0 : 0 ≤ q) (q1 : q ≤ 100000) (x0 : a ≤ x) (x1 : x ≤ b) :
    (0 ≤ p * (b - a) ∧ p * (b - a) ≤ 10000000000) ∧ (-10000000000 ≤ (q - p) * (x - a) ∧ (q - p) * (x - a) ≤ 10000000000) ∧ 0 ≤ lnN a p b q x := by
  have h1 : p * (b - a) ≤ 100000 * 100000 := Int.mul_le_mul p1 (by omega) (by omega) (by omega)
  have h0 : 0 ≤ p * (b - a) := Int.mul_nonneg p0 (by omega)
  have h2 : (q - p) * (x - a) ≤ 100000 * (x - a) := Int.mul_le_mul_of_nonneg_right (by omega) (by omega)
  have h3 : -100000 * (x - a) ≤ (q - p) * (x - a) := Int.mul_le_mul_of_nonneg_right (by omega) (by omega)
  have bt := (ln_between (p := p) (q := q) ab x0 x1).1
  have h4 : 0 ≤ lnN a p b q x / (b - a) := by omega
  refine ⟨⟨h0, by omega⟩, ⟨by omega, by omega⟩, ?_⟩
  have := Int.mul_le_mul_of_nonneg_right h4 (show 0 ≤ b - a by omega)
  have := Int.ediv_mul_le (lnN a p b q x) (show b - a ≠ 0 by omega)
  omega
end Go.Proofs.Ytgjdopjolokaiaa

/- The reference of layer 8: Radius, ready, At. -/
namespace Go.Proofs.Ytgjdopjolokaiaa
open Go.RowKit

end Go.Proofs.Ytgjdopjolokaiaa

/- The reference of layer 11: a strip of all slices. -/
namespace Go.Proofs.Ytgjdopjolokaiaa
open Go.RowKit

theorem xs_bd {l : List (Int × Int)} {ps : List Int} {c a b : Int} (hR : RP l) (hP : PlR l ps) (a0 : 0 ≤ a) (ab : a ≤ b) (b1 : b ≤ 200000) (k : Nat) (hk : k < ps.length) :
    0 ≤ xsL l c ps a b k ∧ xsL l c ps a b k ≤ xsH l c ps a b k ∧ xsH l c ps a b k ≤ ps.getD k 0 * 40000000000 := by
  induction k with
  | zero => rw [hP.z]; simp [xsL, xsH]
  | succ k ih =>
    obtain ⟨i0, i1, i2⟩ := ih (by omega)
    obtain ⟨⟨w0, w1⟩, s0, s1, s2, s3⟩ := hP.slice hR hk
    have p := of_bd (slL l (ps.getD k 0) (ps.getD (k + 1) 0)) c a b (by omega) ab
    have q := of_bd (slH l (ps.getD k 0) (ps.getD (k + 1) 0)) c a b (by omega) ab
    have r := (of_wider (slL l (ps.getD k 0) (ps.getD (k + 1) 0)) (slH l (ps.getD k 0) (ps.getD (k + 1) 0)) c a b (by omega) s1 ab).2
    have t : (b - a) * (2 * slH l (ps.getD k 0) (ps.getD (k + 1) 0)) ≤ 200000 * 200000 := Int.mul_le_mul (by omega) (by omega) (by omega) (by omega)
    show 0 ≤ xsL l c ps a b k + _ * _ ∧ xsL l c ps a b k + _ * _ ≤ xsH l c ps a b k + _ * _ ∧ xsH l c ps a b k + _ * _ ≤ _
    have m0 := Int.mul_nonneg (show 0 ≤ ps.getD (k + 1) 0 - ps.getD k 0 by omega) p.1
    have m1 := Int.mul_le_mul_of_nonneg_left (show ofL (slL l (ps.getD k 0) (ps.getD (k + 1) 0)) c a b ≤ ofH (slH l (ps.getD k 0) (ps.getD (k + 1) 0)) c a b by omega) (show 0 ≤ ps.getD (k + 1) 0 - ps.getD k 0 by omega)
    have m2 := Int.mul_le_mul_of_nonneg_left (show ofH (slH l (ps.getD k 0) (ps.getD (k + 1) 0)) c a b ≤ 40000000000 by omega) (show 0 ≤ ps.getD (k + 1) 0 - ps.getD k 0 by omega)
    rw [Int.sub_mul (ps.getD (k + 1) 0) (ps.getD k 0) 40000000000] at m2
    omega
theorem two_next {W : World} (w : World) (T : TypeId) {o : Obj} (h : Below ((w.alloc o).alloc (.cells #[.int .i64 0, .int .i64 0] T)).heap.size ((w.alloc o).alloc (.cells #[.int .i64 0, .int .i64 0] T)) W) : Two (w.heap.size + 1) W (.int .i64 0) (.int .i64 0) := by
  have := (Two.new (w.alloc o) (.int .i64 0) (.int .i64 0) T).below h
  rwa [World.size_alloc] at this
theorem bel_al {a W : World} (h : Below a.heap.size a W) (o : Obj) : Below a.heap.size a (W.alloc o) := h.alloc h.size o
theorem bel_st {a W : World} (h : Below a.heap.size a W) {p : Addr} (hp : a.heap.size ≤ p.block) (z : Value) : Below a.heap.size a (W.setCell p z) := h.setCell hp z
theorem two_putN {b : Nat} {W : World} {x y : Value} (h : Two b W x y) (u v : Value) : Two b ((W.setCell ⟨b, 0, none⟩ u).setCell ⟨b, 1, none⟩ v) u v := by
  obtain ⟨h0, h1, h2, h3, h4⟩ := h
  obtain ⟨r0, r1⟩ := two_read W b u v h0 h1
  exact ⟨r0, r1, by rw [World.frozen?_setCell, World.frozen?_setCell]; exact h2, by rw [World.frozen?_setCell, World.frozen?_setCell]; exact h3, by simpa [World.setCell] using h4⟩
theorem quad_far {b : Nat} {W : World} {x y z u : Value} (h : Quad b W x y z u) {p : Addr} (hp : p.block ≠ b) (v : Value) : Quad b (W.setCell p v) x y z u := by
  obtain ⟨h0, h1, h2, h3, h4, h5⟩ := h
  refine ⟨?_, ?_, ?_, ?_, fun k hk => by rw [World.frozen?_setCell]; exact h4 k hk, by simpa [World.setCell] using h5⟩
  · rw [World.cell?_setCell_other _ _ _ _ (by intro e; apply hp; rw [e])]; exact h0
  · rw [World.cell?_setCell_other _ _ _ _ (by intro e; apply hp; rw [e])]; exact h1
  · rw [World.cell?_setCell_other _ _ _ _ (by intro e; apply hp; rw [e])]; exact h2
  · rw [World.cell?_setCell_other _ _ _ _ (by intro e; apply hp; rw [e])]; exact h3
theorem two_oth {b c : Nat} {W : World} {x y : Value} (h : Two b W x y) (hc : c ≠ b) (u v : Value) : Two b ((W.setCell ⟨c, 0, none⟩ u).setCell ⟨c, 1, none⟩ v) x y :=
  (h.other ⟨c, 0, none⟩ hc u).other ⟨c, 1, none⟩ hc v
theorem two_newN {b : Nat} {W : World} (h : b = W.heap.size) (x y : Value) (T : TypeId) : Two b (W.alloc (.cells #[x, y] T)) x y := by
  subst h; exact Two.new W x y T
theorem ne_pack {p q : Nat} (h : p < q) : p ≠ q ∧ q ≠ p ∧ p ≠ q + 1 ∧ q + 1 ≠ p := by omega
theorem field_lowB (a b : Int) (w : World) : (Instr.field 40 (.agg #[.int .i64 a, .int .i64 b]) 0).run Try.prog w = .ok (.int .i64 a) w := by kernel_rfl
theorem field_highB (a b : Int) (w : World) : (Instr.field 40 (.agg #[.int .i64 a, .int .i64 b]) 1).run Try.prog w = .ok (.int .i64 b) w := by kernel_rfl
/-- what the loop of Of keeps -/
def OfS (w : World) (b1 : Nat) (nm ps dc pr : Value) (xL xH : Int) (W : World) : Prop :=
  Below w.heap.size w W ∧ Quad w.heap.size W nm ps pr dc ∧ Two (w.heap.size + 1) W (.int .i64 0) (.int .i64 0) ∧ Two b1 W (.int .i64 xL) (.int .i64 xH)
theorem OfS.below {w : World} {b1 : Nat} {nm ps dc pr : Value} {xL xH : Int} {W W' : World} (h : OfS w b1 nm ps dc pr xL xH W) (hb : Below W.heap.size W W') : OfS w b1 nm ps dc pr xL xH W' :=
  ⟨bel_trans h.1 hb, h.2.1.below hb, h.2.2.1.below hb, h.2.2.2.below hb⟩
theorem ofs_low {w : World} {b1 : Nat} {nm ps dc pr : Value} {xL xH z : Int} {W : World} (hb : w.heap.size + 1 < b1) (h : OfS w b1 nm ps dc pr xL xH W) : OfS w b1 nm ps dc pr z xH (W.setCell ⟨b1, 0, none⟩ (.int .i64 z)) := by
  obtain ⟨h1, h2, h3, h4⟩ := h
  refine ⟨h1.setCell (p := ⟨b1, 0, none⟩) (by dsimp only; omega) _, quad_far h2 (by dsimp only; omega) _, h3.other ⟨b1, 0, none⟩ (by dsimp only; omega) _, ?_⟩
  obtain ⟨c0, c1, f0, f1, lt⟩ := h4
  exact ⟨World.cell?_setCell_same _ _ _ c0, by rw [World.cell?_setCell_other _ _ _ _ (by simp)]; exact c1, by rw [World.frozen?_setCell]; exact f0, by rw [World.frozen?_setCell]; exact f1, by simpa [World.setCell] using lt⟩
theorem ofs_high {w : World} {b1 : Nat} {nm ps dc pr : Value} {xL xH z : Int} {W : World} (hb : w.heap.size + 1 < b1) (h : OfS w b1 nm ps dc pr xL xH W) : OfS w b1 nm ps dc pr xL z (W.setCell ⟨b1, 1, none⟩ (.int .i64 z)) := by
  obtain ⟨h1, h2, h3, h4⟩ := h
  exact ⟨h1.setCell (p := ⟨b1, 1, none⟩) (by dsimp only; omega) _, quad_far h2 (by dsimp only; omega) _, h3.other ⟨b1, 1, none⟩ (by dsimp only; omega) _, h4.set1 _⟩
end Go.Proofs.Ytgjdopjolokaiaa

/- The reference of layer 11: between heights. -/
namespace Go.Proofs.Ytgjdopjolokaiaa
open Go.RowKit

theorem meetsC_behind {w wr w2 : World} {b1 : Nat} {nm ps dc pr : Value} {xL xH : Int} {oL oH : Value} {T : TypeId} (hS : OfS w b1 nm ps dc pr xL xH wr) (X : Below wr.drew.heap.size wr.drew w2) :
    ∃ p, (Value.pointer (some ⟨w2.heap.size, 0, none⟩)) = .pointer (some ⟨p, 0, none⟩) ∧ p ≠ b1 ∧ Hid (OfS w b1 nm ps dc pr xL xH (w2.alloc (.cells #[oL, oH] T))) ∧ Hid (Two p (w2.alloc (.cells #[oL, oH] T)) oL oH) := by
  have h2 := hS.below (bel_trans (bel_drew wr) X)
  exact ⟨_, rfl, Nat.ne_of_gt h2.2.2.2.2.2.2.2, Lib.hid (h2.below (bel_alloc (Below.refl _ _))), Lib.hid (Two.new _ _ _ _)⟩
theorem meetsC_ahead {w wr w2 : World} {b1 : Nat} {nm ps dc pr : Value} {xL xH : Int} {oL oH a c : Value} {T : TypeId} (hS : OfS w b1 nm ps dc pr xL xH wr) (X : Below (wr.alloc (.cells #[a, c] T)).drew.heap.size (wr.alloc (.cells #[a, c] T)).drew w2) :
    ∃ p, (Value.pointer (some ⟨wr.heap.size, 0, none⟩)) = .pointer (some ⟨p, 0, none⟩) ∧ p ≠ b1 ∧ Hid (OfS w b1 nm ps dc pr xL xH ((w2.setCell ⟨wr.heap.size, 0, none⟩ oL).setCell ⟨wr.heap.size, 1, none⟩ oH)) ∧ Hid (Two p ((w2.setCell ⟨wr.heap.size, 0, none⟩ oL).setCell ⟨wr.heap.size, 1, none⟩ oH) oL oH) := by
  have hN := (Two.new wr a c T).below (bel_trans (bel_drew _) X)
  have B : Below wr.heap.size wr w2 := bel_alloc (bel_trans (bel_drew _) X)
  have lt := hS.2.2.2.2.2.2.2
  exact ⟨_, rfl, Nat.ne_of_gt lt, Lib.hid (hS.below (bel_st (bel_st B (Nat.le_refl _) _) (Nat.le_refl _) _)), Lib.hid (two_putN hN _ _)⟩
end Go.Proofs.Ytgjdopjolokaiaa

/- The reference of layer 11: Check, ready, Between as a whole. -/
namespace Go.Proofs.Ytgjdopjolokaiaa
open Go.RowKit

theorem liSE_zero {c : Ck} : liSE c = 0 ↔ ccE c = 0 ∧ c.ps = 1 := by
  unfold liSE
  constructor
  · intro h
    split at h
    · split at h
      · exact ⟨by assumption, by assumption⟩
      · omega
    · omega
  · rintro ⟨h1, h2⟩
    rw [if_pos h1, if_pos h2]
theorem lcE_zero {c : Ck} {ps : List Int} : lcE c ps = 0 ↔ (ccE c = 0 ∧ c.ps = 1) ∧ PlR c.pf ps ∧ ps.length ≤ 65 := by
  unfold lcE
  constructor
  · intro h
    split at h
    · rename_i h1
      exact ⟨liSE_zero.1 h1, plcE_iff.1 h⟩
    · contradiction
  · rintro ⟨h1, h2⟩
    rw [if_pos (liSE_zero.2 h1)]
    exact plcE_iff.2 h2
theorem rlyChk_any (v u : Value) (c : Ck) (ps : List Int) (w : World) (hv : CkV w v c) (hu : Nums w u ps) :
    Calls Try.prog 17 #[v, u] w fun e w' => e = .returned (.int .i64 (lcE c ps)) ∧ Below w.heap.size w w' := by
  have H1 : Hid (∀ W, Below w.heap.size w W → _) := Lib.hid fun W hW => rlyIs_any v c W (hv.below hW)
  have hv' := hv
  obtain ⟨a, cap, rfl, hp, _⟩ := hv'
  unfold lcE
  by_cases h : liSE c = 0
  · rw [if_pos h]
    rw [h] at H1
    obtain ⟨h1, h2⟩ := liSE_zero.1 h
    obtain ⟨_, _, _, hR⟩ := ccE_pf h1
    have hu' := hu
    obtain ⟨a2, cap2, rfl, hcap, hh⟩ := hu'
    unfold plcE
    by_cases g1 : ps.length < 2
    · rw [if_pos g1]
      exact rlyChk_few _ _ _ a _ cap a2 _ cap2 w g1 H1
    · rw [if_neg g1]
      by_cases g2 : 65 < ps.length
      · rw [if_pos g2]
        exact rlyChk_many _ _ _ a _ cap a2 _ cap2 w g2 (by omega) H1
      · rw [if_neg g2]
        rcases hh with h0 | ⟨b, off, rfl, hb, hc⟩
        · omega
        · have m0 := hR.n0
          have m1 := hR.n1
          obtain ⟨bp, op, rfl, hbp, hpc⟩ := hp.at (by omega)
          refine rlyChk_some _ _ _ bp op _ cap b off _ cap2 ps c.pf _ w (by omega) (by omega) (Lib.hid rfl) (by omega) m1 hb hbp (Lib.hid hc) (Lib.hid fun j hj => (hpc j hj).1) (Lib.hid fun W hW => hu.below hW) (Lib.hid ?_) (Lib.hid ?_) (Lib.hid ?_) (Lib.hid ?_) H1
          · rintro ⟨i, hi, hx⟩
            rw [if_pos]
            rw [Bool.eq_false_iff]
            intro ha
            have := (plc_asc ps).1 ha i hi
            omega
          · intro ha hx
            rw [if_neg (by rw [(plc_asc ps).2 ha]; simp), if_pos hx]
          · rintro ha hz hx ⟨j, hj, hq⟩
            rw [if_neg (by rw [(plc_asc ps).2 ha]; simp), if_neg (by rintro (e | e); exact e hz; exact e hx), if_pos]
            rw [Bool.eq_false_iff]
            intro hall
            rw [List.all_eq_true] at hall
            rw [hall j (List.mem_range.2 hj)] at hq
            cases hq
          · intro ha hz hx hall
            rw [if_neg (by rw [(plc_asc ps).2 ha]; simp), if_neg (by rintro (e | e); exact e hz; exact e hx), if_neg]
            rw [Bool.not_eq_false, List.all_eq_true]
            intro j hj
            exact hall j (List.mem_range.1 hj)
  · rw [if_neg h]
    exact rlyChk_bad _ _ _ _ a _ cap u w (by simpa using h) (by simpa using h) H1
/-- what Between and Strips report -/
def lrE (c : Ck) (ps hs : List Int) : Int := if lcE c ps = 0 then hcE hs else lcE c ps
theorem lrE_zero {c : Ck} {ps hs : List Int} : lrE c ps hs = 0 ↔ ((ccE c = 0 ∧ c.ps = 1) ∧ PlR c.pf ps ∧ ps.length ≤ 65) ∧ HR hs := by
  unfold lrE
  constructor
  · intro h
    split at h
    · rename_i h1
      exact ⟨lcE_zero.1 h1, (hcE_iff hs).1 h⟩
    · contradiction
  · rintro ⟨h1, h2⟩
    rw [if_pos (lcE_zero.2 h1)]
    exact (hcE_iff hs).2 h2
/-- what Between returns -/
noncomputable def btwL (c : Ck) (ps hs : List Int) : Int := if lrE c ps hs = 0 then tbL c.pf (bgR c.pf) ps hs (hs.length - 1) (ps.length - 1) else 0
noncomputable def btwH (c : Ck) (ps hs : List Int) : Int := if lrE c ps hs = 0 then tbH c.pf (bgR c.pf) ps hs (hs.length - 1) (ps.length - 1) else 0
end Go.Proofs.Ytgjdopjolokaiaa

/- Package lying: Check, check. -/
namespace Go.Proofs.Ytgjdopjolokaiaa
open Go.RowKit Go.Shelf

theorem bx_below {W W' : World} {b : Nat} {t : TypeId} {v : Value} (h : Boxed W b t v) (hb : Below W.heap.size W W') : Boxed W' b t v := by
  show W'.heap[b]? = _
  rw [hb.block _ h.lt]
  exact h
theorem contains_any (ps : List Int) (v : Int) : (ps.take ps.length).contains v = ps.any (fun y => y == v) := by
  rw [List.take_length]
  exact (List.any_beq' ..).symm
theorem any_at {ps : List Int} {v : Int} : ps.any (fun y => y == v) = false ↔ ∀ i, i < ps.length → ps.getD i 0 ≠ v := by
  rw [← Bool.not_eq_true, any_eq_iff]
  constructor
  · intro h i hi e
    exact h ⟨i, hi, e⟩
  · rintro h ⟨i, hi, e⟩
    exact h i hi e
set_option maxHeartbeats 4000000 in
theorem lyMis_any (v r : Int) (q b off n cap : Nat) (ps : List Int) (w : World) (n1 : n ≤ 1000) (hn : Hid (n = ps.length)) (h : w.cell? ⟨q, 0, none⟩ = some (.slice (some ⟨b, off, none⟩) n cap)) (hq : q < w.heap.size) (hb : b < w.heap.size)
    (hc : Hid (∀ j, j < n → w.cell? ⟨b, off + j, none⟩ = some (.int .i64 (ps.getD j 0)))) :
    Calls Try.prog 41 #[.agg #[.int .i64 v, .int .i64 r], .pointer (some ⟨q, 0, none⟩)] w fun e w' => e = .returned (.bool (!ps.any (fun y => y == v))) ∧ Below w.heap.size w w' := by
  have c0 : ∀ o, (w.alloc o).cell? ⟨q, 0, none⟩ = some (.slice (some ⟨b, off, none⟩) n cap) := fun o => by rw [World.cell?_alloc_lt w o _ hq]; exact h
  have HC : Hid (∀ o, Calls Try.prog 42 #[.slice (some ⟨b, off, none⟩) n cap, .int .i64 v] (w.alloc o) fun e w' => e = .returned (.bool (ps.any (fun y => y == v))) ∧ w' = w.alloc o) := Lib.hid fun o => by
    have := Try.slices_Contains_int b off n cap ps v (w.alloc o) (by have := hn.out; omega) (by omega) (fun j hj => by rw [World.cell?_alloc_lt w o _ hb]; exact hc.out j (by have := hn.out; omega))
    rwa [show ps.take n = ps.take ps.length by rw [← hn.out], contains_any] at this
  clear hc
  generalize ps.any (fun y => y == v) = B at *
  go_enter Try.func41, Try.ntmps41
  go_wp2_with fail
  refine (HC.out _).mono ?_
  rintro e w1 ⟨rfl, hw⟩
  subst hw
  cases B with
  | true =>
    go_wp2
    go_ret
    exact ⟨rfl, bel_alloc (Below.refl _ _)⟩
  | false =>
    go_wp2
    go_ret
    exact ⟨rfl, bel_alloc (Below.refl _ _)⟩
theorem lyChk_bad (nm : ByteArray) (cps dc E : Int) (a : Option Addr) (m cap : Nat) (a2 : Option Addr) (n cap2 : Nat) (w : World) (e1 : (E == 0) = false) (e2 : (E != 0) = true)
    (H1 : Hid (∀ W, Below w.heap.size w W → Calls Try.prog 39 #[.agg #[.string nm, .int .i64 cps, .slice a m cap, .int .i64 dc]] W fun e w' => e = .returned (.int .i64 E) ∧ Below W.heap.size W w')) :
    Calls Try.prog 14 #[.agg #[.string nm, .int .i64 cps, .slice a m cap, .int .i64 dc], .slice a2 n cap2] w fun e w' => e = .returned (.int .i64 E) ∧ Below w.heap.size w w' := by
  go_enter Try.func14, Try.ntmps14
  go_wp2_with fail
  refine (H1.out _ (bel_alloc (bel_alloc (Below.refl _ _)))).mono ?_
  rintro e w1 ⟨rfl, gg⟩
  have X1 := Lib.hid (bel_alloc (bel_alloc gg)); clear gg
  go_wp2
  go_returns
  exact ⟨rfl, X1.out⟩
/-- the boxes of Check -/
theorem lyChk_box (w : World) (nm : ByteArray) (cps dc : Int) (a : Option Addr) (m cap : Nat) (u : Value) :
    Quad w.heap.size ((w.alloc (.cells #[.string nm, .int .i64 cps, .slice a m cap, .int .i64 dc] 24)).alloc (.cells #[u] 25)) (.string nm) (.int .i64 cps) (.slice a m cap) (.int .i64 dc) ∧
    Boxed ((w.alloc (.cells #[.string nm, .int .i64 cps, .slice a m cap, .int .i64 dc] 24)).alloc (.cells #[u] 25)) (w.heap.size + 1) 25 u := by
  refine ⟨(Quad.new w _ _ _ _ _).alloc _, ?_⟩
  have := Boxed.new (w.alloc (.cells #[.string nm, .int .i64 cps, .slice a m cap, .int .i64 dc] 24)) 25 u
  rwa [World.size_alloc] at this
set_option maxHeartbeats 8000000 in
theorem lyChk_len (nm : ByteArray) (cps dc X : Int) (a : Option Addr) (m cap : Nat) (a2 : Option Addr) (n cap2 : Nat) (V : Int) (w : World) (h : (n < 2 ∧ V = 9) ∨ (¬ n < 2 ∧ 65 < n ∧ n ≤ 9223372036854775807 ∧ V = 8))
    (H1 : Hid (∀ W, Below w.heap.size w W → Calls Try.prog 39 #[.agg #[.string nm, .int .i64 cps, .slice a m cap, .int .i64 dc]] W fun e w' => e = .returned (.int .i64 0) ∧ Below W.heap.size W w'))
    (H2 : Hid (∀ W, Below w.heap.size w W → Calls Try.prog 40 #[.slice a m cap] W fun e w' => e = .returned (.tuple #[.int .i64 X, .int .i64 0]) ∧ Below W.heap.size W w')) :
    Calls Try.prog 14 #[.agg #[.string nm, .int .i64 cps, .slice a m cap, .int .i64 dc], .slice a2 n cap2] w fun e w' => e = .returned (.int .i64 V) ∧ Below w.heap.size w w' := by
  have hmf : ∀ (fn : Fn) (first cap : Array Value) (w : World), (Instr.makeFunc fn first cap).run Try.prog w = .ok (.func fn first cap) w := fun _ _ _ _ => rfl
  obtain ⟨f0, b0⟩ := lyChk_box w nm cps dc a m cap (.slice a2 n cap2)
  have F0 := Lib.hid f0
  have B0 := Lib.hid b0
  clear f0 b0
  rcases h with ⟨h, rfl⟩ | ⟨h, h2, h3, rfl⟩
  all_goals
    go_enter Try.func14, Try.ntmps14
    go_wp2_with fail
    refine (H1.out _ (bel_alloc (bel_alloc (Below.refl _ _)))).mono ?_
    rintro e w1 ⟨rfl, gg⟩
    replace F0 := Lib.hid (F0.out.below gg)
    replace B0 := Lib.hid (bx_below B0.out gg)
    have X1 := Lib.hid (bel_alloc (bel_alloc gg)); clear gg
    obtain ⟨_, _, u2, _, _, _⟩ := F0.out
    go_wp2_with fail
    refine (H2.out _ X1.out).mono ?_
    rintro e w2 ⟨rfl, gg⟩
    clear u2
    replace B0 := Lib.hid (bx_below B0.out gg)
    replace X1 := Lib.hid (bel_trans X1.out gg); clear gg
    have c1 := B0.out.cell
    go_wp2
    go_returns
    exact ⟨rfl, X1.out⟩
set_option maxHeartbeats 8000000 in
theorem lyChk_core (nm : ByteArray) (cps dc X : Int) (a : Option Addr) (m cap b off n cap2 : Nat) (A M : Bool) (V : Int) (w : World) (n0 : 2 ≤ n) (n1 : n ≤ 65) (hV : (A = false ∧ V = 5) ∨ (A = true ∧ M = true ∧ V = 7) ∨ (A = true ∧ M = false ∧ V = 0))
    (H1 : Hid (∀ W, Below w.heap.size w W → Calls Try.prog 39 #[.agg #[.string nm, .int .i64 cps, .slice a m cap, .int .i64 dc]] W fun e w' => e = .returned (.int .i64 0) ∧ Below W.heap.size W w'))
    (H2 : Hid (∀ W, Below w.heap.size w W → Calls Try.prog 40 #[.slice a m cap] W fun e w' => e = .returned (.tuple #[.int .i64 X, .int .i64 0]) ∧ Below W.heap.size W w'))
    (H3 : Hid (∀ W, Below w.heap.size w W → Calls Try.prog 43 #[.slice (some ⟨b, off, none⟩) n cap2, .int .i64 X] W fun e w' => e = .returned (.bool A) ∧ w' = W))
    (H4 : Hid (∀ W, Below w.heap.size w W → Boxed W (w.heap.size + 1) 25 (.slice (some ⟨b, off, none⟩) n cap2) → Calls Try.prog 44 #[.slice a m cap, .func (.func 41) #[] #[.pointer (some ⟨w.heap.size + 1, 0, none⟩)]] W fun e w' => e = .returned (.bool M) ∧ Below W.heap.size W w')) :
    Calls Try.prog 14 #[.agg #[.string nm, .int .i64 cps, .slice a m cap, .int .i64 dc], .slice (some ⟨b, off, none⟩) n cap2] w fun e w' => e = .returned (.int .i64 V) ∧ Below w.heap.size w w' := by
  have hmf : ∀ (fn : Fn) (first cap : Array Value) (w : World), (Instr.makeFunc fn first cap).run Try.prog w = .ok (.func fn first cap) w := fun _ _ _ _ => rfl
  obtain ⟨f0, b0⟩ := lyChk_box w nm cps dc a m cap (.slice (some ⟨b, off, none⟩) n cap2)
  have F0 := Lib.hid f0
  have B0 := Lib.hid b0
  clear f0 b0
  go_enter Try.func14, Try.ntmps14
  go_wp2_with fail
  refine (H1.out _ (bel_alloc (bel_alloc (Below.refl _ _)))).mono ?_
  rintro e w1 ⟨rfl, gg⟩
  replace F0 := Lib.hid (F0.out.below gg)
  replace B0 := Lib.hid (bx_below B0.out gg)
  have X1 := Lib.hid (bel_alloc (bel_alloc gg)); clear gg
  obtain ⟨_, _, u2, _, _, _⟩ := F0.out
  go_wp2_with fail
  refine (H2.out _ X1.out).mono ?_
  rintro e w2 ⟨rfl, gg⟩
  clear u2
  replace F0 := Lib.hid (F0.out.below gg)
  replace B0 := Lib.hid (bx_below B0.out gg)
  replace X1 := Lib.hid (bel_trans X1.out gg); clear gg
  have c1 := B0.out.cell
  obtain ⟨_, _, u2, _, _, _⟩ := F0.out
  go_wp2_with fail
  refine (H3.out _ X1.out).mono ?_
  rintro e w3 ⟨rfl, hw⟩
  subst hw
  rcases hV with ⟨rfl, rfl⟩ | ⟨rfl, rfl, rfl⟩ | ⟨rfl, rfl, rfl⟩
  · go_wp2
    go_returns
    exact ⟨rfl, X1.out⟩
  · go_wp2_with fail
    refine (H4.out _ X1.out B0.out).mono ?_
    rintro e w4 ⟨rfl, gg⟩
    replace X1 := Lib.hid (bel_trans X1.out gg); clear gg
    go_wp2
    go_returns
    exact ⟨rfl, X1.out⟩
  · go_wp2_with fail
    refine (H4.out _ X1.out B0.out).mono ?_
    rintro e w4 ⟨rfl, gg⟩
    replace X1 := Lib.hid (bel_trans X1.out gg); clear gg
    go_wp2
    go_returns
    exact ⟨rfl, X1.out⟩
theorem lyChk_any (v u : Value) (c : Ck) (ps : List Int) (w : World) (hv : CkV w v c) (hu : Nums w u ps) :
    Calls Try.prog 14 #[v, u] w fun e w' => e = .returned (.int .i64 (lcE c ps)) ∧ Below w.heap.size w w' := by
  have H1 : Hid (∀ W, Below w.heap.size w W → _) := Lib.hid fun W hW => lyPos_any v c W (hv.below hW)
  have hv' := hv
  obtain ⟨a, cap, rfl, hp, _⟩ := hv'
  unfold lcE
  by_cases h : liSE c = 0
  · rw [if_pos h]
    rw [h] at H1
    obtain ⟨h1, h2⟩ := liSE_zero.1 h
    obtain ⟨_, _, _, hR⟩ := ccE_pf h1
    have e0 := (ckE_iff _).2 hR
    have m0 := hR.n0
    have m1 := hR.n1
    have H2 : Hid (∀ W, Below w.heap.size w W → _) := Lib.hid fun W hW => len_any _ c.pf W (hp.below hW)
    unfold lgQ at H2
    rw [if_pos e0, e0] at H2
    have hu' := hu
    obtain ⟨a2, cap2, rfl, hcap, hh⟩ := hu'
    unfold plcE
    by_cases g1 : ps.length < 2
    · rw [if_pos g1]
      exact lyChk_len _ _ _ _ a _ cap a2 _ cap2 _ w (.inl ⟨g1, rfl⟩) H1 H2
    · rw [if_neg g1]
      by_cases g2 : 65 < ps.length
      · rw [if_pos g2]
        exact lyChk_len _ _ _ _ a _ cap a2 _ cap2 _ w (.inr ⟨g1, g2, by omega, rfl⟩) H1 H2
      · rw [if_neg g2]
        rcases hh with h0 | ⟨b, off, rfl, hb, hc⟩
        · omega
        · obtain ⟨bp, op, rfl, hbp, hpc⟩ := hp.at (by omega)
          obtain ⟨q, hq⟩ : ∃ q, ps.length = q + 1 := ⟨ps.length - 1, by omega⟩
          have HA : Hid (∀ W, Below w.heap.size w W → Calls Try.prog 43 #[.slice (some ⟨b, off, none⟩) (q + 1) cap2, .int .i64 (gX c.pf (c.pf.length - 1))] W fun e w' => e = .returned (.bool ((List.range (ps.length - 1)).all (fun i => decide (ps.getD i 0 < ps.getD (i + 1) 0)) && (ps.getD 0 0 == 0 && ps.getD q 0 == gX c.pf (c.pf.length - 1)))) ∧ w' = W) := Lib.hid fun W hW => by
            refine lyAdv_some b off q cap2 ps _ _ W (by omega) (by omega) (by omega) (Lib.hid fun j hj => by rw [(bcell hW).1 _ _ hb]; exact hc j (by omega)) (Lib.hid ?_) (Lib.hid ?_)
            · rintro ⟨i, hi, hx⟩
              rw [Bool.and_eq_false_iff]
              left
              rw [Bool.eq_false_iff]
              intro ha
              have := (plc_asc ps).1 ha i (by omega)
              omega
            · intro ha
              rw [(plc_asc ps).2 (fun i hi => ha i (by omega)), Bool.true_and]
          have HM : Hid (∀ W, Below w.heap.size w W → Boxed W (w.heap.size + 1) 25 (.slice (some ⟨b, off, none⟩) (q + 1) cap2) → Calls Try.prog 44 #[.slice (some ⟨bp, op, none⟩) c.pf.length cap, .func (.func 41) #[] #[.pointer (some ⟨w.heap.size + 1, 0, none⟩)]] W fun e w' => e = .returned (.bool (!(List.range c.pf.length).all (fun i => ps.any (fun y => y == gX c.pf i)))) ∧ Below W.heap.size W w') := Lib.hid fun W hW hB => by
            refine conq_some 41 (w.heap.size + 1) (fun j => !ps.any (fun y => y == gX c.pf j)) (enters_of Try.func41 (by kernel_rfl) rfl) bp op _ cap c.pf _ W (by omega) (Nat.lt_of_lt_of_le hbp hW.size) (Lib.hid fun j hj => ⟨by rw [(bcell hW).1 _ _ hbp]; exact (hpc j hj).1, by rw [(bcell hW).1 _ _ hbp]; exact (hpc j hj).2⟩) (Lib.hid fun j W2 hj hW2 => ?_) (Lib.hid ?_) (Lib.hid ?_)
            · have hb2 := bx_below hB hW2
              exact lyMis_any _ _ _ b off (q + 1) cap2 ps W2 (by omega) (Lib.hid hq.symm) hb2.cell hb2.lt (Nat.lt_of_lt_of_le (Nat.lt_of_lt_of_le hb hW.size) hW2.size) (Lib.hid fun j hj => by rw [(bcell hW2).1 _ _ (Nat.lt_of_lt_of_le hb hW.size), (bcell hW).1 _ _ hb]; exact hc j (by omega))
            · rintro ⟨j, hj, hx⟩
              rw [Bool.not_eq_true', Bool.eq_false_iff]
              intro hall
              rw [List.all_eq_true] at hall
              rw [hall j (List.mem_range.2 hj)] at hx
              cases hx
            · intro hall
              rw [Bool.not_eq_false', List.all_eq_true]
              intro j hj
              have := hall j (List.mem_range.1 hj)
              simpa using this
          rw [hq]
          refine lyChk_core _ _ _ _ _ _ cap b off (q + 1) cap2 _ _ _ w (by omega) (by omega) ?_ H1 H2 HA HM
          rw [hq, Nat.add_sub_cancel]
          cases (List.range q).all (fun i => decide (ps.getD i 0 < ps.getD (i + 1) 0)) with
          | false => left; simp
          | true =>
            rw [if_neg (by simp)]
            by_cases hz : ps.getD 0 0 ≠ 0 ∨ ps.getD q 0 ≠ gX c.pf (c.pf.length - 1)
            · rw [if_pos hz]
              left
              refine ⟨?_, rfl⟩
              rw [Bool.true_and, Bool.and_eq_false_iff]
              rcases hz with hz | hz
              · left; simpa using hz
              · right; simpa using hz
            · rw [if_neg hz]
              right
              have hz1 : ps.getD 0 0 = 0 := Classical.byContradiction fun e => hz (.inl e)
              have hz2 : ps.getD q 0 = gX c.pf (c.pf.length - 1) := Classical.byContradiction fun e => hz (.inr e)
              rw [hz1, hz2]
              cases (List.range c.pf.length).all (fun i => ps.any (fun y => y == gX c.pf i)) with
              | false => left; simp
              | true => right; simp
  · rw [if_neg h]
    obtain ⟨a2, cap2, rfl, _⟩ := hu
    exact lyChk_bad _ _ _ _ a _ cap a2 _ cap2 w (by simpa using h) (by simpa using h) H1
theorem lyRd_bad (v u h : Value) (E : Int) (nm : ByteArray) (cps dc : Int) (a : Option Addr) (m cap : Nat) (hv : v = .agg #[.string nm, .int .i64 cps, .slice a m cap, .int .i64 dc]) (w : World) (e1 : (E == 0) = false) (e2 : (E != 0) = true)
    (H1 : Hid (∀ W, Below w.heap.size w W → Calls Try.prog 14 #[v, u] W fun e w' => e = .returned (.int .i64 E) ∧ Below W.heap.size W w')) :
    Calls Try.prog 48 #[v, u, h] w fun e w' => e = .returned (.int .i64 E) ∧ Below w.heap.size w w' := by
  subst hv
  go_enter Try.func48, Try.ntmps48
  go_wp2_with fail
  refine (H1.out _ (bel_alloc (Below.refl _ _))).mono ?_
  rintro e w1 ⟨rfl, gg⟩
  have X1 := Lib.hid (bel_alloc gg); clear gg
  go_wp2
  go_returns
  exact ⟨rfl, X1.out⟩
theorem lyRd_ok (v u h : Value) (E : Int) (nm : ByteArray) (cps dc : Int) (a : Option Addr) (m cap : Nat) (hv : v = .agg #[.string nm, .int .i64 cps, .slice a m cap, .int .i64 dc]) (w : World)
    (H1 : Hid (∀ W, Below w.heap.size w W → Calls Try.prog 14 #[v, u] W fun e w' => e = .returned (.int .i64 0) ∧ Below W.heap.size W w'))
    (H2 : Hid (∀ W, Below w.heap.size w W → Calls Try.prog 50 #[h] W fun e w' => e = .returned (.int .i64 E) ∧ Below W.heap.size W w')) :
    Calls Try.prog 48 #[v, u, h] w fun e w' => e = .returned (.int .i64 E) ∧ Below w.heap.size w w' := by
  subst hv
  go_enter Try.func48, Try.ntmps48
  go_wp2_with fail
  refine (H1.out _ (bel_alloc (Below.refl _ _))).mono ?_
  rintro e w1 ⟨rfl, gg⟩
  have X1 := Lib.hid (bel_alloc gg); clear gg
  go_wp2_with fail
  refine (H2.out _ X1.out).mono ?_
  rintro e w2 ⟨rfl, gg⟩
  replace X1 := Lib.hid (bel_trans X1.out gg); clear gg
  go_wp2
  go_returns
  exact ⟨rfl, X1.out⟩
theorem lyRd_any (v u h : Value) (c : Ck) (ps hs : List Int) (w : World) (hv : CkV w v c) (hu : Nums w u ps) (hh : Nums w h hs) :
    Calls Try.prog 48 #[v, u, h] w fun e w' => e = .returned (.int .i64 (lrE c ps hs)) ∧ Below w.heap.size w w' := by
  have H1 : Hid (∀ W, Below w.heap.size w W → _) := Lib.hid fun W hW => lyChk_any v u c ps W (hv.below hW) (hu.below hW)
  have H2 : Hid (∀ W, Below w.heap.size w W → _) := Lib.hid fun W hW => chk_any h hs W (hh.below hW)
  obtain ⟨a, cap, e, _⟩ := hv
  unfold lrE
  by_cases g : lcE c ps = 0
  · rw [if_pos g]
    rw [g] at H1
    exact lyRd_ok v u h _ _ _ _ a _ cap e w H1 H2
  · rw [if_neg g]
    exact lyRd_bad v u h _ _ _ _ a _ cap e w (by simpa using g) (by simpa using g) H1
end Go.Proofs.Ytgjdopjolokaiaa

/- Rows of integers that belong to the call. -/
namespace Go.Proofs.Ytgjdopjolokaiaa
open Go.RowKit

/-- a row that the call itself made -/
abbrev Own (w : World) (B g n cap : Nat) (zs : List Int) : Prop := w.ownsRow B 3 1 (.slice (some ⟨g, 0, none⟩) n cap) n (zs.map (Value.int .i64))
theorem Own.len {w : World} {B g n cap : Nat} {zs : List Int} (h : Own w B g n cap zs) : zs.length = n := by
  have := h.1; simpa using this
theorem Own.cell {w : World} {B g n cap : Nat} {zs : List Int} (h : Own w B g n cap zs) (j : Nat) (hj : j < n) : w.cell? ⟨g, j, none⟩ = some (.int .i64 (zs.getD j 0)) := by
  have hl := h.len
  rw [World.ownsRow.cellAt h j (by omega)]
  simp [List.getD, List.getElem?_eq_getElem (show j < zs.length by omega)]
theorem Own.set {w : World} {B g n cap : Nat} {zs : List Int} (h : Own w B g n cap zs) (j : Nat) (x : Int) : Own (w.setCell ⟨g, j, none⟩ (.int .i64 x)) B g n cap (zs.set j x) := by
  have := (World.ownsRow.stored h j (.int .i64 x)).1
  rw [← List.map_set] at this
  exact this
theorem Own.lt {w : World} {B g n cap : Nat} {zs : List Int} (h : Own w B g n cap zs) : B ≤ g ∧ g < w.heap.size := World.ownsRow.lt h g rfl
theorem Own.below {w w' : World} {B g n cap : Nat} {zs : List Int} (h : Own w B g n cap zs) (hb : Below w.heap.size w w') : Own w' B g n cap zs := by
  obtain ⟨h1, h2⟩ := h
  refine ⟨h1, ?_⟩
  rcases h2 with ⟨h2, _⟩ | ⟨g', c', cur, hv, hg, hh, r⟩
  · cases h2
  · refine .inr ⟨g', c', cur, hv, hg, ?_, r⟩
    have hlt : g' < w.heap.size := by
      rcases Nat.lt_or_ge g' w.heap.size with h | h
      · exact h
      · rw [Array.getElem?_eq_none h] at hh; cases hh
    rw [hb.block _ hlt]; exact hh
theorem madeInts (n : Nat) : (madeCells (Value.int .i64 0).cells (n * 1)).toList = (List.replicate n (0 : Int)).map (Value.int .i64) := by
  rw [Nat.mul_one]
  apply List.ext_getElem
  · simp [madeCells, Value.cells]
  · intro i h1 h2
    simp [madeCells, Value.cells, Nat.mod_one]
/-- filled up to a place -/
theorem set_next {f : Nat → Int} (k m : Nat) (h : k < m) : ((List.range k).map f ++ List.replicate (m - k) 0).set k (f k) = (List.range (k + 1)).map f ++ List.replicate (m - (k + 1)) 0 := by
  obtain ⟨d, rfl⟩ : ∃ d, m = k + 1 + d := ⟨m - (k + 1), by omega⟩
  rw [show k + 1 + d - k = d + 1 by omega, show k + 1 + d - (k + 1) = d by omega, List.replicate_succ, List.range_succ, List.map_append, List.set_append_right _ _ (by simp)]
  simp
end Go.Proofs.Ytgjdopjolokaiaa

/- Package lying: Between, Strips. -/
namespace Go.Proofs.Ytgjdopjolokaiaa
open Go.RowKit

theorem lyBt_any (v u h : Value) (l : List (Int × Int)) (ps hs : List Int) (w : World) (hv : Pts w v l) (hu : Nums w u ps) (hh : Nums w h hs) (hR : RP l) (hP : PlR l ps) (n65 : ps.length ≤ 65) (hH : HR hs) :
    Calls Try.prog 49 #[v, u, h] w fun e w' => e = .returned (.agg #[.int .i64 (tbL l (bgR l) ps hs (hs.length - 1) (ps.length - 1)), .int .i64 (tbH l (bgR l) ps hs (hs.length - 1) (ps.length - 1))]) ∧ Below w.heap.size w w' := by
  have n0 := hR.n0
  have p0 := hP.n0
  have h0 := hH.n0
  have bb : 0 ≤ bgR l ∧ bgR l ≤ 100000 := by
    have hl : bg l l.length < l.length := by have := bg_lt l l.length; omega
    have := hR.br _ hl
    unfold bgR; omega
  have hv1 := hv
  have hu1 := hu
  have hh1 := hh
  obtain ⟨a, cap, rfl, _, hz | ⟨b, off, rfl, hb, _⟩⟩ := hv1
  · omega
  obtain ⟨a2, cap2, rfl, hc2, hz | ⟨b2, off2, rfl, hb2, hps⟩⟩ := hu1
  · omega
  obtain ⟨a3, cap3, rfl, _, hz | ⟨b3, off3, rfl, hb3, _⟩⟩ := hh1
  · omega
  obtain ⟨q, hq⟩ : ∃ q, ps.length = q + 1 := ⟨ps.length - 1, by omega⟩
  rw [hq] at hu hc2 ⊢
  rw [Nat.add_sub_cancel]
  refine lyBt_some b off _ cap b2 off2 q cap2 b3 off3 _ cap3 l ps hs (bgR l) (hs.length - 1) w (by omega) (by omega) hc2.1 (by omega) (Lib.hid hR) (Lib.hid hP) (Lib.hid hq) (Lib.hid hH) hv (Lib.hid fun j hj => hps j (by omega)) hb hb2 (Lib.hid fun W hW => lyMid_any _ l W (hv.below hW) hR) (Lib.hid fun x W x0 x1 hp => ?_) (Lib.hid fun k W hk hW => ?_)
  · have e0 : plE l x = 0 := plE_zero.2 ⟨hR, x0, x1⟩
    have := At_any _ l x W hp
    unfold atL atH at this
    rwa [if_pos e0, if_pos e0, e0] at this
  · obtain ⟨⟨w0, w1⟩, s0, s1, s2, s3⟩ := hP.slice hR (k := k) (by omega)
    exact lySpc_any _ _ _ _ _ hs W (hh.below hW) hH ⟨by omega, w1⟩ ⟨by omega, s1, by omega⟩ bb
theorem lyBw_bad (v u h : Value) (E : Int) (nm : ByteArray) (cps dc : Int) (a : Option Addr) (m cap : Nat) (hv : v = .agg #[.string nm, .int .i64 cps, .slice a m cap, .int .i64 dc]) (w : World) (e1 : (E == 0) = false) (e2 : (E != 0) = true)
    (H1 : Hid (∀ W, Below w.heap.size w W → Calls Try.prog 48 #[v, u, h] W fun e w' => e = .returned (.int .i64 E) ∧ Below W.heap.size W w')) :
    Calls Try.prog 18 #[v, u, h] w fun e w' => e = .returned (.tuple #[.agg #[.int .i64 0, .int .i64 0], .int .i64 E]) ∧ Below w.heap.size w w' := by
  subst hv
  have T0 := Lib.hid (Two.new (w.alloc (.cells #[.string nm, .int .i64 cps, .slice a m cap, .int .i64 dc] 24)) (.int .i64 0) (.int .i64 0) 40)
  rw [World.size_alloc] at T0
  go_enter Try.func18, Try.ntmps18
  go_wp2_with fail
  refine (H1.out _ (bel_alloc (bel_alloc (Below.refl _ _)))).mono ?_
  rintro e w1 ⟨rfl, gg⟩
  replace T0 := Lib.hid (T0.out.below gg)
  have X1 := Lib.hid (bel_alloc (bel_alloc gg)); clear gg
  obtain ⟨r0, r1, rf0, rf1, _⟩ := T0.out
  go_wp2
  obtain ⟨t0, t1⟩ := two_read w1 (w.heap.size + 1) (.int .i64 0) (.int .i64 0) r0 r1
  refine bodyPost_ret (v := .tuple #[.agg #[.int .i64 0, .int .i64 0], .int .i64 E]) (by simp [results, Try.results18, go_sem, t0, t1]) rfl ?_
  exact ⟨rfl, (X1.out.setCell (Nat.le_succ _) _).setCell (Nat.le_succ _) _⟩
theorem lyBw_ok (v u h : Value) (L H : Int) (nm : ByteArray) (cps dc : Int) (a : Option Addr) (m cap : Nat) (hv : v = .agg #[.string nm, .int .i64 cps, .slice a m cap, .int .i64 dc]) (w : World)
    (H1 : Hid (∀ W, Below w.heap.size w W → Calls Try.prog 48 #[v, u, h] W fun e w' => e = .returned (.int .i64 0) ∧ Below W.heap.size W w'))
    (H2 : Hid (∀ W, Below w.heap.size w W → Calls Try.prog 49 #[.slice a m cap, u, h] W fun e w' => e = .returned (.agg #[.int .i64 L, .int .i64 H]) ∧ Below W.heap.size W w')) :
    Calls Try.prog 18 #[v, u, h] w fun e w' => e = .returned (.tuple #[.agg #[.int .i64 L, .int .i64 H], .int .i64 0]) ∧ Below w.heap.size w w' := by
  subst hv
  have F0 := Lib.hid ((Quad.new w (.string nm) (.int .i64 cps) (.slice a m cap) (.int .i64 dc) 24).alloc (.cells #[.int .i64 0, .int .i64 0] 40))
  have T0 := Lib.hid (Two.new (w.alloc (.cells #[.string nm, .int .i64 cps, .slice a m cap, .int .i64 dc] 24)) (.int .i64 0) (.int .i64 0) 40)
  rw [World.size_alloc] at T0
  go_enter Try.func18, Try.ntmps18
  go_wp2_with fail
  refine (H1.out _ (bel_alloc (bel_alloc (Below.refl _ _)))).mono ?_
  rintro e w1 ⟨rfl, gg⟩
  replace T0 := Lib.hid (T0.out.below gg)
  replace F0 := Lib.hid (F0.out.below gg)
  have X1 := Lib.hid (bel_alloc (bel_alloc gg)); clear gg
  obtain ⟨y0, y1, y2, y3, _, _⟩ := F0.out
  go_wp2_with fail
  refine (H2.out _ X1.out).mono ?_
  rintro e w2 ⟨rfl, gg⟩
  replace T0 := Lib.hid (T0.out.below gg)
  replace X1 := Lib.hid (bel_trans X1.out gg); clear gg y0 y1 y2 y3
  obtain ⟨r0, r1, rf0, rf1, _⟩ := T0.out
  go_wp2
  obtain ⟨t0, t1⟩ := two_read w2 (w.heap.size + 1) (.int .i64 L) (.int .i64 H) r0 r1
  refine bodyPost_ret (v := .tuple #[.agg #[.int .i64 L, .int .i64 H], .int .i64 0]) (by simp [results, Try.results18, go_sem, t0, t1]) rfl ?_
  exact ⟨rfl, (X1.out.setCell (Nat.le_succ _) _).setCell (Nat.le_succ _) _⟩
theorem lyBw_any (v u h : Value) (c : Ck) (ps hs : List Int) (w : World) (hv : CkV w v c) (hu : Nums w u ps) (hh : Nums w h hs) :
    Calls Try.prog 18 #[v, u, h] w fun e w' => e = .returned (.tuple #[.agg #[.int .i64 (btwL c ps hs), .int .i64 (btwH c ps hs)], .int .i64 (lrE c ps hs)]) ∧ Below w.heap.size w w' := by
  have H1 : Hid (∀ W, Below w.heap.size w W → _) := Lib.hid fun W hW => lyRd_any v u h c ps hs W (hv.below hW) (hu.below hW) (hh.below hW)
  have hv' := hv
  obtain ⟨a, cap, e, hp, _⟩ := hv'
  unfold btwL btwH
  by_cases g : lrE c ps hs = 0
  · obtain ⟨⟨⟨h1, h2⟩, h3, h4⟩, h5⟩ := lrE_zero.1 g
    obtain ⟨_, _, _, hR⟩ := ccE_pf h1
    rw [if_pos g, if_pos g, g]
    rw [g] at H1
    exact lyBw_ok v u h _ _ _ _ _ a _ cap e w H1 (Lib.hid fun W hW => lyBt_any _ u h c.pf ps hs W (hp.below hW) (hu.below hW) (hh.below hW) hR h3 h4 h5)
  · rw [if_neg g, if_neg g]
    exact lyBw_bad v u h _ _ _ _ a _ cap e w (by simpa using g) (by simpa using g) H1
/-! ### rows of bounds -/
theorem row_belB {W W' : World} {B n size : Nat} {e : TypeId} {v : Value} {xs : List Value} (h : W.ownsRow B e size v n xs) (hb : Below W.heap.size W W') : W'.ownsRow B e size v n xs := by
  obtain ⟨h1, h2⟩ := h
  refine ⟨h1, ?_⟩
  rcases h2 with ⟨h2, h3⟩ | ⟨g, cap, cur, h2, hg, hh, r⟩
  · exact .inl ⟨h2, h3⟩
  · refine .inr ⟨g, cap, cur, h2, hg, ?_, r⟩
    rw [hb.block _ (Array.getElem?_eq_some_iff.1 hh).1]
    exact hh
def OwnB (w : World) (B : Nat) (v : Value) (l : List (Int × Int)) : Prop := w.ownsRow B 40 2 v l.length (flat l)
theorem OwnB.pts {w : World} {B : Nat} {v : Value} {l : List (Int × Int)} (h : OwnB w B v l) : Pts w v l := by
  have h' := h
  obtain ⟨_, h2⟩ := h
  rcases h2 with ⟨rfl, hn⟩ | ⟨g, cap, cur, rfl, hg, hh, hc, hm, hs, ht⟩
  · exact ⟨none, 0, by rw [hn], by omega, .inl hn⟩
  · have hlt : g < w.heap.size := (Array.getElem?_eq_some_iff.1 hh).1
    unfold maxLen at hm
    refine ⟨_, cap, rfl, ⟨hc, by omega⟩, .inr ⟨g, 0, rfl, hlt, fun j hj => ?_⟩⟩
    have hcell := World.ownsRow.cells h' (g := g) rfl
    have hf := flat_at l j hj
    have c0 := hcell _ _ hf.1
    have c1 := hcell _ _ hf.2
    rw [Go.WideShapes.add_plain] at c0 c1
    exact ⟨c0, by rw [Nat.add_assoc]; exact c1⟩
theorem flat_set (l : List (Int × Int)) (k : Nat) (x y : Int) : ((flat l).set (k * 2) (.int .i64 x)).set (k * 2 + 1) (.int .i64 y) = flat (l.set k (x, y)) := by
  induction l generalizing k with
  | nil => simp [flat]
  | cons q l ih =>
    cases k with
    | zero => simp [flat]
    | succ k =>
      rw [show (k + 1) * 2 = k * 2 + 1 + 1 by omega]
      simp only [flat, List.set_cons_succ]
      rw [ih]
theorem OwnB.put {w : World} {B g n cap : Nat} {l : List (Int × Int)} (hn : l.length = n) (h : OwnB w B (.slice (some ⟨g, 0, none⟩) n cap) l) (k : Nat) (x y : Int) : OwnB ((w.setCell ⟨g, k * 2, none⟩ (.int .i64 x)).setCell ⟨g, k * 2 + 1, none⟩ (.int .i64 y)) B (.slice (some ⟨g, 0, none⟩) n cap) (l.set k (x, y)) := by
  subst hn
  have h0 : w.ownsRow B 40 2 (.slice (some ⟨g, 0, none⟩) l.length cap) l.length (flat l) := h
  have h1 := (World.ownsRow.stored h0 (k * 2) (.int .i64 x)).1
  have h2 := (World.ownsRow.stored h1 (k * 2 + 1) (.int .i64 y)).1
  rw [flat_set] at h2
  unfold OwnB
  rw [List.length_set]
  exact h2
theorem bd_info : (Try.prog.info? 40).map (fun i => (i.zero, i.size, i.bytes)) = some (some (.agg #[.int .i64 0, .int .i64 0]), 2, 16) := by kernel_rfl
theorem madeBd (n : Nat) : (madeCells (Value.agg #[.int .i64 0, .int .i64 0]).cells (n * 2)).toList = flat (List.replicate n ((0, 0) : Int × Int)) := by
  apply List.ext_getElem?
  intro i
  by_cases hi : i < n * 2
  · have h1 : ∃ j, j < n ∧ (i = j * 2 ∨ i = j * 2 + 1) := ⟨i / 2, by omega, by omega⟩
    obtain ⟨j, hj, e⟩ := h1
    have f := flat_at (List.replicate n ((0, 0) : Int × Int)) j (by simpa using hj)
    have g0 : gX (List.replicate n ((0, 0) : Int × Int)) j = 0 ∧ gR (List.replicate n ((0, 0) : Int × Int)) j = 0 := by
      simp [gX, gR, List.getD_eq_getElem?_getD, List.getElem?_replicate, hj]
    rw [g0.1, g0.2] at f
    rcases e with rfl | rfl
    · rw [f.1]
      simp [madeCells, Value.cells, hi]
    · rw [f.2]
      simp [madeCells, Value.cells, hi, show (j * 2 + 1) % 2 = 1 by omega]
  · rw [List.getElem?_eq_none (by simp [madeCells, Value.cells]; omega), List.getElem?_eq_none (by rw [flat_len]; simp; omega)]
theorem set_nextB {f : Nat → Int × Int} (k m : Nat) (h : k < m) : ((List.range k).map f ++ List.replicate (m - k) (0, 0)).set k (f k) = (List.range (k + 1)).map f ++ List.replicate (m - (k + 1)) (0, 0) := by
  obtain ⟨d, rfl⟩ : ∃ d, m = k + 1 + d := ⟨m - (k + 1), by omega⟩
  rw [show k + 1 + d - k = d + 1 by omega, show k + 1 + d - (k + 1) = d by omega, List.replicate_succ, List.range_succ, List.map_append, List.set_append_right _ _ (by simp)]
  simp
set_option maxRecDepth 100000 in
set_option maxHeartbeats 8000000 in
theorem lyStr_ok (nm : ByteArray) (cps dc : Int) (a : Option Addr) (m cap : Nat) (u : Value) (b3 off3 q cap3 : Nat) (f : Nat → Int × Int) (w : World) (q1 : 1 ≤ q) (q2 : q ≤ 64) (hcap : q + 1 ≤ cap3 ∧ cap3 ≤ 9223372036854775807)
    (H1 : Hid (∀ W, Below w.heap.size w W → Calls Try.prog 48 #[.agg #[.string nm, .int .i64 cps, .slice a m cap, .int .i64 dc], u, .slice (some ⟨b3, off3, none⟩) (q + 1) cap3] W fun e w' => e = .returned (.int .i64 0) ∧ Below W.heap.size W w'))
    (H2 : Hid (∀ k W, k < q → Below w.heap.size w W → Calls Try.prog 49 #[.slice a m cap, u, .slice (some ⟨b3, off3 + k, none⟩) 2 (cap3 - k)] W fun e w' => e = .returned (.agg #[.int .i64 (f k).1, .int .i64 (f k).2]) ∧ Below W.heap.size W w')) :
    Calls Try.prog 19 #[.agg #[.string nm, .int .i64 cps, .slice a m cap, .int .i64 dc], u, .slice (some ⟨b3, off3, none⟩) (q + 1) cap3] w fun e w' => ∃ v, e = .returned (.tuple #[v, .int .i64 0]) ∧ Pts w' v ((List.range q).map f) ∧ Below w.heap.size w w' := by
  obtain ⟨i0, hi, hz0, hz1, hz2⟩ := info_parts bd_info
  have F0 := Lib.hid (Quad.new w (.string nm) (.int .i64 cps) (.slice a m cap) (.int .i64 dc) 24)
  have wq : IntKind.i64.wrap ((q : Int) + 1 - 1) = (q : Int) := by rw [wrap_in _ ⟨by omega, by omega⟩]; omega
  have wq2 : IntKind.i64.wrap (q : Int) = (q : Int) := wrap_in _ ⟨by omega, by omega⟩
  go_enter Try.func19, Try.ntmps19
  go_wp2_with fail
  refine (H1.out _ (bel_alloc (Below.refl _ _))).mono ?_
  rintro e w1 ⟨rfl, gg⟩
  replace F0 := Lib.hid (F0.out.below gg)
  have X1 := Lib.hid (bel_alloc gg); clear gg
  have hw1 : w.heap.size < w1.heap.size := F0.out.2.2.2.2.2
  go_wp2_with (at_make; refine wpList_make_full _ rfl _ _ 43 rfl w1.heap.size 40 i0 (.agg #[.int .i64 0, .int .i64 0]) 2 Try.underlying43 hi hz0 hz1 .i64 .i64 _ _ q rfl rfl (by omega) (by omega) (by rw [hz2]; omega) (by unfold maxLen; omega) (Nat.le_refl _) ?_; intro w2 ho2 hg2)
  rw [madeBd] at ho2
  have O2 : Hid (OwnB w2 w1.heap.size (.slice (some ⟨w1.heap.size, 0, none⟩) q q) ((List.range 0).map f ++ List.replicate (q - 0) (0, 0))) := Lib.hid (by
    show OwnB _ _ _ (List.replicate q (0, 0))
    unfold OwnB
    rw [List.length_replicate]
    exact ho2)
  have X2 := Lib.hid ((Below.refl w1.heap.size w1).grown hg2 (Nat.le_refl _) (by simp))
  clear ho2 hg2
  go_loopw [24] (fun ii wr => ∃ k : Nat, k ≤ q ∧ ii = .int .i64 k ∧ Hid (OwnB wr w1.heap.size (.slice (some ⟨w1.heap.size, 0, none⟩) q q) ((List.range k).map f ++ List.replicate (q - k) (0, 0))) ∧ Hid (Below w1.heap.size w1 wr)) (fun ii _ => q - (intOf ii).toNat)
  case atStart => exact ⟨0, Nat.zero_le _, rfl, O2, X2⟩
  case round =>
    obtain ⟨k, hk, rfl, hO, hB⟩ := hrel
    by_cases hlt : k < q
    · have HB := Lib.hid (fun W (hW : Below wr.heap.size wr W) => H2.out k W hlt (bel_trans (X1.out.trans (hB.out.mono X1.out.size)) hW))
      have S3 := Lib.hid (set_nextB (f := f) k q hlt)
      have hln : ((List.range k).map f ++ List.replicate (q - k) ((0, 0) : Int × Int)).length = q := by simp; omega
      generalize (List.range k).map f ++ List.replicate (q - k) ((0, 0) : Int × Int) = L at *
      have hkl : k < L.length := by omega
      have RC : Hid (∀ W, Below wr.heap.size wr W → OwnB W w1.heap.size (.slice (some ⟨w1.heap.size, 0, none⟩) q q) L ∧ W.cell? ⟨w1.heap.size, k * 2, none⟩ = some (.int .i64 (gX L k)) ∧ W.cell? ⟨w1.heap.size, k * 2 + 1, none⟩ = some (.int .i64 (gR L k)) ∧ W.frozen? ⟨w1.heap.size, k * 2, none⟩ = false ∧ W.frozen? ⟨w1.heap.size, k * 2 + 1, none⟩ = false ∧ W.cell? ⟨w.heap.size, 2, none⟩ = some (.slice a m cap)) := Lib.hid fun W hW => by
        have O : OwnB W w1.heap.size (.slice (some ⟨w1.heap.size, 0, none⟩) q q) L := row_belB hO.out hW
        obtain ⟨b', o', e, _, hc⟩ := O.pts.at (by omega)
        simp only [Option.some.injEq, Addr.mk.injEq, and_true] at e
        obtain ⟨rfl, rfl⟩ := e
        have := hc k (by omega)
        simp only [Nat.zero_add] at this
        have hr : W.ownsRow w1.heap.size 40 2 (.slice (some ⟨w1.heap.size, 0, none⟩) q q) L.length (flat L) := O
        rw [hln] at hr
        exact ⟨O, this.1, this.2, World.ownsRow.frozenAt hr _, World.ownsRow.frozenAt hr _, (F0.out.below (hB.out.trans (hW.mono hB.out.size))).2.2.1⟩
      obtain ⟨_, r0, r1, r2, r3, u2⟩ := RC.out wr (Below.refl _ _)
      generalize gX L k = z0 at *
      generalize gR L k = z1 at *
      have hf := Lib.hid (show f k = ((f k).1, (f k).2) from rfl)
      generalize (f k).1 = y0 at *
      generalize (f k).2 = y1 at *
      have l0 : (k : Int) < (q : Int) := by omega
      have l1 : IntKind.i64.wrap ((k : Int) + 2) = (k : Int) + 2 := wrap_in _ ⟨by omega, by omega⟩
      have l2 : ((k : Int) + 2).toNat = k + 2 := by omega
      have l3 : (k : Int) + 2 ≤ (cap3 : Int) := by omega
      have l4 : (k : Int) ≤ (k : Int) + 2 := by omega
      have l5 : ¬ cap3 = k := by omega
      have l6 : 0 ≤ (k : Int) + 2 := by omega
      have l7 : w.heap.size ≠ w1.heap.size := by omega
      have l8 : w1.heap.size ≠ w.heap.size := by omega
      go_wp2_with fail
      go_region_held3 (fun w' => w'.cell? ⟨w.heap.size, 2, none⟩ = some (.slice a m cap)) (go_keep) (first | (go_at_call 49; refine (HB.out _ (bel_drew wr)).mono ?_; rintro e w5 ⟨rfl, gg⟩; have X5 := Lib.hid (bel_trans (bel_drew wr) gg); obtain ⟨o5, q0, q1, q2, q3, q4⟩ := RC.out _ X5.out; have O5 := Lib.hid o5; clear o5 gg))
      go_wp2
      go_roundw
      case rel =>
        refine ⟨k + 1, by omega, by go_num, Lib.hid (by rw [← S3.out, hf.out]; exact O5.out.put hln k y0 y1), Lib.hid ?_⟩
        exact ((hB.out.trans (X5.out.mono hB.out.size)).setCell (p := ⟨w1.heap.size, k * 2, none⟩) (Nat.le_refl _) _).setCell (p := ⟨w1.heap.size, k * 2 + 1, none⟩) (Nat.le_refl _) _
      case measure => simp [intOf]; omega
    · obtain rfl : k = q := by omega
      have P := Lib.hid hO.out.pts
      go_wp2
      go_returns
      refine ⟨_, rfl, ?_, bel_trans X1.out hB.out⟩
      have := P.out
      rwa [Nat.sub_self, List.replicate_zero, List.append_nil] at this
end Go.Proofs.Ytgjdopjolokaiaa

/- Integers of the call's own. -/
namespace Go.Proofs.Ytgjdopjolokaiaa
open Go.RowKit

def OwnI (w : World) (B : Nat) (v : Value) (zs : List Int) : Prop := w.ownsRow B 3 1 v zs.length (zs.map (Value.int .i64))
theorem OwnI.alloc {w : World} {B : Nat} {v : Value} {zs : List Int} (h : OwnI w B v zs) (o : Obj) : OwnI (w.alloc o) B v zs := World.ownsRow.alloc h o
theorem OwnI.drew {w : World} {B : Nat} {v : Value} {zs : List Int} (h : OwnI w B v zs) : OwnI w.drew B v zs := h
theorem OwnI.nums {w : World} {B : Nat} {v : Value} {zs : List Int} (h : OwnI w B v zs) : Nums w v zs := nums_of_own h
theorem OwnI.lit (w : World) (B : Nat) (x : Int) (hB : B ≤ w.heap.size) : OwnI (w.alloc (.cells #[.int .i64 x] 3)) B (.slice (some ⟨w.heap.size, 0, none⟩) 1 1) [x] := by
  show World.ownsRow _ _ _ _ _ 1 _
  exact
  ⟨rfl, .inr ⟨w.heap.size, 1, #[.int .i64 x], rfl, hB, by show (w.heap.push _)[w.heap.size]? = _; exact Array.getElem?_push_size, by omega, by unfold maxLen; omega, rfl, rfl⟩⟩
theorem OwnI.nil (w : World) (B : Nat) : OwnI w B (.slice none 0 0) [] := ⟨rfl, .inl ⟨rfl, rfl⟩⟩
theorem OwnI.push {w' : World} {B n : Nat} {v' : Value} {zs : List Int} {x : Int} (hn : n = zs.length) (h : w'.ownsRow B 3 1 v' (n + 1) (zs.map (Value.int .i64) ++ [.int .i64 x])) : OwnI w' B v' (zs ++ [x]) := by
  subst hn
  unfold OwnI
  rw [List.length_append, List.map_append]
  exact h
/-- the last of them, and where they lie -/
theorem OwnI.form {w : World} {B : Nat} {v : Value} {zs : List Int} (h : OwnI w B v zs) (h0 : 0 < zs.length) : ∃ g cap, v = .slice (some ⟨g, 0, none⟩) zs.length cap ∧ B ≤ g ∧ g < w.heap.size ∧ zs.length ≤ cap ∧ cap ≤ 9223372036854775807 ∧ ∀ j, j < zs.length → w.cell? ⟨g, j, none⟩ = some (.int .i64 (zs.getD j 0)) := by
  have hlt := fun j hj => World.ownsRow.lt h j hj
  obtain ⟨a, cap, e, hc, hh⟩ := h.nums
  rcases hh with hh | ⟨b, off, rfl, hb, hcell⟩
  · omega
  · obtain ⟨_, h2⟩ := h
    rcases h2 with ⟨h3, _⟩ | ⟨g, cap', cur, h3, hg, _⟩
    · rw [h3] at e; simp at e
    · rw [h3] at e
      simp only [Value.slice.injEq, Option.some.injEq, Addr.mk.injEq, and_true, true_and] at e
      obtain ⟨⟨rfl, rfl⟩, rfl⟩ := e
      exact ⟨g, cap', h3, hg, hb, hc.1, hc.2, fun j hj => by have := hcell j hj; rwa [Nat.zero_add] at this⟩
/-! ### places of m-fold slices -/
def plS (out : List Int) (x : Int) : List Int := if out.getD (out.length - 1) 0 < x then out ++ [x] else out
def plK (p q m : Int) (out : List Int) : Nat → List Int
  | 0 => out
  | k + 1 => plS (plK p q m out k) (p + ((k : Int) + 1) * (q - p) / m)
def plO (l : List (Int × Int)) (m : Nat) : Nat → List Int
  | 0 => [0]
  | i + 1 => plK (gX l i) (gX l (i + 1)) m (plO l m i) m
theorem plS_len (out : List Int) (x : Int) : out.length ≤ (plS out x).length ∧ (plS out x).length ≤ out.length + 1 := by
  unfold plS
  split
  · rw [List.length_append]; simp
  · omega
theorem plK_len (p q m : Int) (out : List Int) (k : Nat) : out.length ≤ (plK p q m out k).length ∧ (plK p q m out k).length ≤ out.length + k := by
  induction k with
  | zero => exact ⟨Nat.le_refl _, Nat.le_refl _⟩
  | succ k ih =>
    have := plS_len (plK p q m out k) (p + ((k : Int) + 1) * (q - p) / m)
    show out.length ≤ (plS _ _).length ∧ (plS _ _).length ≤ _
    omega
theorem plO_len (l : List (Int × Int)) (m i : Nat) : 1 ≤ (plO l m i).length ∧ (plO l m i).length ≤ 1 + i * m := by
  induction i with
  | zero => simp [plO]
  | succ i ih =>
    have := plK_len (gX l i) (gX l (i + 1)) m (plO l m i) m
    show 1 ≤ (plK _ _ _ _ m).length ∧ (plK _ _ _ _ m).length ≤ _
    rw [Nat.succ_mul]
    omega
end Go.Proofs.Ytgjdopjolokaiaa

/- The reference of layer 11: places of m-fold slices. -/
namespace Go.Proofs.Ytgjdopjolokaiaa
open Go.RowKit

theorem cell_oneN (w : World) (x : Value) (T : TypeId) : ∀ j u, [x][j]? = some u → (w.alloc (.cells #[x] T)).cell? ((⟨w.heap.size, 0, none⟩ : Addr).add j) = some u := by
  intro j u hj
  match j, hj with
  | 0, hj => simp at hj; subst hj; simp [Addr.add, go_sem]
  | j + 1, hj => simp at hj
set_option maxRecDepth 100000 in
set_option maxHeartbeats 16000000 in
theorem rlyPl_some (b off n cap m : Nat) (l : List (Int × Int)) (w : World) (n0 : 2 ≤ n) (n1 : n ≤ 32) (m0 : 1 ≤ m) (m1 : m ≤ 64) (hn : Hid (n = l.length)) (hb : b < w.heap.size) (hR : Hid (RP l))
    (hc : Hid (∀ j, j < n → w.cell? ⟨b, off + j * 2, none⟩ = some (.int .i64 (gX l j)))) :
    Calls Try.prog 38 #[.slice (some ⟨b, off, none⟩) n cap, .int .i64 m] w fun e w' => ∃ v, e = .returned v ∧ Nums w' v (plO l m (n - 1)) ∧ Below w.heap.size w w' := by
  obtain ⟨i0, hi, hz0, hz1, hz2⟩ := info_parts info_int
  replace hi := Lib.hid hi
  replace hz0 := Lib.hid hz0
  replace hz1 := Lib.hid hz1
  replace hz2 := Lib.hid hz2
  go_enter Try.func38, Try.ntmps38
  go_wp2_with fail
  go_loopw [5, 6] (fun v ii wr => ∃ i : Nat, i + 1 ≤ n ∧ ii = .int .i64 ((i : Int) + 1) ∧ Hid (OwnI wr w.heap.size v (plO l m i)) ∧ Hid (Below w.heap.size w wr)) (fun _ ii _ => n - (intOf ii).toNat)
  case atStart => exact ⟨0, by omega, rfl, Lib.hid (OwnI.lit w _ 0 (Nat.le_refl _)), Lib.hid (bel_alloc (Below.refl _ _))⟩
  case round =>
    obtain ⟨i, hi1, rfl, hown, hB⟩ := hrel
    by_cases hlt : i + 1 < n
    · have d0 : wr.cell? ⟨b, off + i * 2, none⟩ = some (.int .i64 (gX l i)) := by rw [(bcell hB.out).1 _ _ hb]; exact hc.out i (by omega)
      have d1 : wr.cell? ⟨b, off + (i + 1) * 2, none⟩ = some (.int .i64 (gX l (i + 1))) := by rw [(bcell hB.out).1 _ _ hb]; exact hc.out (i + 1) hlt
      have bx0 := hR.out.bx i (by rw [← hn.out]; omega)
      have bx1 := hR.out.bx (i + 1) (by rw [← hn.out]; exact hlt)
      have as0 := hR.out.asc i (by rw [← hn.out]; exact hlt)
      have ln := plO_len l m i
      have li : i * m ≤ 31 * 64 := Nat.mul_le_mul (by omega) m1
      have PO : Hid (plO l m (i + 1) = plK (gX l i) (gX l (i + 1)) m (plO l m i) m) := Lib.hid rfl
      generalize plO l m i = out at *
      generalize gX l i = p at *
      generalize gX l (i + 1) = q at *
      have wj : IntKind.i64.wrap ((i : Int) + 1 - 1) = (i : Int) := by rw [wrap_in _ ⟨by omega, by omega⟩]; omega
      have wk : IntKind.i64.wrap (i : Int) = (i : Int) := wrap_in _ ⟨by omega, by omega⟩
      have l0 : (i : Int) < (n : Int) := by omega
      have l1 : (i : Int) + 1 < (n : Int) := by omega
      have l2 : i < n := by omega
      have l3 : 0 ≤ (i : Int) + 1 := by omega
      have l4 : ((i : Int) + 1).toNat = i + 1 := by omega
      go_wp2_with fail
      go_quiet (fail)
      replace hown : Hid (OwnI (wr.drewN nq) w.heap.size _ out) := Lib.hid (show OwnI wr w.heap.size _ out from hown.out)
      replace hB : Hid (Below w.heap.size w (wr.drewN nq)) := Lib.hid (bel_trans hB.out (bel_drewN _ _))
      clear d0 d1
      generalize wr.drewN nq = wq at *
      go_wp2_with fail
      go_loopw [5, 9] (fun v kk wr2 => ∃ k : Nat, k ≤ m ∧ kk = .int .i64 ((k : Int) + 1) ∧ Hid (OwnI wr2 w.heap.size v (plK p q m out k)) ∧ Hid (Below w.heap.size w wr2)) (fun _ kk _ => m + 1 - (intOf kk).toNat)
      case atStart => exact ⟨0, by omega, rfl, hown, hB⟩
      case round =>
        obtain ⟨k, hk, rfl, hown2, hB2⟩ := hrel
        by_cases hlk : k < m
        · have kl := plK_len p q m out k
          obtain ⟨g, cp, rfl, hg, hgs, hcp, hcp2, hgc⟩ := hown2.out.form (by omega)
          have PK : Hid (plK p q m out (k + 1) = plS (plK p q m out k) (p + ((k : Int) + 1) * (q - p) / m)) := Lib.hid rfl
          have mq : 0 ≤ ((k : Int) + 1) * (q - p) ∧ ((k : Int) + 1) * (q - p) ≤ 64 * 100000 := ⟨Int.mul_nonneg (by omega) (by omega), Int.mul_le_mul (by omega) (by omega) (by omega) (by omega)⟩
          have dq : 0 ≤ ((k : Int) + 1) * (q - p) / m ∧ ((k : Int) + 1) * (q - p) / m ≤ ((k : Int) + 1) * (q - p) := ⟨Int.ediv_nonneg mq.1 (by omega), Int.ediv_le_self _ mq.1⟩
          have wq1 : IntKind.i64.wrap (q - p) = q - p := wrap_in _ ⟨by omega, by omega⟩
          have wq2 : IntKind.i64.wrap (((k : Int) + 1) * (q - p)) = ((k : Int) + 1) * (q - p) := wrap_in _ ⟨by omega, by omega⟩
          obtain ⟨D, hD⟩ : ∃ D, D = ((k : Int) + 1) * (q - p) / m := ⟨_, rfl⟩
          obtain ⟨x, hx⟩ : ∃ x, x = p + D := ⟨_, rfl⟩
          have wq3 : IntKind.i64.wrap ((((k : Int) + 1) * (q - p)).tdiv m) = D := by rw [Int.tdiv_eq_ediv_of_nonneg mq.1, hD]; exact wrap_in _ ⟨by omega, by omega⟩
          rw [← hD] at dq PK
          have wq4 : IntKind.i64.wrap (p + D) = x := by rw [hx]; exact wrap_in _ ⟨by omega, by omega⟩
          rw [← hx] at PK
          replace hD := Lib.hid hD
          replace hx := Lib.hid hx
          have mz : ¬ (m : Int) = 0 := by omega
          have lm : (k : Int) + 1 ≤ (m : Int) := by omega
          obtain ⟨t, ht⟩ : ∃ t, (plK p q m out k).length = t + 1 := ⟨(plK p q m out k).length - 1, by omega⟩
          have gl : wr.cell? ⟨g, t, none⟩ = some (.int .i64 ((plK p q m out k).getD t 0)) := hgc t (by omega)
          have eS : Hid (plS (plK p q m out k) x = if (plK p q m out k).getD t 0 < x then plK p q m out k ++ [x] else plK p q m out k) := Lib.hid (by unfold plS; rw [ht, Nat.add_sub_cancel])
          rw [ht] at hown2 hcp ⊢
          have wt : IntKind.i64.wrap ((t : Int) + 1 - 1) = (t : Int) := by rw [wrap_in _ ⟨by omega, by omega⟩]; omega
          have wu : IntKind.i64.wrap (t : Int) = (t : Int) := wrap_in _ ⟨by omega, by omega⟩
          have tl : t + 1 ≤ 4000 := by omega
          replace ht := Lib.hid ht
          replace PK := Lib.hid (PK.out.trans eS.out)
          generalize (plK p q m out k).getD t 0 = y at *
          have CN := Lib.hid (cell_oneN wr (.int .i64 x) 3)
          have HS : Hid (w.heap.size ≤ (wr.alloc (.cells #[.int .i64 x] 3)).heap.size) := Lib.hid (Nat.le_trans hB2.out.size (bel_alloc (Below.refl _ _)).size)
          by_cases hxy : y < x
          · have OA := Lib.hid (hown2.out.alloc (.cells #[.int .i64 x] 3))
            rw [if_pos hxy] at PK
            unfold OwnI at OA
            rw [ht.out] at OA
            clear eS
            go_wp2_with (at_builtin; refine wpList_append_own_at _ rfl _ _ 25 rfl w.heap.size 3 i0 (.int .i64 0) 1 8 Try.underlying25 hi.out hz0.out hz1.out hz2.out rfl (by omega) _ _ _ rfl OA.out ⟨wr.heap.size, 0, none⟩ 1 1 [.int .i64 x] rfl rfl CN.out (by intro u hu; rw [List.mem_singleton] at hu; rw [hu]; rfl) ?qd4 ?qd5 HS.out ?_)
            case qd4 => unfold maxLen; omega
            case qd5 => omega
            intro v2 w2 hown3 hgrow _ _
            have SN : Hid (OwnI w2 w.heap.size v2 (plK p q m out (k + 1))) := Lib.hid (by rw [PK.out]; exact OwnI.push ht.out.symm hown3)
            have B2 := Lib.hid ((bel_trans hB2.out (bel_alloc (o := .cells #[.int .i64 x] 3) (Below.refl _ _))).grown hgrow HS.out (fun q hq => (World.ownsRow.lt hown2.out q hq).1))
            clear hown3 hgrow OA CN
            go_wp2
            go_roundw
            case rel => exact ⟨k + 1, by omega, by go_num, SN, B2⟩
            case measure => simp [intOf]; omega
          · rw [if_neg hxy] at PK
            clear eS CN HS
            go_wp2
            go_roundw
            case rel => exact ⟨k + 1, by omega, by go_num, Lib.hid (by rw [PK.out]; exact hown2.out), hB2⟩
            case measure => simp [intOf]; omega
        · obtain rfl : k = m := by omega
          go_wp2
          go_roundw
          case rel => exact ⟨i + 1, by omega, by go_num, Lib.hid (by rw [PO.out]; exact hown2.out), hB2⟩
          case measure => simp [intOf]; omega
    · have hjn : i = n - 1 := by omega
      rw [hjn] at hown
      go_wp2
      go_returns
      exact ⟨_, rfl, hown.out.nums, hB.out⟩
end Go.Proofs.Ytgjdopjolokaiaa

/- Plain facts of layer 11: the places of m-fold slices are right. No program stands in this text. -/
namespace Go.Proofs.Ytgjdopjolokaiaa

/-- places that increase, from 0 to z -/
structure AscTo (out : List Int) (z : Int) : Prop where
  n0 : 1 ≤ out.length
  f : out.getD 0 0 = 0
  e : out.getD (out.length - 1) 0 = z
  asc : ∀ i, i + 1 < out.length → out.getD i 0 < out.getD (i + 1) 0
theorem getD_snoc {out : List Int} {x : Int} (i : Nat) : (out ++ [x]).getD i 0 = if i < out.length then out.getD i 0 else if i = out.length then x else 0 := by
  by_cases h : i < out.length
  · rw [if_pos h, List.getD_eq_getElem?_getD, List.getElem?_append_left h, ← List.getD_eq_getElem?_getD]
  · rw [if_neg h]
    by_cases h2 : i = out.length
    · rw [if_pos h2, h2, List.getD_eq_getElem?_getD, List.getElem?_append_right (Nat.le_refl _)]; simp
    · rw [if_neg h2, List.getD_eq_getElem?_getD, List.getElem?_eq_none (by rw [List.length_append]; simp; omega)]; rfl
theorem plS_asc {out : List Int} {z x : Int} (h : AscTo out z) (hx : z ≤ x) : AscTo (plS out x) x ∧ (∀ i, i < out.length → (plS out x).getD i 0 = out.getD i 0) := by
  unfold plS
  obtain ⟨n0, f, e, asc⟩ := h
  rw [e]
  by_cases g : z < x
  · rw [if_pos g]
    refine ⟨⟨by rw [List.length_append]; simp, ?_, ?_, fun i hi => ?_⟩, fun i hi => ?_⟩
    · rw [getD_snoc, if_pos (by omega), f]
    · rw [List.length_append, getD_snoc]; simp
    · rw [List.length_append] at hi
      simp at hi
      rw [getD_snoc, getD_snoc, if_pos (by omega)]
      by_cases g2 : i + 1 < out.length
      · rw [if_pos g2]; exact asc i g2
      · rw [if_neg g2, if_pos (by omega), show i = out.length - 1 by omega, e]; exact g
    · rw [getD_snoc, if_pos hi]
  · rw [if_neg g]
    exact ⟨⟨n0, f, by rw [e]; omega, asc⟩, fun i _ => rfl⟩
theorem plK_asc {out : List Int} {p q m : Int} (h : AscTo out p) (hq : p ≤ q) (hm : 1 ≤ m) (k : Nat) : AscTo (plK p q m out k) (p + (k : Int) * (q - p) / m) ∧ (∀ i, i < out.length → (plK p q m out k).getD i 0 = out.getD i 0) := by
  induction k with
  | zero =>
    refine ⟨?_, fun i _ => rfl⟩
    show AscTo out _
    simpa using h
  | succ k ih =>
    obtain ⟨i1, i2⟩ := ih
    have mono : p + (k : Int) * (q - p) / m ≤ p + ((k : Int) + 1) * (q - p) / m := by
      have := Int.ediv_le_ediv (a := (k : Int) * (q - p)) (b := ((k : Int) + 1) * (q - p)) (c := m) (by omega) (by rw [Int.add_mul]; omega)
      omega
    obtain ⟨j1, j2⟩ := plS_asc i1 mono
    have ln := (plK_len p q m out k).1
    refine ⟨by rw [Int.natCast_succ]; exact j1, fun i hi => ?_⟩
    show (plS (plK p q m out k) _).getD i 0 = _
    rw [j2 i (by omega), i2 i hi]
theorem plO_asc {l : List (Int × Int)} (hR : RP l) {m : Nat} (hm : 1 ≤ m) (i : Nat) (hi : i < l.length) : AscTo (plO l m i) (gX l i) ∧ ∀ j, j ≤ i → ∃ t, t < (plO l m i).length ∧ (plO l m i).getD t 0 = gX l j := by
  induction i with
  | zero =>
    refine ⟨⟨by simp [plO], rfl, ?_, fun i hi => by simp [plO] at hi⟩, fun j hj => ?_⟩
    · rw [hR.x0]; rfl
    · obtain rfl : j = 0 := by omega
      exact ⟨0, by simp [plO], by rw [hR.x0]; rfl⟩
  | succ i ih =>
    obtain ⟨a, b⟩ := ih (by omega)
    have as0 := hR.asc i hi
    obtain ⟨c, d⟩ := plK_asc (m := (m : Int)) a (show gX l i ≤ gX l (i + 1) by omega) (by omega) m
    have em : gX l i + (m : Int) * (gX l (i + 1) - gX l i) / m = gX l (i + 1) := by
      rw [Int.mul_ediv_cancel_left _ (by omega)]; omega
    rw [em] at c
    have ln := (plK_len (gX l i) (gX l (i + 1)) m (plO l m i) m).1
    refine ⟨c, fun j hj => ?_⟩
    show ∃ t, t < (plK (gX l i) (gX l (i + 1)) m (plO l m i) m).length ∧ _
    by_cases g : j = i + 1
    · subst g
      exact ⟨_, by have := c.n0; omega, c.e⟩
    · obtain ⟨t, ht, et⟩ := b j (by omega)
      exact ⟨t, by omega, by show (plK _ _ _ _ m).getD t 0 = _; rw [d t ht]; exact et⟩
/-- the places of m-fold slices are right ones -/
theorem plO_right {l : List (Int × Int)} (hR : RP l) {m : Nat} (hm : 1 ≤ m) (n1 : (plO l m (l.length - 1)).length ≤ 128) : PlR l (plO l m (l.length - 1)) := by
  have n0 := hR.n0
  obtain ⟨a, b⟩ := plO_asc hR hm (l.length - 1) (by omega)
  refine ⟨?_, n1, a.f, a.e, a.asc, fun j hj => b j (by omega)⟩
  by_cases g : 2 ≤ (plO l m (l.length - 1)).length
  · exact g
  · have e := a.e
    have f := a.f
    rw [show (plO l m (l.length - 1)).length - 1 = 0 by omega, f] at e
    have := gX_lt hR (i := 0) (j := l.length - 1) (by omega) (by omega)
    rw [hR.x0] at this
    omega
/-- what Slices returns -/
def slE (l : List (Int × Int)) (m : Int) : Int := if ckE l = 0 then (if m < 1 ∨ 64 < m then 2 else if 65 < (plO l m.toNat (l.length - 1)).length then 15 else 0) else 1
def slP (l : List (Int × Int)) (m : Int) : List Int := if slE l m = 0 then plO l m.toNat (l.length - 1) else []
end Go.Proofs.Ytgjdopjolokaiaa

/- The reference of layer 11: Slices; what Wet and Dry have ready. -/
namespace Go.Proofs.Ytgjdopjolokaiaa
open Go.RowKit

theorem rlySl_bad (v : Value) (m E : Int) (w : World) (e1 : (E == 0) = false) (e2 : (E != 0) = true)
    (H1 : Hid (Calls Try.prog 30 #[v] w fun e w' => e = .returned (.int .i64 E) ∧ Below w.heap.size w w')) :
    Calls Try.prog 12 #[v, .int .i64 m] w fun e w' => e = .returned (.tuple #[.slice none 0 0, .int .i64 1]) ∧ Below w.heap.size w w' := by
  go_enter Try.func12, Try.ntmps12
  go_wp2_with fail
  refine H1.out.mono ?_
  rintro e w1 ⟨rfl, gg⟩
  have X1 := Lib.hid gg; clear gg
  go_wp2
  go_returns
  exact ⟨rfl, X1.out⟩
theorem rlySl_range (v : Value) (m : Int) (w : World) (h : m < 1 ∨ (1 ≤ m ∧ 64 < m))
    (H1 : Hid (Calls Try.prog 30 #[v] w fun e w' => e = .returned (.int .i64 0) ∧ Below w.heap.size w w')) :
    Calls Try.prog 12 #[v, .int .i64 m] w fun e w' => e = .returned (.tuple #[.slice none 0 0, .int .i64 2]) ∧ Below w.heap.size w w' := by
  rcases h with h | ⟨h, h2⟩
  all_goals
    go_enter Try.func12, Try.ntmps12
    go_wp2_with fail
    refine H1.out.mono ?_
    rintro e w1 ⟨rfl, gg⟩
    have X1 := Lib.hid gg; clear gg
    go_wp2
    go_returns
    exact ⟨rfl, X1.out⟩
theorem rlySl_ok (v : Value) (m : Int) (ps : List Int) (w : World) (h : 1 ≤ m) (h2 : m ≤ 64) (hp : ps.length ≤ 65)
    (H1 : Hid (Calls Try.prog 30 #[v] w fun e w' => e = .returned (.int .i64 0) ∧ Below w.heap.size w w'))
    (H2 : Hid (∀ W, Below w.heap.size w W → Calls Try.prog 38 #[v, .int .i64 m] W fun e w' => ∃ u, e = .returned u ∧ Nums w' u ps ∧ Below W.heap.size W w')) :
    Calls Try.prog 12 #[v, .int .i64 m] w fun e w' => ∃ u, e = .returned (.tuple #[u, .int .i64 0]) ∧ Nums w' u ps ∧ Below w.heap.size w w' := by
  go_enter Try.func12, Try.ntmps12
  go_wp2_with fail
  refine H1.out.mono ?_
  rintro e w1 ⟨rfl, gg⟩
  have X1 := Lib.hid gg; clear gg
  go_wp2_with fail
  refine (H2.out _ X1.out).mono ?_
  rintro e w2 ⟨u, rfl, hu, gg⟩
  replace X1 := Lib.hid (bel_trans X1.out gg); clear gg
  have HU := Lib.hid hu
  obtain ⟨a, cap, rfl, hcap, hz⟩ := hu
  clear hz
  replace hp := Lib.hid hp
  generalize hL : ps.length = L at *
  replace hL := Lib.hid hL
  have hp2 := hp.out
  go_wp2
  go_returns
  exact ⟨_, rfl, HU.out, X1.out⟩
theorem rlySl_many (v : Value) (m : Int) (ps : List Int) (w : World) (h : 1 ≤ m) (h2 : m ≤ 64) (hp : 65 < ps.length)
    (H1 : Hid (Calls Try.prog 30 #[v] w fun e w' => e = .returned (.int .i64 0) ∧ Below w.heap.size w w'))
    (H2 : Hid (∀ W, Below w.heap.size w W → Calls Try.prog 38 #[v, .int .i64 m] W fun e w' => ∃ u, e = .returned u ∧ Nums w' u ps ∧ Below W.heap.size W w')) :
    Calls Try.prog 12 #[v, .int .i64 m] w fun e w' => e = .returned (.tuple #[.slice none 0 0, .int .i64 15]) ∧ Below w.heap.size w w' := by
  go_enter Try.func12, Try.ntmps12
  go_wp2_with fail
  refine H1.out.mono ?_
  rintro e w1 ⟨rfl, gg⟩
  have X1 := Lib.hid gg; clear gg
  go_wp2_with fail
  refine (H2.out _ X1.out).mono ?_
  rintro e w2 ⟨u, rfl, hu, gg⟩
  replace X1 := Lib.hid (bel_trans X1.out gg); clear gg
  obtain ⟨a, cap, rfl, hcap, hz⟩ := hu
  clear hz
  generalize ps.length = L at *
  go_wp2
  go_returns
  exact ⟨rfl, X1.out⟩
theorem rlySl_any (v : Value) (l : List (Int × Int)) (m : Int) (w : World) (hv : Pts w v l) :
    Calls Try.prog 12 #[v, .int .i64 m] w fun e w' => ∃ u, e = .returned (.tuple #[u, .int .i64 (slE l m)]) ∧ Nums w' u (slP l m) ∧ Below w.heap.size w w' := by
  have H1 := Lib.hid (refCk_any v l w hv)
  have nn : ∀ W, Nums W (.slice none 0 0) [] := fun W => ⟨none, 0, rfl, by simp, .inl rfl⟩
  by_cases h : ckE l = 0
  · rw [h] at H1
    have hR := (ckE_iff l).1 h
    by_cases hm : m < 1 ∨ 64 < m
    · have e1 : slE l m = 2 := by unfold slE; rw [if_pos h, if_pos hm]
      have e2 : slP l m = [] := by unfold slP; rw [if_neg (by rw [e1]; decide)]
      rw [e1, e2]
      exact (rlySl_range v m w (by omega) H1).mono fun e w' ⟨g1, g2⟩ => ⟨_, g1, nn _, g2⟩
    · obtain ⟨k, rfl⟩ : ∃ k : Nat, m = k := ⟨m.toNat, by omega⟩
      have n0 := hR.n0
      have n1 := hR.n1
      have H2 : Hid (∀ W, Below w.heap.size w W → Calls Try.prog 38 #[v, .int .i64 k] W fun e w' => ∃ u, e = .returned u ∧ Nums w' u (plO l k (l.length - 1)) ∧ Below W.heap.size W w') := Lib.hid fun W hW => by
        have hv2 := hv.below hW
        obtain ⟨a, cap, rfl, hcap, hh⟩ := hv2
        rcases hh with hh | ⟨b, off, rfl, hb, hc⟩
        · omega
        · exact rlyPl_some b off _ cap k l W n0 n1 (by omega) (by omega) (Lib.hid rfl) hb (Lib.hid hR) (Lib.hid fun j hj => (hc j hj).1)
      by_cases hp : 65 < (plO l k (l.length - 1)).length
      · have e1 : slE l k = 15 := by unfold slE; rw [if_pos h, if_neg hm, Int.toNat_natCast, if_pos hp]
        have e2 : slP l k = [] := by unfold slP; rw [if_neg (by rw [e1]; decide)]
        rw [e1, e2]
        exact (rlySl_many v k _ w (by omega) (by omega) hp H1 H2).mono fun e w' ⟨g1, g2⟩ => ⟨_, g1, nn _, g2⟩
      · have e1 : slE l k = 0 := by unfold slE; rw [if_pos h, if_neg hm, Int.toNat_natCast, if_neg hp]
        have e2 : slP l k = plO l k (l.length - 1) := by unfold slP; rw [if_pos e1, Int.toNat_natCast]
        rw [e1, e2]
        exact rlySl_ok v k _ w (by omega) (by omega) (by omega) H1 H2
  · have e1 : slE l m = 1 := by unfold slE; rw [if_neg h]
    have e2 : slP l m = [] := by unfold slP; rw [if_neg (by rw [e1]; decide)]
    rw [e1, e2]
    exact (rlySl_bad v m _ w (by simpa using h) (by simpa using h) H1).mono fun e w' ⟨g1, g2⟩ => ⟨_, g1, nn _, g2⟩
end Go.Proofs.Ytgjdopjolokaiaa

/- Package lying: Strips as a whole, Slices. -/
namespace Go.Proofs.Ytgjdopjolokaiaa
open Go.RowKit

theorem two_strip (l : List (Int × Int)) (c : Int) (ps : List Int) (a b : Int) (k : Nat) : tbL l c ps [a, b] 1 k = xsL l c ps a b k ∧ tbH l c ps [a, b] 1 k = xsH l c ps a b k := by
  obtain ⟨e1, e2⟩ := tb_strip l c ps [a, b] 0 k
  obtain ⟨z1, z2⟩ := tb_zero l c ps [a, b] k
  rw [z1] at e1
  rw [z2] at e2
  refine ⟨?_, ?_⟩
  · rw [e1, Int.zero_add]; rfl
  · rw [e2, Int.zero_add]; rfl
theorem HR.two {hs : List Int} (h : HR hs) {i : Nat} (hi : i + 1 < hs.length) : HR [hs.getD i 0, hs.getD (i + 1) 0] := by
  have a := h.bd i (by omega)
  have b := h.bd (i + 1) hi
  have c := h.asc i hi
  refine ⟨by simp, by simp, fun j hj => ?_, fun j hj => ?_⟩
  · simp only [List.length_cons, List.length_nil] at hj
    match j, hj with
    | 0, _ => exact a
    | 1, _ => exact b
  · simp only [List.length_cons, List.length_nil] at hj
    obtain rfl : j = 0 := by omega
    exact c
/-- what Strips returns -/
noncomputable def stF (c : Ck) (ps hs : List Int) (i : Nat) : Int × Int := (xsL c.pf (bgR c.pf) ps (hs.getD i 0) (hs.getD (i + 1) 0) (ps.length - 1), xsH c.pf (bgR c.pf) ps (hs.getD i 0) (hs.getD (i + 1) 0) (ps.length - 1))
noncomputable def stL (c : Ck) (ps hs : List Int) : List (Int × Int) := if lrE c ps hs = 0 then (List.range (hs.length - 1)).map (stF c ps hs) else []
theorem lyStr_bad (v u h : Value) (E : Int) (nm : ByteArray) (cps dc : Int) (a : Option Addr) (m cap : Nat) (hv : v = .agg #[.string nm, .int .i64 cps, .slice a m cap, .int .i64 dc]) (w : World) (e1 : (E == 0) = false) (e2 : (E != 0) = true)
    (H1 : Hid (∀ W, Below w.heap.size w W → Calls Try.prog 48 #[v, u, h] W fun e w' => e = .returned (.int .i64 E) ∧ Below W.heap.size W w')) :
    Calls Try.prog 19 #[v, u, h] w fun e w' => e = .returned (.tuple #[.slice none 0 0, .int .i64 E]) ∧ Below w.heap.size w w' := by
  subst hv
  go_enter Try.func19, Try.ntmps19
  go_wp2_with fail
  refine (H1.out _ (bel_alloc (Below.refl _ _))).mono ?_
  rintro e w1 ⟨rfl, gg⟩
  have X1 := Lib.hid (bel_alloc gg); clear gg
  go_wp2
  go_returns
  exact ⟨rfl, X1.out⟩
theorem lyStr_any (v u h : Value) (c : Ck) (ps hs : List Int) (w : World) (hv : CkV w v c) (hu : Nums w u ps) (hh : Nums w h hs) :
    Calls Try.prog 19 #[v, u, h] w fun e w' => ∃ z, e = .returned (.tuple #[z, .int .i64 (lrE c ps hs)]) ∧ Pts w' z (stL c ps hs) ∧ Below w.heap.size w w' := by
  have H1 : Hid (∀ W, Below w.heap.size w W → _) := Lib.hid fun W hW => lyRd_any v u h c ps hs W (hv.below hW) (hu.below hW) (hh.below hW)
  have hv' := hv
  obtain ⟨a, cap, e, hp, _⟩ := hv'
  unfold stL
  by_cases g : lrE c ps hs = 0
  · obtain ⟨⟨⟨h1, h2⟩, h3, h4⟩, h5⟩ := lrE_zero.1 g
    obtain ⟨_, _, _, hR⟩ := ccE_pf h1
    have n0 := h5.n0
    have n1 := h5.n1
    rw [if_pos g, g]
    rw [g] at H1
    obtain ⟨a3, cap3, rfl, hc3, hz | ⟨b3, off3, rfl, hb3, hhs⟩⟩ := hh
    · omega
    obtain ⟨q, hq⟩ : ∃ q, hs.length = q + 1 := ⟨hs.length - 1, by omega⟩
    rw [hq] at H1 hc3 ⊢
    rw [Nat.add_sub_cancel]
    subst e
    refine lyStr_ok _ _ _ a _ cap u b3 off3 q cap3 (stF c ps hs) w (by omega) (by omega) ⟨hc3.1, hc3.2⟩ H1 (Lib.hid fun k W hk hW => ?_)
    have hn : Nums W (.slice (some ⟨b3, off3 + k, none⟩) 2 (cap3 - k)) [hs.getD k 0, hs.getD (k + 1) 0] := by
      refine ⟨_, cap3 - k, rfl, by simp; omega, .inr ⟨b3, off3 + k, rfl, Nat.lt_of_lt_of_le hb3 hW.size, fun j hj => ?_⟩⟩
      simp only [List.length_cons, List.length_nil] at hj
      rw [(bcell hW).1 _ _ hb3]
      match j, hj with
      | 0, _ => exact hhs k (by omega)
      | 1, _ => rw [Nat.add_assoc]; exact hhs (k + 1) (by omega)
    have := lyBt_any _ u _ c.pf ps _ W (hp.below hW) (hu.below hW) hn hR h3 h4 (h5.two (i := k) (by omega))
    rw [show [hs.getD k 0, hs.getD (k + 1) 0].length - 1 = 1 from rfl, (two_strip _ _ _ _ _ _).1, (two_strip _ _ _ _ _ _).2] at this
    exact this
  · rw [if_neg g]
    exact (lyStr_bad v u h _ _ _ _ a _ cap e w (by simpa using g) (by simpa using g) H1).mono fun e w' ⟨g1, g2⟩ => ⟨_, g1, pts_nil _, g2⟩
theorem lySl_bad (v : Value) (m E V : Int) (B : Bool) (a : Option Addr) (n cap : Nat) (hv : v = .slice a n cap) (w : World) (h : (((E == 0) = false ∧ (E != 0) = true) ∧ V = 1) ∨ (E = 0 ∧ B = false ∧ V = 2))
    (H1 : Hid (Calls Try.prog 36 #[v] w fun e w' => e = .returned (.int .i64 E) ∧ Below w.heap.size w w'))
    (H2 : Hid (∀ W, Calls Try.prog 37 #[.int .i64 m] W fun e w' => e = .returned (.bool B) ∧ W = w')) :
    Calls Try.prog 10 #[v, .int .i64 m] w fun e w' => e = .returned (.tuple #[.slice none 0 0, .int .i64 V]) ∧ Below w.heap.size w w' := by
  subst hv
  rcases h with ⟨⟨e1, e2⟩, rfl⟩ | ⟨rfl, rfl, rfl⟩
  · go_enter Try.func10, Try.ntmps10
    go_wp2_with fail
    refine H1.out.mono ?_
    rintro e w1 ⟨rfl, gg⟩
    have X1 := Lib.hid gg; clear gg
    go_wp2
    go_returns
    exact ⟨rfl, X1.out⟩
  · go_enter Try.func10, Try.ntmps10
    go_wp2_with fail
    refine H1.out.mono ?_
    rintro e w1 ⟨rfl, gg⟩
    have X1 := Lib.hid gg; clear gg
    go_wp2_with fail
    refine (H2.out _).mono ?_
    rintro e w2 ⟨rfl, hw⟩
    subst hw
    go_wp2
    go_returns
    exact ⟨rfl, X1.out⟩
theorem two_row {A B : World} {row : Option Nat} {b : Nat} {x y : Value} (h : Two b A x y) (hg : A.grownBy B row) (hr : row ≠ some b) : Two b B x y := by
  obtain ⟨h0, h1, h2, h3, h4⟩ := h
  have e := hg.block b h4 (fun e => hr e.symm)
  refine ⟨?_, ?_, ?_, ?_, Nat.lt_of_lt_of_le h4 hg.size⟩
  · simp only [World.cell?, e] at h0 ⊢; exact h0
  · simp only [World.cell?, e] at h1 ⊢; exact h1
  · simp only [World.frozen?, e] at h2 ⊢; exact h2
  · simp only [World.frozen?, e] at h3 ⊢; exact h3
set_option maxRecDepth 100000 in
set_option maxHeartbeats 16000000 in
theorem lySl_some (b off n cap m : Nat) (l : List (Int × Int)) (w : World) (n0 : 2 ≤ n) (n1 : n ≤ 32) (m0 : 1 ≤ m) (m1 : m ≤ 64) (hcap : n ≤ cap) (hn : Hid (n = l.length)) (hb : b < w.heap.size) (hR : Hid (RP l))
    (hc : Hid (∀ j, j < n → w.cell? ⟨b, off + j * 2, none⟩ = some (.int .i64 (gX l j)) ∧ w.cell? ⟨b, off + j * 2 + 1, none⟩ = some (.int .i64 (gR l j))))
    (H1 : Hid (Calls Try.prog 36 #[.slice (some ⟨b, off, none⟩) n cap] w fun e w' => e = .returned (.int .i64 0) ∧ Below w.heap.size w w'))
    (H2 : Hid (∀ W, Calls Try.prog 37 #[.int .i64 m] W fun e w' => e = .returned (.bool true) ∧ W = w')) :
    Calls Try.prog 10 #[.slice (some ⟨b, off, none⟩) n cap, .int .i64 m] w fun e w' => ∃ v E, e = .returned (.tuple #[v, .int .i64 E]) ∧ (((plO l m (n - 1)).length ≤ 65 ∧ E = 0 ∧ Nums w' v (plO l m (n - 1))) ∨ (65 < (plO l m (n - 1)).length ∧ E = 15 ∧ v = .slice none 0 0)) ∧ Below w.heap.size w w' := by
  obtain ⟨i0, hi, hz0, hz1, hz2⟩ := info_parts info_int
  replace hi := Lib.hid hi
  replace hz0 := Lib.hid hz0
  replace hz1 := Lib.hid hz1
  replace hz2 := Lib.hid hz2
  obtain ⟨q, rfl⟩ : ∃ q, n = q + 1 := ⟨n - 1, by omega⟩
  rw [Nat.add_sub_cancel]
  have hc1 : ¬ cap = 1 := by omega
  go_enter Try.func10, Try.ntmps10
  go_wp2_with fail
  refine H1.out.mono ?_
  rintro e w1 ⟨rfl, gg⟩
  have X1 := Lib.hid gg; clear gg
  go_wp2_with fail
  refine (H2.out _).mono ?_
  rintro e w2 ⟨rfl, hw⟩
  subst hw
  go_wp2_with fail
  go_loopw [6, 22] (fun v ii wr => ∃ i : Nat, i ≤ q ∧ ii = .int .i64 (i : Int) ∧ Hid (OwnI wr w.heap.size v (plO l m i)) ∧ Hid (Below w.heap.size w wr)) (fun _ ii _ => q - (intOf ii).toNat)
  case atStart => exact ⟨0, by omega, rfl, Lib.hid (OwnI.lit w1 _ 0 X1.out.size), Lib.hid (bA X1.out _)⟩
  case round =>
    obtain ⟨i, hi1, rfl, hown, hB⟩ := hrel
    by_cases hlt : i < q
    · have d0 : wr.cell? ⟨b, off + i * 2, none⟩ = some (.int .i64 (gX l i)) := by rw [(bcell hB.out).1 _ _ hb]; exact (hc.out i (by omega)).1
      have d1 : wr.cell? ⟨b, off + i * 2 + 1, none⟩ = some (.int .i64 (gR l i)) := by rw [(bcell hB.out).1 _ _ hb]; exact (hc.out i (by omega)).2
      have d2 : wr.cell? ⟨b, off + 2 + i * 2, none⟩ = some (.int .i64 (gX l (i + 1))) := by rw [show off + 2 + i * 2 = off + (i + 1) * 2 by omega, (bcell hB.out).1 _ _ hb]; exact (hc.out (i + 1) (by omega)).1
      have d3 : wr.cell? ⟨b, off + 2 + i * 2 + 1, none⟩ = some (.int .i64 (gR l (i + 1))) := by rw [show off + 2 + i * 2 + 1 = off + (i + 1) * 2 + 1 by omega, (bcell hB.out).1 _ _ hb]; exact (hc.out (i + 1) (by omega)).2
      have d0' : ∀ o, (wr.alloc o).cell? ⟨b, off + i * 2, none⟩ = some (.int .i64 (gX l i)) := fun o => cell_al o d0
      have d1' : ∀ o, (wr.alloc o).cell? ⟨b, off + i * 2 + 1, none⟩ = some (.int .i64 (gR l i)) := fun o => cell_al o d1
      have bx0 := hR.out.bx i (by rw [← hn.out]; omega)
      have bx1 := hR.out.bx (i + 1) (by rw [← hn.out]; omega)
      have as0 := hR.out.asc i (by rw [← hn.out]; omega)
      have ln := plO_len l m i
      have li : i * m ≤ 31 * 64 := Nat.mul_le_mul (by omega) m1
      have PO : Hid (plO l m (i + 1) = plK (gX l i) (gX l (i + 1)) m (plO l m i) m) := Lib.hid rfl
      generalize plO l m i = out at *
      generalize gX l i = p at *
      generalize gX l (i + 1) = x1 at *
      generalize gR l i = r0 at *
      generalize gR l (i + 1) = r1 at *
      have l0 : (i : Int) < (q : Int) := by omega
      have l1 : (i : Int) < (q : Int) + 1 := by omega
      have Q1 := Lib.hid ((Two.new wr (.int .i64 x1) (.int .i64 r1) 33).alloc (.cells #[.int .i64 p, .int .i64 r0] 33))
      have Q2 := Lib.hid (Two.new (wr.alloc (.cells #[.int .i64 x1, .int .i64 r1] 33)) (.int .i64 p) (.int .i64 r0) 33)
      rw [World.size_alloc] at Q2
      have O2 := Lib.hid ((hown.out.alloc (.cells #[.int .i64 x1, .int .i64 r1] 33)).alloc (.cells #[.int .i64 p, .int .i64 r0] 33))
      have B2 := Lib.hid (bA (bA hB.out (.cells #[.int .i64 x1, .int .i64 r1] 33)) (.cells #[.int .i64 p, .int .i64 r0] 33))
      have hown0 := hown
      clear hown hB
      go_wp2_with fail
      clear d0 d1 d2 d3 d0' d1'
      generalize (wr.alloc (.cells #[.int .i64 x1, .int .i64 r1] 33)).alloc (.cells #[.int .i64 p, .int .i64 r0] 33) = wq at *
      have hz : wr.heap.size + 1 < wq.heap.size := Q2.out.2.2.2.2
      have W1 : Hid (∀ k, (Value.ownBlock u6 : Option Nat) = some k → k ≠ wr.heap.size ∧ k ≠ wr.heap.size + 1) := Lib.hid fun k hk => by
        have := (World.ownsRow.lt hown0.out k hk).2
        omega
      clear hown0
      generalize wr.heap.size = zz at *
      go_loopw [6, 10] (fun v kk wr2 => ∃ k : Nat, k ≤ m ∧ kk = .int .i64 ((k : Int) + 1) ∧ Hid (OwnI wr2 w.heap.size v (plK p x1 m out k)) ∧ Hid (∀ k, (Value.ownBlock v : Option Nat) = some k → k ≠ zz ∧ k ≠ zz + 1) ∧ Hid (Two zz wr2 (.int .i64 x1) (.int .i64 r1)) ∧ Hid (Two (zz + 1) wr2 (.int .i64 p) (.int .i64 r0)) ∧ Hid (Below w.heap.size w wr2)) (fun _ kk _ => m + 1 - (intOf kk).toNat)
      case atStart => exact ⟨0, by omega, rfl, O2, W1, Q1, Q2, B2⟩
      case round =>
        obtain ⟨k, hk, rfl, hown2, hne, hQ1, hQ2, hB2⟩ := hrel
        by_cases hlk : k < m
        · have kl := plK_len p x1 m out k
          obtain ⟨g, cp, rfl, hg, hgs, hcp, hcp2, hgc⟩ := hown2.out.form (by omega)
          have hgn := hne.out g rfl
          have PK : Hid (plK p x1 m out (k + 1) = plS (plK p x1 m out k) (p + ((k : Int) + 1) * (x1 - p) / m)) := Lib.hid rfl
          have mq : 0 ≤ ((k : Int) + 1) * (x1 - p) ∧ ((k : Int) + 1) * (x1 - p) ≤ 64 * 100000 := ⟨Int.mul_nonneg (by omega) (by omega), Int.mul_le_mul (by omega) (by omega) (by omega) (by omega)⟩
          have dq : 0 ≤ ((k : Int) + 1) * (x1 - p) / m ∧ ((k : Int) + 1) * (x1 - p) / m ≤ ((k : Int) + 1) * (x1 - p) := ⟨Int.ediv_nonneg mq.1 (by omega), Int.ediv_le_self _ mq.1⟩
          have wq1 : IntKind.i64.wrap (x1 - p) = x1 - p := wrap_in _ ⟨by omega, by omega⟩
          have wq2 : IntKind.i64.wrap (((k : Int) + 1) * (x1 - p)) = ((k : Int) + 1) * (x1 - p) := wrap_in _ ⟨by omega, by omega⟩
          obtain ⟨D, hD⟩ : ∃ D, D = ((k : Int) + 1) * (x1 - p) / m := ⟨_, rfl⟩
          obtain ⟨x, hx⟩ : ∃ x, x = p + D := ⟨_, rfl⟩
          have wq3 : IntKind.i64.wrap ((((k : Int) + 1) * (x1 - p)).tdiv m) = D := by rw [Int.tdiv_eq_ediv_of_nonneg mq.1, hD]; exact wrap_in _ ⟨by omega, by omega⟩
          rw [← hD] at dq PK
          have wq4 : IntKind.i64.wrap (p + D) = x := by rw [hx]; exact wrap_in _ ⟨by omega, by omega⟩
          rw [← hx] at PK
          replace hD := Lib.hid hD
          replace hx := Lib.hid hx
          have mz : ¬ (m : Int) = 0 := by omega
          have lm : (k : Int) + 1 ≤ (m : Int) := by omega
          obtain ⟨t, ht⟩ : ∃ t, (plK p x1 m out k).length = t + 1 := ⟨(plK p x1 m out k).length - 1, by omega⟩
          have eS : Hid (plS (plK p x1 m out k) x = if (plK p x1 m out k).getD t 0 < x then plK p x1 m out k ++ [x] else plK p x1 m out k) := Lib.hid (by unfold plS; rw [ht, Nat.add_sub_cancel])
          have wt : IntKind.i64.wrap ((t : Int) + 1 - 1) = (t : Int) := by rw [wrap_in _ ⟨by omega, by omega⟩]; omega
          have wu : IntKind.i64.wrap (t : Int) = (t : Int) := wrap_in _ ⟨by omega, by omega⟩
          have tl : t + 1 ≤ 4000 := by omega
          obtain ⟨a0, a1, _, _, _⟩ := hQ1.out
          obtain ⟨c0, c1, _, _, _⟩ := hQ2.out
          rw [ht] at hown2 hcp ⊢
          go_wp2_with fail
          go_quiet (fail)
          replace hown2 : Hid (OwnI (wr.drewN nq) w.heap.size _ (plK p x1 m out k)) := Lib.hid (show OwnI wr w.heap.size _ _ from hown2.out)
          replace hQ1 : Hid (Two zz (wr.drewN nq) (.int .i64 x1) (.int .i64 r1)) := Lib.hid (hQ1.out.below (bel_drewN _ _))
          replace hQ2 : Hid (Two (zz + 1) (wr.drewN nq) (.int .i64 p) (.int .i64 r0)) := Lib.hid (hQ2.out.below (bel_drewN _ _))
          replace hB2 : Hid (Below w.heap.size w (wr.drewN nq)) := Lib.hid (bel_trans hB2.out (bel_drewN _ _))
          have gl : (wr.drewN nq).cell? ⟨g, t, none⟩ = some (.int .i64 ((plK p x1 m out k).getD t 0)) := hgc t (by omega)
          have hgs2 : g < (wr.drewN nq).heap.size := hgs
          clear a0 a1 c0 c1 hgc hgs
          generalize wr.drewN nq = w5 at *
          replace ht := Lib.hid ht
          replace PK := Lib.hid (PK.out.trans eS.out)
          generalize (plK p x1 m out k).getD t 0 = y at *
          have CN := Lib.hid (cell_oneN w5 (.int .i64 x) 3)
          have HS : Hid (w.heap.size ≤ (w5.alloc (.cells #[.int .i64 x] 3)).heap.size) := Lib.hid (Nat.le_trans hB2.out.size (bel_alloc (Below.refl _ _)).size)
          by_cases hxy : y < x
          · have OA := Lib.hid (hown2.out.alloc (.cells #[.int .i64 x] 3))
            rw [if_pos hxy] at PK
            unfold OwnI at OA
            rw [ht.out] at OA
            clear eS
            go_wp2_with (at_builtin; refine wpList_append_own_at _ rfl _ _ 25 rfl w.heap.size 3 i0 (.int .i64 0) 1 8 Try.underlying25 hi.out hz0.out hz1.out hz2.out rfl (by omega) _ _ _ rfl OA.out ⟨w5.heap.size, 0, none⟩ 1 1 [.int .i64 x] rfl rfl CN.out (by intro u hu; rw [List.mem_singleton] at hu; rw [hu]; rfl) ?qd4 ?qd5 HS.out ?_)
            case qd4 => unfold maxLen; omega
            case qd5 => omega
            intro v2 w2 hown3 hgrow _ hob
            have SN : Hid (OwnI w2 w.heap.size v2 (plK p x1 m out (k + 1))) := Lib.hid (by rw [PK.out]; exact OwnI.push ht.out.symm hown3)
            have B2 := Lib.hid ((bel_trans hB2.out (bel_alloc (o := .cells #[.int .i64 x] 3) (Below.refl _ _))).grown hgrow HS.out (fun q hq => (World.ownsRow.lt hown2.out q hq).1))
            have N1 := Lib.hid (two_row (hQ1.out.alloc (.cells #[.int .i64 x] 3)) hgrow (fun e => hgn.1 (by cases e; rfl)))
            have N2 := Lib.hid (two_row (hQ2.out.alloc (.cells #[.int .i64 x] 3)) hgrow (fun e => hgn.2 (by cases e; rfl)))
            have hs2 := hQ2.out.2.2.2.2
            have NE : Hid (∀ k, (Value.ownBlock v2 : Option Nat) = some k → k ≠ zz ∧ k ≠ zz + 1) := Lib.hid fun k hk => by
              rcases hob with e | e
              · rw [e] at hk; exact hne.out k hk
              · rw [e] at hk; cases hk; simp; omega
            clear hown3 hgrow OA CN hob
            go_wp2
            go_roundw
            case rel => exact ⟨k + 1, by omega, by go_num, SN, NE, N1, N2, B2⟩
            case measure => simp [intOf]; omega
          · rw [if_neg hxy] at PK
            clear eS CN HS
            go_wp2
            go_roundw
            case rel => exact ⟨k + 1, by omega, by go_num, Lib.hid (by rw [PK.out]; exact hown2.out), hne, hQ1, hQ2, hB2⟩
            case measure => simp [intOf]; omega
        · obtain rfl : k = m := by omega
          go_wp2
          go_roundw
          case rel => exact ⟨i + 1, by omega, by go_num, Lib.hid (by rw [PO.out]; exact hown2.out), hB2⟩
          case measure => simp [intOf]; omega
    · obtain rfl : i = q := by omega
      have ln := plO_len l m i
      have li : i * m ≤ 31 * 64 := Nat.mul_le_mul (by omega) m1
      have N := Lib.hid hown.out.nums
      obtain ⟨g, cp, rfl, _, _, hcp, hcp2, _⟩ := hown.out.form (by omega)
      by_cases h65 : 65 < (plO l m i).length
      · have d : decide (65 < ((plO l m i).length : Int)) = true := decide_eq_true (by omega)
        go_wp2
        go_returns
        exact ⟨_, _, rfl, .inr ⟨h65, rfl, rfl⟩, hB.out⟩
      · have d : decide (65 < ((plO l m i).length : Int)) = false := decide_eq_false (by omega)
        go_wp2
        go_returns
        exact ⟨_, _, rfl, .inl ⟨by omega, rfl, N.out⟩, hB.out⟩
end Go.Proofs.Ytgjdopjolokaiaa

/- The reference of layer 11: Wet. -/
namespace Go.Proofs.Ytgjdopjolokaiaa
open Go.RowKit

/-- what Wet and Dry report -/
def wtE (c : Ck) (dip m n : Int) : Int := if liSE c = 0 then (if dip < 0 ∨ 2 * brQ c < dip ∨ m < 1 ∨ 64 < m ∨ n < 1 ∨ 64 < n then 2 else slE c.pf m) else liSE c
def wtP (c : Ck) (dip m n : Int) : List Int := if wtE c dip m n = 0 then slP c.pf m else []
end Go.Proofs.Ytgjdopjolokaiaa

/- The reference of layer 11: Wet as a whole. -/
namespace Go.Proofs.Ytgjdopjolokaiaa
open Go.RowKit

theorem wtE_zero {c : Ck} {dip m n : Int} (h : wtE c dip m n = 0) : (ccE c = 0 ∧ c.ps = 1) ∧ (0 ≤ dip ∧ dip ≤ 2 * bgR c.pf) ∧ (1 ≤ m ∧ m ≤ 64) ∧ (1 ≤ n ∧ n ≤ 64) ∧ wtP c dip m n = plO c.pf m.toNat (c.pf.length - 1) ∧ PlR c.pf (wtP c dip m n) ∧ (wtP c dip m n).length ≤ 65 := by
  have h' := h
  unfold wtE at h
  split at h
  · rename_i g
    split at h
    · omega
    · rename_i g2
      obtain ⟨h1, h2⟩ := liSE_zero.1 g
      obtain ⟨_, _, _, hR⟩ := ccE_pf h1
      have e : wtP c dip m n = plO c.pf m.toNat (c.pf.length - 1) := by
        unfold wtP; rw [if_pos h']; unfold slP; rw [if_pos h]
      have len : (plO c.pf m.toNat (c.pf.length - 1)).length ≤ 65 := by
        unfold slE at h
        split at h
        · split at h
          · omega
          · split at h
            · omega
            · omega
        · omega
      have b : brQ c = bgR c.pf := rfl
      refine ⟨⟨h1, h2⟩, by omega, by omega, by omega, e, ?_, by rw [e]; exact len⟩
      rw [e]
      exact plO_right hR (by omega) (by omega)
  · contradiction
noncomputable def wtL (c : Ck) (dip m n : Int) : Int := if wtE c dip m n = 0 then tbL c.pf (bgR c.pf) (wtP c dip m n) (hs dip n.toNat) n.toNat ((wtP c dip m n).length - 1) else 0
noncomputable def wtH (c : Ck) (dip m n : Int) : Int := if wtE c dip m n = 0 then tbH c.pf (bgR c.pf) (wtP c dip m n) (hs dip n.toNat) n.toNat ((wtP c dip m n).length - 1) else 0
end Go.Proofs.Ytgjdopjolokaiaa

/- The reference of layer 11: Dry. -/
namespace Go.Proofs.Ytgjdopjolokaiaa
open Go.RowKit

theorem OwnI.put {w : World} {B g n cap : Nat} {zs : List Int} (h : OwnI w B (.slice (some ⟨g, 0, none⟩) n cap) zs) (j : Nat) (x : Int) : OwnI (w.setCell ⟨g, j, none⟩ (.int .i64 x)) B (.slice (some ⟨g, 0, none⟩) n cap) (zs.set j x) := by
  have hl : n = zs.length := by
    obtain ⟨a, c, e, _⟩ := h.nums
    simp only [Value.slice.injEq] at e
    exact e.2.1
  subst hl
  unfold OwnI
  rw [List.length_set, List.map_set]
  exact (World.ownsRow.stored h j (.int .i64 x)).1
/-- heights of which the first i have been raised -/
def mxd (zs : List Int) (d : Int) (i : Nat) : List Int := (zs.take i).map (· + d) ++ zs.drop i
theorem mxd_len (zs : List Int) (d : Int) (i : Nat) (h : i ≤ zs.length) : (mxd zs d i).length = zs.length := by
  unfold mxd; rw [List.length_append, List.length_map, List.length_take, List.length_drop]; omega
theorem mxd_at (zs : List Int) (d : Int) (i : Nat) (h : i < zs.length) : (mxd zs d i).getD i 0 = zs.getD i 0 := by
  unfold mxd
  rw [List.getD_eq_getElem?_getD, List.getElem?_append_right (by rw [List.length_map, List.length_take]; omega), List.length_map, List.length_take, List.getElem?_drop, show i + (i - min i zs.length) = i by omega, ← List.getD_eq_getElem?_getD]
theorem mxd_next (zs : List Int) (d : Int) (i : Nat) (h : i < zs.length) : (mxd zs d i).set i (zs.getD i 0 + d) = mxd zs d (i + 1) := by
  unfold mxd
  have lt : ((zs.take i).map (· + d)).length = i := by rw [List.length_map, List.length_take]; omega
  rw [List.set_append_right _ _ (by omega), lt, Nat.sub_self, List.take_succ_eq_append_getElem h, List.map_append, List.append_assoc]
  congr 1
  rw [List.drop_eq_getElem_cons h, List.set_cons_zero, List.getD_eq_getElem?_getD, List.getElem?_eq_getElem h]
  rfl
theorem mxd_zero (zs : List Int) (d : Int) : mxd zs d 0 = zs := by unfold mxd; simp
theorem mxd_all (zs : List Int) (d : Int) : mxd zs d zs.length = zs.map (· + d) := by unfold mxd; simp
noncomputable def dyL (c : Ck) (dip m n : Int) : Int := if wtE c dip m n = 0 then tbL c.pf (bgR c.pf) (wtP c dip m n) (hd dip (2 * bgR c.pf) n.toNat) n.toNat ((wtP c dip m n).length - 1) else 0
noncomputable def dyH (c : Ck) (dip m n : Int) : Int := if wtE c dip m n = 0 then tbH c.pf (bgR c.pf) (wtP c dip m n) (hd dip (2 * bgR c.pf) n.toNat) n.toNat ((wtP c dip m n).length - 1) else 0
end Go.Proofs.Ytgjdopjolokaiaa

/- Package cask: Depth. -/
namespace Go.Proofs.Ytgjdopjolokaiaa
open Go.RowKit

theorem dep_bad (nm : ByteArray) (ps dc E : Int) (a : Option Addr) (n cap : Nat) (w : World) (e1 : (E == 0) = false) (e2 : (E != 0) = true)
    (H1 : Hid (∀ W, Below w.heap.size w W → Calls Try.prog 72 #[.agg #[.string nm, .int .i64 ps, .slice a n cap, .int .i64 dc]] W fun e w' => e = .returned (.int .i64 E) ∧ Below W.heap.size W w')) :
    Calls Try.prog 85 #[.agg #[.string nm, .int .i64 ps, .slice a n cap, .int .i64 dc]] w fun e w' => e = .returned (.tuple #[.int .i64 0, .int .i64 E]) ∧ Below w.heap.size w w' := by
  go_enter Try.func85, Try.ntmps85
  go_wp2_with fail
  refine (H1.out _ (bel_alloc (Below.refl _ _))).mono ?_
  rintro e w1 ⟨rfl, gg⟩
  have X1 := Lib.hid (bel_alloc gg); clear gg
  go_wp2
  go_returns
  exact ⟨rfl, X1.out⟩
set_option maxHeartbeats 4000000 in
theorem dep_lying (nm : ByteArray) (dc r : Int) (i n cap b off : Nat) (w : World) (hi : i < n) (hb : b < w.heap.size) (hc : Hid (w.cell? ⟨b, off + i * 2 + 1, none⟩ = some (.int .i64 r))) (wr : IntKind.i64.wrap (2 * r) = 2 * r)
    (H1 : Hid (∀ W, Below w.heap.size w W → Calls Try.prog 72 #[.agg #[.string nm, .int .i64 1, .slice (some ⟨b, off, none⟩) n cap, .int .i64 dc]] W fun e w' => e = .returned (.int .i64 0) ∧ Below W.heap.size W w'))
    (H2 : Hid (∀ W, Below w.heap.size w W → Calls Try.prog 96 #[.slice (some ⟨b, off, none⟩) n cap] W fun e w' => e = .returned (.tuple #[.int .i64 i, .int .i64 0]) ∧ Below W.heap.size W w')) :
    Calls Try.prog 85 #[.agg #[.string nm, .int .i64 1, .slice (some ⟨b, off, none⟩) n cap, .int .i64 dc]] w fun e w' => e = .returned (.tuple #[.int .i64 (2 * r), .int .i64 0]) ∧ Below w.heap.size w w' := by
  have F0 := Lib.hid (Quad.new w (.string nm) (.int .i64 1) (.slice (some ⟨b, off, none⟩) n cap) (.int .i64 dc) 24)
  have l1 : (i : Int) < (n : Int) := by omega
  have l2 : 0 ≤ (i : Int) := by omega
  go_enter Try.func85, Try.ntmps85
  go_wp2_with fail
  refine (H1.out _ (bel_alloc (Below.refl _ _))).mono ?_
  rintro e w1 ⟨rfl, gg⟩
  replace F0 := Lib.hid (F0.out.below gg)
  have X1 := Lib.hid (bel_alloc gg); clear gg
  obtain ⟨u0, u1, u2, u3, _, _⟩ := F0.out
  go_wp2_with fail
  refine (H2.out _ X1.out).mono ?_
  rintro e w2 ⟨rfl, gg⟩
  clear u0 u1 u2 u3
  replace F0 := Lib.hid (F0.out.below gg)
  replace X1 := Lib.hid (bel_trans X1.out gg); clear gg
  obtain ⟨_, _, u2, _, _, _⟩ := F0.out
  have c1 : w2.cell? ⟨b, off + i * 2 + 1, none⟩ = some (.int .i64 r) := by rw [(bcell X1.out).1 _ _ hb]; exact hc.out
  clear H1 H2 hc
  go_wp2
  go_returns
  exact ⟨rfl, X1.out⟩
set_option maxHeartbeats 4000000 in
theorem dep_standing (nm : ByteArray) (dc x : Int) (a : Option Addr) (n cap : Nat) (w : World)
    (H1 : Hid (∀ W, Below w.heap.size w W → Calls Try.prog 72 #[.agg #[.string nm, .int .i64 2, .slice a n cap, .int .i64 dc]] W fun e w' => e = .returned (.int .i64 0) ∧ Below W.heap.size W w'))
    (H2 : Hid (∀ W, Below w.heap.size w W → Calls Try.prog 40 #[.slice a n cap] W fun e w' => e = .returned (.tuple #[.int .i64 x, .int .i64 0]) ∧ Below W.heap.size W w')) :
    Calls Try.prog 85 #[.agg #[.string nm, .int .i64 2, .slice a n cap, .int .i64 dc]] w fun e w' => e = .returned (.tuple #[.int .i64 x, .int .i64 0]) ∧ Below w.heap.size w w' := by
  have F0 := Lib.hid (Quad.new w (.string nm) (.int .i64 2) (.slice a n cap) (.int .i64 dc) 24)
  go_enter Try.func85, Try.ntmps85
  go_wp2_with fail
  refine (H1.out _ (bel_alloc (Below.refl _ _))).mono ?_
  rintro e w1 ⟨rfl, gg⟩
  replace F0 := Lib.hid (F0.out.below gg)
  have X1 := Lib.hid (bel_alloc gg); clear gg
  obtain ⟨u0, u1, u2, u3, _, _⟩ := F0.out
  go_wp2_with fail
  refine (H2.out _ X1.out).mono ?_
  rintro e w2 ⟨rfl, gg⟩
  replace X1 := Lib.hid (bel_trans X1.out gg); clear gg
  go_wp2
  go_returns
  exact ⟨rfl, X1.out⟩
theorem cDe_any (v : Value) (c : Ck) (w : World) (hv : CkV w v c) :
    Calls Try.prog 85 #[v] w fun e w' => e = .returned (.tuple #[.int .i64 (deQ c), .int .i64 (ccE c)]) ∧ Below w.heap.size w w' := by
  have HC : Hid (∀ W, Below w.heap.size w W → _) := Lib.hid fun W hW => ckk_any v c W (hv.below hW)
  obtain ⟨a, cap, rfl, hp, _⟩ := hv
  unfold deQ
  by_cases h : ccE c = 0
  · obtain ⟨_, hps, _, hR⟩ := ccE_pf h
    have e0 := (ckE_iff _).2 hR
    rw [if_pos h, h]
    rw [h] at HC
    have n0 := hR.n0
    by_cases h1 : c.ps = 1
    · have hl : bg c.pf c.pf.length < c.pf.length := by have := bg_lt c.pf c.pf.length; omega
      have br : 1 ≤ brQ c ∧ brQ c ≤ 100000 := hR.br _ hl
      have HB : Hid (∀ W, Below w.heap.size w W → _) := Lib.hid fun W hW => bung_any _ c.pf W (hp.below hW)
      unfold buQ at HB
      rw [if_pos e0, e0] at HB
      obtain ⟨b, off, rfl, hb, hc⟩ := hp.at (by omega)
      rw [if_pos h1]
      rw [h1] at HC ⊢
      exact dep_lying _ _ _ _ _ cap b off w hl hb (hc _ hl).2 (wrap_in _ ⟨by omega, by omega⟩) HC HB
    · have h2 : c.ps = 2 := by omega
      have HB : Hid (∀ W, Below w.heap.size w W → _) := Lib.hid fun W hW => len_any _ c.pf W (hp.below hW)
      unfold lgQ at HB
      rw [if_pos e0, e0] at HB
      rw [if_neg h1]
      rw [h2] at HC ⊢
      exact dep_standing _ _ _ a _ cap w HC HB
  · rw [if_neg h]
    exact dep_bad _ _ _ _ a _ cap w (by simpa using h) (by simpa using h) HC
end Go.Proofs.Ytgjdopjolokaiaa

/- Package segment: Heights. -/
namespace Go.Proofs.Ytgjdopjolokaiaa
open Go.RowKit

set_option maxHeartbeats 2000000 in
set_option maxRecDepth 1000000 in
theorem hts_own (top : Int) (n : Nat) (w : World) (t0 : 0 ≤ top) (t1 : top ≤ 200000) (n0 : 1 ≤ n) (n1 : n ≤ 64) :
    Calls Try.prog 86 #[.int .i64 top, .int .i64 n] w fun e w' => e = .returned (.tuple #[.slice (some ⟨w.heap.size, 0, none⟩) (n + 1) (n + 1), .int .i64 0]) ∧ Own w' w.heap.size w.heap.size (n + 1) (n + 1) (hs top n) ∧ Below w.heap.size w w' := by
  obtain ⟨i0, hi, hz0, hz1, hz2⟩ := info_parts info_int
  have H1 := Lib.hid (fun W => isHt_any top W)
  have hh : hB top = true := by simp [hB, t0, t1]
  rw [hh] at H1
  clear hh
  go_enter Try.func86, Try.ntmps86
  go_wp2_with fail
  refine (H1.out _).mono ?_
  rintro e w1 ⟨rfl, hw⟩
  subst hw
  go_wp2_with (at_make; refine wpList_make_full _ rfl _ _ 25 rfl w.heap.size 3 i0 (.int .i64 0) 1 Try.underlying25 hi hz0 hz1 .i64 .i64 _ _ (n + 1) rfl rfl (by omega) (by omega) (by rw [hz2]; omega) (by unfold maxLen; omega) (Nat.le_refl _) ?_; intro w2 ho2 hg2)
  rw [madeInts] at ho2
  have X2 := Lib.hid ((Below.refl w.heap.size w).grown hg2 (Nat.le_refl _) (by simp))
  have O2 : Hid (Own w2 w.heap.size w.heap.size (n + 1) (n + 1) (List.replicate (n + 1) 0)) := ho2
  clear ho2 hg2
  go_loopw [7, 24] (fun _ ii wr => ∃ k : Nat, k ≤ n + 1 ∧ ii = .int .i64 k ∧ Hid (Own wr w.heap.size w.heap.size (n + 1) (n + 1) ((List.range k).map (fun i : Nat => (i : Int) * top / n) ++ List.replicate (n + 1 - k) 0)) ∧ Hid (Below w.heap.size w wr)) (fun _ ii _ => n + 1 - (intOf ii).toNat)
  case atStart => exact ⟨0, by omega, rfl, O2, X2⟩
  case round =>
    obtain ⟨k, hk, rfl, hO, hB⟩ := hrel
    by_cases hlt : k < n + 1
    · have m0 : 0 ≤ (k : Int) * top := Int.mul_nonneg (by omega) t0
      have m1 : (k : Int) * top ≤ 65 * 200000 := Int.mul_le_mul (by omega) t1 t0 (by omega)
      have q0 : 0 ≤ (k : Int) * top / n := Int.ediv_nonneg m0 (by omega)
      have q1 : (k : Int) * top / n ≤ (k : Int) * top := Int.ediv_le_self _ m0
      have c1 := hO.out.cell k hlt
      have f1 := World.ownsRow.frozenAt hO.out k
      have S1 := Lib.hid (hO.out.set k ((k : Int) * top / n))
      have S2 := Lib.hid (hB.out.setCell (p := ⟨w.heap.size, k, none⟩) (Nat.le_refl _) (.int .i64 ((k : Int) * top / n)))
      have S3 := Lib.hid (set_next (f := fun i : Nat => (i : Int) * top / n) k (n + 1) hlt)
      rw [S3.out] at S1
      clear hO hB S3
      have hl1 : (k : Int) < ((n + 1 : Nat) : Int) := by omega
      go_wp2
      go_roundw
      case rel => exact ⟨k + 1, by omega, by go_num, S1, S2⟩
      case measure => simp [intOf]; omega
    · obtain rfl : k = n + 1 := by omega
      go_wp2
      go_returns
      refine ⟨rfl, ?_, hB.out⟩
      have hN := hO.out
      rwa [Nat.sub_self, List.replicate_zero, List.append_nil] at hN
theorem hts_ok (top : Int) (n : Nat) (w : World) (t0 : 0 ≤ top) (t1 : top ≤ 200000) (n0 : 1 ≤ n) (n1 : n ≤ 64) :
    Calls Try.prog 86 #[.int .i64 top, .int .i64 n] w fun e w' => ∃ v, e = .returned (.tuple #[v, .int .i64 0]) ∧ Nums w' v (hs top n) ∧ Below w.heap.size w w' :=
  (hts_own top n w t0 t1 n0 n1).mono fun e w' ⟨g1, g2, g3⟩ => ⟨_, g1, by
    have hN := nums_of_own g2
    have := hN
    obtain ⟨a, cap, e, r⟩ := hN
    have hl := hs_len top n
    rw [hl] at *
    first | exact this | exact ⟨a, cap, e, r⟩, g3⟩
theorem hts_any (top n : Int) (w : World) :
    Calls Try.prog 86 #[.int .i64 top, .int .i64 n] w fun e w' => ∃ v, e = .returned (.tuple #[v, .int .i64 (heE top n)]) ∧ Nums w' v (heL top n) ∧ Below w.heap.size w w' := by
  unfold heE heL
  cases h : heB top n with
  | true =>
    obtain ⟨⟨t0, t1⟩, n0, n1⟩ := (heB_iff top n).1 h
    rw [if_pos rfl, if_pos rfl]
    have := hts_ok top n.toNat w t0 t1 (by omega) (by omega)
    rwa [show ((n.toNat : Nat) : Int) = n by omega] at this
  | false =>
    have HB := Lib.hid (fun W => isHt_any top W)
    have hn : hB top = false ∨ (hB top = true ∧ n < 1) ∨ (hB top = true ∧ 1 ≤ n ∧ 64 < n) := by
      have : ¬ ((0 ≤ top ∧ top ≤ 200000) ∧ 1 ≤ n ∧ n ≤ 64) := fun hc => by rw [(heB_iff top n).2 hc] at h; cases h
      cases hh : hB top with
      | false => exact .inl rfl
      | true =>
        right
        simp [hB] at hh
        by_cases h1 : n < 1
        · exact .inl ⟨rfl, h1⟩
        · exact .inr ⟨rfl, by omega, by omega⟩
    rw [if_neg (by simp), if_neg (by simp)]
    clear h
    rcases hn with hn | ⟨hn, hn2⟩ | ⟨hn, hn2, hn3⟩
    all_goals
      rw [hn] at HB
      clear hn
      go_enter Try.func86, Try.ntmps86
      go_wp2_with fail
      refine (HB.out _).mono ?_
      rintro e w1 ⟨rfl, hw⟩
      subst hw
      go_wp2
      go_returns
      exact ⟨_, rfl, ⟨none, 0, rfl, by simp, .inl rfl⟩, Below.refl _ _⟩
end Go.Proofs.Ytgjdopjolokaiaa

/- Package lying: Slices as a whole, measure, upward. -/
namespace Go.Proofs.Ytgjdopjolokaiaa
open Go.RowKit

theorem lySl_any (v : Value) (l : List (Int × Int)) (m : Int) (w : World) (hv : Pts w v l) :
    Calls Try.prog 10 #[v, .int .i64 m] w fun e w' => ∃ u, e = .returned (.tuple #[u, .int .i64 (slE l m)]) ∧ Nums w' u (slP l m) ∧ Below w.heap.size w w' := by
  have H1 := Lib.hid (ck_any v l w hv)
  have H2 : Hid (∀ W, _) := Lib.hid fun W => lyCnt_any m W
  have nn : ∀ W, Nums W (.slice none 0 0) [] := fun W => ⟨none, 0, rfl, by simp, .inl rfl⟩
  have hv' := hv
  obtain ⟨a, cap, e, hcap, hh⟩ := hv'
  by_cases h : ckE l = 0
  · rw [h] at H1
    have hR := (ckE_iff l).1 h
    by_cases hm : m < 1 ∨ 64 < m
    · have e1 : slE l m = 2 := by unfold slE; rw [if_pos h, if_pos hm]
      have e2 : slP l m = [] := by unfold slP; rw [if_neg (by rw [e1]; decide)]
      have eb : cntB m = false := by unfold cntB; simp; omega
      rw [e1, e2]
      rw [eb] at H2
      exact (lySl_bad v m 0 2 false a _ cap e w (.inr ⟨rfl, rfl, rfl⟩) H1 H2).mono fun e w' ⟨g1, g2⟩ => ⟨_, g1, nn _, g2⟩
    · obtain ⟨k, rfl⟩ : ∃ k : Nat, m = k := ⟨m.toNat, by omega⟩
      have n0 := hR.n0
      have n1 := hR.n1
      have eb : cntB (k : Int) = true := by unfold cntB; simp; omega
      rw [eb] at H2
      rcases hh with hh | ⟨b, off, rfl, hb, hc⟩
      · omega
      · subst e
        refine (lySl_some b off _ cap k l w n0 n1 (by omega) (by omega) hcap.1 (Lib.hid rfl) hb (Lib.hid hR) (Lib.hid hc) H1 H2).mono ?_
        rintro e w' ⟨u, E, rfl, h3, g2⟩
        rcases h3 with ⟨hp, rfl, hu⟩ | ⟨hp, rfl, rfl⟩
        · have e1 : slE l k = 0 := by unfold slE; rw [if_pos h, if_neg hm, Int.toNat_natCast, if_neg (by omega)]
          have e2 : slP l k = plO l k (l.length - 1) := by unfold slP; rw [if_pos e1, Int.toNat_natCast]
          rw [e1, e2]
          exact ⟨_, rfl, hu, g2⟩
        · have e1 : slE l k = 15 := by unfold slE; rw [if_pos h, if_neg hm, Int.toNat_natCast, if_pos hp]
          have e2 : slP l k = [] := by unfold slP; rw [if_neg (by rw [e1]; decide)]
          rw [e1, e2]
          exact ⟨_, rfl, nn _, g2⟩
  · have e1 : slE l m = 1 := by unfold slE; rw [if_neg h]
    have e2 : slP l m = [] := by unfold slP; rw [if_neg (by rw [e1]; decide)]
    rw [e1, e2]
    exact (lySl_bad v m _ 1 _ a _ cap e w (.inl ⟨⟨by simpa using h, by simpa using h⟩, rfl⟩) H1 H2).mono fun e w' ⟨g1, g2⟩ => ⟨_, g1, nn _, g2⟩
/-! ### heights from a bottom up -/
set_option maxHeartbeats 4000000 in
set_option maxRecDepth 100000 in
theorem lyUp_ok (bot top t : Int) (n : Nat) (w : World) (ht : top - bot = t) (b0 : 0 ≤ bot) (b1 : bot ≤ 200000) (t0 : 0 ≤ t) (t1 : t ≤ 200000) (n0 : 1 ≤ n) (n1 : n ≤ 64) :
    Calls Try.prog 57 #[.int .i64 bot, .int .i64 top, .int .i64 n] w fun e w' => ∃ v, e = .returned v ∧ Nums w' v ((hs t n).map (· + bot)) ∧ Below w.heap.size w w' := by
  have H1 := Lib.hid (hts_own t n w t0 t1 n0 n1)
  have ws : IntKind.i64.wrap (top - bot) = t := by rw [ht]; exact wrap_in _ ⟨by omega, by omega⟩
  have ln := hs_len t n
  have bd : Hid (∀ k, k ≤ n → 0 ≤ (hs t n).getD k 0 ∧ (hs t n).getD k 0 ≤ 200000) := Lib.hid fun k hk => by
    have hr := hs_right t n n0 n1 t0 t1
    have := hr.bd k (by omega)
    omega
  generalize hs t n = zs at *
  go_enter Try.func57, Try.ntmps57
  go_wp2_with fail
  refine H1.out.mono ?_
  rintro e w1 ⟨rfl, hO, gg⟩
  have O1 : Hid (Own w1 w.heap.size w.heap.size (n + 1) (n + 1) (mxd zs bot 0)) := Lib.hid (by rw [mxd_zero]; exact hO)
  have X1 := Lib.hid gg; clear gg hO
  replace ln := Lib.hid ln
  go_wp2_with fail
  go_loopw [20] (fun ii wr => ∃ k : Nat, k ≤ n + 1 ∧ ii = .int .i64 k ∧ Hid (Own wr w.heap.size w.heap.size (n + 1) (n + 1) (mxd zs bot k)) ∧ Hid (Below w.heap.size w wr)) (fun ii _ => n + 1 - (intOf ii).toNat)
  case atStart => exact ⟨0, by omega, rfl, O1, X1⟩
  case round =>
    obtain ⟨k, hk, rfl, hO, hB⟩ := hrel
    by_cases hlt : k < n + 1
    · have c1 := hO.out.cell k hlt
      rw [mxd_at _ _ _ (by rw [ln.out]; exact hlt)] at c1
      have f1 := World.ownsRow.frozenAt hO.out k
      have S1 := Lib.hid (hO.out.set k (zs.getD k 0 + bot))
      have S2 := Lib.hid (hB.out.setCell (p := ⟨w.heap.size, k, none⟩) (Nat.le_refl _) (.int .i64 (zs.getD k 0 + bot)))
      rw [mxd_next _ _ _ (by rw [ln.out]; exact hlt)] at S1
      have b2 := bd.out k (by omega)
      generalize zs.getD k 0 = y at *
      have w2 : IntKind.i64.wrap (y + bot) = y + bot := wrap_in _ ⟨by omega, by omega⟩
      have hl1 : (k : Int) < ((n + 1 : Nat) : Int) := by omega
      have hl2 : (k : Int) < (n : Int) + 1 := by omega
      clear hO hB
      go_wp2
      go_roundw
      case rel => exact ⟨k + 1, by omega, by go_num, S1, S2⟩
      case measure => simp [intOf]; omega
    · obtain rfl : k = n + 1 := by omega
      have N := Lib.hid (nums_of_own hO.out)
      have X2 := hB
      clear hO
      go_wp2
      go_returns
      refine ⟨_, rfl, ?_, X2.out⟩
      have e : mxd zs bot (n + 1) = zs.map (· + bot) := by rw [← ln.out]; exact mxd_all _ _
      rw [← e]
      exact N.out
/-! ### measure -/
theorem lyMs_err (nm : ByteArray) (cps dc E dip m n : Int) (a : Option Addr) (k cap : Nat) (w : World) (e1 : (E == 0) = false) (e2 : (E != 0) = true)
    (H1 : Hid (∀ W, Below w.heap.size w W → Calls Try.prog 39 #[.agg #[.string nm, .int .i64 cps, .slice a k cap, .int .i64 dc]] W fun e w' => e = .returned (.int .i64 E) ∧ Below W.heap.size W w')) :
    Calls Try.prog 56 #[.agg #[.string nm, .int .i64 cps, .slice a k cap, .int .i64 dc], .int .i64 dip, .int .i64 m, .int .i64 n] w fun e w' => e = .returned (.tuple #[.int .i64 0, .slice none 0 0, .int .i64 E]) ∧ Below w.heap.size w w' := by
  go_enter Try.func56, Try.ntmps56
  go_wp2_with fail
  refine (H1.out _ (bel_alloc (Below.refl _ _))).mono ?_
  rintro e w1 ⟨rfl, gg⟩
  have X1 := Lib.hid (bel_alloc gg); clear gg
  go_wp2
  go_returns
  exact ⟨rfl, X1.out⟩
set_option maxHeartbeats 4000000 in
theorem lyMs_bad (nm : ByteArray) (cps dc dip m n D : Int) (B : Bool) (a : Option Addr) (k cap : Nat) (w : World)
    (h : dip < 0 ∨ (0 ≤ dip ∧ D < dip) ∨ (0 ≤ dip ∧ dip ≤ D ∧ B = false))
    (H1 : Hid (∀ W, Below w.heap.size w W → Calls Try.prog 39 #[.agg #[.string nm, .int .i64 cps, .slice a k cap, .int .i64 dc]] W fun e w' => e = .returned (.int .i64 0) ∧ Below W.heap.size W w'))
    (H2 : Hid (∀ W, Below w.heap.size w W → Calls Try.prog 85 #[.agg #[.string nm, .int .i64 cps, .slice a k cap, .int .i64 dc]] W fun e w' => e = .returned (.tuple #[.int .i64 D, .int .i64 0]) ∧ Below W.heap.size W w'))
    (H3 : Hid (∀ W, Calls Try.prog 37 #[.int .i64 n] W fun e w' => e = .returned (.bool B) ∧ W = w')) :
    Calls Try.prog 56 #[.agg #[.string nm, .int .i64 cps, .slice a k cap, .int .i64 dc], .int .i64 dip, .int .i64 m, .int .i64 n] w fun e w' => e = .returned (.tuple #[.int .i64 0, .slice none 0 0, .int .i64 2]) ∧ Below w.heap.size w w' := by
  have F0 := Lib.hid (Quad.new w (.string nm) (.int .i64 cps) (.slice a k cap) (.int .i64 dc) 24)
  rcases h with h | ⟨h, h1⟩ | ⟨h, h1, rfl⟩
  all_goals
    go_enter Try.func56, Try.ntmps56
    go_wp2_with fail
    refine (H1.out _ (bel_alloc (Below.refl _ _))).mono ?_
    rintro e w1 ⟨rfl, gg⟩
    replace F0 := Lib.hid (F0.out.below gg)
    have X1 := Lib.hid (bel_alloc gg); clear gg
    obtain ⟨y0, y1, y2, y3, _, _⟩ := F0.out
    go_wp2_with fail
    refine (H2.out _ X1.out).mono ?_
    rintro e w2 ⟨rfl, gg⟩
    replace X1 := Lib.hid (bel_trans X1.out gg); clear gg y0 y1 y2 y3
  · have d1 : decide (dip < 0) = true := decide_eq_true h
    go_wp2
    go_returns
    exact ⟨rfl, X1.out⟩
  · have d1 : decide (dip < 0) = false := decide_eq_false (by omega)
    have d2 : decide (D < dip) = true := decide_eq_true h1
    go_wp2
    go_returns
    exact ⟨rfl, X1.out⟩
  · have d1 : decide (dip < 0) = false := decide_eq_false (by omega)
    have d2 : decide (D < dip) = false := decide_eq_false (by omega)
    go_wp2_with fail
    refine (H3.out _).mono ?_
    rintro e w3 ⟨rfl, hw⟩
    subst hw
    go_wp2
    go_returns
    exact ⟨rfl, X1.out⟩
set_option maxHeartbeats 4000000 in
theorem lyMs_ok (nm : ByteArray) (cps dc E dip m n D : Int) (a : Option Addr) (k cap : Nat) (ps : List Int) (w : World) (h0 : 0 ≤ dip) (h1 : dip ≤ D)
    (H1 : Hid (∀ W, Below w.heap.size w W → Calls Try.prog 39 #[.agg #[.string nm, .int .i64 cps, .slice a k cap, .int .i64 dc]] W fun e w' => e = .returned (.int .i64 0) ∧ Below W.heap.size W w'))
    (H2 : Hid (∀ W, Below w.heap.size w W → Calls Try.prog 85 #[.agg #[.string nm, .int .i64 cps, .slice a k cap, .int .i64 dc]] W fun e w' => e = .returned (.tuple #[.int .i64 D, .int .i64 0]) ∧ Below W.heap.size W w'))
    (H3 : Hid (∀ W, Calls Try.prog 37 #[.int .i64 n] W fun e w' => e = .returned (.bool true) ∧ W = w'))
    (H4 : Hid (∀ W, Below w.heap.size w W → Calls Try.prog 10 #[.slice a k cap, .int .i64 m] W fun e w' => ∃ u, e = .returned (.tuple #[u, .int .i64 E]) ∧ Nums w' u ps ∧ Below W.heap.size W w')) :
    Calls Try.prog 56 #[.agg #[.string nm, .int .i64 cps, .slice a k cap, .int .i64 dc], .int .i64 dip, .int .i64 m, .int .i64 n] w fun e w' => ∃ u, e = .returned (.tuple #[.int .i64 D, u, .int .i64 E]) ∧ Nums w' u ps ∧ Below w.heap.size w w' := by
  have F0 := Lib.hid (Quad.new w (.string nm) (.int .i64 cps) (.slice a k cap) (.int .i64 dc) 24)
  have d1 : decide (dip < 0) = false := decide_eq_false (by omega)
  have d2 : decide (D < dip) = false := decide_eq_false (by omega)
  go_enter Try.func56, Try.ntmps56
  go_wp2_with fail
  refine (H1.out _ (bel_alloc (Below.refl _ _))).mono ?_
  rintro e w1 ⟨rfl, gg⟩
  replace F0 := Lib.hid (F0.out.below gg)
  have X1 := Lib.hid (bel_alloc gg); clear gg
  obtain ⟨y0, y1, y2, y3, _, _⟩ := F0.out
  go_wp2_with fail
  refine (H2.out _ X1.out).mono ?_
  rintro e w2 ⟨rfl, gg⟩
  clear y0 y1 y2 y3
  replace F0 := Lib.hid (F0.out.below gg)
  replace X1 := Lib.hid (bel_trans X1.out gg); clear gg
  obtain ⟨y0, y1, y2, y3, _, _⟩ := F0.out
  go_wp2_with fail
  refine (H3.out _).mono ?_
  rintro e w3 ⟨rfl, hw⟩
  subst hw
  go_wp2_with fail
  refine (H4.out _ X1.out).mono ?_
  rintro e w4 ⟨u, rfl, hu, gg⟩
  replace X1 := Lib.hid (bel_trans X1.out gg); clear gg y0 y1 y2 y3
  have HU := Lib.hid hu
  obtain ⟨a2, cap2, rfl, _, _⟩ := hu
  generalize ps.length = L at *
  go_wp2
  go_returns
  exact ⟨_, rfl, HU.out, X1.out⟩
theorem lyMs_any (v : Value) (c : Ck) (dip m n : Int) (w : World) (hv : CkV w v c) :
    Calls Try.prog 56 #[v, .int .i64 dip, .int .i64 m, .int .i64 n] w fun e w' => ∃ D u, e = .returned (.tuple #[.int .i64 D, u, .int .i64 (wtE c dip m n)]) ∧ (wtE c dip m n = 0 → D = 2 * bgR c.pf) ∧ Nums w' u (wtP c dip m n) ∧ Below w.heap.size w w' := by
  have H1 : Hid (∀ W, Below w.heap.size w W → _) := Lib.hid fun W hW => lyPos_any v c W (hv.below hW)
  have H2 : Hid (∀ W, Below w.heap.size w W → _) := Lib.hid fun W hW => cDe_any v c W (hv.below hW)
  have H3 : Hid (∀ W, _) := Lib.hid fun W => lyCnt_any n W
  have nn : ∀ W, Nums W (.slice none 0 0) [] := fun W => ⟨none, 0, rfl, by simp, .inl rfl⟩
  have ew : wtE c dip m n = if liSE c = 0 then (if dip < 0 ∨ 2 * brQ c < dip ∨ m < 1 ∨ 64 < m ∨ n < 1 ∨ 64 < n then 2 else slE c.pf m) else liSE c := rfl
  have hv' := hv
  obtain ⟨a, cap, rfl, hp, _⟩ := hv'
  by_cases h : liSE c = 0
  · obtain ⟨h1, h2⟩ := liSE_zero.1 h
    rw [h] at H1
    have ed : deQ c = 2 * brQ c := by unfold deQ; rw [if_pos h1, if_pos h2]
    rw [ed, h1] at H2
    rw [if_pos h] at ew
    by_cases g : dip < 0 ∨ 2 * brQ c < dip ∨ n < 1 ∨ 64 < n
    · rw [if_pos (by omega)] at ew
      have ep : wtP c dip m n = [] := by unfold wtP; rw [if_neg (by omega)]
      rw [ew, ep]
      refine (lyMs_bad _ _ _ dip m n _ _ a _ cap w ?_ H1 H2 H3).mono fun e w' ⟨g1, g2⟩ => ⟨_, _, g1, (fun h => by omega), nn _, g2⟩
      by_cases g1 : dip < 0
      · exact .inl g1
      · by_cases g2 : 2 * brQ c < dip
        · exact .inr (.inl ⟨by omega, g2⟩)
        · refine .inr (.inr ⟨by omega, by omega, ?_⟩)
          unfold cntB; simp; omega
    · have eb : cntB n = true := by unfold cntB; simp; omega
      rw [eb] at H3
      have es : wtE c dip m n = slE c.pf m := by
        rw [ew]
        by_cases gm : m < 1 ∨ 64 < m
        · rw [if_pos (by omega)]
          obtain ⟨_, _, _, hR⟩ := ccE_pf h1
          unfold slE
          rw [if_pos ((ckE_iff _).2 hR), if_pos gm]
        · rw [if_neg (by omega)]
      have ep : wtP c dip m n = slP c.pf m := by
        unfold wtP
        rw [es]
        by_cases g2 : slE c.pf m = 0
        · rw [if_pos g2]
        · rw [if_neg g2]; unfold slP; rw [if_neg g2]
      rw [es, ep]
      have H4 : Hid (∀ W, Below w.heap.size w W → _) := Lib.hid fun W hW => lySl_any _ c.pf m W (hp.below hW)
      exact (lyMs_ok _ _ _ _ dip m n _ a _ cap _ w (by omega) (by omega) H1 H2 H3 H4).mono fun e w' ⟨u, g1, g2, g3⟩ => ⟨_, u, g1, (fun _ => rfl), g2, g3⟩
  · rw [if_neg h] at ew
    have ep : wtP c dip m n = [] := by unfold wtP; rw [if_neg (by omega)]
    rw [ew, ep]
    exact (lyMs_err _ _ _ _ dip m n a _ cap w (by simpa using h) (by simpa using h) H1).mono fun e w' ⟨g1, g2⟩ => ⟨_, _, g1, (fun h2 => by omega), nn _, g2⟩
end Go.Proofs.Ytgjdopjolokaiaa

/- Package lying: Wet, Dry. -/
namespace Go.Proofs.Ytgjdopjolokaiaa
open Go.RowKit

set_option maxHeartbeats 8000000 in
set_option maxRecDepth 100000 in
theorem lyWet_ok (nm : ByteArray) (cps dc dip m n D L H : Int) (a : Option Addr) (k cap : Nat) (ps hh : List Int) (w : World)
    (H1 : Hid (∀ W, Below w.heap.size w W → Calls Try.prog 56 #[.agg #[.string nm, .int .i64 cps, .slice a k cap, .int .i64 dc], .int .i64 dip, .int .i64 m, .int .i64 n] W fun e w' => ∃ u, e = .returned (.tuple #[.int .i64 D, u, .int .i64 0]) ∧ Nums w' u ps ∧ Below W.heap.size W w'))
    (H2 : Hid (∀ W, Calls Try.prog 57 #[.int .i64 0, .int .i64 dip, .int .i64 n] W fun e w' => ∃ z, e = .returned z ∧ Nums w' z hh ∧ Below W.heap.size W w'))
    (H3 : Hid (∀ u z W, Below w.heap.size w W → Nums W u ps → Nums W z hh → Calls Try.prog 49 #[.slice a k cap, u, z] W fun e w' => e = .returned (.agg #[.int .i64 L, .int .i64 H]) ∧ Below W.heap.size W w')) :
    Calls Try.prog 24 #[.agg #[.string nm, .int .i64 cps, .slice a k cap, .int .i64 dc], .int .i64 dip, .int .i64 m, .int .i64 n] w fun e w' => e = .returned (.tuple #[.agg #[.int .i64 L, .int .i64 H], .int .i64 0]) ∧ Below w.heap.size w w' := by
  have F0 := Lib.hid ((Quad.new w (.string nm) (.int .i64 cps) (.slice a k cap) (.int .i64 dc) 24).alloc (.cells #[.int .i64 0, .int .i64 0] 40))
  have T0 := Lib.hid (Two.new (w.alloc (.cells #[.string nm, .int .i64 cps, .slice a k cap, .int .i64 dc] 24)) (.int .i64 0) (.int .i64 0) 40)
  rw [World.size_alloc] at T0
  go_enter Try.func24, Try.ntmps24
  go_wp2_with fail
  refine (H1.out _ (bel_alloc (bel_alloc (Below.refl _ _)))).mono ?_
  rintro e w1 ⟨u, rfl, hu, gg⟩
  replace T0 := Lib.hid (T0.out.below gg)
  replace F0 := Lib.hid (F0.out.below gg)
  have X1 := Lib.hid (bel_alloc (bel_alloc gg)); clear gg
  have HU := Lib.hid hu
  obtain ⟨a2, cap2, rfl, _, _⟩ := hu
  have PL := Lib.hid (rfl : ps.length = ps.length)
  generalize hL : ps.length = LN at *
  clear PL hL
  obtain ⟨_, _, y2, _, _, _⟩ := F0.out
  go_wp2_with fail
  have hne1 : w.heap.size ≠ w.heap.size + 1 := by omega
  have hne2 : w.heap.size + 1 ≠ w.heap.size := by omega
  have FK : Hid (∀ W, Below w1.heap.size w1 W → W.cell? ⟨w.heap.size, 2, none⟩ = some (.slice a k cap) ∧ Two (w.heap.size + 1) W (.int .i64 0) (.int .i64 0)) := Lib.hid fun W hW => ⟨(F0.out.below hW).2.2.1, T0.out.below hW⟩
  go_region_held3 (fun w' => w'.cell? ⟨w.heap.size, 2, none⟩ = some (.slice a k cap)) (go_keep) (first
    | (go_at_call 57; refine (H2.out _).mono ?_; rintro e w5 ⟨z, rfl, hz, gg⟩; have X5 := Lib.hid (bel_trans (bel_drew w1) gg); have HZ := Lib.hid hz; have UZ := Lib.hid (HU.out.below X5.out); obtain ⟨q2, _⟩ := FK.out _ X5.out; obtain ⟨a3, cap3, rfl, _, _⟩ := hz; clear gg)
    | (go_at_call 49; refine (H3.out _ _ _ (bel_trans X1.out X5.out) UZ.out HZ.out).mono ?_; rintro e w6 ⟨rfl, gg⟩; have X6 := Lib.hid (bel_trans X5.out gg); obtain ⟨q3, q4⟩ := FK.out _ X6.out; have T6 := Lib.hid q4; obtain ⟨r0, r1, rf0, rf1, _⟩ := q4; clear gg))
  go_wp2
  obtain ⟨r0', r1', _, _, _⟩ := T6.out
  obtain ⟨t0, t1⟩ := two_read w6 (w.heap.size + 1) (.int .i64 L) (.int .i64 H) r0' r1'
  refine bodyPost_ret (v := .tuple #[.agg #[.int .i64 L, .int .i64 H], .int .i64 0]) (by simp [results, Try.results24, go_sem, t0, t1]) rfl ?_
  exact ⟨rfl, ((bel_trans X1.out X6.out).setCell (Nat.le_succ _) _).setCell (Nat.le_succ _) _⟩
theorem lyWet_bad (nm : ByteArray) (cps dc dip m n E : Int) (a : Option Addr) (k cap : Nat) (ps : List Int) (w : World) (e1 : (E == 0) = false) (e2 : (E != 0) = true)
    (H1 : Hid (∀ W, Below w.heap.size w W → Calls Try.prog 56 #[.agg #[.string nm, .int .i64 cps, .slice a k cap, .int .i64 dc], .int .i64 dip, .int .i64 m, .int .i64 n] W fun e w' => ∃ D u, e = .returned (.tuple #[.int .i64 D, u, .int .i64 E]) ∧ Nums w' u ps ∧ Below W.heap.size W w')) :
    Calls Try.prog 24 #[.agg #[.string nm, .int .i64 cps, .slice a k cap, .int .i64 dc], .int .i64 dip, .int .i64 m, .int .i64 n] w fun e w' => e = .returned (.tuple #[.agg #[.int .i64 0, .int .i64 0], .int .i64 E]) ∧ Below w.heap.size w w' := by
  have T0 := Lib.hid (Two.new (w.alloc (.cells #[.string nm, .int .i64 cps, .slice a k cap, .int .i64 dc] 24)) (.int .i64 0) (.int .i64 0) 40)
  rw [World.size_alloc] at T0
  go_enter Try.func24, Try.ntmps24
  go_wp2_with fail
  refine (H1.out _ (bel_alloc (bel_alloc (Below.refl _ _)))).mono ?_
  rintro e w1 ⟨D, u, rfl, hu, gg⟩
  replace T0 := Lib.hid (T0.out.below gg)
  have X1 := Lib.hid (bel_alloc (bel_alloc gg)); clear gg
  obtain ⟨a2, cap2, rfl, _, _⟩ := hu
  generalize ps.length = LN at *
  obtain ⟨r0, r1, rf0, rf1, _⟩ := T0.out
  go_wp2
  obtain ⟨t0, t1⟩ := two_read w1 (w.heap.size + 1) (.int .i64 0) (.int .i64 0) r0 r1
  refine bodyPost_ret (v := .tuple #[.agg #[.int .i64 0, .int .i64 0], .int .i64 E]) (by simp [results, Try.results24, go_sem, t0, t1]) rfl ?_
  exact ⟨rfl, (X1.out.setCell (Nat.le_succ _) _).setCell (Nat.le_succ _) _⟩
set_option maxHeartbeats 8000000 in
set_option maxRecDepth 100000 in
theorem lyDry_ok (nm : ByteArray) (cps dc dip m n D L H : Int) (a : Option Addr) (k cap : Nat) (ps hh : List Int) (w : World)
    (H1 : Hid (∀ W, Below w.heap.size w W → Calls Try.prog 56 #[.agg #[.string nm, .int .i64 cps, .slice a k cap, .int .i64 dc], .int .i64 dip, .int .i64 m, .int .i64 n] W fun e w' => ∃ u, e = .returned (.tuple #[.int .i64 D, u, .int .i64 0]) ∧ Nums w' u ps ∧ Below W.heap.size W w'))
    (H2 : Hid (∀ W, Calls Try.prog 57 #[.int .i64 dip, .int .i64 D, .int .i64 n] W fun e w' => ∃ z, e = .returned z ∧ Nums w' z hh ∧ Below W.heap.size W w'))
    (H3 : Hid (∀ u z W, Below w.heap.size w W → Nums W u ps → Nums W z hh → Calls Try.prog 49 #[.slice a k cap, u, z] W fun e w' => e = .returned (.agg #[.int .i64 L, .int .i64 H]) ∧ Below W.heap.size W w')) :
    Calls Try.prog 25 #[.agg #[.string nm, .int .i64 cps, .slice a k cap, .int .i64 dc], .int .i64 dip, .int .i64 m, .int .i64 n] w fun e w' => e = .returned (.tuple #[.agg #[.int .i64 L, .int .i64 H], .int .i64 0]) ∧ Below w.heap.size w w' := by
  have F0 := Lib.hid ((Quad.new w (.string nm) (.int .i64 cps) (.slice a k cap) (.int .i64 dc) 24).alloc (.cells #[.int .i64 0, .int .i64 0] 40))
  have T0 := Lib.hid (Two.new (w.alloc (.cells #[.string nm, .int .i64 cps, .slice a k cap, .int .i64 dc] 24)) (.int .i64 0) (.int .i64 0) 40)
  rw [World.size_alloc] at T0
  go_enter Try.func25, Try.ntmps25
  go_wp2_with fail
  refine (H1.out _ (bel_alloc (bel_alloc (Below.refl _ _)))).mono ?_
  rintro e w1 ⟨u, rfl, hu, gg⟩
  replace T0 := Lib.hid (T0.out.below gg)
  replace F0 := Lib.hid (F0.out.below gg)
  have X1 := Lib.hid (bel_alloc (bel_alloc gg)); clear gg
  have HU := Lib.hid hu
  obtain ⟨a2, cap2, rfl, _, _⟩ := hu
  have PL := Lib.hid (rfl : ps.length = ps.length)
  generalize hL : ps.length = LN at *
  clear PL hL
  obtain ⟨_, _, y2, _, _, _⟩ := F0.out
  go_wp2_with fail
  have hne1 : w.heap.size ≠ w.heap.size + 1 := by omega
  have hne2 : w.heap.size + 1 ≠ w.heap.size := by omega
  have FK : Hid (∀ W, Below w1.heap.size w1 W → W.cell? ⟨w.heap.size, 2, none⟩ = some (.slice a k cap) ∧ Two (w.heap.size + 1) W (.int .i64 0) (.int .i64 0)) := Lib.hid fun W hW => ⟨(F0.out.below hW).2.2.1, T0.out.below hW⟩
  go_region_held3 (fun w' => w'.cell? ⟨w.heap.size, 2, none⟩ = some (.slice a k cap)) (go_keep) (first
    | (go_at_call 57; refine (H2.out _).mono ?_; rintro e w5 ⟨z, rfl, hz, gg⟩; have X5 := Lib.hid (bel_trans (bel_drew w1) gg); have HZ := Lib.hid hz; have UZ := Lib.hid (HU.out.below X5.out); obtain ⟨q2, _⟩ := FK.out _ X5.out; obtain ⟨a3, cap3, rfl, _, _⟩ := hz; clear gg)
    | (go_at_call 49; refine (H3.out _ _ _ (bel_trans X1.out X5.out) UZ.out HZ.out).mono ?_; rintro e w6 ⟨rfl, gg⟩; have X6 := Lib.hid (bel_trans X5.out gg); obtain ⟨q3, q4⟩ := FK.out _ X6.out; have T6 := Lib.hid q4; obtain ⟨r0, r1, rf0, rf1, _⟩ := q4; clear gg))
  go_wp2
  obtain ⟨r0', r1', _, _, _⟩ := T6.out
  obtain ⟨t0, t1⟩ := two_read w6 (w.heap.size + 1) (.int .i64 L) (.int .i64 H) r0' r1'
  refine bodyPost_ret (v := .tuple #[.agg #[.int .i64 L, .int .i64 H], .int .i64 0]) (by simp [results, Try.results25, go_sem, t0, t1]) rfl ?_
  exact ⟨rfl, ((bel_trans X1.out X6.out).setCell (Nat.le_succ _) _).setCell (Nat.le_succ _) _⟩
theorem lyDry_bad (nm : ByteArray) (cps dc dip m n E : Int) (a : Option Addr) (k cap : Nat) (ps : List Int) (w : World) (e1 : (E == 0) = false) (e2 : (E != 0) = true)
    (H1 : Hid (∀ W, Below w.heap.size w W → Calls Try.prog 56 #[.agg #[.string nm, .int .i64 cps, .slice a k cap, .int .i64 dc], .int .i64 dip, .int .i64 m, .int .i64 n] W fun e w' => ∃ D u, e = .returned (.tuple #[.int .i64 D, u, .int .i64 E]) ∧ Nums w' u ps ∧ Below W.heap.size W w')) :
    Calls Try.prog 25 #[.agg #[.string nm, .int .i64 cps, .slice a k cap, .int .i64 dc], .int .i64 dip, .int .i64 m, .int .i64 n] w fun e w' => e = .returned (.tuple #[.agg #[.int .i64 0, .int .i64 0], .int .i64 E]) ∧ Below w.heap.size w w' := by
  have T0 := Lib.hid (Two.new (w.alloc (.cells #[.string nm, .int .i64 cps, .slice a k cap, .int .i64 dc] 24)) (.int .i64 0) (.int .i64 0) 40)
  rw [World.size_alloc] at T0
  go_enter Try.func25, Try.ntmps25
  go_wp2_with fail
  refine (H1.out _ (bel_alloc (bel_alloc (Below.refl _ _)))).mono ?_
  rintro e w1 ⟨D, u, rfl, hu, gg⟩
  replace T0 := Lib.hid (T0.out.below gg)
  have X1 := Lib.hid (bel_alloc (bel_alloc gg)); clear gg
  obtain ⟨a2, cap2, rfl, _, _⟩ := hu
  generalize ps.length = LN at *
  obtain ⟨r0, r1, rf0, rf1, _⟩ := T0.out
  go_wp2
  obtain ⟨t0, t1⟩ := two_read w1 (w.heap.size + 1) (.int .i64 0) (.int .i64 0) r0 r1
  refine bodyPost_ret (v := .tuple #[.agg #[.int .i64 0, .int .i64 0], .int .i64 E]) (by simp [results, Try.results25, go_sem, t0, t1]) rfl ?_
  exact ⟨rfl, (X1.out.setCell (Nat.le_succ _) _).setCell (Nat.le_succ _) _⟩
theorem lyWet_any (v : Value) (c : Ck) (dip m n : Int) (w : World) (hv : CkV w v c) :
    Calls Try.prog 24 #[v, .int .i64 dip, .int .i64 m, .int .i64 n] w fun e w' => e = .returned (.tuple #[.agg #[.int .i64 (wtL c dip m n), .int .i64 (wtH c dip m n)], .int .i64 (wtE c dip m n)]) ∧ Below w.heap.size w w' := by
  have H1 : Hid (∀ W, Below w.heap.size w W → _) := Lib.hid fun W hW => lyMs_any v c dip m n W (hv.below hW)
  unfold wtL wtH
  by_cases g : wtE c dip m n = 0
  · obtain ⟨⟨h1, h2⟩, h3, h4, h5, _, h6, h7⟩ := wtE_zero g
    obtain ⟨_, _, _, hR⟩ := ccE_pf h1
    have hl : bg c.pf c.pf.length < c.pf.length := by have := bg_lt c.pf c.pf.length; have := hR.n0; omega
    have br : bgR c.pf ≤ 100000 := (hR.br _ hl).2
    rw [if_pos g, if_pos g, g]
    rw [g] at H1
    obtain ⟨kn, hkn⟩ : ∃ kn : Nat, n = kn := ⟨n.toNat, by omega⟩
    have ekn : n.toNat = kn := by omega
    rw [ekn]
    have hv' := hv
    obtain ⟨a, cap, rfl, hp, _⟩ := hv'
    have H1' : Hid (∀ W, Below w.heap.size w W → Calls Try.prog 56 #[.agg #[.string c.nm, .int .i64 c.ps, .slice a c.pf.length cap, .int .i64 c.dc], .int .i64 dip, .int .i64 m, .int .i64 n] W fun e w' => ∃ u, e = .returned (.tuple #[.int .i64 (2 * bgR c.pf), u, .int .i64 0]) ∧ Nums w' u (wtP c dip m n) ∧ Below W.heap.size W w') := Lib.hid fun W hW => (H1.out W hW).mono fun e w' ⟨D, u, q1, q2, q3, q4⟩ => ⟨u, by rw [q1, q2 rfl], q3, q4⟩
    have hH := hs_right dip kn (by omega) (by omega) h3.1 (by omega)
    have ln := hs_len dip kn
    have H2 : Hid (∀ W, Calls Try.prog 57 #[.int .i64 0, .int .i64 dip, .int .i64 n] W fun e w' => ∃ z, e = .returned z ∧ Nums w' z (hs dip kn) ∧ Below W.heap.size W w') := Lib.hid fun W => by
      have := lyUp_ok 0 dip dip kn W (by omega) (by omega) (by omega) (by omega) (by omega) (by omega) (by omega)
      rw [hkn]
      rwa [show (hs dip kn).map (· + 0) = hs dip kn by simp] at this
    have H3 : Hid (∀ u z W, Below w.heap.size w W → Nums W u (wtP c dip m n) → Nums W z (hs dip kn) → _) := Lib.hid fun u z W hW hu hz => lyBt_any (.slice a c.pf.length cap) u z c.pf _ _ W (hp.below hW) hu hz hR h6 h7 hH
    rw [ln, Nat.add_sub_cancel] at H3
    exact lyWet_ok _ _ _ dip m n (2 * bgR c.pf) _ _ a _ cap _ _ w H1' H2 H3
  · rw [if_neg g, if_neg g]
    obtain ⟨a, cap, rfl, _⟩ := hv
    exact lyWet_bad _ _ _ dip m n _ a _ cap _ w (by simpa using g) (by simpa using g) (Lib.hid fun W hW => (H1.out W hW).mono fun e w' ⟨D, u, q1, _, q3, q4⟩ => ⟨D, u, q1, q3, q4⟩)
theorem lyDry_any (v : Value) (c : Ck) (dip m n : Int) (w : World) (hv : CkV w v c) :
    Calls Try.prog 25 #[v, .int .i64 dip, .int .i64 m, .int .i64 n] w fun e w' => e = .returned (.tuple #[.agg #[.int .i64 (dyL c dip m n), .int .i64 (dyH c dip m n)], .int .i64 (wtE c dip m n)]) ∧ Below w.heap.size w w' := by
  have H1 : Hid (∀ W, Below w.heap.size w W → _) := Lib.hid fun W hW => lyMs_any v c dip m n W (hv.below hW)
  unfold dyL dyH
  by_cases g : wtE c dip m n = 0
  · obtain ⟨⟨h1, h2⟩, h3, h4, h5, _, h6, h7⟩ := wtE_zero g
    obtain ⟨_, _, _, hR⟩ := ccE_pf h1
    have hl : bg c.pf c.pf.length < c.pf.length := by have := bg_lt c.pf c.pf.length; have := hR.n0; omega
    have br : bgR c.pf ≤ 100000 := (hR.br _ hl).2
    rw [if_pos g, if_pos g, g]
    rw [g] at H1
    obtain ⟨kn, hkn⟩ : ∃ kn : Nat, n = kn := ⟨n.toNat, by omega⟩
    have ekn : n.toNat = kn := by omega
    rw [ekn]
    have hv' := hv
    obtain ⟨a, cap, rfl, hp, _⟩ := hv'
    have H1' : Hid (∀ W, Below w.heap.size w W → Calls Try.prog 56 #[.agg #[.string c.nm, .int .i64 c.ps, .slice a c.pf.length cap, .int .i64 c.dc], .int .i64 dip, .int .i64 m, .int .i64 n] W fun e w' => ∃ u, e = .returned (.tuple #[.int .i64 (2 * bgR c.pf), u, .int .i64 0]) ∧ Nums w' u (wtP c dip m n) ∧ Below W.heap.size W w') := Lib.hid fun W hW => (H1.out W hW).mono fun e w' ⟨D, u, q1, q2, q3, q4⟩ => ⟨u, by rw [q1, q2 rfl], q3, q4⟩
    have hH := hd_right (c := bgR c.pf) (p := dip) (n := kn) h3.1 h3.2 br (by omega) (by omega)
    have ln := hd_len dip (2 * bgR c.pf) kn
    have H2 : Hid (∀ W, Calls Try.prog 57 #[.int .i64 dip, .int .i64 (2 * bgR c.pf), .int .i64 n] W fun e w' => ∃ z, e = .returned z ∧ Nums w' z (hd dip (2 * bgR c.pf) kn) ∧ Below W.heap.size W w') := Lib.hid fun W => by
      have := lyUp_ok dip (2 * bgR c.pf) (2 * bgR c.pf - dip) kn W rfl (by omega) (by omega) (by omega) (by omega) (by omega) (by omega)
      rw [hkn]
      exact this
    have H3 : Hid (∀ u z W, Below w.heap.size w W → Nums W u (wtP c dip m n) → Nums W z (hd dip (2 * bgR c.pf) kn) → _) := Lib.hid fun u z W hW hu hz => lyBt_any (.slice a c.pf.length cap) u z c.pf _ _ W (hp.below hW) hu hz hR h6 h7 hH
    rw [ln, Nat.add_sub_cancel] at H3
    exact lyDry_ok _ _ _ dip m n (2 * bgR c.pf) _ _ a _ cap _ _ w H1' H2 H3
  · rw [if_neg g, if_neg g]
    obtain ⟨a, cap, rfl, _⟩ := hv
    exact lyDry_bad _ _ _ dip m n _ a _ cap _ w (by simpa using g) (by simpa using g) (Lib.hid fun W hW => (H1.out W hW).mono fun e w' ⟨D, u, q1, _, q3, q4⟩ => ⟨D, u, q1, q3, q4⟩)
end Go.Proofs.Ytgjdopjolokaiaa

/- The reference of layer 7: Refine. -/
namespace Go.Proofs.Ytgjdopjolokaiaa
open Go.RowKit

/-- the first 2 k + 1 heights of those with the middles between them -/
def rfk (l : List Int) : Nat → List Int
  | 0 => [l.getD 0 0]
  | k + 1 => rfk l k ++ [(l.getD k 0 + l.getD (k + 1) 0) / 2, l.getD (k + 1) 0]
theorem rfk_len (l : List Int) (k : Nat) : (rfk l k).length = 2 * k + 1 := by
  induction k with
  | zero => rfl
  | succ k ih => show (rfk l k ++ _).length = _; rw [List.length_append, ih]; simp; omega
/-- what Refine returns -/
def rfE (l : List Int) : Int := if hcE l = 0 then (if 65 < 2 * l.length - 1 then 15 else 0) else hcE l
def rfL (l : List Int) : List Int := if rfE l = 0 then rfk l (l.length - 1) else []

theorem own_lit (w : World) (B : Nat) (x : Int) (hB : B ≤ w.heap.size) : (w.alloc (.cells #[.int .i64 x] 3)).ownsRow B 3 1 (.slice (some ⟨w.heap.size, 0, none⟩) 1 1) 1 ([x].map (Value.int .i64)) :=
  ⟨rfl, .inr ⟨w.heap.size, 1, #[.int .i64 x], rfl, hB, by show (w.heap.push _)[w.heap.size]? = _; exact Array.getElem?_push_size, by omega, by unfold maxLen; omega, rfl, rfl⟩⟩
theorem own_two {B k : Nat} {w wr w1 : World} {v v' : Value} {zs : List Int} {x y : Int} {o : Obj} (hB : B ≤ wr.heap.size) (hnx : Below B w wr)
    (hown : wr.ownsRow B 3 1 v k (zs.map (Value.int .i64))) (hown' : w1.ownsRow B 3 1 v' (k + 2) (zs.map (Value.int .i64) ++ [.int .i64 x, .int .i64 y])) (hgrow : (wr.alloc o).grownBy w1 v.ownBlock) :
    w1.ownsRow B 3 1 v' (k + 2) ((zs ++ [x, y]).map (Value.int .i64)) ∧ Below B w w1 :=
  ⟨by simpa using hown', (hnx.alloc hB o).grown hgrow (by simp; omega) (fun j hj => (hown.lt j hj).1)⟩

end Go.Proofs.Ytgjdopjolokaiaa

/- Package segment: Refine. -/
namespace Go.Proofs.Ytgjdopjolokaiaa
open Go.RowKit Go.Shelf
attribute [local go_sem] Oper.semAt_some

/-- the heights with the middles behind some strips -/
def rfs (l : List Int) (x0 : Int) {m : Nat} (pre : List (Fin m)) : List Int := [x0] ++ pre.flatMap fun j => [(l.getD j.val 0 + l.getD (j.val + 1) 0) / 2, l.getD (j.val + 1) 0]
theorem rfs_snoc (l : List Int) (x0 : Int) {m : Nat} (pre : List (Fin m)) (j : Fin m) : rfs l x0 (pre ++ [j]) = rfs l x0 pre ++ [(l.getD j.val 0 + l.getD (j.val + 1) 0) / 2, l.getD (j.val + 1) 0] := by
  simp [rfs]
theorem rfs_len (l : List Int) (x0 : Int) {m : Nat} (pre : List (Fin m)) : (rfs l x0 pre).length = 2 * pre.length + 1 := by
  induction pre with
  | nil => rfl
  | cons a pre ih => simp [rfs] at ih ⊢; omega
theorem rfs_all (l : List Int) {m : Nat} (k : Nat) (h : k ≤ m) : rfs l (l.getD 0 0) (ups m k) = rfk l k := by
  induction k with
  | zero => rfl
  | succ k ih => rw [ups_succ (by omega), rfs_snoc, ih (by omega)]; rfl

theorem news_two (w : World) (x y : Value) (t : TypeId) : ∀ j u, [x, y][j]? = some u → (w.alloc (.cells #[x, y] t)).cell? ((⟨w.heap.size, 0, none⟩ : Addr).add j) = some u := by
  intro j u hj
  match j, hj with
  | 0, hj => simp at hj; subst hj; simp [Addr.add, go_sem]
  | 1, hj => simp at hj; subst hj; simp [Addr.add, go_sem]
  | j + 2, hj => simp at hj
theorem own_some {W : World} {base : Nat} {e : TypeId} {size : Nat} {v : Value} {k : Nat} {xs : List Value} (hk : 0 < k) (h : W.ownsRow base e size v k xs) : ∃ g cap, v = .slice (some ⟨g, 0, none⟩) k cap := by
  obtain ⟨k', rfl⟩ : ∃ k', k = k' + 1 := ⟨k - 1, by omega⟩
  exact ownsRow_succ h

theorem rfn_bad (v : Value) (E : Int) (w : World) (e1 : (E == 0) = false) (e2 : (E != 0) = true)
    (H3 : Hid (Calls Try.prog 50 #[v] w fun e w' => e = .returned (.int .i64 E) ∧ Below w.heap.size w w')) :
    Calls Try.prog 21 #[v] w fun e w' => e = .returned (.tuple #[.slice none 0 0, .int .i64 E]) ∧ Below w.heap.size w w' := by
  go_enter Try.func21, Try.ntmps21
  go_wp2_with fail
  refine H3.out.mono ?_
  rintro e w1 ⟨rfl, gg⟩
  have X1 := Lib.hid gg; clear gg
  go_wp2
  go_returns
  exact ⟨rfl, X1.out⟩
theorem rfn_many (a : Option Addr) (n cap : Nat) (w : World) (h : 33 < n) (h1 : n ≤ 65)
    (H3 : Hid (Calls Try.prog 50 #[.slice a n cap] w fun e w' => e = .returned (.int .i64 0) ∧ Below w.heap.size w w')) :
    Calls Try.prog 21 #[.slice a n cap] w fun e w' => e = .returned (.tuple #[.slice none 0 0, .int .i64 15]) ∧ Below w.heap.size w w' := by
  go_enter Try.func21, Try.ntmps21
  go_wp2_with fail
  refine H3.out.mono ?_
  rintro e w1 ⟨rfl, gg⟩
  have X1 := Lib.hid gg; clear gg
  go_wp2
  go_returns
  exact ⟨rfl, X1.out⟩

set_option maxRecDepth 100000 in
set_option maxHeartbeats 8000000 in
theorem rfn_ok (b off n cap : Nat) (l : List Int) (w : World) (n0 : 2 ≤ n) (n1 : n ≤ 33) (hb : b < w.heap.size)
    (hc : Hid (∀ j, j < n → w.cell? ⟨b, off + j, none⟩ = some (.int .i64 (l.getD j 0)))) (hd : Hid (∀ j, j < n → 0 ≤ l.getD j 0 ∧ l.getD j 0 ≤ 200000))
    (H3 : Hid (Calls Try.prog 50 #[.slice (some ⟨b, off, none⟩) n cap] w fun e w' => e = .returned (.int .i64 0) ∧ Below w.heap.size w w')) :
    Calls Try.prog 21 #[.slice (some ⟨b, off, none⟩) n cap] w fun e w' => ∃ v, e = .returned (.tuple #[v, .int .i64 0]) ∧ Nums w' v (rfk l (n - 1)) ∧ Below w.heap.size w w' := by
  obtain ⟨i0, hi, hz0, hz1, hz2⟩ := info_parts info_int
  refine (callsIn_wide (n := 10)).1 ?_
  refine callsIn_of_wp_marks Try.func21 rfl trivial ?_ rfl
  simp only [Try.ntmps21, List.size_toArray, List.length_cons, List.length_nil, Nat.reduceAdd, Nat.reduceSub, Array.replicate_succ, Array.replicate_zero, List.push_toArray, List.append_toArray, List.nil_append, List.cons_append]
  gi_wp2_with fail
  refine ⟨trivial, (callsIn_wide.2 H3.out).mono ?_⟩
  rintro e w0 ⟨rfl, gg⟩
  have hx : w0.cell? ⟨b, off, none⟩ = some (.int .i64 (l.getD 0 0)) := by rw [(bcell gg).1 _ _ hb]; simpa using hc.out 0 (by omega)
  have X0 := Lib.hid gg; clear gg H3
  obtain ⟨x0, hl0⟩ : ∃ x0, l.getD 0 0 = x0 := ⟨_, rfl⟩
  rw [hl0] at hx
  gi_wp2_with fail
  refine ⟨trivial, (callsIn_wide.2 (strips_any _ _ _ _)).mono ?_⟩
  rintro e w3 ⟨rfl, rfl⟩
  gi_wp2_with fail
  have O0 : Hid ((w0.alloc (.cells #[.int .i64 x0] 3)).ownsRow w.heap.size 3 1 (.slice (some ⟨w0.heap.size, 0, none⟩) 1 1) 1 ([x0].map (Value.int .i64))) := own_lit w0 _ x0 X0.out.size
  have BO : Hid (Boxed ((w0.alloc (.cells #[.int .i64 x0] 3)).alloc (.cells #[.slice (some ⟨w0.heap.size, 0, none⟩) 1 1] 25)) (w0.heap.size + 1) 25 (.slice (some ⟨w0.heap.size, 0, none⟩) 1 1)) := by
    have := Boxed.new (w0.alloc (.cells #[.int .i64 x0] 3)) 25 (.slice (some ⟨w0.heap.size, 0, none⟩) 1 1)
    rwa [World.size_alloc] at this
  have BX : Hid (Boxed (((w0.alloc (.cells #[.int .i64 x0] 3)).alloc (.cells #[.slice (some ⟨w0.heap.size, 0, none⟩) 1 1] 25)).alloc (.cells #[.slice (some ⟨b, off, none⟩) n cap] 25)) (w0.heap.size + 1 + 1) 25 (.slice (some ⟨b, off, none⟩) n cap)) := by
    have := Boxed.new ((w0.alloc (.cells #[.int .i64 x0] 3)).alloc (.cells #[.slice (some ⟨w0.heap.size, 0, none⟩) 1 1] 25)) 25 (.slice (some ⟨b, off, none⟩) n cap)
    rwa [World.size_alloc, World.size_alloc] at this
  replace O0 := Lib.hid ((O0.out.alloc (.cells #[.slice (some ⟨w0.heap.size, 0, none⟩) 1 1] 25)).alloc (.cells #[.slice (some ⟨b, off, none⟩) n cap] 25))
  replace BO := Lib.hid (BO.out.alloc (.cells #[.slice (some ⟨b, off, none⟩) n cap] 25))
  have X1 : Hid (Below w.heap.size w (((w0.alloc (.cells #[.int .i64 x0] 3)).alloc (.cells #[.slice (some ⟨w0.heap.size, 0, none⟩) 1 1] 25)).alloc (.cells #[.slice (some ⟨b, off, none⟩) n cap] 25))) :=
    bel_trans X0.out (bel_alloc (bel_alloc (bel_alloc (Below.refl _ _))))
  have hwg : w.heap.size ≤ w0.heap.size := X0.out.size
  obtain ⟨W0, hW0⟩ : ∃ W0, (((w0.alloc (.cells #[.int .i64 x0] 3)).alloc (.cells #[.slice (some ⟨w0.heap.size, 0, none⟩) 1 1] 25)).alloc (.cells #[.slice (some ⟨b, off, none⟩) n cap] 25)) = W0 := ⟨_, rfl⟩
  have hsz : W0.heap.size = w0.heap.size + 1 + 1 + 1 := by rw [← hW0]; simp
  rw [hW0] at O0 BO BX X1 ⊢
  clear hW0 X0 hx
  generalize w0.heap.size = g at *
  clear w0
  have hl1 : ∀ j, j < n → W0.cell? ⟨b, off + j, none⟩ = some (.int .i64 (l.getD j 0)) := fun j hj => by rw [(bcell X1.out).1 _ _ hb]; exact hc.out j hj
  refine wpIn_rangeFunc_ownH rfl (by omega) (gf := 82) (lb := #[.pointer (some ⟨g + 1 + 1, 0, none⟩)]) rfl trivial (enters_of Try.func82 (by kernel_rfl) rfl)
    (strips_stops 9 (g + 1 + 1) w.heap.size b off n cap l (by omega) (by omega) hb W0 X1.out.size BX.out.cell hl1) kpS_t (kpS_b X1.out.size) (Below.refl _ _) (fun _ => rfl)
    (fun pre W => ((∃ v, Boxed W (g + 1) 25 v ∧ W.ownsRow w.heap.size 3 1 v (rfs l x0 pre).length ((rfs l x0 pre).map (Value.int .i64)) ∧ True) ∧ Boxed W (g + 1 + 1) 25 (.slice (some ⟨b, off, none⟩) n cap)) ∧ Below w.heap.size w W)
    (fun _ _ _ => False)
    (OwnFrom.and (Own.from (fun s A B row ⟨h1, h2⟩ hg hr => ⟨holdsRow_own w.heap.size (g + 1) 25 3 1 (fun pre => (rfs l x0 pre).length) (fun pre => (rfs l x0 pre).map (Value.int .i64)) (fun _ _ => True) s A B row h1 hg hr, h2.kept hg (fun e => by obtain ⟨o, h3, h4⟩ := hr _ e.symm; rw [show A.heap[g + 1 + 1]? = _ from h2] at h3; cases h3; cases h4)⟩) _) (ownFrom_below (Nat.le_refl _) X1.out.size))
    (fun _ _ _ _ _ hs _ _ => hs)
    ⟨⟨⟨_, BO.out, O0.out, trivial⟩, BX.out⟩, X1.out⟩
    (fun x a' W => ∃ Bx : Nat, g + 1 + 1 < Bx ∧ Two Bx W (.int .i64 (l.getD x.val 0)) (.int .i64 (l.getD (x.val + 1) 0)) ∧ a' = { tmps := #[.slice (some ⟨b, off, none⟩) n cap, undef, .slice none 0 0, .int .i64 0, .int .i64 0, .pointer (some ⟨g + 1, 0, none⟩), .pointer (some ⟨Bx, 0, none⟩), .slice (some ⟨b, off, none⟩) n cap, .int .i64 0, .int .i64 0, .bool false, undef, .slice (some ⟨b, off, none⟩) n cap, .int .i64 n, .int .i64 (2 * n), .int .i64 (2 * n - 1), .bool (decide ((65 : Int) < 2 * n - 1)), .slice (some ⟨b, off, none⟩) n cap, .pointer (some ⟨b, off, none⟩), .int .i64 x0, .slice (some ⟨g, 0, none⟩) 1 1, .slice (some ⟨b, off, none⟩) n cap, .func (.func 82) #[] #[.pointer (some ⟨g + 1 + 1, 0, none⟩)], .agg #[.int .i64 (l.getD x.val 0), .int .i64 (l.getD (x.val + 1) 0)], undef, undef, undef, undef, undef, undef, undef, undef, undef, undef, undef, undef], defers := [] })
    (fun x a' _ A B row ⟨Bx, h1, h2, h3⟩ hg hr => ⟨Bx, h1, two_kept h2 hg (fun r e => (hr r e).2), h3⟩) ?assign ?body ?done ?stop
  case assign =>
    rintro lp pre x W K ⟨⟨⟨v, h1, h2, _⟩, h3⟩, h4⟩ hK
    dsimp only [encB]
    generalize l.getD x.val 0 = u at *
    generalize l.getD (x.val + 1) 0 = z at *
    gi_wp2
    exact hK _ _ ((KeepsOthers.alloc _ _).from _) ⟨(Below.refl _ W).alloc h4.size _, fun v e => (cell_al _ e)⟩ ⟨⟨⟨v, h1.alloc _, h2.alloc _, trivial⟩, h3.alloc _⟩, bA h4 _⟩ ⟨W.heap.size, h3.lt, Two.new _ _ _ _, rfl⟩
  case body =>
    rintro lp pre x aa W hlp ⟨rr, hrr⟩ ⟨⟨⟨v, hv, hrow, _⟩, hbx⟩, hB⟩ ⟨Bx, hBx, iX, rfl⟩ hlen
    have hxl := x.isLt
    obtain ⟨u0, u1⟩ := hd.out x.val (by omega)
    obtain ⟨z0, z1⟩ := hd.out (x.val + 1) (by omega)
    have es := rfs_snoc l x0 pre x
    have e2 : (rfs l x0 (pre ++ [x])).length = 2 * pre.length + 1 + 2 := by rw [rfs_len]; simp; omega
    rw [rfs_len] at hrow
    generalize l.getD x.val 0 = u at *
    generalize l.getD (x.val + 1) 0 = z at *
    have hc := hv.cell
    have hx0 := iX.1
    have hx1 := iX.2.1
    have hsz1 := hB.size
    gi_wp2_with (gi_at_builtin; refine wpListIn_append_own _ rfl _ _ 25 rfl w.heap.size 3 i0 (.int .i64 0) 1 8 Try.underlying25 hi hz0 hz1 hz2 rfl (by decide) _ _ _ rfl (hrow.alloc _) ⟨W.heap.size, 0, none⟩ 2 2 [.int .i64 ((u + z) / 2), .int .i64 z] rfl rfl (news_two _ _ _ _) (by simp [Value.oneCell']) (by unfold maxLen; omega) (by omega) (by simp; omega) ?_; intro v' w1 hown' hgrow _; obtain ⟨g', cap', rfl⟩ := own_some (by omega) hown'; obtain ⟨hv1, hv2, hr2, hk2, hb2⟩ := hv.appended (by decide) hrow hB.size (by omega) hown' hgrow; have hc1 := hv1.cell; have hf1 := hv1.frozen; have hw1 := (hbx.alloc _).kept hgrow (hbx.not_row (by decide) hrow))
    have hw2 := hw1.kept (grownBy_setCell' w1 (g + 1) (.slice (some ⟨g', 0, none⟩) (2 * pre.length + 1 + 2) cap')) (by simp)
    refine ⟨hk2.from _, ⟨hb2, fun y e => ?_⟩, ⟨⟨_, hv2, ?_, trivial⟩, hw2⟩, hB.trans hb2⟩
    · have := hbx.cell.symm.trans e
      cases this
      exact hw2.cell
    · rw [e2, es, List.map_append]
      exact hr2
  case done =>
    rintro D ys W hD rfl ⟨⟨⟨v, hv, hrow, _⟩, hbx⟩, hB⟩ hK
    rw [← hl0, rfs_all l (n - 1) (Nat.le_refl _)] at hrow
    have hc := hv.cell
    gi_wp2
    refine ⟨by simp, .inl ⟨_, _, rfl, run_takeDeferred hK, ?_⟩⟩
    refine ⟨.tuple #[v, .int .i64 0], by simp [results, Try.results21, go_sem], v, rfl, nums_of_own (ownsRow_putObj hrow _ hK rfl), hB.trans (belowK_b (w := w) (Nat.le_refl _) W D _ _ (by omega) hK rfl rfl)⟩
  case stop =>
    rintro D cc pre W _ _ h _
    exact h.elim
theorem rfn_any (v : Value) (l : List Int) (w : World) (hv : Nums w v l) :
    Calls Try.prog 21 #[v] w fun e w' => ∃ u, e = .returned (.tuple #[u, .int .i64 (rfE l)]) ∧ Nums w' u (rfL l) ∧ Below w.heap.size w w' := by
  have HC := chk_any v l w hv
  by_cases h0 : hcE l = 0
  · have hR := (hcE_iff l).1 h0
    rw [h0] at HC
    obtain ⟨a, cap, rfl, hl, hh⟩ := hv
    have n0 := hR.n0
    have n1 := hR.n1
    by_cases h1 : 65 < 2 * l.length - 1
    · have e : rfE l = 15 := by unfold rfE; rw [if_pos h0, if_pos h1]
      have e2 : rfL l = [] := by unfold rfL; rw [e]; rfl
      rw [e, e2]
      exact (rfn_many a l.length cap w (by omega) n1 HC).mono fun _ w' h => ⟨_, h.1, ⟨none, 0, rfl, by simp, .inl rfl⟩, h.2⟩
    · have e : rfE l = 0 := by unfold rfE; rw [if_pos h0, if_neg h1]
      have e2 : rfL l = rfk l (l.length - 1) := by unfold rfL; rw [if_pos e]
      rw [e, e2]
      rcases hh with hh | ⟨b, off, rfl, hb, hc⟩
      · omega
      · exact rfn_ok b off l.length cap l w n0 (by omega) hb hc hR.bd HC
  · have e : rfE l = hcE l := by unfold rfE; rw [if_neg h0]
    have e2 : rfL l = [] := by unfold rfL; rw [e, if_neg h0]
    rw [e, e2]
    exact (rfn_bad v _ w (by simpa using h0) (by simpa using h0) HC).mono fun _ w' h => ⟨_, h.1, ⟨none, 0, rfl, by simp, .inl rfl⟩, h.2⟩
end Go.Proofs.Ytgjdopjolokaiaa
