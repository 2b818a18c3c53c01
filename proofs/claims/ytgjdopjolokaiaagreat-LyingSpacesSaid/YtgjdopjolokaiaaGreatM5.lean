/- Texts that the proofs of this seat share, one behind the other: LPE, LPF, CDE, SPg, LPG, LPH, SRefH, SPh, SC, SEq, SAx, LAX, LEB, LAW, CRB, CRC, CRD, KT, LFO, PO0, KO, LOZ, PPL. -/
import Derived.Test.YtgjdopjolokaiaaGreatM4
import Derived.Deep.RegionHeld3
import Derived.Test.YtgjdopjolokaiaaGreatM2
import Derived.Deep.RegionLaw
import Derived.Test.YtgjdopjolokaiaaGreatM3
import Derived.Test.YtgjdopjolokaiaaGreatM1
import Derived.StillTailTactics
import Derived.Maps.AppendAt
import Derived.Laws.EntriesVeiled
import Derived.Test.YtgjdopjolokaiaaGreatShelf
import Derived.Laws.IdiomCopy
import Derived.BigQuiet
import Derived.Deep.RegionWith
import Derived.RangeFuncBox
import Derived.Deep.Upon
import Derived.Test.YtgjdopjolokaiaaGreatRows
import Derived.ProofKit
import Derived.OpenShut
import Derived.ShutString
import Derived.ChangeOld
import Derived.Lib.SmallJoins
import Derived.MakeChecks
import Derived.Deep.Slices
import Derived.Deep.Fields
import Derived.ChangeSame
import Derived.Deep.SlicePairs

set_option linter.unusedVariables false
set_option linter.unusedSimpArgs false

/- Package lying: Between, Strips. -/
namespace Go.Proofs.YtgjdopjolokaiaaGreat
open Go.RowKit

theorem lyBt_any (v u h : Value) (l : List (Int × Int)) (ps hs : List Int) (w : World) (hv : Pts w v l) (hu : Nums w u ps) (hh : Nums w h hs) (hR : RP l) (hP : PlR l ps) (n65 : ps.length ≤ 65) (hH : HR hs) :
    Calls Tryz.prog 26 #[v, u, h] w fun e w' => e = .returned (.agg #[.int .i64 (tbL l (bgR l) ps hs (hs.length - 1) (ps.length - 1)), .int .i64 (tbH l (bgR l) ps hs (hs.length - 1) (ps.length - 1))]) ∧ Below w.heap.size w w' := by
  have n0 := hR.n0
  have p0 := hP.n0
  have h0 := hH.n0
  have bb : 0 ≤ bgR l ∧ bgR l ≤ 100000 := by
    have hl : bg l l.length < l.length := by have := bg_lt l l.length; omega
    have := hR.br _ hl
    unfold bgR; omega
  have hv1 := hv
  have hu1 := hu
  have hh1 := hh
  obtain ⟨a, cap, rfl, _, hz | ⟨b, off, rfl, hb, _⟩⟩ := hv1
  · omega
  obtain ⟨a2, cap2, rfl, hc2, hz | ⟨b2, off2, rfl, hb2, hps⟩⟩ := hu1
  · omega
  obtain ⟨a3, cap3, rfl, _, hz | ⟨b3, off3, rfl, hb3, _⟩⟩ := hh1
  · omega
  obtain ⟨q, hq⟩ : ∃ q, ps.length = q + 1 := ⟨ps.length - 1, by omega⟩
  rw [hq] at hu hc2 ⊢
  rw [Nat.add_sub_cancel]
  refine lyBt_some b off _ cap b2 off2 q cap2 b3 off3 _ cap3 l ps hs (bgR l) (hs.length - 1) w (by omega) (by omega) hc2.1 (by omega) (Lib.hid hR) (Lib.hid hP) (Lib.hid hq) (Lib.hid hH) hv (Lib.hid fun j hj => hps j (by omega)) hb hb2 (Lib.hid fun W hW => lyMid_any _ l W (hv.below hW) hR) (Lib.hid fun x W x0 x1 hp => ?_) (Lib.hid fun k W hk hW => ?_)
  · have e0 : plE l x = 0 := plE_zero.2 ⟨hR, x0, x1⟩
    have := At_any _ l x W hp
    unfold atL atH at this
    rwa [if_pos e0, if_pos e0, e0] at this
  · obtain ⟨⟨w0, w1⟩, s0, s1, s2, s3⟩ := hP.slice hR (k := k) (by omega)
    exact lySpc_any _ _ _ _ _ hs W (hh.below hW) hH ⟨by omega, w1⟩ ⟨by omega, s1, by omega⟩ bb
theorem lyBw_bad (v u h : Value) (E : Int) (nm : ByteArray) (cps dc : Int) (a : Option Addr) (m cap : Nat) (hv : v = .agg #[.string nm, .int .i64 cps, .slice a m cap, .int .i64 dc]) (w : World) (e1 : (E == 0) = false) (e2 : (E != 0) = true)
    (H1 : Hid (∀ W, Below w.heap.size w W → Calls Tryz.prog 25 #[v, u, h] W fun e w' => e = .returned (.int .i64 E) ∧ Below W.heap.size W w')) :
    Calls Tryz.prog 7 #[v, u, h] w fun e w' => e = .returned (.tuple #[.agg #[.int .i64 0, .int .i64 0], .int .i64 E]) ∧ Below w.heap.size w w' := by
  subst hv
  have T0 := Lib.hid (Two.new (w.alloc (.cells #[.string nm, .int .i64 cps, .slice a m cap, .int .i64 dc] 24)) (.int .i64 0) (.int .i64 0) 29)
  rw [World.size_alloc] at T0
  go_enter Tryz.func7, Tryz.ntmps7
  go_wp2_with fail
  refine (H1.out _ (bel_alloc (bel_alloc (Below.refl _ _)))).mono ?_
  rintro e w1 ⟨rfl, gg⟩
  replace T0 := Lib.hid (T0.out.below gg)
  have X1 := Lib.hid (bel_alloc (bel_alloc gg)); clear gg
  obtain ⟨r0, r1, rf0, rf1, _⟩ := T0.out
  go_wp2
  obtain ⟨t0, t1⟩ := two_read w1 (w.heap.size + 1) (.int .i64 0) (.int .i64 0) r0 r1
  refine bodyPost_ret (v := .tuple #[.agg #[.int .i64 0, .int .i64 0], .int .i64 E]) (by simp [results, Tryz.results7, go_sem, t0, t1]) rfl ?_
  exact ⟨rfl, (X1.out.setCell (Nat.le_succ _) _).setCell (Nat.le_succ _) _⟩
theorem lyBw_ok (v u h : Value) (L H : Int) (nm : ByteArray) (cps dc : Int) (a : Option Addr) (m cap : Nat) (hv : v = .agg #[.string nm, .int .i64 cps, .slice a m cap, .int .i64 dc]) (w : World)
    (H1 : Hid (∀ W, Below w.heap.size w W → Calls Tryz.prog 25 #[v, u, h] W fun e w' => e = .returned (.int .i64 0) ∧ Below W.heap.size W w'))
    (H2 : Hid (∀ W, Below w.heap.size w W → Calls Tryz.prog 26 #[.slice a m cap, u, h] W fun e w' => e = .returned (.agg #[.int .i64 L, .int .i64 H]) ∧ Below W.heap.size W w')) :
    Calls Tryz.prog 7 #[v, u, h] w fun e w' => e = .returned (.tuple #[.agg #[.int .i64 L, .int .i64 H], .int .i64 0]) ∧ Below w.heap.size w w' := by
  subst hv
  have F0 := Lib.hid ((Quad.new w (.string nm) (.int .i64 cps) (.slice a m cap) (.int .i64 dc) 24).alloc (.cells #[.int .i64 0, .int .i64 0] 29))
  have T0 := Lib.hid (Two.new (w.alloc (.cells #[.string nm, .int .i64 cps, .slice a m cap, .int .i64 dc] 24)) (.int .i64 0) (.int .i64 0) 29)
  rw [World.size_alloc] at T0
  go_enter Tryz.func7, Tryz.ntmps7
  go_wp2_with fail
  refine (H1.out _ (bel_alloc (bel_alloc (Below.refl _ _)))).mono ?_
  rintro e w1 ⟨rfl, gg⟩
  replace T0 := Lib.hid (T0.out.below gg)
  replace F0 := Lib.hid (F0.out.below gg)
  have X1 := Lib.hid (bel_alloc (bel_alloc gg)); clear gg
  obtain ⟨y0, y1, y2, y3, _, _⟩ := F0.out
  go_wp2_with fail
  refine (H2.out _ X1.out).mono ?_
  rintro e w2 ⟨rfl, gg⟩
  replace T0 := Lib.hid (T0.out.below gg)
  replace X1 := Lib.hid (bel_trans X1.out gg); clear gg y0 y1 y2 y3
  obtain ⟨r0, r1, rf0, rf1, _⟩ := T0.out
  go_wp2
  obtain ⟨t0, t1⟩ := two_read w2 (w.heap.size + 1) (.int .i64 L) (.int .i64 H) r0 r1
  refine bodyPost_ret (v := .tuple #[.agg #[.int .i64 L, .int .i64 H], .int .i64 0]) (by simp [results, Tryz.results7, go_sem, t0, t1]) rfl ?_
  exact ⟨rfl, (X1.out.setCell (Nat.le_succ _) _).setCell (Nat.le_succ _) _⟩
theorem lyBw_any (v u h : Value) (c : Ck) (ps hs : List Int) (w : World) (hv : CkV w v c) (hu : Nums w u ps) (hh : Nums w h hs) :
    Calls Tryz.prog 7 #[v, u, h] w fun e w' => e = .returned (.tuple #[.agg #[.int .i64 (btwL c ps hs), .int .i64 (btwH c ps hs)], .int .i64 (lrE c ps hs)]) ∧ Below w.heap.size w w' := by
  have H1 : Hid (∀ W, Below w.heap.size w W → _) := Lib.hid fun W hW => lyRd_any v u h c ps hs W (hv.below hW) (hu.below hW) (hh.below hW)
  have hv' := hv
  obtain ⟨a, cap, e, hp, _⟩ := hv'
  unfold btwL btwH
  by_cases g : lrE c ps hs = 0
  · obtain ⟨⟨⟨h1, h2⟩, h3, h4⟩, h5⟩ := lrE_zero.1 g
    obtain ⟨_, _, _, hR⟩ := ccE_pf h1
    rw [if_pos g, if_pos g, g]
    rw [g] at H1
    exact lyBw_ok v u h _ _ _ _ _ a _ cap e w H1 (Lib.hid fun W hW => lyBt_any _ u h c.pf ps hs W (hp.below hW) (hu.below hW) (hh.below hW) hR h3 h4 h5)
  · rw [if_neg g, if_neg g]
    exact lyBw_bad v u h _ _ _ _ a _ cap e w (by simpa using g) (by simpa using g) H1
/-! ### rows of bounds -/
theorem row_belB {W W' : World} {B n size : Nat} {e : TypeId} {v : Value} {xs : List Value} (h : W.ownsRow B e size v n xs) (hb : Below W.heap.size W W') : W'.ownsRow B e size v n xs := by
  obtain ⟨h1, h2⟩ := h
  refine ⟨h1, ?_⟩
  rcases h2 with ⟨h2, h3⟩ | ⟨g, cap, cur, h2, hg, hh, r⟩
  · exact .inl ⟨h2, h3⟩
  · refine .inr ⟨g, cap, cur, h2, hg, ?_, r⟩
    rw [hb.block _ (Array.getElem?_eq_some_iff.1 hh).1]
    exact hh
def OwnB (w : World) (B : Nat) (v : Value) (l : List (Int × Int)) : Prop := w.ownsRow B 29 2 v l.length (flat l)
theorem OwnB.pts {w : World} {B : Nat} {v : Value} {l : List (Int × Int)} (h : OwnB w B v l) : Pts w v l := by
  have h' := h
  obtain ⟨_, h2⟩ := h
  rcases h2 with ⟨rfl, hn⟩ | ⟨g, cap, cur, rfl, hg, hh, hc, hm, hs, ht⟩
  · exact ⟨none, 0, by rw [hn], by omega, .inl hn⟩
  · have hlt : g < w.heap.size := (Array.getElem?_eq_some_iff.1 hh).1
    unfold maxLen at hm
    refine ⟨_, cap, rfl, ⟨hc, by omega⟩, .inr ⟨g, 0, rfl, hlt, fun j hj => ?_⟩⟩
    have hcell := World.ownsRow.cells h' (g := g) rfl
    have hf := flat_at l j hj
    have c0 := hcell _ _ hf.1
    have c1 := hcell _ _ hf.2
    rw [Go.WideShapes.add_plain] at c0 c1
    exact ⟨c0, by rw [Nat.add_assoc]; exact c1⟩
theorem flat_set (l : List (Int × Int)) (k : Nat) (x y : Int) : ((flat l).set (k * 2) (.int .i64 x)).set (k * 2 + 1) (.int .i64 y) = flat (l.set k (x, y)) := by
  induction l generalizing k with
  | nil => simp [flat]
  | cons q l ih =>
    cases k with
    | zero => simp [flat]
    | succ k =>
      rw [show (k + 1) * 2 = k * 2 + 1 + 1 by omega]
      simp only [flat, List.set_cons_succ]
      rw [ih]
theorem OwnB.put {w : World} {B g n cap : Nat} {l : List (Int × Int)} (hn : l.length = n) (h : OwnB w B (.slice (some ⟨g, 0, none⟩) n cap) l) (k : Nat) (x y : Int) : OwnB ((w.setCell ⟨g, k * 2, none⟩ (.int .i64 x)).setCell ⟨g, k * 2 + 1, none⟩ (.int .i64 y)) B (.slice (some ⟨g, 0, none⟩) n cap) (l.set k (x, y)) := by
  subst hn
  have h0 : w.ownsRow B 29 2 (.slice (some ⟨g, 0, none⟩) l.length cap) l.length (flat l) := h
  have h1 := (World.ownsRow.stored h0 (k * 2) (.int .i64 x)).1
  have h2 := (World.ownsRow.stored h1 (k * 2 + 1) (.int .i64 y)).1
  rw [flat_set] at h2
  unfold OwnB
  rw [List.length_set]
  exact h2
theorem bd_info : (Tryz.prog.info? 29).map (fun i => (i.zero, i.size, i.bytes)) = some (some (.agg #[.int .i64 0, .int .i64 0]), 2, 16) := by kernel_rfl
theorem madeBd (n : Nat) : (madeCells (Value.agg #[.int .i64 0, .int .i64 0]).cells (n * 2)).toList = flat (List.replicate n ((0, 0) : Int × Int)) := by
  apply List.ext_getElem?
  intro i
  by_cases hi : i < n * 2
  · have h1 : ∃ j, j < n ∧ (i = j * 2 ∨ i = j * 2 + 1) := ⟨i / 2, by omega, by omega⟩
    obtain ⟨j, hj, e⟩ := h1
    have f := flat_at (List.replicate n ((0, 0) : Int × Int)) j (by simpa using hj)
    have g0 : gX (List.replicate n ((0, 0) : Int × Int)) j = 0 ∧ gR (List.replicate n ((0, 0) : Int × Int)) j = 0 := by
      simp [gX, gR, List.getD_eq_getElem?_getD, List.getElem?_replicate, hj]
    rw [g0.1, g0.2] at f
    rcases e with rfl | rfl
    · rw [f.1]
      simp [madeCells, Value.cells, hi]
    · rw [f.2]
      simp [madeCells, Value.cells, hi, show (j * 2 + 1) % 2 = 1 by omega]
  · rw [List.getElem?_eq_none (by simp [madeCells, Value.cells]; omega), List.getElem?_eq_none (by rw [flat_len]; simp; omega)]
theorem set_nextB {f : Nat → Int × Int} (k m : Nat) (h : k < m) : ((List.range k).map f ++ List.replicate (m - k) (0, 0)).set k (f k) = (List.range (k + 1)).map f ++ List.replicate (m - (k + 1)) (0, 0) := by
  obtain ⟨d, rfl⟩ : ∃ d, m = k + 1 + d := ⟨m - (k + 1), by omega⟩
  rw [show k + 1 + d - k = d + 1 by omega, show k + 1 + d - (k + 1) = d by omega, List.replicate_succ, List.range_succ, List.map_append, List.set_append_right _ _ (by simp)]
  simp
set_option maxRecDepth 100000 in
set_option maxHeartbeats 8000000 in
theorem lyStr_ok (nm : ByteArray) (cps dc : Int) (a : Option Addr) (m cap : Nat) (u : Value) (b3 off3 q cap3 : Nat) (f : Nat → Int × Int) (w : World) (q1 : 1 ≤ q) (q2 : q ≤ 64) (hcap : q + 1 ≤ cap3 ∧ cap3 ≤ 9223372036854775807)
    (H1 : Hid (∀ W, Below w.heap.size w W → Calls Tryz.prog 25 #[.agg #[.string nm, .int .i64 cps, .slice a m cap, .int .i64 dc], u, .slice (some ⟨b3, off3, none⟩) (q + 1) cap3] W fun e w' => e = .returned (.int .i64 0) ∧ Below W.heap.size W w'))
    (H2 : Hid (∀ k W, k < q → Below w.heap.size w W → Calls Tryz.prog 26 #[.slice a m cap, u, .slice (some ⟨b3, off3 + k, none⟩) 2 (cap3 - k)] W fun e w' => e = .returned (.agg #[.int .i64 (f k).1, .int .i64 (f k).2]) ∧ Below W.heap.size W w')) :
    Calls Tryz.prog 11 #[.agg #[.string nm, .int .i64 cps, .slice a m cap, .int .i64 dc], u, .slice (some ⟨b3, off3, none⟩) (q + 1) cap3] w fun e w' => ∃ v, e = .returned (.tuple #[v, .int .i64 0]) ∧ Pts w' v ((List.range q).map f) ∧ Below w.heap.size w w' := by
  obtain ⟨i0, hi, hz0, hz1, hz2⟩ := info_parts bd_info
  have F0 := Lib.hid (Quad.new w (.string nm) (.int .i64 cps) (.slice a m cap) (.int .i64 dc) 24)
  have wq : IntKind.i64.wrap ((q : Int) + 1 - 1) = (q : Int) := by rw [wrap_in _ ⟨by omega, by omega⟩]; omega
  have wq2 : IntKind.i64.wrap (q : Int) = (q : Int) := wrap_in _ ⟨by omega, by omega⟩
  go_enter Tryz.func11, Tryz.ntmps11
  go_wp2_with fail
  refine (H1.out _ (bel_alloc (Below.refl _ _))).mono ?_
  rintro e w1 ⟨rfl, gg⟩
  replace F0 := Lib.hid (F0.out.below gg)
  have X1 := Lib.hid (bel_alloc gg); clear gg
  have hw1 : w.heap.size < w1.heap.size := F0.out.2.2.2.2.2
  go_wp2_with (at_make; refine wpList_make_full _ rfl _ _ 35 rfl w1.heap.size 29 i0 (.agg #[.int .i64 0, .int .i64 0]) 2 Tryz.underlying35 hi hz0 hz1 .i64 .i64 _ _ q rfl rfl (by omega) (by omega) (by rw [hz2]; omega) (by unfold maxLen; omega) (Nat.le_refl _) ?_; intro w2 ho2 hg2)
  rw [madeBd] at ho2
  have O2 : Hid (OwnB w2 w1.heap.size (.slice (some ⟨w1.heap.size, 0, none⟩) q q) ((List.range 0).map f ++ List.replicate (q - 0) (0, 0))) := Lib.hid (by
    show OwnB _ _ _ (List.replicate q (0, 0))
    unfold OwnB
    rw [List.length_replicate]
    exact ho2)
  have X2 := Lib.hid ((Below.refl w1.heap.size w1).grown hg2 (Nat.le_refl _) (by simp))
  clear ho2 hg2
  go_loopw [24] (fun ii wr => ∃ k : Nat, k ≤ q ∧ ii = .int .i64 k ∧ Hid (OwnB wr w1.heap.size (.slice (some ⟨w1.heap.size, 0, none⟩) q q) ((List.range k).map f ++ List.replicate (q - k) (0, 0))) ∧ Hid (Below w1.heap.size w1 wr)) (fun ii _ => q - (intOf ii).toNat)
  case atStart => exact ⟨0, Nat.zero_le _, rfl, O2, X2⟩
  case round =>
    obtain ⟨k, hk, rfl, hO, hB⟩ := hrel
    by_cases hlt : k < q
    · have HB := Lib.hid (fun W (hW : Below wr.heap.size wr W) => H2.out k W hlt (bel_trans (X1.out.trans (hB.out.mono X1.out.size)) hW))
      have S3 := Lib.hid (set_nextB (f := f) k q hlt)
      have hln : ((List.range k).map f ++ List.replicate (q - k) ((0, 0) : Int × Int)).length = q := by simp; omega
      generalize (List.range k).map f ++ List.replicate (q - k) ((0, 0) : Int × Int) = L at *
      have hkl : k < L.length := by omega
      have RC : Hid (∀ W, Below wr.heap.size wr W → OwnB W w1.heap.size (.slice (some ⟨w1.heap.size, 0, none⟩) q q) L ∧ W.cell? ⟨w1.heap.size, k * 2, none⟩ = some (.int .i64 (gX L k)) ∧ W.cell? ⟨w1.heap.size, k * 2 + 1, none⟩ = some (.int .i64 (gR L k)) ∧ W.frozen? ⟨w1.heap.size, k * 2, none⟩ = false ∧ W.frozen? ⟨w1.heap.size, k * 2 + 1, none⟩ = false ∧ W.cell? ⟨w.heap.size, 2, none⟩ = some (.slice a m cap)) := Lib.hid fun W hW => by
        have O : OwnB W w1.heap.size (.slice (some ⟨w1.heap.size, 0, none⟩) q q) L := row_belB hO.out hW
        obtain ⟨b', o', e, _, hc⟩ := O.pts.at (by omega)
        simp only [Option.some.injEq, Addr.mk.injEq, and_true] at e
        obtain ⟨rfl, rfl⟩ := e
        have := hc k (by omega)
        simp only [Nat.zero_add] at this
        have hr : W.ownsRow w1.heap.size 29 2 (.slice (some ⟨w1.heap.size, 0, none⟩) q q) L.length (flat L) := O
        rw [hln] at hr
        exact ⟨O, this.1, this.2, World.ownsRow.frozenAt hr _, World.ownsRow.frozenAt hr _, (F0.out.below (hB.out.trans (hW.mono hB.out.size))).2.2.1⟩
      obtain ⟨_, r0, r1, r2, r3, u2⟩ := RC.out wr (Below.refl _ _)
      generalize gX L k = z0 at *
      generalize gR L k = z1 at *
      have hf := Lib.hid (show f k = ((f k).1, (f k).2) from rfl)
      generalize (f k).1 = y0 at *
      generalize (f k).2 = y1 at *
      have l0 : (k : Int) < (q : Int) := by omega
      have l1 : IntKind.i64.wrap ((k : Int) + 2) = (k : Int) + 2 := wrap_in _ ⟨by omega, by omega⟩
      have l2 : ((k : Int) + 2).toNat = k + 2 := by omega
      have l3 : (k : Int) + 2 ≤ (cap3 : Int) := by omega
      have l4 : (k : Int) ≤ (k : Int) + 2 := by omega
      have l5 : ¬ cap3 = k := by omega
      have l6 : 0 ≤ (k : Int) + 2 := by omega
      have l7 : w.heap.size ≠ w1.heap.size := by omega
      have l8 : w1.heap.size ≠ w.heap.size := by omega
      go_wp2_with fail
      go_region_held3 (fun w' => w'.cell? ⟨w.heap.size, 2, none⟩ = some (.slice a m cap)) (go_keep) (first | (go_at_call 26; refine (HB.out _ (bel_drew wr)).mono ?_; rintro e w5 ⟨rfl, gg⟩; have X5 := Lib.hid (bel_trans (bel_drew wr) gg); obtain ⟨o5, q0, q1, q2, q3, q4⟩ := RC.out _ X5.out; have O5 := Lib.hid o5; clear o5 gg))
      go_wp2
      go_roundw
      case rel =>
        refine ⟨k + 1, by omega, by go_num, Lib.hid (by rw [← S3.out, hf.out]; exact O5.out.put hln k y0 y1), Lib.hid ?_⟩
        exact ((hB.out.trans (X5.out.mono hB.out.size)).setCell (p := ⟨w1.heap.size, k * 2, none⟩) (Nat.le_refl _) _).setCell (p := ⟨w1.heap.size, k * 2 + 1, none⟩) (Nat.le_refl _) _
      case measure => simp [intOf]; omega
    · obtain rfl : k = q := by omega
      have P := Lib.hid hO.out.pts
      go_wp2
      go_returns
      refine ⟨_, rfl, ?_, bel_trans X1.out hB.out⟩
      have := P.out
      rwa [Nat.sub_self, List.replicate_zero, List.append_nil] at this
end Go.Proofs.YtgjdopjolokaiaaGreat

/- Package lying: Strips as a whole, Slices. -/
namespace Go.Proofs.YtgjdopjolokaiaaGreat
open Go.RowKit

theorem two_strip (l : List (Int × Int)) (c : Int) (ps : List Int) (a b : Int) (k : Nat) : tbL l c ps [a, b] 1 k = xsL l c ps a b k ∧ tbH l c ps [a, b] 1 k = xsH l c ps a b k := by
  obtain ⟨e1, e2⟩ := tb_strip l c ps [a, b] 0 k
  obtain ⟨z1, z2⟩ := tb_zero l c ps [a, b] k
  rw [z1] at e1
  rw [z2] at e2
  refine ⟨?_, ?_⟩
  · rw [e1, Int.zero_add]; rfl
  · rw [e2, Int.zero_add]; rfl
theorem HR.two {hs : List Int} (h : HR hs) {i : Nat} (hi : i + 1 < hs.length) : HR [hs.getD i 0, hs.getD (i + 1) 0] := by
  have a := h.bd i (by omega)
  have b := h.bd (i + 1) hi
  have c := h.asc i hi
  refine ⟨by simp, by simp, fun j hj => ?_, fun j hj => ?_⟩
  · simp only [List.length_cons, List.length_nil] at hj
    match j, hj with
    | 0, _ => exact a
    | 1, _ => exact b
  · simp only [List.length_cons, List.length_nil] at hj
    obtain rfl : j = 0 := by omega
    exact c
/-- what Strips returns -/
noncomputable def stF (c : Ck) (ps hs : List Int) (i : Nat) : Int × Int := (xsL c.pf (bgR c.pf) ps (hs.getD i 0) (hs.getD (i + 1) 0) (ps.length - 1), xsH c.pf (bgR c.pf) ps (hs.getD i 0) (hs.getD (i + 1) 0) (ps.length - 1))
noncomputable def stL (c : Ck) (ps hs : List Int) : List (Int × Int) := if lrE c ps hs = 0 then (List.range (hs.length - 1)).map (stF c ps hs) else []
theorem lyStr_bad (v u h : Value) (E : Int) (nm : ByteArray) (cps dc : Int) (a : Option Addr) (m cap : Nat) (hv : v = .agg #[.string nm, .int .i64 cps, .slice a m cap, .int .i64 dc]) (w : World) (e1 : (E == 0) = false) (e2 : (E != 0) = true)
    (H1 : Hid (∀ W, Below w.heap.size w W → Calls Tryz.prog 25 #[v, u, h] W fun e w' => e = .returned (.int .i64 E) ∧ Below W.heap.size W w')) :
    Calls Tryz.prog 11 #[v, u, h] w fun e w' => e = .returned (.tuple #[.slice none 0 0, .int .i64 E]) ∧ Below w.heap.size w w' := by
  subst hv
  go_enter Tryz.func11, Tryz.ntmps11
  go_wp2_with fail
  refine (H1.out _ (bel_alloc (Below.refl _ _))).mono ?_
  rintro e w1 ⟨rfl, gg⟩
  have X1 := Lib.hid (bel_alloc gg); clear gg
  go_wp2
  go_returns
  exact ⟨rfl, X1.out⟩
theorem lyStr_any (v u h : Value) (c : Ck) (ps hs : List Int) (w : World) (hv : CkV w v c) (hu : Nums w u ps) (hh : Nums w h hs) :
    Calls Tryz.prog 11 #[v, u, h] w fun e w' => ∃ z, e = .returned (.tuple #[z, .int .i64 (lrE c ps hs)]) ∧ Pts w' z (stL c ps hs) ∧ Below w.heap.size w w' := by
  have H1 : Hid (∀ W, Below w.heap.size w W → _) := Lib.hid fun W hW => lyRd_any v u h c ps hs W (hv.below hW) (hu.below hW) (hh.below hW)
  have hv' := hv
  obtain ⟨a, cap, e, hp, _⟩ := hv'
  unfold stL
  by_cases g : lrE c ps hs = 0
  · obtain ⟨⟨⟨h1, h2⟩, h3, h4⟩, h5⟩ := lrE_zero.1 g
    obtain ⟨_, _, _, hR⟩ := ccE_pf h1
    have n0 := h5.n0
    have n1 := h5.n1
    rw [if_pos g, g]
    rw [g] at H1
    obtain ⟨a3, cap3, rfl, hc3, hz | ⟨b3, off3, rfl, hb3, hhs⟩⟩ := hh
    · omega
    obtain ⟨q, hq⟩ : ∃ q, hs.length = q + 1 := ⟨hs.length - 1, by omega⟩
    rw [hq] at H1 hc3 ⊢
    rw [Nat.add_sub_cancel]
    subst e
    refine lyStr_ok _ _ _ a _ cap u b3 off3 q cap3 (stF c ps hs) w (by omega) (by omega) ⟨hc3.1, hc3.2⟩ H1 (Lib.hid fun k W hk hW => ?_)
    have hn : Nums W (.slice (some ⟨b3, off3 + k, none⟩) 2 (cap3 - k)) [hs.getD k 0, hs.getD (k + 1) 0] := by
      refine ⟨_, cap3 - k, rfl, by simp; omega, .inr ⟨b3, off3 + k, rfl, Nat.lt_of_lt_of_le hb3 hW.size, fun j hj => ?_⟩⟩
      simp only [List.length_cons, List.length_nil] at hj
      rw [(bcell hW).1 _ _ hb3]
      match j, hj with
      | 0, _ => exact hhs k (by omega)
      | 1, _ => rw [Nat.add_assoc]; exact hhs (k + 1) (by omega)
    have := lyBt_any _ u _ c.pf ps _ W (hp.below hW) (hu.below hW) hn hR h3 h4 (h5.two (i := k) (by omega))
    rw [show [hs.getD k 0, hs.getD (k + 1) 0].length - 1 = 1 from rfl, (two_strip _ _ _ _ _ _).1, (two_strip _ _ _ _ _ _).2] at this
    exact this
  · rw [if_neg g]
    exact (lyStr_bad v u h _ _ _ _ a _ cap e w (by simpa using g) (by simpa using g) H1).mono fun e w' ⟨g1, g2⟩ => ⟨_, g1, pts_nil _, g2⟩
theorem lySl_bad (v : Value) (m E V : Int) (B : Bool) (a : Option Addr) (n cap : Nat) (hv : v = .slice a n cap) (w : World) (h : (((E == 0) = false ∧ (E != 0) = true) ∧ V = 1) ∨ (E = 0 ∧ B = false ∧ V = 2))
    (H1 : Hid (Calls Tryz.prog 36 #[v] w fun e w' => e = .returned (.int .i64 E) ∧ Below w.heap.size w w'))
    (H2 : Hid (∀ W, Calls Tryz.prog 37 #[.int .i64 m] W fun e w' => e = .returned (.bool B) ∧ W = w')) :
    Calls Tryz.prog 19 #[v, .int .i64 m] w fun e w' => e = .returned (.tuple #[.slice none 0 0, .int .i64 V]) ∧ Below w.heap.size w w' := by
  subst hv
  rcases h with ⟨⟨e1, e2⟩, rfl⟩ | ⟨rfl, rfl, rfl⟩
  · go_enter Tryz.func19, Tryz.ntmps19
    go_wp2_with fail
    refine H1.out.mono ?_
    rintro e w1 ⟨rfl, gg⟩
    have X1 := Lib.hid gg; clear gg
    go_wp2
    go_returns
    exact ⟨rfl, X1.out⟩
  · go_enter Tryz.func19, Tryz.ntmps19
    go_wp2_with fail
    refine H1.out.mono ?_
    rintro e w1 ⟨rfl, gg⟩
    have X1 := Lib.hid gg; clear gg
    go_wp2_with fail
    refine (H2.out _).mono ?_
    rintro e w2 ⟨rfl, hw⟩
    subst hw
    go_wp2
    go_returns
    exact ⟨rfl, X1.out⟩
theorem two_row {A B : World} {row : Option Nat} {b : Nat} {x y : Value} (h : Two b A x y) (hg : A.grownBy B row) (hr : row ≠ some b) : Two b B x y := by
  obtain ⟨h0, h1, h2, h3, h4⟩ := h
  have e := hg.block b h4 (fun e => hr e.symm)
  refine ⟨?_, ?_, ?_, ?_, Nat.lt_of_lt_of_le h4 hg.size⟩
  · simp only [World.cell?, e] at h0 ⊢; exact h0
  · simp only [World.cell?, e] at h1 ⊢; exact h1
  · simp only [World.frozen?, e] at h2 ⊢; exact h2
  · simp only [World.frozen?, e] at h3 ⊢; exact h3
set_option maxRecDepth 100000 in
set_option maxHeartbeats 16000000 in
theorem lySl_some (b off n cap m : Nat) (l : List (Int × Int)) (w : World) (n0 : 2 ≤ n) (n1 : n ≤ 32) (m0 : 1 ≤ m) (m1 : m ≤ 64) (hcap : n ≤ cap) (hn : Hid (n = l.length)) (hb : b < w.heap.size) (hR : Hid (RP l))
    (hc : Hid (∀ j, j < n → w.cell? ⟨b, off + j * 2, none⟩ = some (.int .i64 (gX l j)) ∧ w.cell? ⟨b, off + j * 2 + 1, none⟩ = some (.int .i64 (gR l j))))
    (H1 : Hid (Calls Tryz.prog 36 #[.slice (some ⟨b, off, none⟩) n cap] w fun e w' => e = .returned (.int .i64 0) ∧ Below w.heap.size w w'))
    (H2 : Hid (∀ W, Calls Tryz.prog 37 #[.int .i64 m] W fun e w' => e = .returned (.bool true) ∧ W = w')) :
    Calls Tryz.prog 19 #[.slice (some ⟨b, off, none⟩) n cap, .int .i64 m] w fun e w' => ∃ v E, e = .returned (.tuple #[v, .int .i64 E]) ∧ (((plO l m (n - 1)).length ≤ 65 ∧ E = 0 ∧ Nums w' v (plO l m (n - 1))) ∨ (65 < (plO l m (n - 1)).length ∧ E = 15 ∧ v = .slice none 0 0)) ∧ Below w.heap.size w w' := by
  obtain ⟨i0, hi, hz0, hz1, hz2⟩ := info_parts info_int
  replace hi := Lib.hid hi
  replace hz0 := Lib.hid hz0
  replace hz1 := Lib.hid hz1
  replace hz2 := Lib.hid hz2
  obtain ⟨q, rfl⟩ : ∃ q, n = q + 1 := ⟨n - 1, by omega⟩
  rw [Nat.add_sub_cancel]
  have hc1 : ¬ cap = 1 := by omega
  go_enter Tryz.func19, Tryz.ntmps19
  go_wp2_with fail
  refine H1.out.mono ?_
  rintro e w1 ⟨rfl, gg⟩
  have X1 := Lib.hid gg; clear gg
  go_wp2_with fail
  refine (H2.out _).mono ?_
  rintro e w2 ⟨rfl, hw⟩
  subst hw
  go_wp2_with fail
  go_loopw [6, 22] (fun v ii wr => ∃ i : Nat, i ≤ q ∧ ii = .int .i64 (i : Int) ∧ Hid (OwnI wr w.heap.size v (plO l m i)) ∧ Hid (Below w.heap.size w wr)) (fun _ ii _ => q - (intOf ii).toNat)
  case atStart => exact ⟨0, by omega, rfl, Lib.hid (OwnI.lit w1 _ 0 X1.out.size), Lib.hid (bA X1.out _)⟩
  case round =>
    obtain ⟨i, hi1, rfl, hown, hB⟩ := hrel
    by_cases hlt : i < q
    · have d0 : wr.cell? ⟨b, off + i * 2, none⟩ = some (.int .i64 (gX l i)) := by rw [(bcell hB.out).1 _ _ hb]; exact (hc.out i (by omega)).1
      have d1 : wr.cell? ⟨b, off + i * 2 + 1, none⟩ = some (.int .i64 (gR l i)) := by rw [(bcell hB.out).1 _ _ hb]; exact (hc.out i (by omega)).2
      have d2 : wr.cell? ⟨b, off + 2 + i * 2, none⟩ = some (.int .i64 (gX l (i + 1))) := by rw [show off + 2 + i * 2 = off + (i + 1) * 2 by omega, (bcell hB.out).1 _ _ hb]; exact (hc.out (i + 1) (by omega)).1
      have d3 : wr.cell? ⟨b, off + 2 + i * 2 + 1, none⟩ = some (.int .i64 (gR l (i + 1))) := by rw [show off + 2 + i * 2 + 1 = off + (i + 1) * 2 + 1 by omega, (bcell hB.out).1 _ _ hb]; exact (hc.out (i + 1) (by omega)).2
      have d0' : ∀ o, (wr.alloc o).cell? ⟨b, off + i * 2, none⟩ = some (.int .i64 (gX l i)) := fun o => cell_al o d0
      have d1' : ∀ o, (wr.alloc o).cell? ⟨b, off + i * 2 + 1, none⟩ = some (.int .i64 (gR l i)) := fun o => cell_al o d1
      have bx0 := hR.out.bx i (by rw [← hn.out]; omega)
      have bx1 := hR.out.bx (i + 1) (by rw [← hn.out]; omega)
      have as0 := hR.out.asc i (by rw [← hn.out]; omega)
      have ln := plO_len l m i
      have li : i * m ≤ 31 * 64 := Nat.mul_le_mul (by omega) m1
      have PO : Hid (plO l m (i + 1) = plK (gX l i) (gX l (i + 1)) m (plO l m i) m) := Lib.hid rfl
      generalize plO l m i = out at *
      generalize gX l i = p at *
      generalize gX l (i + 1) = x1 at *
      generalize gR l i = r0 at *
      generalize gR l (i + 1) = r1 at *
      have l0 : (i : Int) < (q : Int) := by omega
      have l1 : (i : Int) < (q : Int) + 1 := by omega
      have Q1 := Lib.hid ((Two.new wr (.int .i64 x1) (.int .i64 r1) 46).alloc (.cells #[.int .i64 p, .int .i64 r0] 46))
      have Q2 := Lib.hid (Two.new (wr.alloc (.cells #[.int .i64 x1, .int .i64 r1] 46)) (.int .i64 p) (.int .i64 r0) 46)
      rw [World.size_alloc] at Q2
      have O2 := Lib.hid ((hown.out.alloc (.cells #[.int .i64 x1, .int .i64 r1] 46)).alloc (.cells #[.int .i64 p, .int .i64 r0] 46))
      have B2 := Lib.hid (bA (bA hB.out (.cells #[.int .i64 x1, .int .i64 r1] 46)) (.cells #[.int .i64 p, .int .i64 r0] 46))
      have hown0 := hown
      clear hown hB
      go_wp2_with fail
      clear d0 d1 d2 d3 d0' d1'
      generalize (wr.alloc (.cells #[.int .i64 x1, .int .i64 r1] 46)).alloc (.cells #[.int .i64 p, .int .i64 r0] 46) = wq at *
      have hz : wr.heap.size + 1 < wq.heap.size := Q2.out.2.2.2.2
      have W1 : Hid (∀ k, (Value.ownBlock u6 : Option Nat) = some k → k ≠ wr.heap.size ∧ k ≠ wr.heap.size + 1) := Lib.hid fun k hk => by
        have := (World.ownsRow.lt hown0.out k hk).2
        omega
      clear hown0
      generalize wr.heap.size = zz at *
      go_loopw [6, 10] (fun v kk wr2 => ∃ k : Nat, k ≤ m ∧ kk = .int .i64 ((k : Int) + 1) ∧ Hid (OwnI wr2 w.heap.size v (plK p x1 m out k)) ∧ Hid (∀ k, (Value.ownBlock v : Option Nat) = some k → k ≠ zz ∧ k ≠ zz + 1) ∧ Hid (Two zz wr2 (.int .i64 x1) (.int .i64 r1)) ∧ Hid (Two (zz + 1) wr2 (.int .i64 p) (.int .i64 r0)) ∧ Hid (Below w.heap.size w wr2)) (fun _ kk _ => m + 1 - (intOf kk).toNat)
      case atStart => exact ⟨0, by omega, rfl, O2, W1, Q1, Q2, B2⟩
      case round =>
        obtain ⟨k, hk, rfl, hown2, hne, hQ1, hQ2, hB2⟩ := hrel
        by_cases hlk : k < m
        · have kl := plK_len p x1 m out k
          obtain ⟨g, cp, rfl, hg, hgs, hcp, hcp2, hgc⟩ := hown2.out.form (by omega)
          have hgn := hne.out g rfl
          have PK : Hid (plK p x1 m out (k + 1) = plS (plK p x1 m out k) (p + ((k : Int) + 1) * (x1 - p) / m)) := Lib.hid rfl
          have mq : 0 ≤ ((k : Int) + 1) * (x1 - p) ∧ ((k : Int) + 1) * (x1 - p) ≤ 64 * 100000 := ⟨Int.mul_nonneg (by omega) (by omega), Int.mul_le_mul (by omega) (by omega) (by omega) (by omega)⟩
          have dq : 0 ≤ ((k : Int) + 1) * (x1 - p) / m ∧ ((k : Int) + 1) * (x1 - p) / m ≤ ((k : Int) + 1) * (x1 - p) := ⟨Int.ediv_nonneg mq.1 (by omega), Int.ediv_le_self _ mq.1⟩
          have wq1 : IntKind.i64.wrap (x1 - p) = x1 - p := wrap_in _ ⟨by omega, by omega⟩
          have wq2 : IntKind.i64.wrap (((k : Int) + 1) * (x1 - p)) = ((k : Int) + 1) * (x1 - p) := wrap_in _ ⟨by omega, by omega⟩
          obtain ⟨D, hD⟩ : ∃ D, D = ((k : Int) + 1) * (x1 - p) / m := ⟨_, rfl⟩
          obtain ⟨x, hx⟩ : ∃ x, x = p + D := ⟨_, rfl⟩
          have wq3 : IntKind.i64.wrap ((((k : Int) + 1) * (x1 - p)).tdiv m) = D := by rw [Int.tdiv_eq_ediv_of_nonneg mq.1, hD]; exact wrap_in _ ⟨by omega, by omega⟩
          rw [← hD] at dq PK
          have wq4 : IntKind.i64.wrap (p + D) = x := by rw [hx]; exact wrap_in _ ⟨by omega, by omega⟩
          rw [← hx] at PK
          replace hD := Lib.hid hD
          replace hx := Lib.hid hx
          have mz : ¬ (m : Int) = 0 := by omega
          have lm : (k : Int) + 1 ≤ (m : Int) := by omega
          obtain ⟨t, ht⟩ : ∃ t, (plK p x1 m out k).length = t + 1 := ⟨(plK p x1 m out k).length - 1, by omega⟩
          have eS : Hid (plS (plK p x1 m out k) x = if (plK p x1 m out k).getD t 0 < x then plK p x1 m out k ++ [x] else plK p x1 m out k) := Lib.hid (by unfold plS; rw [ht, Nat.add_sub_cancel])
          have wt : IntKind.i64.wrap ((t : Int) + 1 - 1) = (t : Int) := by rw [wrap_in _ ⟨by omega, by omega⟩]; omega
          have wu : IntKind.i64.wrap (t : Int) = (t : Int) := wrap_in _ ⟨by omega, by omega⟩
          have tl : t + 1 ≤ 4000 := by omega
          obtain ⟨a0, a1, _, _, _⟩ := hQ1.out
          obtain ⟨c0, c1, _, _, _⟩ := hQ2.out
          rw [ht] at hown2 hcp ⊢
          go_wp2_with fail
          go_quiet (fail)
          replace hown2 : Hid (OwnI (wr.drewN nq) w.heap.size _ (plK p x1 m out k)) := Lib.hid (show OwnI wr w.heap.size _ _ from hown2.out)
          replace hQ1 : Hid (Two zz (wr.drewN nq) (.int .i64 x1) (.int .i64 r1)) := Lib.hid (hQ1.out.below (bel_drewN _ _))
          replace hQ2 : Hid (Two (zz + 1) (wr.drewN nq) (.int .i64 p) (.int .i64 r0)) := Lib.hid (hQ2.out.below (bel_drewN _ _))
          replace hB2 : Hid (Below w.heap.size w (wr.drewN nq)) := Lib.hid (bel_trans hB2.out (bel_drewN _ _))
          have gl : (wr.drewN nq).cell? ⟨g, t, none⟩ = some (.int .i64 ((plK p x1 m out k).getD t 0)) := hgc t (by omega)
          have hgs2 : g < (wr.drewN nq).heap.size := hgs
          clear a0 a1 c0 c1 hgc hgs
          generalize wr.drewN nq = w5 at *
          replace ht := Lib.hid ht
          replace PK := Lib.hid (PK.out.trans eS.out)
          generalize (plK p x1 m out k).getD t 0 = y at *
          have CN := Lib.hid (cell_oneN w5 (.int .i64 x) 3)
          have HS : Hid (w.heap.size ≤ (w5.alloc (.cells #[.int .i64 x] 3)).heap.size) := Lib.hid (Nat.le_trans hB2.out.size (bel_alloc (Below.refl _ _)).size)
          by_cases hxy : y < x
          · have OA := Lib.hid (hown2.out.alloc (.cells #[.int .i64 x] 3))
            rw [if_pos hxy] at PK
            unfold OwnI at OA
            rw [ht.out] at OA
            clear eS
            go_wp2_with (at_builtin; refine wpList_append_own_at _ rfl _ _ 25 rfl w.heap.size 3 i0 (.int .i64 0) 1 8 Tryz.underlying25 hi.out hz0.out hz1.out hz2.out rfl (by omega) _ _ _ rfl OA.out ⟨w5.heap.size, 0, none⟩ 1 1 [.int .i64 x] rfl rfl CN.out (by intro u hu; rw [List.mem_singleton] at hu; rw [hu]; rfl) ?qd4 ?qd5 HS.out ?_)
            case qd4 => unfold maxLen; omega
            case qd5 => omega
            intro v2 w2 hown3 hgrow _ hob
            have SN : Hid (OwnI w2 w.heap.size v2 (plK p x1 m out (k + 1))) := Lib.hid (by rw [PK.out]; exact OwnI.push ht.out.symm hown3)
            have B2 := Lib.hid ((bel_trans hB2.out (bel_alloc (o := .cells #[.int .i64 x] 3) (Below.refl _ _))).grown hgrow HS.out (fun q hq => (World.ownsRow.lt hown2.out q hq).1))
            have N1 := Lib.hid (two_row (hQ1.out.alloc (.cells #[.int .i64 x] 3)) hgrow (fun e => hgn.1 (by cases e; rfl)))
            have N2 := Lib.hid (two_row (hQ2.out.alloc (.cells #[.int .i64 x] 3)) hgrow (fun e => hgn.2 (by cases e; rfl)))
            have hs2 := hQ2.out.2.2.2.2
            have NE : Hid (∀ k, (Value.ownBlock v2 : Option Nat) = some k → k ≠ zz ∧ k ≠ zz + 1) := Lib.hid fun k hk => by
              rcases hob with e | e
              · rw [e] at hk; exact hne.out k hk
              · rw [e] at hk; cases hk; simp; omega
            clear hown3 hgrow OA CN hob
            go_wp2
            go_roundw
            case rel => exact ⟨k + 1, by omega, by go_num, SN, NE, N1, N2, B2⟩
            case measure => simp [intOf]; omega
          · rw [if_neg hxy] at PK
            clear eS CN HS
            go_wp2
            go_roundw
            case rel => exact ⟨k + 1, by omega, by go_num, Lib.hid (by rw [PK.out]; exact hown2.out), hne, hQ1, hQ2, hB2⟩
            case measure => simp [intOf]; omega
        · obtain rfl : k = m := by omega
          go_wp2
          go_roundw
          case rel => exact ⟨i + 1, by omega, by go_num, Lib.hid (by rw [PO.out]; exact hown2.out), hB2⟩
          case measure => simp [intOf]; omega
    · obtain rfl : i = q := by omega
      have ln := plO_len l m i
      have li : i * m ≤ 31 * 64 := Nat.mul_le_mul (by omega) m1
      have N := Lib.hid hown.out.nums
      obtain ⟨g, cp, rfl, _, _, hcp, hcp2, _⟩ := hown.out.form (by omega)
      by_cases h65 : 65 < (plO l m i).length
      · have d : decide (65 < ((plO l m i).length : Int)) = true := decide_eq_true (by omega)
        go_wp2
        go_returns
        exact ⟨_, _, rfl, .inr ⟨h65, rfl, rfl⟩, hB.out⟩
      · have d : decide (65 < ((plO l m i).length : Int)) = false := decide_eq_false (by omega)
        go_wp2
        go_returns
        exact ⟨_, _, rfl, .inl ⟨by omega, rfl, N.out⟩, hB.out⟩
end Go.Proofs.YtgjdopjolokaiaaGreat

/- Package cask: Depth. -/
namespace Go.Proofs.YtgjdopjolokaiaaGreat
open Go.RowKit

theorem dep_bad (nm : ByteArray) (ps dc E : Int) (a : Option Addr) (n cap : Nat) (w : World) (e1 : (E == 0) = false) (e2 : (E != 0) = true)
    (H1 : Hid (∀ W, Below w.heap.size w W → Calls Tryz.prog 64 #[.agg #[.string nm, .int .i64 ps, .slice a n cap, .int .i64 dc]] W fun e w' => e = .returned (.int .i64 E) ∧ Below W.heap.size W w')) :
    Calls Tryz.prog 55 #[.agg #[.string nm, .int .i64 ps, .slice a n cap, .int .i64 dc]] w fun e w' => e = .returned (.tuple #[.int .i64 0, .int .i64 E]) ∧ Below w.heap.size w w' := by
  go_enter Tryz.func55, Tryz.ntmps55
  go_wp2_with fail
  refine (H1.out _ (bel_alloc (Below.refl _ _))).mono ?_
  rintro e w1 ⟨rfl, gg⟩
  have X1 := Lib.hid (bel_alloc gg); clear gg
  go_wp2
  go_returns
  exact ⟨rfl, X1.out⟩
set_option maxHeartbeats 4000000 in
theorem dep_lying (nm : ByteArray) (dc r : Int) (i n cap b off : Nat) (w : World) (hi : i < n) (hb : b < w.heap.size) (hc : Hid (w.cell? ⟨b, off + i * 2 + 1, none⟩ = some (.int .i64 r))) (wr : IntKind.i64.wrap (2 * r) = 2 * r)
    (H1 : Hid (∀ W, Below w.heap.size w W → Calls Tryz.prog 64 #[.agg #[.string nm, .int .i64 1, .slice (some ⟨b, off, none⟩) n cap, .int .i64 dc]] W fun e w' => e = .returned (.int .i64 0) ∧ Below W.heap.size W w'))
    (H2 : Hid (∀ W, Below w.heap.size w W → Calls Tryz.prog 70 #[.slice (some ⟨b, off, none⟩) n cap] W fun e w' => e = .returned (.tuple #[.int .i64 i, .int .i64 0]) ∧ Below W.heap.size W w')) :
    Calls Tryz.prog 55 #[.agg #[.string nm, .int .i64 1, .slice (some ⟨b, off, none⟩) n cap, .int .i64 dc]] w fun e w' => e = .returned (.tuple #[.int .i64 (2 * r), .int .i64 0]) ∧ Below w.heap.size w w' := by
  have F0 := Lib.hid (Quad.new w (.string nm) (.int .i64 1) (.slice (some ⟨b, off, none⟩) n cap) (.int .i64 dc) 24)
  have l1 : (i : Int) < (n : Int) := by omega
  have l2 : 0 ≤ (i : Int) := by omega
  go_enter Tryz.func55, Tryz.ntmps55
  go_wp2_with fail
  refine (H1.out _ (bel_alloc (Below.refl _ _))).mono ?_
  rintro e w1 ⟨rfl, gg⟩
  replace F0 := Lib.hid (F0.out.below gg)
  have X1 := Lib.hid (bel_alloc gg); clear gg
  obtain ⟨u0, u1, u2, u3, _, _⟩ := F0.out
  go_wp2_with fail
  refine (H2.out _ X1.out).mono ?_
  rintro e w2 ⟨rfl, gg⟩
  clear u0 u1 u2 u3
  replace F0 := Lib.hid (F0.out.below gg)
  replace X1 := Lib.hid (bel_trans X1.out gg); clear gg
  obtain ⟨_, _, u2, _, _, _⟩ := F0.out
  have c1 : w2.cell? ⟨b, off + i * 2 + 1, none⟩ = some (.int .i64 r) := by rw [(bcell X1.out).1 _ _ hb]; exact hc.out
  clear H1 H2 hc
  go_wp2
  go_returns
  exact ⟨rfl, X1.out⟩
set_option maxHeartbeats 4000000 in
theorem dep_standing (nm : ByteArray) (dc x : Int) (a : Option Addr) (n cap : Nat) (w : World)
    (H1 : Hid (∀ W, Below w.heap.size w W → Calls Tryz.prog 64 #[.agg #[.string nm, .int .i64 2, .slice a n cap, .int .i64 dc]] W fun e w' => e = .returned (.int .i64 0) ∧ Below W.heap.size W w'))
    (H2 : Hid (∀ W, Below w.heap.size w W → Calls Tryz.prog 39 #[.slice a n cap] W fun e w' => e = .returned (.tuple #[.int .i64 x, .int .i64 0]) ∧ Below W.heap.size W w')) :
    Calls Tryz.prog 55 #[.agg #[.string nm, .int .i64 2, .slice a n cap, .int .i64 dc]] w fun e w' => e = .returned (.tuple #[.int .i64 x, .int .i64 0]) ∧ Below w.heap.size w w' := by
  have F0 := Lib.hid (Quad.new w (.string nm) (.int .i64 2) (.slice a n cap) (.int .i64 dc) 24)
  go_enter Tryz.func55, Tryz.ntmps55
  go_wp2_with fail
  refine (H1.out _ (bel_alloc (Below.refl _ _))).mono ?_
  rintro e w1 ⟨rfl, gg⟩
  replace F0 := Lib.hid (F0.out.below gg)
  have X1 := Lib.hid (bel_alloc gg); clear gg
  obtain ⟨u0, u1, u2, u3, _, _⟩ := F0.out
  go_wp2_with fail
  refine (H2.out _ X1.out).mono ?_
  rintro e w2 ⟨rfl, gg⟩
  replace X1 := Lib.hid (bel_trans X1.out gg); clear gg
  go_wp2
  go_returns
  exact ⟨rfl, X1.out⟩
theorem cDe_any (v : Value) (c : Ck) (w : World) (hv : CkV w v c) :
    Calls Tryz.prog 55 #[v] w fun e w' => e = .returned (.tuple #[.int .i64 (deQ c), .int .i64 (ccE c)]) ∧ Below w.heap.size w w' := by
  have HC : Hid (∀ W, Below w.heap.size w W → _) := Lib.hid fun W hW => ckk_any v c W (hv.below hW)
  obtain ⟨a, cap, rfl, hp, _⟩ := hv
  unfold deQ
  by_cases h : ccE c = 0
  · obtain ⟨_, hps, _, hR⟩ := ccE_pf h
    have e0 := (ckE_iff _).2 hR
    rw [if_pos h, h]
    rw [h] at HC
    have n0 := hR.n0
    by_cases h1 : c.ps = 1
    · have hl : bg c.pf c.pf.length < c.pf.length := by have := bg_lt c.pf c.pf.length; omega
      have br : 1 ≤ brQ c ∧ brQ c ≤ 100000 := hR.br _ hl
      have HB : Hid (∀ W, Below w.heap.size w W → _) := Lib.hid fun W hW => bung_any _ c.pf W (hp.below hW)
      unfold buQ at HB
      rw [if_pos e0, e0] at HB
      obtain ⟨b, off, rfl, hb, hc⟩ := hp.at (by omega)
      rw [if_pos h1]
      rw [h1] at HC ⊢
      exact dep_lying _ _ _ _ _ cap b off w hl hb (hc _ hl).2 (wrap_in _ ⟨by omega, by omega⟩) HC HB
    · have h2 : c.ps = 2 := by omega
      have HB : Hid (∀ W, Below w.heap.size w W → _) := Lib.hid fun W hW => len_any _ c.pf W (hp.below hW)
      unfold lgQ at HB
      rw [if_pos e0, e0] at HB
      rw [if_neg h1]
      rw [h2] at HC ⊢
      exact dep_standing _ _ _ a _ cap w HC HB
  · rw [if_neg h]
    exact dep_bad _ _ _ _ a _ cap w (by simpa using h) (by simpa using h) HC
end Go.Proofs.YtgjdopjolokaiaaGreat

/- Package segment: Heights. -/
namespace Go.Proofs.YtgjdopjolokaiaaGreat
open Go.RowKit

set_option maxHeartbeats 2000000 in
set_option maxRecDepth 1000000 in
theorem hts_own (top : Int) (n : Nat) (w : World) (t0 : 0 ≤ top) (t1 : top ≤ 200000) (n0 : 1 ≤ n) (n1 : n ≤ 64) :
    Calls Tryz.prog 56 #[.int .i64 top, .int .i64 n] w fun e w' => e = .returned (.tuple #[.slice (some ⟨w.heap.size, 0, none⟩) (n + 1) (n + 1), .int .i64 0]) ∧ Own w' w.heap.size w.heap.size (n + 1) (n + 1) (hs top n) ∧ Below w.heap.size w w' := by
  obtain ⟨i0, hi, hz0, hz1, hz2⟩ := info_parts info_int
  have H1 := Lib.hid (fun W => isHt_any top W)
  have hh : hB top = true := by simp [hB, t0, t1]
  rw [hh] at H1
  clear hh
  go_enter Tryz.func56, Tryz.ntmps56
  go_wp2_with fail
  refine (H1.out _).mono ?_
  rintro e w1 ⟨rfl, hw⟩
  subst hw
  go_wp2_with (at_make; refine wpList_make_full _ rfl _ _ 25 rfl w.heap.size 3 i0 (.int .i64 0) 1 Tryz.underlying25 hi hz0 hz1 .i64 .i64 _ _ (n + 1) rfl rfl (by omega) (by omega) (by rw [hz2]; omega) (by unfold maxLen; omega) (Nat.le_refl _) ?_; intro w2 ho2 hg2)
  rw [madeInts] at ho2
  have X2 := Lib.hid ((Below.refl w.heap.size w).grown hg2 (Nat.le_refl _) (by simp))
  have O2 : Hid (Own w2 w.heap.size w.heap.size (n + 1) (n + 1) (List.replicate (n + 1) 0)) := ho2
  clear ho2 hg2
  go_loopw [7, 24] (fun _ ii wr => ∃ k : Nat, k ≤ n + 1 ∧ ii = .int .i64 k ∧ Hid (Own wr w.heap.size w.heap.size (n + 1) (n + 1) ((List.range k).map (fun i : Nat => (i : Int) * top / n) ++ List.replicate (n + 1 - k) 0)) ∧ Hid (Below w.heap.size w wr)) (fun _ ii _ => n + 1 - (intOf ii).toNat)
  case atStart => exact ⟨0, by omega, rfl, O2, X2⟩
  case round =>
    obtain ⟨k, hk, rfl, hO, hB⟩ := hrel
    by_cases hlt : k < n + 1
    · have m0 : 0 ≤ (k : Int) * top := Int.mul_nonneg (by omega) t0
      have m1 : (k : Int) * top ≤ 65 * 200000 := Int.mul_le_mul (by omega) t1 t0 (by omega)
      have q0 : 0 ≤ (k : Int) * top / n := Int.ediv_nonneg m0 (by omega)
      have q1 : (k : Int) * top / n ≤ (k : Int) * top := Int.ediv_le_self _ m0
      have c1 := hO.out.cell k hlt
      have f1 := World.ownsRow.frozenAt hO.out k
      have S1 := Lib.hid (hO.out.set k ((k : Int) * top / n))
      have S2 := Lib.hid (hB.out.setCell (p := ⟨w.heap.size, k, none⟩) (Nat.le_refl _) (.int .i64 ((k : Int) * top / n)))
      have S3 := Lib.hid (set_next (f := fun i : Nat => (i : Int) * top / n) k (n + 1) hlt)
      rw [S3.out] at S1
      clear hO hB S3
      have hl1 : (k : Int) < ((n + 1 : Nat) : Int) := by omega
      go_wp2
      go_roundw
      case rel => exact ⟨k + 1, by omega, by go_num, S1, S2⟩
      case measure => simp [intOf]; omega
    · obtain rfl : k = n + 1 := by omega
      go_wp2
      go_returns
      refine ⟨rfl, ?_, hB.out⟩
      have hN := hO.out
      rwa [Nat.sub_self, List.replicate_zero, List.append_nil] at hN
theorem hts_ok (top : Int) (n : Nat) (w : World) (t0 : 0 ≤ top) (t1 : top ≤ 200000) (n0 : 1 ≤ n) (n1 : n ≤ 64) :
    Calls Tryz.prog 56 #[.int .i64 top, .int .i64 n] w fun e w' => ∃ v, e = .returned (.tuple #[v, .int .i64 0]) ∧ Nums w' v (hs top n) ∧ Below w.heap.size w w' :=
  (hts_own top n w t0 t1 n0 n1).mono fun e w' ⟨g1, g2, g3⟩ => ⟨_, g1, by
    have hN := nums_of_own g2
    have := hN
    obtain ⟨a, cap, e, r⟩ := hN
    have hl := hs_len top n
    rw [hl] at *
    first | exact this | exact ⟨a, cap, e, r⟩, g3⟩
theorem hts_any (top n : Int) (w : World) :
    Calls Tryz.prog 56 #[.int .i64 top, .int .i64 n] w fun e w' => ∃ v, e = .returned (.tuple #[v, .int .i64 (heE top n)]) ∧ Nums w' v (heL top n) ∧ Below w.heap.size w w' := by
  unfold heE heL
  cases h : heB top n with
  | true =>
    obtain ⟨⟨t0, t1⟩, n0, n1⟩ := (heB_iff top n).1 h
    rw [if_pos rfl, if_pos rfl]
    have := hts_ok top n.toNat w t0 t1 (by omega) (by omega)
    rwa [show ((n.toNat : Nat) : Int) = n by omega] at this
  | false =>
    have HB := Lib.hid (fun W => isHt_any top W)
    have hn : hB top = false ∨ (hB top = true ∧ n < 1) ∨ (hB top = true ∧ 1 ≤ n ∧ 64 < n) := by
      have : ¬ ((0 ≤ top ∧ top ≤ 200000) ∧ 1 ≤ n ∧ n ≤ 64) := fun hc => by rw [(heB_iff top n).2 hc] at h; cases h
      cases hh : hB top with
      | false => exact .inl rfl
      | true =>
        right
        simp [hB] at hh
        by_cases h1 : n < 1
        · exact .inl ⟨rfl, h1⟩
        · exact .inr ⟨rfl, by omega, by omega⟩
    rw [if_neg (by simp), if_neg (by simp)]
    clear h
    rcases hn with hn | ⟨hn, hn2⟩ | ⟨hn, hn2, hn3⟩
    all_goals
      rw [hn] at HB
      clear hn
      go_enter Tryz.func56, Tryz.ntmps56
      go_wp2_with fail
      refine (HB.out _).mono ?_
      rintro e w1 ⟨rfl, hw⟩
      subst hw
      go_wp2
      go_returns
      exact ⟨_, rfl, ⟨none, 0, rfl, by simp, .inl rfl⟩, Below.refl _ _⟩
end Go.Proofs.YtgjdopjolokaiaaGreat

/- Package lying: Slices as a whole, measure, upward. -/
namespace Go.Proofs.YtgjdopjolokaiaaGreat
open Go.RowKit

theorem lySl_any (v : Value) (l : List (Int × Int)) (m : Int) (w : World) (hv : Pts w v l) :
    Calls Tryz.prog 19 #[v, .int .i64 m] w fun e w' => ∃ u, e = .returned (.tuple #[u, .int .i64 (slE l m)]) ∧ Nums w' u (slP l m) ∧ Below w.heap.size w w' := by
  have H1 := Lib.hid (ck_any v l w hv)
  have H2 : Hid (∀ W, _) := Lib.hid fun W => lyCnt_any m W
  have nn : ∀ W, Nums W (.slice none 0 0) [] := fun W => ⟨none, 0, rfl, by simp, .inl rfl⟩
  have hv' := hv
  obtain ⟨a, cap, e, hcap, hh⟩ := hv'
  by_cases h : ckE l = 0
  · rw [h] at H1
    have hR := (ckE_iff l).1 h
    by_cases hm : m < 1 ∨ 64 < m
    · have e1 : slE l m = 2 := by unfold slE; rw [if_pos h, if_pos hm]
      have e2 : slP l m = [] := by unfold slP; rw [if_neg (by rw [e1]; decide)]
      have eb : cntB m = false := by unfold cntB; simp; omega
      rw [e1, e2]
      rw [eb] at H2
      exact (lySl_bad v m 0 2 false a _ cap e w (.inr ⟨rfl, rfl, rfl⟩) H1 H2).mono fun e w' ⟨g1, g2⟩ => ⟨_, g1, nn _, g2⟩
    · obtain ⟨k, rfl⟩ : ∃ k : Nat, m = k := ⟨m.toNat, by omega⟩
      have n0 := hR.n0
      have n1 := hR.n1
      have eb : cntB (k : Int) = true := by unfold cntB; simp; omega
      rw [eb] at H2
      rcases hh with hh | ⟨b, off, rfl, hb, hc⟩
      · omega
      · subst e
        refine (lySl_some b off _ cap k l w n0 n1 (by omega) (by omega) hcap.1 (Lib.hid rfl) hb (Lib.hid hR) (Lib.hid hc) H1 H2).mono ?_
        rintro e w' ⟨u, E, rfl, h3, g2⟩
        rcases h3 with ⟨hp, rfl, hu⟩ | ⟨hp, rfl, rfl⟩
        · have e1 : slE l k = 0 := by unfold slE; rw [if_pos h, if_neg hm, Int.toNat_natCast, if_neg (by omega)]
          have e2 : slP l k = plO l k (l.length - 1) := by unfold slP; rw [if_pos e1, Int.toNat_natCast]
          rw [e1, e2]
          exact ⟨_, rfl, hu, g2⟩
        · have e1 : slE l k = 15 := by unfold slE; rw [if_pos h, if_neg hm, Int.toNat_natCast, if_pos hp]
          have e2 : slP l k = [] := by unfold slP; rw [if_neg (by rw [e1]; decide)]
          rw [e1, e2]
          exact ⟨_, rfl, nn _, g2⟩
  · have e1 : slE l m = 1 := by unfold slE; rw [if_neg h]
    have e2 : slP l m = [] := by unfold slP; rw [if_neg (by rw [e1]; decide)]
    rw [e1, e2]
    exact (lySl_bad v m _ 1 _ a _ cap e w (.inl ⟨⟨by simpa using h, by simpa using h⟩, rfl⟩) H1 H2).mono fun e w' ⟨g1, g2⟩ => ⟨_, g1, nn _, g2⟩
/-! ### heights from a bottom up -/
set_option maxHeartbeats 4000000 in
set_option maxRecDepth 100000 in
theorem lyUp_ok (bot top t : Int) (n : Nat) (w : World) (ht : top - bot = t) (b0 : 0 ≤ bot) (b1 : bot ≤ 200000) (t0 : 0 ≤ t) (t1 : t ≤ 200000) (n0 : 1 ≤ n) (n1 : n ≤ 64) :
    Calls Tryz.prog 32 #[.int .i64 bot, .int .i64 top, .int .i64 n] w fun e w' => ∃ v, e = .returned v ∧ Nums w' v ((hs t n).map (· + bot)) ∧ Below w.heap.size w w' := by
  have H1 := Lib.hid (hts_own t n w t0 t1 n0 n1)
  have ws : IntKind.i64.wrap (top - bot) = t := by rw [ht]; exact wrap_in _ ⟨by omega, by omega⟩
  have ln := hs_len t n
  have bd : Hid (∀ k, k ≤ n → 0 ≤ (hs t n).getD k 0 ∧ (hs t n).getD k 0 ≤ 200000) := Lib.hid fun k hk => by
    have hr := hs_right t n n0 n1 t0 t1
    have := hr.bd k (by omega)
    omega
  generalize hs t n = zs at *
  go_enter Tryz.func32, Tryz.ntmps32
  go_wp2_with fail
  refine H1.out.mono ?_
  rintro e w1 ⟨rfl, hO, gg⟩
  have O1 : Hid (Own w1 w.heap.size w.heap.size (n + 1) (n + 1) (mxd zs bot 0)) := Lib.hid (by rw [mxd_zero]; exact hO)
  have X1 := Lib.hid gg; clear gg hO
  replace ln := Lib.hid ln
  go_wp2_with fail
  go_loopw [20] (fun ii wr => ∃ k : Nat, k ≤ n + 1 ∧ ii = .int .i64 k ∧ Hid (Own wr w.heap.size w.heap.size (n + 1) (n + 1) (mxd zs bot k)) ∧ Hid (Below w.heap.size w wr)) (fun ii _ => n + 1 - (intOf ii).toNat)
  case atStart => exact ⟨0, by omega, rfl, O1, X1⟩
  case round =>
    obtain ⟨k, hk, rfl, hO, hB⟩ := hrel
    by_cases hlt : k < n + 1
    · have c1 := hO.out.cell k hlt
      rw [mxd_at _ _ _ (by rw [ln.out]; exact hlt)] at c1
      have f1 := World.ownsRow.frozenAt hO.out k
      have S1 := Lib.hid (hO.out.set k (zs.getD k 0 + bot))
      have S2 := Lib.hid (hB.out.setCell (p := ⟨w.heap.size, k, none⟩) (Nat.le_refl _) (.int .i64 (zs.getD k 0 + bot)))
      rw [mxd_next _ _ _ (by rw [ln.out]; exact hlt)] at S1
      have b2 := bd.out k (by omega)
      generalize zs.getD k 0 = y at *
      have w2 : IntKind.i64.wrap (y + bot) = y + bot := wrap_in _ ⟨by omega, by omega⟩
      have hl1 : (k : Int) < ((n + 1 : Nat) : Int) := by omega
      have hl2 : (k : Int) < (n : Int) + 1 := by omega
      clear hO hB
      go_wp2
      go_roundw
      case rel => exact ⟨k + 1, by omega, by go_num, S1, S2⟩
      case measure => simp [intOf]; omega
    · obtain rfl : k = n + 1 := by omega
      have N := Lib.hid (nums_of_own hO.out)
      have X2 := hB
      clear hO
      go_wp2
      go_returns
      refine ⟨_, rfl, ?_, X2.out⟩
      have e : mxd zs bot (n + 1) = zs.map (· + bot) := by rw [← ln.out]; exact mxd_all _ _
      rw [← e]
      exact N.out
/-! ### measure -/
theorem lyMs_err (nm : ByteArray) (cps dc E dip m n : Int) (a : Option Addr) (k cap : Nat) (w : World) (e1 : (E == 0) = false) (e2 : (E != 0) = true)
    (H1 : Hid (∀ W, Below w.heap.size w W → Calls Tryz.prog 38 #[.agg #[.string nm, .int .i64 cps, .slice a k cap, .int .i64 dc]] W fun e w' => e = .returned (.int .i64 E) ∧ Below W.heap.size W w')) :
    Calls Tryz.prog 31 #[.agg #[.string nm, .int .i64 cps, .slice a k cap, .int .i64 dc], .int .i64 dip, .int .i64 m, .int .i64 n] w fun e w' => e = .returned (.tuple #[.int .i64 0, .slice none 0 0, .int .i64 E]) ∧ Below w.heap.size w w' := by
  go_enter Tryz.func31, Tryz.ntmps31
  go_wp2_with fail
  refine (H1.out _ (bel_alloc (Below.refl _ _))).mono ?_
  rintro e w1 ⟨rfl, gg⟩
  have X1 := Lib.hid (bel_alloc gg); clear gg
  go_wp2
  go_returns
  exact ⟨rfl, X1.out⟩
set_option maxHeartbeats 4000000 in
theorem lyMs_bad (nm : ByteArray) (cps dc dip m n D : Int) (B : Bool) (a : Option Addr) (k cap : Nat) (w : World)
    (h : dip < 0 ∨ (0 ≤ dip ∧ D < dip) ∨ (0 ≤ dip ∧ dip ≤ D ∧ B = false))
    (H1 : Hid (∀ W, Below w.heap.size w W → Calls Tryz.prog 38 #[.agg #[.string nm, .int .i64 cps, .slice a k cap, .int .i64 dc]] W fun e w' => e = .returned (.int .i64 0) ∧ Below W.heap.size W w'))
    (H2 : Hid (∀ W, Below w.heap.size w W → Calls Tryz.prog 55 #[.agg #[.string nm, .int .i64 cps, .slice a k cap, .int .i64 dc]] W fun e w' => e = .returned (.tuple #[.int .i64 D, .int .i64 0]) ∧ Below W.heap.size W w'))
    (H3 : Hid (∀ W, Calls Tryz.prog 37 #[.int .i64 n] W fun e w' => e = .returned (.bool B) ∧ W = w')) :
    Calls Tryz.prog 31 #[.agg #[.string nm, .int .i64 cps, .slice a k cap, .int .i64 dc], .int .i64 dip, .int .i64 m, .int .i64 n] w fun e w' => e = .returned (.tuple #[.int .i64 0, .slice none 0 0, .int .i64 2]) ∧ Below w.heap.size w w' := by
  have F0 := Lib.hid (Quad.new w (.string nm) (.int .i64 cps) (.slice a k cap) (.int .i64 dc) 24)
  rcases h with h | ⟨h, h1⟩ | ⟨h, h1, rfl⟩
  all_goals
    go_enter Tryz.func31, Tryz.ntmps31
    go_wp2_with fail
    refine (H1.out _ (bel_alloc (Below.refl _ _))).mono ?_
    rintro e w1 ⟨rfl, gg⟩
    replace F0 := Lib.hid (F0.out.below gg)
    have X1 := Lib.hid (bel_alloc gg); clear gg
    obtain ⟨y0, y1, y2, y3, _, _⟩ := F0.out
    go_wp2_with fail
    refine (H2.out _ X1.out).mono ?_
    rintro e w2 ⟨rfl, gg⟩
    replace X1 := Lib.hid (bel_trans X1.out gg); clear gg y0 y1 y2 y3
  · have d1 : decide (dip < 0) = true := decide_eq_true h
    go_wp2
    go_returns
    exact ⟨rfl, X1.out⟩
  · have d1 : decide (dip < 0) = false := decide_eq_false (by omega)
    have d2 : decide (D < dip) = true := decide_eq_true h1
    go_wp2
    go_returns
    exact ⟨rfl, X1.out⟩
  · have d1 : decide (dip < 0) = false := decide_eq_false (by omega)
    have d2 : decide (D < dip) = false := decide_eq_false (by omega)
    go_wp2_with fail
    refine (H3.out _).mono ?_
    rintro e w3 ⟨rfl, hw⟩
    subst hw
    go_wp2
    go_returns
    exact ⟨rfl, X1.out⟩
set_option maxHeartbeats 4000000 in
theorem lyMs_ok (nm : ByteArray) (cps dc E dip m n D : Int) (a : Option Addr) (k cap : Nat) (ps : List Int) (w : World) (h0 : 0 ≤ dip) (h1 : dip ≤ D)
    (H1 : Hid (∀ W, Below w.heap.size w W → Calls Tryz.prog 38 #[.agg #[.string nm, .int .i64 cps, .slice a k cap, .int .i64 dc]] W fun e w' => e = .returned (.int .i64 0) ∧ Below W.heap.size W w'))
    (H2 : Hid (∀ W, Below w.heap.size w W → Calls Tryz.prog 55 #[.agg #[.string nm, .int .i64 cps, .slice a k cap, .int .i64 dc]] W fun e w' => e = .returned (.tuple #[.int .i64 D, .int .i64 0]) ∧ Below W.heap.size W w'))
    (H3 : Hid (∀ W, Calls Tryz.prog 37 #[.int .i64 n] W fun e w' => e = .returned (.bool true) ∧ W = w'))
    (H4 : Hid (∀ W, Below w.heap.size w W → Calls Tryz.prog 19 #[.slice a k cap, .int .i64 m] W fun e w' => ∃ u, e = .returned (.tuple #[u, .int .i64 E]) ∧ Nums w' u ps ∧ Below W.heap.size W w')) :
    Calls Tryz.prog 31 #[.agg #[.string nm, .int .i64 cps, .slice a k cap, .int .i64 dc], .int .i64 dip, .int .i64 m, .int .i64 n] w fun e w' => ∃ u, e = .returned (.tuple #[.int .i64 D, u, .int .i64 E]) ∧ Nums w' u ps ∧ Below w.heap.size w w' := by
  have F0 := Lib.hid (Quad.new w (.string nm) (.int .i64 cps) (.slice a k cap) (.int .i64 dc) 24)
  have d1 : decide (dip < 0) = false := decide_eq_false (by omega)
  have d2 : decide (D < dip) = false := decide_eq_false (by omega)
  go_enter Tryz.func31, Tryz.ntmps31
  go_wp2_with fail
  refine (H1.out _ (bel_alloc (Below.refl _ _))).mono ?_
  rintro e w1 ⟨rfl, gg⟩
  replace F0 := Lib.hid (F0.out.below gg)
  have X1 := Lib.hid (bel_alloc gg); clear gg
  obtain ⟨y0, y1, y2, y3, _, _⟩ := F0.out
  go_wp2_with fail
  refine (H2.out _ X1.out).mono ?_
  rintro e w2 ⟨rfl, gg⟩
  clear y0 y1 y2 y3
  replace F0 := Lib.hid (F0.out.below gg)
  replace X1 := Lib.hid (bel_trans X1.out gg); clear gg
  obtain ⟨y0, y1, y2, y3, _, _⟩ := F0.out
  go_wp2_with fail
  refine (H3.out _).mono ?_
  rintro e w3 ⟨rfl, hw⟩
  subst hw
  go_wp2_with fail
  refine (H4.out _ X1.out).mono ?_
  rintro e w4 ⟨u, rfl, hu, gg⟩
  replace X1 := Lib.hid (bel_trans X1.out gg); clear gg y0 y1 y2 y3
  have HU := Lib.hid hu
  obtain ⟨a2, cap2, rfl, _, _⟩ := hu
  generalize ps.length = L at *
  go_wp2
  go_returns
  exact ⟨_, rfl, HU.out, X1.out⟩
theorem lyMs_any (v : Value) (c : Ck) (dip m n : Int) (w : World) (hv : CkV w v c) :
    Calls Tryz.prog 31 #[v, .int .i64 dip, .int .i64 m, .int .i64 n] w fun e w' => ∃ D u, e = .returned (.tuple #[.int .i64 D, u, .int .i64 (wtE c dip m n)]) ∧ (wtE c dip m n = 0 → D = 2 * bgR c.pf) ∧ Nums w' u (wtP c dip m n) ∧ Below w.heap.size w w' := by
  have H1 : Hid (∀ W, Below w.heap.size w W → _) := Lib.hid fun W hW => lyPos_any v c W (hv.below hW)
  have H2 : Hid (∀ W, Below w.heap.size w W → _) := Lib.hid fun W hW => cDe_any v c W (hv.below hW)
  have H3 : Hid (∀ W, _) := Lib.hid fun W => lyCnt_any n W
  have nn : ∀ W, Nums W (.slice none 0 0) [] := fun W => ⟨none, 0, rfl, by simp, .inl rfl⟩
  have ew : wtE c dip m n = if liSE c = 0 then (if dip < 0 ∨ 2 * brQ c < dip ∨ m < 1 ∨ 64 < m ∨ n < 1 ∨ 64 < n then 2 else slE c.pf m) else liSE c := rfl
  have hv' := hv
  obtain ⟨a, cap, rfl, hp, _⟩ := hv'
  by_cases h : liSE c = 0
  · obtain ⟨h1, h2⟩ := liSE_zero.1 h
    rw [h] at H1
    have ed : deQ c = 2 * brQ c := by unfold deQ; rw [if_pos h1, if_pos h2]
    rw [ed, h1] at H2
    rw [if_pos h] at ew
    by_cases g : dip < 0 ∨ 2 * brQ c < dip ∨ n < 1 ∨ 64 < n
    · rw [if_pos (by omega)] at ew
      have ep : wtP c dip m n = [] := by unfold wtP; rw [if_neg (by omega)]
      rw [ew, ep]
      refine (lyMs_bad _ _ _ dip m n _ _ a _ cap w ?_ H1 H2 H3).mono fun e w' ⟨g1, g2⟩ => ⟨_, _, g1, (fun h => by omega), nn _, g2⟩
      by_cases g1 : dip < 0
      · exact .inl g1
      · by_cases g2 : 2 * brQ c < dip
        · exact .inr (.inl ⟨by omega, g2⟩)
        · refine .inr (.inr ⟨by omega, by omega, ?_⟩)
          unfold cntB; simp; omega
    · have eb : cntB n = true := by unfold cntB; simp; omega
      rw [eb] at H3
      have es : wtE c dip m n = slE c.pf m := by
        rw [ew]
        by_cases gm : m < 1 ∨ 64 < m
        · rw [if_pos (by omega)]
          obtain ⟨_, _, _, hR⟩ := ccE_pf h1
          unfold slE
          rw [if_pos ((ckE_iff _).2 hR), if_pos gm]
        · rw [if_neg (by omega)]
      have ep : wtP c dip m n = slP c.pf m := by
        unfold wtP
        rw [es]
        by_cases g2 : slE c.pf m = 0
        · rw [if_pos g2]
        · rw [if_neg g2]; unfold slP; rw [if_neg g2]
      rw [es, ep]
      have H4 : Hid (∀ W, Below w.heap.size w W → _) := Lib.hid fun W hW => lySl_any _ c.pf m W (hp.below hW)
      exact (lyMs_ok _ _ _ _ dip m n _ a _ cap _ w (by omega) (by omega) H1 H2 H3 H4).mono fun e w' ⟨u, g1, g2, g3⟩ => ⟨_, u, g1, (fun _ => rfl), g2, g3⟩
  · rw [if_neg h] at ew
    have ep : wtP c dip m n = [] := by unfold wtP; rw [if_neg (by omega)]
    rw [ew, ep]
    exact (lyMs_err _ _ _ _ dip m n a _ cap w (by simpa using h) (by simpa using h) H1).mono fun e w' ⟨g1, g2⟩ => ⟨_, _, g1, (fun h2 => by omega), nn _, g2⟩
end Go.Proofs.YtgjdopjolokaiaaGreat

/- Package lying: Wet, Dry. -/
namespace Go.Proofs.YtgjdopjolokaiaaGreat
open Go.RowKit

set_option maxHeartbeats 8000000 in
set_option maxRecDepth 100000 in
theorem lyWet_ok (nm : ByteArray) (cps dc dip m n D L H : Int) (a : Option Addr) (k cap : Nat) (ps hh : List Int) (w : World)
    (H1 : Hid (∀ W, Below w.heap.size w W → Calls Tryz.prog 31 #[.agg #[.string nm, .int .i64 cps, .slice a k cap, .int .i64 dc], .int .i64 dip, .int .i64 m, .int .i64 n] W fun e w' => ∃ u, e = .returned (.tuple #[.int .i64 D, u, .int .i64 0]) ∧ Nums w' u ps ∧ Below W.heap.size W w'))
    (H2 : Hid (∀ W, Calls Tryz.prog 32 #[.int .i64 0, .int .i64 dip, .int .i64 n] W fun e w' => ∃ z, e = .returned z ∧ Nums w' z hh ∧ Below W.heap.size W w'))
    (H3 : Hid (∀ u z W, Below w.heap.size w W → Nums W u ps → Nums W z hh → Calls Tryz.prog 26 #[.slice a k cap, u, z] W fun e w' => e = .returned (.agg #[.int .i64 L, .int .i64 H]) ∧ Below W.heap.size W w')) :
    Calls Tryz.prog 14 #[.agg #[.string nm, .int .i64 cps, .slice a k cap, .int .i64 dc], .int .i64 dip, .int .i64 m, .int .i64 n] w fun e w' => e = .returned (.tuple #[.agg #[.int .i64 L, .int .i64 H], .int .i64 0]) ∧ Below w.heap.size w w' := by
  have F0 := Lib.hid ((Quad.new w (.string nm) (.int .i64 cps) (.slice a k cap) (.int .i64 dc) 24).alloc (.cells #[.int .i64 0, .int .i64 0] 29))
  have T0 := Lib.hid (Two.new (w.alloc (.cells #[.string nm, .int .i64 cps, .slice a k cap, .int .i64 dc] 24)) (.int .i64 0) (.int .i64 0) 29)
  rw [World.size_alloc] at T0
  go_enter Tryz.func14, Tryz.ntmps14
  go_wp2_with fail
  refine (H1.out _ (bel_alloc (bel_alloc (Below.refl _ _)))).mono ?_
  rintro e w1 ⟨u, rfl, hu, gg⟩
  replace T0 := Lib.hid (T0.out.below gg)
  replace F0 := Lib.hid (F0.out.below gg)
  have X1 := Lib.hid (bel_alloc (bel_alloc gg)); clear gg
  have HU := Lib.hid hu
  obtain ⟨a2, cap2, rfl, _, _⟩ := hu
  have PL := Lib.hid (rfl : ps.length = ps.length)
  generalize hL : ps.length = LN at *
  clear PL hL
  obtain ⟨_, _, y2, _, _, _⟩ := F0.out
  go_wp2_with fail
  have hne1 : w.heap.size ≠ w.heap.size + 1 := by omega
  have hne2 : w.heap.size + 1 ≠ w.heap.size := by omega
  have FK : Hid (∀ W, Below w1.heap.size w1 W → W.cell? ⟨w.heap.size, 2, none⟩ = some (.slice a k cap) ∧ Two (w.heap.size + 1) W (.int .i64 0) (.int .i64 0)) := Lib.hid fun W hW => ⟨(F0.out.below hW).2.2.1, T0.out.below hW⟩
  go_region_held3 (fun w' => w'.cell? ⟨w.heap.size, 2, none⟩ = some (.slice a k cap)) (go_keep) (first
    | (go_at_call 32; refine (H2.out _).mono ?_; rintro e w5 ⟨z, rfl, hz, gg⟩; have X5 := Lib.hid (bel_trans (bel_drew w1) gg); have HZ := Lib.hid hz; have UZ := Lib.hid (HU.out.below X5.out); obtain ⟨q2, _⟩ := FK.out _ X5.out; obtain ⟨a3, cap3, rfl, _, _⟩ := hz; clear gg)
    | (go_at_call 26; refine (H3.out _ _ _ (bel_trans X1.out X5.out) UZ.out HZ.out).mono ?_; rintro e w6 ⟨rfl, gg⟩; have X6 := Lib.hid (bel_trans X5.out gg); obtain ⟨q3, q4⟩ := FK.out _ X6.out; have T6 := Lib.hid q4; obtain ⟨r0, r1, rf0, rf1, _⟩ := q4; clear gg))
  go_wp2
  obtain ⟨r0', r1', _, _, _⟩ := T6.out
  obtain ⟨t0, t1⟩ := two_read w6 (w.heap.size + 1) (.int .i64 L) (.int .i64 H) r0' r1'
  refine bodyPost_ret (v := .tuple #[.agg #[.int .i64 L, .int .i64 H], .int .i64 0]) (by simp [results, Tryz.results14, go_sem, t0, t1]) rfl ?_
  exact ⟨rfl, ((bel_trans X1.out X6.out).setCell (Nat.le_succ _) _).setCell (Nat.le_succ _) _⟩
theorem lyWet_bad (nm : ByteArray) (cps dc dip m n E : Int) (a : Option Addr) (k cap : Nat) (ps : List Int) (w : World) (e1 : (E == 0) = false) (e2 : (E != 0) = true)
    (H1 : Hid (∀ W, Below w.heap.size w W → Calls Tryz.prog 31 #[.agg #[.string nm, .int .i64 cps, .slice a k cap, .int .i64 dc], .int .i64 dip, .int .i64 m, .int .i64 n] W fun e w' => ∃ D u, e = .returned (.tuple #[.int .i64 D, u, .int .i64 E]) ∧ Nums w' u ps ∧ Below W.heap.size W w')) :
    Calls Tryz.prog 14 #[.agg #[.string nm, .int .i64 cps, .slice a k cap, .int .i64 dc], .int .i64 dip, .int .i64 m, .int .i64 n] w fun e w' => e = .returned (.tuple #[.agg #[.int .i64 0, .int .i64 0], .int .i64 E]) ∧ Below w.heap.size w w' := by
  have T0 := Lib.hid (Two.new (w.alloc (.cells #[.string nm, .int .i64 cps, .slice a k cap, .int .i64 dc] 24)) (.int .i64 0) (.int .i64 0) 29)
  rw [World.size_alloc] at T0
  go_enter Tryz.func14, Tryz.ntmps14
  go_wp2_with fail
  refine (H1.out _ (bel_alloc (bel_alloc (Below.refl _ _)))).mono ?_
  rintro e w1 ⟨D, u, rfl, hu, gg⟩
  replace T0 := Lib.hid (T0.out.below gg)
  have X1 := Lib.hid (bel_alloc (bel_alloc gg)); clear gg
  obtain ⟨a2, cap2, rfl, _, _⟩ := hu
  generalize ps.length = LN at *
  obtain ⟨r0, r1, rf0, rf1, _⟩ := T0.out
  go_wp2
  obtain ⟨t0, t1⟩ := two_read w1 (w.heap.size + 1) (.int .i64 0) (.int .i64 0) r0 r1
  refine bodyPost_ret (v := .tuple #[.agg #[.int .i64 0, .int .i64 0], .int .i64 E]) (by simp [results, Tryz.results14, go_sem, t0, t1]) rfl ?_
  exact ⟨rfl, (X1.out.setCell (Nat.le_succ _) _).setCell (Nat.le_succ _) _⟩
set_option maxHeartbeats 8000000 in
set_option maxRecDepth 100000 in
theorem lyDry_ok (nm : ByteArray) (cps dc dip m n D L H : Int) (a : Option Addr) (k cap : Nat) (ps hh : List Int) (w : World)
    (H1 : Hid (∀ W, Below w.heap.size w W → Calls Tryz.prog 31 #[.agg #[.string nm, .int .i64 cps, .slice a k cap, .int .i64 dc], .int .i64 dip, .int .i64 m, .int .i64 n] W fun e w' => ∃ u, e = .returned (.tuple #[.int .i64 D, u, .int .i64 0]) ∧ Nums w' u ps ∧ Below W.heap.size W w'))
    (H2 : Hid (∀ W, Calls Tryz.prog 32 #[.int .i64 dip, .int .i64 D, .int .i64 n] W fun e w' => ∃ z, e = .returned z ∧ Nums w' z hh ∧ Below W.heap.size W w'))
    (H3 : Hid (∀ u z W, Below w.heap.size w W → Nums W u ps → Nums W z hh → Calls Tryz.prog 26 #[.slice a k cap, u, z] W fun e w' => e = .returned (.agg #[.int .i64 L, .int .i64 H]) ∧ Below W.heap.size W w')) :
    Calls Tryz.prog 16 #[.agg #[.string nm, .int .i64 cps, .slice a k cap, .int .i64 dc], .int .i64 dip, .int .i64 m, .int .i64 n] w fun e w' => e = .returned (.tuple #[.agg #[.int .i64 L, .int .i64 H], .int .i64 0]) ∧ Below w.heap.size w w' := by
  have F0 := Lib.hid ((Quad.new w (.string nm) (.int .i64 cps) (.slice a k cap) (.int .i64 dc) 24).alloc (.cells #[.int .i64 0, .int .i64 0] 29))
  have T0 := Lib.hid (Two.new (w.alloc (.cells #[.string nm, .int .i64 cps, .slice a k cap, .int .i64 dc] 24)) (.int .i64 0) (.int .i64 0) 29)
  rw [World.size_alloc] at T0
  go_enter Tryz.func16, Tryz.ntmps16
  go_wp2_with fail
  refine (H1.out _ (bel_alloc (bel_alloc (Below.refl _ _)))).mono ?_
  rintro e w1 ⟨u, rfl, hu, gg⟩
  replace T0 := Lib.hid (T0.out.below gg)
  replace F0 := Lib.hid (F0.out.below gg)
  have X1 := Lib.hid (bel_alloc (bel_alloc gg)); clear gg
  have HU := Lib.hid hu
  obtain ⟨a2, cap2, rfl, _, _⟩ := hu
  have PL := Lib.hid (rfl : ps.length = ps.length)
  generalize hL : ps.length = LN at *
  clear PL hL
  obtain ⟨_, _, y2, _, _, _⟩ := F0.out
  go_wp2_with fail
  have hne1 : w.heap.size ≠ w.heap.size + 1 := by omega
  have hne2 : w.heap.size + 1 ≠ w.heap.size := by omega
  have FK : Hid (∀ W, Below w1.heap.size w1 W → W.cell? ⟨w.heap.size, 2, none⟩ = some (.slice a k cap) ∧ Two (w.heap.size + 1) W (.int .i64 0) (.int .i64 0)) := Lib.hid fun W hW => ⟨(F0.out.below hW).2.2.1, T0.out.below hW⟩
  go_region_held3 (fun w' => w'.cell? ⟨w.heap.size, 2, none⟩ = some (.slice a k cap)) (go_keep) (first
    | (go_at_call 32; refine (H2.out _).mono ?_; rintro e w5 ⟨z, rfl, hz, gg⟩; have X5 := Lib.hid (bel_trans (bel_drew w1) gg); have HZ := Lib.hid hz; have UZ := Lib.hid (HU.out.below X5.out); obtain ⟨q2, _⟩ := FK.out _ X5.out; obtain ⟨a3, cap3, rfl, _, _⟩ := hz; clear gg)
    | (go_at_call 26; refine (H3.out _ _ _ (bel_trans X1.out X5.out) UZ.out HZ.out).mono ?_; rintro e w6 ⟨rfl, gg⟩; have X6 := Lib.hid (bel_trans X5.out gg); obtain ⟨q3, q4⟩ := FK.out _ X6.out; have T6 := Lib.hid q4; obtain ⟨r0, r1, rf0, rf1, _⟩ := q4; clear gg))
  go_wp2
  obtain ⟨r0', r1', _, _, _⟩ := T6.out
  obtain ⟨t0, t1⟩ := two_read w6 (w.heap.size + 1) (.int .i64 L) (.int .i64 H) r0' r1'
  refine bodyPost_ret (v := .tuple #[.agg #[.int .i64 L, .int .i64 H], .int .i64 0]) (by simp [results, Tryz.results16, go_sem, t0, t1]) rfl ?_
  exact ⟨rfl, ((bel_trans X1.out X6.out).setCell (Nat.le_succ _) _).setCell (Nat.le_succ _) _⟩
theorem lyDry_bad (nm : ByteArray) (cps dc dip m n E : Int) (a : Option Addr) (k cap : Nat) (ps : List Int) (w : World) (e1 : (E == 0) = false) (e2 : (E != 0) = true)
    (H1 : Hid (∀ W, Below w.heap.size w W → Calls Tryz.prog 31 #[.agg #[.string nm, .int .i64 cps, .slice a k cap, .int .i64 dc], .int .i64 dip, .int .i64 m, .int .i64 n] W fun e w' => ∃ D u, e = .returned (.tuple #[.int .i64 D, u, .int .i64 E]) ∧ Nums w' u ps ∧ Below W.heap.size W w')) :
    Calls Tryz.prog 16 #[.agg #[.string nm, .int .i64 cps, .slice a k cap, .int .i64 dc], .int .i64 dip, .int .i64 m, .int .i64 n] w fun e w' => e = .returned (.tuple #[.agg #[.int .i64 0, .int .i64 0], .int .i64 E]) ∧ Below w.heap.size w w' := by
  have T0 := Lib.hid (Two.new (w.alloc (.cells #[.string nm, .int .i64 cps, .slice a k cap, .int .i64 dc] 24)) (.int .i64 0) (.int .i64 0) 29)
  rw [World.size_alloc] at T0
  go_enter Tryz.func16, Tryz.ntmps16
  go_wp2_with fail
  refine (H1.out _ (bel_alloc (bel_alloc (Below.refl _ _)))).mono ?_
  rintro e w1 ⟨D, u, rfl, hu, gg⟩
  replace T0 := Lib.hid (T0.out.below gg)
  have X1 := Lib.hid (bel_alloc (bel_alloc gg)); clear gg
  obtain ⟨a2, cap2, rfl, _, _⟩ := hu
  generalize ps.length = LN at *
  obtain ⟨r0, r1, rf0, rf1, _⟩ := T0.out
  go_wp2
  obtain ⟨t0, t1⟩ := two_read w1 (w.heap.size + 1) (.int .i64 0) (.int .i64 0) r0 r1
  refine bodyPost_ret (v := .tuple #[.agg #[.int .i64 0, .int .i64 0], .int .i64 E]) (by simp [results, Tryz.results16, go_sem, t0, t1]) rfl ?_
  exact ⟨rfl, (X1.out.setCell (Nat.le_succ _) _).setCell (Nat.le_succ _) _⟩
theorem lyWet_any (v : Value) (c : Ck) (dip m n : Int) (w : World) (hv : CkV w v c) :
    Calls Tryz.prog 14 #[v, .int .i64 dip, .int .i64 m, .int .i64 n] w fun e w' => e = .returned (.tuple #[.agg #[.int .i64 (wtL c dip m n), .int .i64 (wtH c dip m n)], .int .i64 (wtE c dip m n)]) ∧ Below w.heap.size w w' := by
  have H1 : Hid (∀ W, Below w.heap.size w W → _) := Lib.hid fun W hW => lyMs_any v c dip m n W (hv.below hW)
  unfold wtL wtH
  by_cases g : wtE c dip m n = 0
  · obtain ⟨⟨h1, h2⟩, h3, h4, h5, _, h6, h7⟩ := wtE_zero g
    obtain ⟨_, _, _, hR⟩ := ccE_pf h1
    have hl : bg c.pf c.pf.length < c.pf.length := by have := bg_lt c.pf c.pf.length; have := hR.n0; omega
    have br : bgR c.pf ≤ 100000 := (hR.br _ hl).2
    rw [if_pos g, if_pos g, g]
    rw [g] at H1
    obtain ⟨kn, hkn⟩ : ∃ kn : Nat, n = kn := ⟨n.toNat, by omega⟩
    have ekn : n.toNat = kn := by omega
    rw [ekn]
    have hv' := hv
    obtain ⟨a, cap, rfl, hp, _⟩ := hv'
    have H1' : Hid (∀ W, Below w.heap.size w W → Calls Tryz.prog 31 #[.agg #[.string c.nm, .int .i64 c.ps, .slice a c.pf.length cap, .int .i64 c.dc], .int .i64 dip, .int .i64 m, .int .i64 n] W fun e w' => ∃ u, e = .returned (.tuple #[.int .i64 (2 * bgR c.pf), u, .int .i64 0]) ∧ Nums w' u (wtP c dip m n) ∧ Below W.heap.size W w') := Lib.hid fun W hW => (H1.out W hW).mono fun e w' ⟨D, u, q1, q2, q3, q4⟩ => ⟨u, by rw [q1, q2 rfl], q3, q4⟩
    have hH := hs_right dip kn (by omega) (by omega) h3.1 (by omega)
    have ln := hs_len dip kn
    have H2 : Hid (∀ W, Calls Tryz.prog 32 #[.int .i64 0, .int .i64 dip, .int .i64 n] W fun e w' => ∃ z, e = .returned z ∧ Nums w' z (hs dip kn) ∧ Below W.heap.size W w') := Lib.hid fun W => by
      have := lyUp_ok 0 dip dip kn W (by omega) (by omega) (by omega) (by omega) (by omega) (by omega) (by omega)
      rw [hkn]
      rwa [show (hs dip kn).map (· + 0) = hs dip kn by simp] at this
    have H3 : Hid (∀ u z W, Below w.heap.size w W → Nums W u (wtP c dip m n) → Nums W z (hs dip kn) → _) := Lib.hid fun u z W hW hu hz => lyBt_any (.slice a c.pf.length cap) u z c.pf _ _ W (hp.below hW) hu hz hR h6 h7 hH
    rw [ln, Nat.add_sub_cancel] at H3
    exact lyWet_ok _ _ _ dip m n (2 * bgR c.pf) _ _ a _ cap _ _ w H1' H2 H3
  · rw [if_neg g, if_neg g]
    obtain ⟨a, cap, rfl, _⟩ := hv
    exact lyWet_bad _ _ _ dip m n _ a _ cap _ w (by simpa using g) (by simpa using g) (Lib.hid fun W hW => (H1.out W hW).mono fun e w' ⟨D, u, q1, _, q3, q4⟩ => ⟨D, u, q1, q3, q4⟩)
theorem lyDry_any (v : Value) (c : Ck) (dip m n : Int) (w : World) (hv : CkV w v c) :
    Calls Tryz.prog 16 #[v, .int .i64 dip, .int .i64 m, .int .i64 n] w fun e w' => e = .returned (.tuple #[.agg #[.int .i64 (dyL c dip m n), .int .i64 (dyH c dip m n)], .int .i64 (wtE c dip m n)]) ∧ Below w.heap.size w w' := by
  have H1 : Hid (∀ W, Below w.heap.size w W → _) := Lib.hid fun W hW => lyMs_any v c dip m n W (hv.below hW)
  unfold dyL dyH
  by_cases g : wtE c dip m n = 0
  · obtain ⟨⟨h1, h2⟩, h3, h4, h5, _, h6, h7⟩ := wtE_zero g
    obtain ⟨_, _, _, hR⟩ := ccE_pf h1
    have hl : bg c.pf c.pf.length < c.pf.length := by have := bg_lt c.pf c.pf.length; have := hR.n0; omega
    have br : bgR c.pf ≤ 100000 := (hR.br _ hl).2
    rw [if_pos g, if_pos g, g]
    rw [g] at H1
    obtain ⟨kn, hkn⟩ : ∃ kn : Nat, n = kn := ⟨n.toNat, by omega⟩
    have ekn : n.toNat = kn := by omega
    rw [ekn]
    have hv' := hv
    obtain ⟨a, cap, rfl, hp, _⟩ := hv'
    have H1' : Hid (∀ W, Below w.heap.size w W → Calls Tryz.prog 31 #[.agg #[.string c.nm, .int .i64 c.ps, .slice a c.pf.length cap, .int .i64 c.dc], .int .i64 dip, .int .i64 m, .int .i64 n] W fun e w' => ∃ u, e = .returned (.tuple #[.int .i64 (2 * bgR c.pf), u, .int .i64 0]) ∧ Nums w' u (wtP c dip m n) ∧ Below W.heap.size W w') := Lib.hid fun W hW => (H1.out W hW).mono fun e w' ⟨D, u, q1, q2, q3, q4⟩ => ⟨u, by rw [q1, q2 rfl], q3, q4⟩
    have hH := hd_right (c := bgR c.pf) (p := dip) (n := kn) h3.1 h3.2 br (by omega) (by omega)
    have ln := hd_len dip (2 * bgR c.pf) kn
    have H2 : Hid (∀ W, Calls Tryz.prog 32 #[.int .i64 dip, .int .i64 (2 * bgR c.pf), .int .i64 n] W fun e w' => ∃ z, e = .returned z ∧ Nums w' z (hd dip (2 * bgR c.pf) kn) ∧ Below W.heap.size W w') := Lib.hid fun W => by
      have := lyUp_ok dip (2 * bgR c.pf) (2 * bgR c.pf - dip) kn W rfl (by omega) (by omega) (by omega) (by omega) (by omega) (by omega)
      rw [hkn]
      exact this
    have H3 : Hid (∀ u z W, Below w.heap.size w W → Nums W u (wtP c dip m n) → Nums W z (hd dip (2 * bgR c.pf) kn) → _) := Lib.hid fun u z W hW hu hz => lyBt_any (.slice a c.pf.length cap) u z c.pf _ _ W (hp.below hW) hu hz hR h6 h7 hH
    rw [ln, Nat.add_sub_cancel] at H3
    exact lyDry_ok _ _ _ dip m n (2 * bgR c.pf) _ _ a _ cap _ _ w H1' H2 H3
  · rw [if_neg g, if_neg g]
    obtain ⟨a, cap, rfl, _⟩ := hv
    exact lyDry_bad _ _ _ dip m n _ a _ cap _ w (by simpa using g) (by simpa using g) (Lib.hid fun W hW => (H1.out W hW).mono fun e w' ⟨D, u, q1, _, q3, q4⟩ => ⟨D, u, q1, q3, q4⟩)
end Go.Proofs.YtgjdopjolokaiaaGreat

/- The reference of layer 7: Refine. -/
namespace Go.Proofs.YtgjdopjolokaiaaGreat
open Go.RowKit

/-- the first 2 k + 1 heights of those with the middles between them -/
def rfk (l : List Int) : Nat → List Int
  | 0 => [l.getD 0 0]
  | k + 1 => rfk l k ++ [(l.getD k 0 + l.getD (k + 1) 0) / 2, l.getD (k + 1) 0]
theorem rfk_len (l : List Int) (k : Nat) : (rfk l k).length = 2 * k + 1 := by
  induction k with
  | zero => rfl
  | succ k ih => show (rfk l k ++ _).length = _; rw [List.length_append, ih]; simp; omega
/-- what Refine returns -/
def rfE (l : List Int) : Int := if hcE l = 0 then (if 65 < 2 * l.length - 1 then 15 else 0) else hcE l
def rfL (l : List Int) : List Int := if rfE l = 0 then rfk l (l.length - 1) else []

theorem own_lit (w : World) (B : Nat) (x : Int) (hB : B ≤ w.heap.size) : (w.alloc (.cells #[.int .i64 x] 3)).ownsRow B 3 1 (.slice (some ⟨w.heap.size, 0, none⟩) 1 1) 1 ([x].map (Value.int .i64)) :=
  ⟨rfl, .inr ⟨w.heap.size, 1, #[.int .i64 x], rfl, hB, by show (w.heap.push _)[w.heap.size]? = _; exact Array.getElem?_push_size, by omega, by unfold maxLen; omega, rfl, rfl⟩⟩
theorem own_two {B k : Nat} {w wr w1 : World} {v v' : Value} {zs : List Int} {x y : Int} {o : Obj} (hB : B ≤ wr.heap.size) (hnx : Below B w wr)
    (hown : wr.ownsRow B 3 1 v k (zs.map (Value.int .i64))) (hown' : w1.ownsRow B 3 1 v' (k + 2) (zs.map (Value.int .i64) ++ [.int .i64 x, .int .i64 y])) (hgrow : (wr.alloc o).grownBy w1 v.ownBlock) :
    w1.ownsRow B 3 1 v' (k + 2) ((zs ++ [x, y]).map (Value.int .i64)) ∧ Below B w w1 :=
  ⟨by simpa using hown', (hnx.alloc hB o).grown hgrow (by simp; omega) (fun j hj => (hown.lt j hj).1)⟩

end Go.Proofs.YtgjdopjolokaiaaGreat

/- Package segment: Refine. -/
namespace Go.Proofs.YtgjdopjolokaiaaGreat
open Go.RowKit Go.Shelf
attribute [local go_sem] Oper.semAt_some

/-- the heights with the middles behind some strips -/
def rfs (l : List Int) (x0 : Int) {m : Nat} (pre : List (Fin m)) : List Int := [x0] ++ pre.flatMap fun j => [(l.getD j.val 0 + l.getD (j.val + 1) 0) / 2, l.getD (j.val + 1) 0]
theorem rfs_snoc (l : List Int) (x0 : Int) {m : Nat} (pre : List (Fin m)) (j : Fin m) : rfs l x0 (pre ++ [j]) = rfs l x0 pre ++ [(l.getD j.val 0 + l.getD (j.val + 1) 0) / 2, l.getD (j.val + 1) 0] := by
  simp [rfs]
theorem rfs_len (l : List Int) (x0 : Int) {m : Nat} (pre : List (Fin m)) : (rfs l x0 pre).length = 2 * pre.length + 1 := by
  induction pre with
  | nil => rfl
  | cons a pre ih => simp [rfs] at ih ⊢; omega
theorem rfs_all (l : List Int) {m : Nat} (k : Nat) (h : k ≤ m) : rfs l (l.getD 0 0) (ups m k) = rfk l k := by
  induction k with
  | zero => rfl
  | succ k ih => rw [ups_succ (by omega), rfs_snoc, ih (by omega)]; rfl

theorem news_two (w : World) (x y : Value) (t : TypeId) : ∀ j u, [x, y][j]? = some u → (w.alloc (.cells #[x, y] t)).cell? ((⟨w.heap.size, 0, none⟩ : Addr).add j) = some u := by
  intro j u hj
  match j, hj with
  | 0, hj => simp at hj; subst hj; simp [Addr.add, go_sem]
  | 1, hj => simp at hj; subst hj; simp [Addr.add, go_sem]
  | j + 2, hj => simp at hj
theorem own_some {W : World} {base : Nat} {e : TypeId} {size : Nat} {v : Value} {k : Nat} {xs : List Value} (hk : 0 < k) (h : W.ownsRow base e size v k xs) : ∃ g cap, v = .slice (some ⟨g, 0, none⟩) k cap := by
  obtain ⟨k', rfl⟩ : ∃ k', k = k' + 1 := ⟨k - 1, by omega⟩
  exact ownsRow_succ h

end Go.Proofs.YtgjdopjolokaiaaGreat

/- Copies of slices of integers, and two that are compared. -/
namespace Go.Proofs.YtgjdopjolokaiaaGreat
open Go.RowKit

theorem Nums.alloc {w : World} {v : Value} {zs : List Int} (h : Nums w v zs) (o : Obj) : Nums (w.alloc o) v zs := h.below (bel_alloc (Below.refl _ _))
/-- a copy reads as what it is copied from, and belongs to the call -/
theorem clone_own (v : Value) (zs : List Int) (w : World) (h : Nums w v zs) (hn : zs.length ≤ 1000) :
    Calls Tryz.prog 9 #[v] w fun e w' => ∃ u, e = .returned u ∧ w'.ownsRow w.heap.size 3 1 u zs.length (zs.map (Value.int .i64)) ∧ Below w.heap.size w w' := by
  obtain ⟨a, c, rfl, hl, h⟩ := h
  by_cases h0 : zs.length = 0
  · obtain rfl := List.length_eq_zero_iff.1 h0
    cases a with
    | none => refine (Tryz.slices_Clone_int_nil _ c w).mono fun _ w' g => ⟨_, g.1, ?_, by rw [g.2]; exact Below.refl _ _⟩
              rw [g.2]; exact World.ownsRow_nil _ _ _ _
    | some a => exact (Tryz.slices_Clone_int_zero a c w).mono fun _ w' ⟨v', g1, g2, _, g4⟩ => ⟨v', g1, g2, g4⟩
  · rcases h with h | ⟨b, off, rfl, _, hc⟩
    · exact absurd h h0
    refine (Tryz.slices_Clone_int b off zs.length c zs w (Nat.le_refl _) (by omega) hc).mono fun _ w' ⟨v', g1, g2, _, g4⟩ => ⟨v', g1, ?_, g4⟩
    rw [List.take_length] at g2; exact g2
theorem clone_nums (v : Value) (zs : List Int) (w : World) (h : Nums w v zs) (hn : zs.length ≤ 1000) :
    Calls Tryz.prog 9 #[v] w fun e w' => ∃ u, e = .returned u ∧ Nums w' u zs ∧ Below w.heap.size w w' :=
  (clone_own v zs w h hn).mono fun _ w' ⟨u, g1, g2, g3⟩ => ⟨u, g1, nums_of_own g2, g3⟩
theorem equal_any (v u : Value) (xs ys : List Int) (w : World) (hv : Nums w v xs) (hu : Nums w u ys) :
    Calls Tryz.prog 20 #[v, u] w fun e w' => e = .returned (.bool (xs == ys)) ∧ Below w.heap.size w w' := by
  obtain ⟨a, c, rfl, hl, hv⟩ := hv
  obtain ⟨b, d, rfl, hm, hu⟩ := hu
  by_cases hlen : xs.length = ys.length
  · by_cases h0 : xs.length = 0
    · have h1 : ys.length = 0 := by omega
      refine (show Calls Tryz.prog 20 #[.slice a xs.length c, .slice b ys.length d] w _ by rw [h0]; exact Tryz.slices_Equal_int_empty a b c ys.length d w (by omega)).mono fun _ w' g => ⟨?_, by rw [g.2]; exact Below.refl _ _⟩
      rw [g.1, List.length_eq_zero_iff.1 h0, List.length_eq_zero_iff.1 h1]; rfl
    · rcases hv with hv | ⟨b1, o1, rfl, _, hc1⟩
      · omega
      rcases hu with hu | ⟨b2, o2, rfl, _, hc2⟩
      · omega
      refine (Tryz.slices_Equal_int b1 o1 xs.length c b2 o2 ys.length d xs ys w (Nat.le_refl _) (Nat.le_refl _) (by omega) (by omega) hc1 hc2).mono fun _ w' g => ⟨?_, ?_⟩
      · rw [g.1, List.take_length, List.take_length]
      · obtain ⟨q, hq⟩ := g.2; rw [hq]; exact bel_drewN _ _
  · refine (Tryz.slices_Equal_int_lens a b xs.length c ys.length d w hlen).mono fun _ w' g => ⟨?_, by rw [g.2]; exact Below.refl _ _⟩
    rw [g.1]
    congr 2
    symm
    rw [beq_eq_false_iff_ne]
    intro h; exact hlen (by rw [h])
theorem equal_same (v u : Value) (xs : List Int) (w : World) (hv : Nums w v xs) (hu : Nums w u xs) :
    Calls Tryz.prog 20 #[v, u] w fun e w' => e = .returned (.bool true) ∧ Below w.heap.size w w' := by
  have := equal_any v u xs xs w hv hu
  rw [beq_self_eq_true] at this
  exact this
/-- a literal -/
theorem nums_lit (w : World) (zs : List Int) (cs : List Value) (h : cs = zs.map (Value.int .i64)) (hn : zs.length ≤ 1000) :
    Nums (w.alloc (.cells cs.toArray 3)) (.slice (some ⟨w.heap.size, 0, none⟩) zs.length zs.length) zs := by
  refine ⟨_, _, rfl, by omega, .inr ⟨w.heap.size, 0, rfl, by simp, fun j hj => ?_⟩⟩
  subst h
  rw [World.cell?_alloc_new]
  simp [List.getD, List.getElem?_eq_getElem hj]
end Go.Proofs.YtgjdopjolokaiaaGreat

/- Bounds are compared. -/
namespace Go.Proofs.YtgjdopjolokaiaaGreat
open Go.RowKit

end Go.Proofs.YtgjdopjolokaiaaGreat

/- The statements about layer 7: the examples of the chapter hold. -/
namespace Go.Proofs.YtgjdopjolokaiaaGreat
open Go.RowKit

theorem hc5 : (hcL 5 (-5) = 0 ∧ hcL 5 (-3) = 4 ∧ hcL 5 0 = 5 ∧ hcL 5 3 = 4 ∧ hcL 5 5 = 0) ∧ hcH 5 (-5) = 0 ∧ hcH 5 (-3) = 4 ∧ hcH 5 0 = 5 ∧ hcH 5 3 = 4 ∧ hcH 5 5 = 0 := by
  have r0 : rt 0 = 0 := rt_of (by decide) (by decide) (by decide)
  have r16 : rt 16 = 4 := rt_of (by decide) (by decide) (by decide)
  have r25 : rt 25 = 5 := rt_of (by decide) (by decide) (by decide)
  have c0 : ce 0 = 0 := by unfold ce; rw [r0]; decide
  have c16 : ce 16 = 4 := by unfold ce; rw [r16]; decide
  have c25 : ce 25 = 5 := by unfold ce; rw [r25]; decide
  unfold hcL hcH
  simp [r0, r16, r25, c0, c16, c25]
theorem ex_a : arE 5 5 [0, 5, 10] = 0 ∧ arL 5 5 [0, 5, 10] = 0 ∧ arH 5 5 [0, 5, 10] = 100 := by
  obtain ⟨⟨l1, l2, l3, l4, l5⟩, h1, h2, h3, h4, h5⟩ := hc5
  have e : arE 5 5 [0, 5, 10] = 0 := by decide
  unfold arL arH
  rw [e]
  simp [prL, prH, ofL, ofH, l1, l3, l5]
  omega
theorem ex_b : arE 5 5 [0, 2, 5, 8, 10] = 0 ∧ arL 5 5 [0, 2, 5, 8, 10] = 48 ∧ arH 5 5 [0, 2, 5, 8, 10] = 92 := by
  obtain ⟨⟨l1, l2, l3, l4, l5⟩, h1, h2, h3, h4, h5⟩ := hc5
  have e : arE 5 5 [0, 2, 5, 8, 10] = 0 := by decide
  unfold arL arH
  rw [e]
  simp [prL, prH, ofL, ofH, l1, l2, l3, l4, l5, h1, h2, h4, h5]
  omega
theorem ex_s : arE 5 5 [2, 5] = 0 ∧ arL 5 5 [2, 5] = 24 ∧ arH 5 5 [2, 5] = 30 := by
  obtain ⟨⟨l1, l2, l3, l4, l5⟩, h1, h2, h3, h4, h5⟩ := hc5
  have e : arE 5 5 [2, 5] = 0 := by decide
  unfold arL arH
  rw [e]
  simp [prL, prH, ofL, ofH, l2, l3]
  omega
theorem lit3 (w : World) : Nums (w.alloc (.cells #[.int .i64 0, .int .i64 5, .int .i64 10] 3)) (.slice (some ⟨w.heap.size, 0, none⟩) 3 3) [0, 5, 10] := nums_lit w [0, 5, 10] [.int .i64 0, .int .i64 5, .int .i64 10] rfl (by decide)
theorem lit5 (w : World) : Nums (w.alloc (.cells #[.int .i64 0, .int .i64 2, .int .i64 5, .int .i64 8, .int .i64 10] 3)) (.slice (some ⟨w.heap.size, 0, none⟩) 5 5) [0, 2, 5, 8, 10] := nums_lit w [0, 2, 5, 8, 10] [.int .i64 0, .int .i64 2, .int .i64 5, .int .i64 8, .int .i64 10] rfl (by decide)
theorem lit5' (w : World) : Nums (w.alloc (.cells #[.int .i64 0, .int .i64 2, .int .i64 5, .int .i64 7, .int .i64 10] 3)) (.slice (some ⟨w.heap.size, 0, none⟩) 5 5) [0, 2, 5, 7, 10] := nums_lit w [0, 2, 5, 7, 10] [.int .i64 0, .int .i64 2, .int .i64 5, .int .i64 7, .int .i64 10] rfl (by decide)

theorem ex_w : whE 5 = 0 ∧ whL 5 = 78 ∧ whH 5 = 79 := by decide
theorem ex_h : heE 10 4 = 0 ∧ heL 10 4 = [0, 2, 5, 7, 10] := by decide +kernel
theorem ex_r : rfE [0, 5, 10] = 0 ∧ rfL [0, 5, 10] = [0, 2, 5, 7, 10] := by decide +kernel
theorem ex_k : hcE [0, 2, 5, 7, 10] = 0 := by decide +kernel
end Go.Proofs.YtgjdopjolokaiaaGreat

/- The statements about layer 11: the chapter's examples hold. -/
namespace Go.Proofs.YtgjdopjolokaiaaGreat
open Go.RowKit

def dl : List (Int × Int) := [(0, 5), (10, 5)]
def drum : Ck := ⟨⟨#[100]⟩, 1, dl, 0⟩
def l5 : List (Int × Int) := [(0, 1), (5, 2), (6, 2)]
theorem hc5x : (hcL 5 (-4) = 3 ∧ hcL 5 (-2) = 4 ∧ hcL 5 (-1) = 4 ∧ hcL 5 1 = 4 ∧ hcL 5 2 = 4 ∧ hcL 5 4 = 3) ∧ hcH 5 (-4) = 3 ∧ hcH 5 (-2) = 5 ∧ hcH 5 (-1) = 5 ∧ hcH 5 1 = 5 ∧ hcH 5 2 = 5 ∧ hcH 5 4 = 3 := by
  have r9 : rt 9 = 3 := rt_of (by decide) (by decide) (by decide)
  have r21 : rt 21 = 4 := rt_of (by decide) (by decide) (by decide)
  have r24 : rt 24 = 4 := rt_of (by decide) (by decide) (by decide)
  have c9 : ce 9 = 3 := by unfold ce; rw [r9]; decide
  have c21 : ce 21 = 5 := by unfold ce; rw [r21]; decide
  have c24 : ce 24 = 5 := by unfold ce; rw [r24]; decide
  unfold hcL hcH
  simp [r9, r21, r24, c9, c21, c24]
theorem pr_1 : prL 5 5 [0, 5, 10] 2 = 0 ∧ prH 5 5 [0, 5, 10] 2 = 100 := by
  obtain ⟨⟨l1, l2, l3, l4, l5⟩, h1, h2, h3, h4, h5⟩ := hc5
  simp [prL, prH, ofL, ofH, l1, l3, l5]
  omega
theorem pr_2 : prL 5 5 [0, 2, 5, 8, 10] 4 = 48 ∧ prH 5 5 [0, 2, 5, 8, 10] 4 = 92 := by
  obtain ⟨⟨l1, l2, l3, l4, l5⟩, h1, h2, h3, h4, h5⟩ := hc5
  simp [prL, prH, ofL, ofH, l1, l2, l3, l4, l5, h1, h2, h4, h5]
  omega
theorem pr_3 : prL 5 5 [0, 1, 2, 3, 4, 5] 5 = 30 ∧ prH 5 5 [0, 1, 2, 3, 4, 5] 5 = 44 := by
  obtain ⟨⟨l1, l2, l3, l4, l5⟩, h1, h2, h3, h4, h5⟩ := hc5
  obtain ⟨⟨m1, m2, m3, m4, m5, m6⟩, g1, g2, g3, g4, g5, g6⟩ := hc5x
  simp [prL, prH, ofL, ofH, l1, l2, l3, h1, h2, h3, m1, m2, m3, g1, g2, g3]
  omega
theorem pr_4 : prL 5 5 [5, 6, 7, 8, 9, 10] 5 = 30 ∧ prH 5 5 [5, 6, 7, 8, 9, 10] 5 = 44 := by
  obtain ⟨⟨l1, l2, l3, l4, l5⟩, h1, h2, h3, h4, h5⟩ := hc5
  obtain ⟨⟨m1, m2, m3, m4, m5, m6⟩, g1, g2, g3, g4, g5, g6⟩ := hc5x
  simp [prL, prH, ofL, ofH, l3, l4, l5, h3, h4, h5, m4, m5, m6, g4, g5, g6]
  omega
theorem pr_5 : (prL 5 5 [0, 2] 1 = 0 ∧ prH 5 5 [0, 2] 1 = 16) ∧ prL 5 5 [2, 5] 1 = 24 ∧ prH 5 5 [2, 5] 1 = 30 := by
  obtain ⟨⟨l1, l2, l3, l4, l5⟩, h1, h2, h3, h4, h5⟩ := hc5
  simp [prL, prH, ofL, ofH, l1, l2, l3, h1, h2, h3]
  omega
theorem dl_R : RP dl := (ckE_iff _).1 (by decide +kernel)
theorem dl_P : PlR dl [0, 10] := (plcE_iff.1 (show plcE dl [0, 10] = 0 by decide +kernel)).1
theorem dl_b : bgR dl = 5 := by decide +kernel
theorem dl_tb (hs : List Int) (j : Nat) : tbL dl 5 [0, 10] hs j 1 = 10 * prL 5 5 hs j ∧ tbH dl 5 [0, 10] hs j 1 = 10 * prH 5 5 hs j := by
  have := tb_cyl (X := 10) (r := 5) (c := 5) (ps := [0, 10]) (hs := hs) (by omega) (by omega) dl_R dl_P j 1 (by decide)
  exact this
theorem dr_1 : lrE drum [0, 10] [0, 5, 10] = 0 ∧ btwL drum [0, 10] [0, 5, 10] = 0 ∧ btwH drum [0, 10] [0, 5, 10] = 1000 := by
  have e : lrE drum [0, 10] [0, 5, 10] = 0 := by decide +kernel
  refine ⟨e, ?_, ?_⟩
  · unfold btwL; rw [if_pos e]
    show tbL dl (bgR dl) [0, 10] [0, 5, 10] 2 1 = 0
    rw [dl_b, (dl_tb _ _).1, pr_1.1]; rfl
  · unfold btwH; rw [if_pos e]
    show tbH dl (bgR dl) [0, 10] [0, 5, 10] 2 1 = 1000
    rw [dl_b, (dl_tb _ _).2, pr_1.2]; rfl
theorem dr_2 : lrE drum [0, 10] [0, 2, 5, 8, 10] = 0 ∧ btwL drum [0, 10] [0, 2, 5, 8, 10] = 480 ∧ btwH drum [0, 10] [0, 2, 5, 8, 10] = 920 := by
  have e : lrE drum [0, 10] [0, 2, 5, 8, 10] = 0 := by decide +kernel
  refine ⟨e, ?_, ?_⟩
  · unfold btwL; rw [if_pos e]
    show tbL dl (bgR dl) [0, 10] [0, 2, 5, 8, 10] 4 1 = 480
    rw [dl_b, (dl_tb _ _).1, pr_2.1]; rfl
  · unfold btwH; rw [if_pos e]
    show tbH dl (bgR dl) [0, 10] [0, 2, 5, 8, 10] 4 1 = 920
    rw [dl_b, (dl_tb _ _).2, pr_2.2]; rfl
theorem dr_3 : wtE drum 5 1 5 = 0 ∧ wtL drum 5 1 5 = 300 ∧ wtH drum 5 1 5 = 440 ∧ dyL drum 5 1 5 = 300 ∧ dyH drum 5 1 5 = 440 := by
  have e : wtE drum 5 1 5 = 0 := by decide +kernel
  have ep : wtP drum 5 1 5 = [0, 10] := by decide +kernel
  have eh : hs 5 5 = [0, 1, 2, 3, 4, 5] := by decide +kernel
  have ed : hd 5 10 5 = [5, 6, 7, 8, 9, 10] := by decide +kernel
  refine ⟨e, ?_, ?_, ?_, ?_⟩
  · unfold wtL; rw [if_pos e, ep]
    show tbL dl (bgR dl) [0, 10] (hs 5 5) 5 1 = 300
    rw [dl_b, eh, (dl_tb _ _).1, pr_3.1]; rfl
  · unfold wtH; rw [if_pos e, ep]
    show tbH dl (bgR dl) [0, 10] (hs 5 5) 5 1 = 440
    rw [dl_b, eh, (dl_tb _ _).2, pr_3.2]; rfl
  · unfold dyL; rw [if_pos e, ep]
    show tbL dl (bgR dl) [0, 10] (hd 5 (2 * bgR dl) 5) 5 1 = 300
    rw [dl_b]
    show tbL dl 5 [0, 10] (hd 5 10 5) 5 1 = 300
    rw [ed, (dl_tb _ _).1, pr_4.1]; rfl
  · unfold dyH; rw [if_pos e, ep]
    show tbH dl (bgR dl) [0, 10] (hd 5 (2 * bgR dl) 5) 5 1 = 440
    rw [dl_b]
    show tbH dl 5 [0, 10] (hd 5 10 5) 5 1 = 440
    rw [ed, (dl_tb _ _).2, pr_4.2]; rfl
theorem dr_4 : slE l5 2 = 0 ∧ slP l5 2 = [0, 2, 5, 6] := by decide +kernel
theorem dr_5 : lrE drum [0, 10] [0, 2, 5] = 0 ∧ stL drum [0, 10] [0, 2, 5] = [(0, 160), (240, 300)] := by
  have e : lrE drum [0, 10] [0, 2, 5] = 0 := by decide +kernel
  refine ⟨e, ?_⟩
  have x : ∀ a b : Int, xsL dl 5 [0, 10] a b 1 = 10 * prL 5 5 [a, b] 1 ∧ xsH dl 5 [0, 10] a b 1 = 10 * prH 5 5 [a, b] 1 := fun a b => by
    rw [← (two_strip dl 5 [0, 10] a b 1).1, ← (two_strip dl 5 [0, 10] a b 1).2]
    exact dl_tb _ _
  unfold stL
  rw [if_pos e]
  show [stF drum [0, 10] [0, 2, 5] 0, stF drum [0, 10] [0, 2, 5] 1] = _
  have f0 : stF drum [0, 10] [0, 2, 5] 0 = (xsL dl (bgR dl) [0, 10] 0 2 1, xsH dl (bgR dl) [0, 10] 0 2 1) := rfl
  have f1 : stF drum [0, 10] [0, 2, 5] 1 = (xsL dl (bgR dl) [0, 10] 2 5 1, xsH dl (bgR dl) [0, 10] 2 5 1) := rfl
  rw [f0, f1, dl_b, (x 0 2).1, (x 0 2).2, (x 2 5).1, (x 2 5).2, pr_5.1.1, pr_5.1.2, pr_5.2.1, pr_5.2.2]
  rfl
theorem dr_6 : lcE drum [0, 10] = 0 := by decide +kernel
theorem drum_any (w : World) : Calls Tryz.prog 18 #[] w fun e w' => ∃ v, e = .returned v ∧ CkV w' v drum ∧ Below w.heap.size w w' := by
  have P : ∀ o, Pts ((w.alloc o).alloc (.cells #[.int .i64 0, .int .i64 5, .int .i64 10, .int .i64 5] 46)) (.slice (some ⟨w.heap.size + 1, 0, none⟩) 2 2) dl := fun o => by
    have := pts_lit (w.alloc o) dl (flat dl) rfl (by decide)
    simp only [World.size_alloc] at this
    exact this
  go_enter Tryz.func18, Tryz.ntmps18
  go_wp2
  refine bodyPost_ret (v := .agg #[.string ⟨#[100]⟩, .int .i64 1, .slice (some ⟨w.heap.size + 1, 0, none⟩) 2 2, .int .i64 0]) (by simp [results, Tryz.results18, go_sem]) rfl ?_
  exact ⟨_, rfl, ⟨_, 2, rfl, P _, by decide, by decide, by decide⟩, bel_alloc (bel_alloc (Below.refl _ _))⟩
end Go.Proofs.YtgjdopjolokaiaaGreat

/- slices.Equal at bounds. -/
namespace Go.Proofs.YtgjdopjolokaiaaGreat
open Go.RowKit

set_option maxHeartbeats 8000000 in
theorem eqB_some (b o n c b2 o2 d : Nat) (xs ys : List (Int × Int)) (B : Bool) (w : World) (hn : n ≤ 9223372036854775807) (hb : b < w.heap.size) (hb2 : b2 < w.heap.size)
    (h1 : Hid (∀ j, j < n → w.cell? ⟨b, o + j * 2, none⟩ = some (.int .i64 (gX xs j)) ∧ w.cell? ⟨b, o + j * 2 + 1, none⟩ = some (.int .i64 (gR xs j))))
    (h2 : Hid (∀ j, j < n → w.cell? ⟨b2, o2 + j * 2, none⟩ = some (.int .i64 (gX ys j)) ∧ w.cell? ⟨b2, o2 + j * 2 + 1, none⟩ = some (.int .i64 (gR ys j))))
    (k1 : Hid ((∃ j, j < n ∧ samB (gX xs j) (gR xs j) (gX ys j) (gR ys j) = false) → B = false)) (k2 : Hid ((∀ j, j < n → samB (gX xs j) (gR xs j) (gX ys j) (gR ys j) = true) → B = true)) :
    Calls Tryz.prog 13 #[.slice (some ⟨b, o, none⟩) n c, .slice (some ⟨b2, o2, none⟩) n d] w fun e w' => e = .returned (.bool B) ∧ Below w.heap.size w w' := by
  go_enter Tryz.func13, Tryz.ntmps13
  go_wp2_with fail
  go_loopw [13] (fun i wr => ∃ k : Nat, k ≤ n ∧ i = .int .i64 k ∧ Hid (Below w.heap.size w wr) ∧ Hid (∀ j, j < k → samB (gX xs j) (gR xs j) (gX ys j) (gR ys j) = true)) (fun i _ => n - (intOf i).toNat)
  case atStart => exact ⟨0, Nat.zero_le _, rfl, Below.refl _ _, fun j hj => by omega⟩
  case round =>
    obtain ⟨k, hk, rfl, hB, ha⟩ := hrel
    by_cases hlt : k < n
    · have c0 : wr.cell? ⟨b, o + k * 2, none⟩ = some (.int .i64 (gX xs k)) := by rw [(bcell hB.out).1 _ _ hb]; exact (h1.out k hlt).1
      have c1 : wr.cell? ⟨b, o + k * 2 + 1, none⟩ = some (.int .i64 (gR xs k)) := by rw [(bcell hB.out).1 _ _ hb]; exact (h1.out k hlt).2
      have c2 : wr.cell? ⟨b2, o2 + k * 2, none⟩ = some (.int .i64 (gX ys k)) := by rw [(bcell hB.out).1 _ _ hb2]; exact (h2.out k hlt).1
      have c3 : wr.cell? ⟨b2, o2 + k * 2 + 1, none⟩ = some (.int .i64 (gR ys k)) := by rw [(bcell hB.out).1 _ _ hb2]; exact (h2.out k hlt).2
      have l1 : (k : Int) < (n : Int) := by omega
      cases hq : samB (gX xs k) (gR xs k) (gX ys k) (gR ys k) with
      | false =>
        have hBf := k1.out ⟨k, hlt, hq⟩
        generalize gX xs k = p at *
        generalize gR xs k = q at *
        generalize gX ys k = x at *
        generalize gR ys k = y at *
        have Q : ∀ W, (binOp .neq 29 (.agg #[.int .i64 p, .int .i64 q]) (.agg #[.int .i64 x, .int .i64 y])).run Tryz.prog W = .ok (.bool true) W := fun W => by rw [run_neq_bounds, hq]; rfl
        clear hq
        subst hBf
        go_wp2_with fail
        go_quiet (fail)
        go_wp2
        go_returns
        exact ⟨rfl, bel_trans hB.out (bel_drewN _ _)⟩
      | true =>
        have ha2 : Hid (∀ j, j < k + 1 → samB (gX xs j) (gR xs j) (gX ys j) (gR ys j) = true) := fun j hj => by
          by_cases e : j = k
          · rw [e]; exact hq
          · exact ha.out j (by omega)
        clear ha
        generalize gX xs k = p at c0 hq
        generalize gR xs k = q at c1 hq
        generalize gX ys k = x at c2 hq
        generalize gR ys k = y at c3 hq
        have Q : ∀ W, (binOp .neq 29 (.agg #[.int .i64 p, .int .i64 q]) (.agg #[.int .i64 x, .int .i64 y])).run Tryz.prog W = .ok (.bool false) W := fun W => by rw [run_neq_bounds, hq]; rfl
        clear hq
        go_wp2_with fail
        go_quiet (fail)
        go_wp2
        go_roundw
        case rel => exact ⟨k + 1, by omega, by go_num, bel_trans hB.out (bel_drewN _ _), ha2⟩
        case measure => simp [intOf]; omega
    · obtain rfl : k = n := by omega
      obtain rfl := k2.out ha.out
      go_wp2
      go_returns
      exact ⟨rfl, hB.out⟩
theorem eqB_zero (a : Option Addr) (c : Nat) (a2 : Option Addr) (d : Nat) (w : World) :
    Calls Tryz.prog 13 #[.slice a 0 c, .slice a2 0 d] w fun e w' => e = .returned (.bool true) ∧ Below w.heap.size w w' := by
  go_enter Tryz.func13, Tryz.ntmps13
  go_wp2_with fail
  go_loopw [13] (fun i wr => i = .int .i64 0 ∧ w = wr) (fun _ _ => 0)
  case atStart => exact ⟨rfl, rfl⟩
  case round =>
    obtain ⟨rfl, rfl⟩ := hrel
    go_wp2
    go_returns
    exact ⟨rfl, Below.refl _ _⟩
theorem eqB_lens (a : Option Addr) (n c : Nat) (a2 : Option Addr) (m d : Nat) (w : World) (h : n ≠ m) (hn : n ≤ 9223372036854775807) (hm : m ≤ 9223372036854775807) :
    Calls Tryz.prog 13 #[.slice a n c, .slice a2 m d] w fun e w' => e = .returned (.bool false) ∧ Below w.heap.size w w' := by
  have g : ((n : Int) != (m : Int)) = true := by rw [bne_iff_ne]; omega
  go_enter Tryz.func13, Tryz.ntmps13
  go_wp2
  go_returns
  exact ⟨rfl, Below.refl _ _⟩
theorem eqB_any (v u : Value) (xs ys : List (Int × Int)) (w : World) (hv : Pts w v xs) (hu : Pts w u ys) :
    Calls Tryz.prog 13 #[v, u] w fun e w' => e = .returned (.bool (decide (xs = ys))) ∧ Below w.heap.size w w' := by
  obtain ⟨a, c, rfl, hl, hh⟩ := hv
  obtain ⟨a2, d, rfl, hl2, hh2⟩ := hu
  have ext : ∀ j, (xs.getD j (0, 0) = ys.getD j (0, 0)) ↔ samB (gX xs j) (gR xs j) (gX ys j) (gR ys j) = true := fun j => by
    unfold samB gX gR
    rw [Bool.and_eq_true, beq_iff_eq, beq_iff_eq]
    exact ⟨fun h => by rw [h]; exact ⟨rfl, rfl⟩, fun h => Prod.ext h.1 h.2⟩
  by_cases hn : xs.length = ys.length
  · rcases hh with h0 | ⟨b, o, rfl, hb, hc⟩
    · have e1 := List.length_eq_zero_iff.1 h0
      have e2 : ys = [] := List.length_eq_zero_iff.1 (by omega)
      subst e1 e2
      exact eqB_zero a c a2 d w
    · rcases hh2 with h0 | ⟨b2, o2, rfl, hb2, hc2⟩
      · have e1 := List.length_eq_zero_iff.1 h0
        have e2 : xs = [] := List.length_eq_zero_iff.1 (by omega)
        subst e1 e2
        exact eqB_zero _ c a2 d w
      · rw [← hn]
        refine eqB_some b o _ c b2 o2 d xs ys _ w (by omega) hb hb2 (Lib.hid hc) (Lib.hid fun j hj => hc2 j (by omega)) (Lib.hid ?_) (Lib.hid ?_)
        · rintro ⟨j, hj, h⟩
          rw [decide_eq_false_iff_not]
          intro e
          have := (ext j).1 (by rw [e])
          rw [h] at this
          cases this
        · intro h
          rw [decide_eq_true_iff]
          apply List.ext_getElem hn
          intro j h1 h2
          have := (ext j).2 (h j h1)
          rw [List.getD_eq_getElem?_getD, List.getD_eq_getElem?_getD, List.getElem?_eq_getElem h1, List.getElem?_eq_getElem h2] at this
          exact this
  · rw [decide_eq_false (fun e => hn (by rw [e]))]
    exact eqB_lens a _ c a2 _ d w hn (by omega) (by omega)
theorem bds_lit (w : World) (l : List (Int × Int)) (cs : List Value) (h : cs = flat l) (hn : l.length ≤ 1000) :
    Pts (w.alloc (.cells cs.toArray 29)) (.slice (some ⟨w.heap.size, 0, none⟩) l.length l.length) l := by
  refine ⟨_, _, rfl, by omega, .inr ⟨w.heap.size, 0, rfl, by simp, fun j hj => ?_⟩⟩
  subst h
  have hf := flat_at l j hj
  rw [World.cell?_alloc_new, World.cell?_alloc_new]
  simp only [Nat.zero_add]
  exact ⟨by simpa using hf.1, by simpa using hf.2⟩
end Go.Proofs.YtgjdopjolokaiaaGreat

/- The statements about layer 11: the example. -/
namespace Go.Proofs.YtgjdopjolokaiaaGreat
open Go.RowKit

set_option maxRecDepth 100000 in
set_option maxHeartbeats 16000000 in
theorem awake_any (w : World) : Calls Tryz.prog 5 #[] w fun e w' => e = .returned (.bool true) ∧ Below w.heap.size w w' := by
  have BA := Lib.hid (fun W => drum_any W)
  have HB1 := Lib.hid (fun v u h W (hv : CkV W v drum) (hu : Nums W u [0, 10]) (hh : Nums W h [0, 5, 10]) => lyBw_any v u h drum _ _ W hv hu hh)
  have HB2 := Lib.hid (fun v u h W (hv : CkV W v drum) (hu : Nums W u [0, 10]) (hh : Nums W h [0, 2, 5, 8, 10]) => lyBw_any v u h drum _ _ W hv hu hh)
  have HW := Lib.hid (fun v W (hv : CkV W v drum) => lyWet_any v drum 5 1 5 W hv)
  have HD := Lib.hid (fun v W (hv : CkV W v drum) => lyDry_any v drum 5 1 5 W hv)
  have HL := Lib.hid (fun v W (hv : Pts W v l5) => lySl_any v l5 2 W hv)
  have HS := Lib.hid (fun v u h W (hv : CkV W v drum) (hu : Nums W u [0, 10]) (hh : Nums W h [0, 2, 5]) => lyStr_any v u h drum _ _ W hv hu hh)
  have HC := Lib.hid (fun v u W (hv : CkV W v drum) (hu : Nums W u [0, 10]) => lyChk_any v u drum _ W hv hu)
  obtain ⟨a1, a2, a3⟩ := dr_1
  obtain ⟨b1, b2, b3⟩ := dr_2
  obtain ⟨c1, c2, c3, c4, c5⟩ := dr_3
  obtain ⟨d1, d2⟩ := dr_4
  obtain ⟨e1, e2⟩ := dr_5
  rw [a1, a2, a3] at HB1
  rw [b1, b2, b3] at HB2
  rw [c1, c2, c3] at HW
  rw [c1, c4, c5] at HD
  rw [d1, d2] at HL
  rw [e1, e2] at HS
  rw [dr_6] at HC
  have HE := Lib.hid (fun v u W (hv : Nums W v [0, 2, 5, 6]) (hu : Nums W u [0, 2, 5, 6]) => equal_any v u _ _ W hv hu)
  have HF := Lib.hid (fun v u W (hv : Pts W v [(0, 160), (240, 300)]) (hu : Pts W u [(0, 160), (240, 300)]) => eqB_any v u _ _ W hv hu)
  rw [show (([0, 2, 5, 6] : List Int) == [0, 2, 5, 6]) = true by decide] at HE
  rw [show decide (([(0, 160), (240, 300)] : List (Int × Int)) = [(0, 160), (240, 300)]) = true by decide] at HF
  have Q1 : ∀ (p q : Int) W, (binOp .eql 29 (.agg #[.int .i64 p, .int .i64 q]) (.agg #[.int .i64 p, .int .i64 q])).run Tryz.prog W = .ok (.bool true) W := fun p q W => by rw [run_eql_bounds, show samB p q p q = true by simp [samB]]
  have L2 : ∀ W, Nums (World.alloc W (.cells #[.int .i64 0, .int .i64 10] 3)) (.slice (some ⟨W.heap.size, 0, none⟩) 2 2) [0, 10] := fun W => nums_lit W [0, 10] _ rfl (by decide)
  have L3 : ∀ W, Nums (World.alloc W (.cells #[.int .i64 0, .int .i64 5, .int .i64 10] 3)) (.slice (some ⟨W.heap.size, 0, none⟩) 3 3) [0, 5, 10] := fun W => nums_lit W [0, 5, 10] _ rfl (by decide)
  have L3' : ∀ W, Nums (World.alloc W (.cells #[.int .i64 0, .int .i64 2, .int .i64 5] 3)) (.slice (some ⟨W.heap.size, 0, none⟩) 3 3) [0, 2, 5] := fun W => nums_lit W [0, 2, 5] _ rfl (by decide)
  have L5 : ∀ W, Nums (World.alloc W (.cells #[.int .i64 0, .int .i64 2, .int .i64 5, .int .i64 8, .int .i64 10] 3)) (.slice (some ⟨W.heap.size, 0, none⟩) 5 5) [0, 2, 5, 8, 10] := fun W => nums_lit W [0, 2, 5, 8, 10] _ rfl (by decide)
  have L4 : ∀ W, Nums (World.alloc W (.cells #[.int .i64 0, .int .i64 2, .int .i64 5, .int .i64 6] 3)) (.slice (some ⟨W.heap.size, 0, none⟩) 4 4) [0, 2, 5, 6] := fun W => nums_lit W [0, 2, 5, 6] _ rfl (by decide)
  have LP : ∀ W, Pts (World.alloc W (.cells #[.int .i64 0, .int .i64 1, .int .i64 5, .int .i64 2, .int .i64 6, .int .i64 2] 46)) (.slice (some ⟨W.heap.size, 0, none⟩) 3 3) l5 := fun W => pts_lit W l5 _ rfl (by decide)
  have LB : ∀ W, Pts (World.alloc W (.cells #[.int .i64 0, .int .i64 160, .int .i64 240, .int .i64 300] 29)) (.slice (some ⟨W.heap.size, 0, none⟩) 2 2) [(0, 160), (240, 300)] := fun W => bds_lit W [(0, 160), (240, 300)] _ rfl (by decide)
  clear a1 a2 a3 b1 b2 b3 c1 c2 c3 c4 c5 d1 d2 e1 e2
  have HB := Lib.hid (Below.refl w.heap.size w)
  go_enter Tryz.func5, Tryz.ntmps5
  go_wp2_with fail
  refine (BA.out _).mono ?_
  rintro e w1 ⟨Vw1, rfl, hx, h1⟩
  replace HB := Lib.hid (bel_trans HB.out h1); clear h1
  have Nw1 := Lib.hid (((hx.alloc (.cells #[.int .i64 0, .int .i64 10] 3)).alloc (.cells #[.int .i64 0, .int .i64 5, .int .i64 10] 3)))
  have g0 := L2 (w1)
  have G0w1 := Lib.hid ((g0.alloc (.cells #[.int .i64 0, .int .i64 5, .int .i64 10] 3))); clear g0
  have g0 := L3 ((w1).alloc (.cells #[.int .i64 0, .int .i64 10] 3))
  simp only [World.size_alloc] at g0
  have G1w1 := Lib.hid (g0); clear g0
  clear hx
  go_wp2_with fail
  refine (HB1.out _ _ _ _ Nw1.out G0w1.out G1w1.out).mono ?_
  rintro e w2 ⟨rfl, h1⟩
  replace h1 := bel_alloc h1
  replace h1 := bel_alloc h1
  replace HB := Lib.hid ((bel_trans HB.out h1).alloc (bel_trans HB.out h1).size (.cells #[.int .i64 0, .int .i64 1000] 29)); clear h1
  clear Nw1 G0w1 G1w1
  have T1 := Lib.hid (Two.new w2 (.int .i64 0) (.int .i64 1000) 29)
  go_wp2_with fail
  refine (BA.out _).mono ?_
  rintro e w3 ⟨Vw3, rfl, hx, h1⟩
  replace T1 := Lib.hid (T1.out.below h1)
  replace HB := Lib.hid (bel_trans HB.out h1); clear h1
  have Nw3 := Lib.hid (((hx.alloc (.cells #[.int .i64 0, .int .i64 10] 3)).alloc (.cells #[.int .i64 0, .int .i64 2, .int .i64 5, .int .i64 8, .int .i64 10] 3)))
  have g0 := L2 (w3)
  have G0w3 := Lib.hid ((g0.alloc (.cells #[.int .i64 0, .int .i64 2, .int .i64 5, .int .i64 8, .int .i64 10] 3))); clear g0
  have g0 := L5 ((w3).alloc (.cells #[.int .i64 0, .int .i64 10] 3))
  simp only [World.size_alloc] at g0
  have G1w3 := Lib.hid (g0); clear g0
  clear hx
  go_wp2_with fail
  refine (HB2.out _ _ _ _ Nw3.out G0w3.out G1w3.out).mono ?_
  rintro e w4 ⟨rfl, h1⟩
  replace h1 := bel_alloc h1
  replace h1 := bel_alloc h1
  replace T1 := Lib.hid ((T1.out.below h1).alloc (.cells #[.int .i64 480, .int .i64 920] 29))
  replace HB := Lib.hid ((bel_trans HB.out h1).alloc (bel_trans HB.out h1).size (.cells #[.int .i64 480, .int .i64 920] 29)); clear h1
  clear Nw3 G0w3 G1w3
  have T2 := Lib.hid (Two.new w4 (.int .i64 480) (.int .i64 920) 29)
  go_wp2_with fail
  refine (BA.out _).mono ?_
  rintro e w5 ⟨Vw5, rfl, hx, h1⟩
  replace T1 := Lib.hid (T1.out.below h1)
  replace T2 := Lib.hid (T2.out.below h1)
  replace HB := Lib.hid (bel_trans HB.out h1); clear h1
  have Nw5 := Lib.hid hx; clear hx
  go_wp2_with fail
  refine (HW.out _ _ Nw5.out).mono ?_
  rintro e w6 ⟨rfl, h1⟩
  replace T1 := Lib.hid ((T1.out.below h1).alloc (.cells #[.int .i64 300, .int .i64 440] 29))
  replace T2 := Lib.hid ((T2.out.below h1).alloc (.cells #[.int .i64 300, .int .i64 440] 29))
  replace HB := Lib.hid ((bel_trans HB.out h1).alloc (bel_trans HB.out h1).size (.cells #[.int .i64 300, .int .i64 440] 29)); clear h1
  clear Nw5
  have T3 := Lib.hid (Two.new w6 (.int .i64 300) (.int .i64 440) 29)
  go_wp2_with fail
  refine (BA.out _).mono ?_
  rintro e w7 ⟨Vw7, rfl, hx, h1⟩
  replace T1 := Lib.hid (T1.out.below h1)
  replace T2 := Lib.hid (T2.out.below h1)
  replace T3 := Lib.hid (T3.out.below h1)
  replace HB := Lib.hid (bel_trans HB.out h1); clear h1
  have Nw7 := Lib.hid hx; clear hx
  go_wp2_with fail
  refine (HD.out _ _ Nw7.out).mono ?_
  rintro e w8 ⟨rfl, h1⟩
  replace T1 := Lib.hid ((T1.out.below h1).alloc (.cells #[.int .i64 300, .int .i64 440] 29))
  replace T2 := Lib.hid ((T2.out.below h1).alloc (.cells #[.int .i64 300, .int .i64 440] 29))
  replace T3 := Lib.hid ((T3.out.below h1).alloc (.cells #[.int .i64 300, .int .i64 440] 29))
  replace HB := Lib.hid ((bel_trans HB.out h1).alloc (bel_trans HB.out h1).size (.cells #[.int .i64 300, .int .i64 440] 29)); clear h1
  clear Nw7
  have T4 := Lib.hid (Two.new w8 (.int .i64 300) (.int .i64 440) 29)
  have g0 := LP (w8.alloc (.cells #[.int .i64 300, .int .i64 440] 29))
  simp only [World.size_alloc] at g0
  have GP := Lib.hid g0; clear g0
  go_wp2_with fail
  refine (HL.out _ _ GP.out).mono ?_
  rintro e w9 ⟨U1, rfl, hu, h1⟩
  replace h1 := bel_alloc h1
  replace T1 := Lib.hid (T1.out.below h1)
  replace T2 := Lib.hid (T2.out.below h1)
  replace T3 := Lib.hid (T3.out.below h1)
  replace T4 := Lib.hid (T4.out.below h1)
  replace HB := Lib.hid (bel_trans HB.out h1); clear h1
  have NL := Lib.hid hu; clear hu
  go_wp2_with fail
  refine (BA.out _).mono ?_
  rintro e w10 ⟨Vw10, rfl, hx, h1⟩
  replace T1 := Lib.hid (T1.out.below h1)
  replace T2 := Lib.hid (T2.out.below h1)
  replace T3 := Lib.hid (T3.out.below h1)
  replace T4 := Lib.hid (T4.out.below h1)
  replace NL := Lib.hid (NL.out.below h1)
  replace HB := Lib.hid (bel_trans HB.out h1); clear h1
  have Nw10 := Lib.hid (((hx.alloc (.cells #[.int .i64 0, .int .i64 10] 3)).alloc (.cells #[.int .i64 0, .int .i64 2, .int .i64 5] 3)))
  have g0 := L2 (w10)
  have G0w10 := Lib.hid ((g0.alloc (.cells #[.int .i64 0, .int .i64 2, .int .i64 5] 3))); clear g0
  have g0 := L3' ((w10).alloc (.cells #[.int .i64 0, .int .i64 10] 3))
  simp only [World.size_alloc] at g0
  have G1w10 := Lib.hid (g0); clear g0
  clear hx
  go_wp2_with fail
  refine (HS.out _ _ _ _ Nw10.out G0w10.out G1w10.out).mono ?_
  rintro e w11 ⟨U2, rfl, hu, h1⟩
  replace h1 := bel_alloc h1
  replace h1 := bel_alloc h1
  replace T1 := Lib.hid (T1.out.below h1)
  replace T2 := Lib.hid (T2.out.below h1)
  replace T3 := Lib.hid (T3.out.below h1)
  replace T4 := Lib.hid (T4.out.below h1)
  replace NL := Lib.hid (NL.out.below h1)
  replace HB := Lib.hid (bel_trans HB.out h1); clear h1
  clear Nw10 G0w10 G1w10
  have NS := Lib.hid hu; clear hu
  obtain ⟨T10, T11, _, _, _⟩ := T1.out
  obtain ⟨T20, T21, _, _, _⟩ := T2.out
  obtain ⟨T30, T31, _, _, _⟩ := T3.out
  obtain ⟨T40, T41, _, _, _⟩ := T4.out
  go_wp2_with fail
  refine (HE.out _ _ _ (NL.out.alloc _) (L4 _)).mono ?_
  rintro e w12 ⟨rfl, h1⟩
  replace h1 := bel_alloc h1
  replace NS := Lib.hid (NS.out.below h1)
  replace HB := Lib.hid (bel_trans HB.out h1); clear h1
  clear T10 T11 T20 T21 T30 T31 T40 T41
  go_wp2_with fail
  refine (HF.out _ _ _ (NS.out.alloc _) (LB _)).mono ?_
  rintro e w13 ⟨rfl, h1⟩
  replace h1 := bel_alloc h1
  replace HB := Lib.hid (bel_trans HB.out h1); clear h1
  go_wp2_with fail
  refine (BA.out _).mono ?_
  rintro e w14 ⟨Vw14, rfl, hx, h1⟩
  replace HB := Lib.hid (bel_trans HB.out h1); clear h1
  have Nw14 := Lib.hid ((hx.alloc (.cells #[.int .i64 0, .int .i64 10] 3)))
  have g0 := L2 (w14)
  have G0w14 := Lib.hid (g0); clear g0
  clear hx
  go_wp2_with fail
  refine (HC.out _ _ _ Nw14.out G0w14.out).mono ?_
  rintro e w15 ⟨rfl, h1⟩
  replace h1 := bel_alloc h1
  replace HB := Lib.hid (bel_trans HB.out h1); clear h1
  go_wp2
  go_returns
  exact ⟨rfl, HB.out⟩
end Go.Proofs.YtgjdopjolokaiaaGreat

/- The reference of layer 9: Copy. -/
namespace Go.Proofs.YtgjdopjolokaiaaGreat
open Go.RowKit

theorem ck_info : (Tryz.prog.info? 24).map (fun i => (i.zero, i.size, i.bytes)) = some (some (.agg #[.string ByteArray.empty, .int .i64 0, .slice none 0 0, .int .i64 0]), 4, 56) := by kernel_rfl
/-- the cells of a cask -/
def ckCells (c : Ck) (pv : Value) : List Value := [.string c.nm, .int .i64 c.ps, pv, .int .i64 c.dc]
def flatC : List (Ck × Value) → List Value
  | [] => []
  | q :: l => ckCells q.1 q.2 ++ flatC l
theorem flatC_len (l : List (Ck × Value)) : (flatC l).length = l.length * 4 := by
  induction l with
  | nil => rfl
  | cons q l ih => simp only [flatC, ckCells, List.length_append, List.length_cons, List.length_nil, ih]; omega
theorem flatC_app (l m : List (Ck × Value)) : flatC (l ++ m) = flatC l ++ flatC m := by
  induction l with
  | nil => rfl
  | cons q l ih => simp only [List.cons_append, flatC, ih, List.append_assoc]
theorem flatC_at (l : List (Ck × Value)) (j : Nat) (h : j < l.length) : (flatC l)[j * 4]? = some (.string l[j].1.nm) ∧ (flatC l)[j * 4 + 1]? = some (.int .i64 l[j].1.ps) ∧ (flatC l)[j * 4 + 2]? = some l[j].2 ∧ (flatC l)[j * 4 + 3]? = some (.int .i64 l[j].1.dc) := by
  induction l generalizing j with
  | nil => simp at h
  | cons q l ih =>
    cases j with
    | zero => simp [flatC, ckCells]
    | succ j =>
      have := ih j (by simpa using h)
      rw [show (j + 1) * 4 = j * 4 + 1 + 1 + 1 + 1 by omega]
      simp only [flatC, ckCells, List.cons_append, List.nil_append, List.getElem?_cons_succ, List.getElem_cons_succ]
      exact this
theorem own_apart {w : World} {B B' n m size size' : Nat} {e e' : TypeId} {p v : Value} {xs ys : List Value} (he : e ≠ e') (h : w.ownsRow B e size p n xs) (h' : w.ownsRow B' e' size' v m ys) : p.ownBlock = none ∨ p.ownBlock ≠ v.ownBlock := by
  rcases h.2 with ⟨rfl, _⟩ | ⟨g, c, cur, rfl, _, hg, _⟩
  · exact .inl rfl
  · rcases h'.2 with ⟨rfl, _⟩ | ⟨g', c', cur', rfl, _, hg', _⟩
    · right; simp [Value.ownBlock]
    · right
      simp only [Value.ownBlock, ne_eq, Option.some.injEq]
      intro hgg
      rw [hgg, hg'] at hg
      simp only [Option.some.injEq, Obj.cells.injEq] at hg
      exact he hg.2.1.symm
/-- casks of the call's own: the row, and a list of points of one's own for each -/
def OwnC (w : World) (B : Nat) (v : Value) (l : List Ck) : Prop :=
  ∃ ps : List Value, ps.length = l.length ∧ w.ownsRow B 24 4 v l.length (flatC (l.zip ps)) ∧ ∀ q ∈ l.zip ps, OwnP w B q.2 q.1.pf
theorem own_one {w : World} {B n size : Nat} {e : TypeId} {v : Value} {xs : List Value} (h : w.ownsRow B e size v n xs) (B' : Nat) (hB : B' ≤ B) : w.ownsRow B' e size v n xs := by
  obtain ⟨h1, h2⟩ := h
  refine ⟨h1, ?_⟩
  rcases h2 with h2 | ⟨g, c, cur, hv, hg, r⟩
  · exact .inl h2
  · exact .inr ⟨g, c, cur, hv, Nat.le_trans hB hg, r⟩
/-- one more cask -/
theorem OwnC.snoc {W W' : World} {B : Nat} {v v' : Value} {l : List Ck} {c : Ck} {p : Value} {ps : List Value} (h1 : ps.length = l.length) (h2 : W.ownsRow B 24 4 v l.length (flatC (l.zip ps))) (h3 : ∀ q ∈ l.zip ps, OwnP W B q.2 q.1.pf) (hg : W.grownBy W' v.ownBlock) (hp : OwnP W B p c.pf)
    (h4 : W'.ownsRow B 24 4 v' (l.length + 1) (flatC (l.zip ps) ++ ckCells c p)) : OwnC W' B v' (l ++ [c]) := by
  have hz : (l ++ [c]).zip (ps ++ [p]) = l.zip ps ++ [(c, p)] := by
    rw [List.zip_append h1.symm]; rfl
  refine ⟨ps ++ [p], by simp [h1], ?_, ?_⟩
  · rw [hz, flatC_app, List.length_append]
    exact h4
  · rw [hz]
    intro q hq
    have k : OwnP W B q.2 q.1.pf := by
      rcases List.mem_append.1 hq with hq | hq
      · exact h3 q hq
      · rw [List.mem_singleton] at hq; subst hq; exact hp
    exact World.ownsRow.kept k hg (own_apart (by decide) k h2)
theorem row_bel {W W' : World} {B n size : Nat} {e : TypeId} {v : Value} {xs : List Value} (h : W.ownsRow B e size v n xs) (hb : Below W.heap.size W W') : W'.ownsRow B e size v n xs := by
  obtain ⟨h1, h2⟩ := h
  refine ⟨h1, ?_⟩
  rcases h2 with h2 | ⟨g, c, cur, hv, hg, hh, r⟩
  · exact .inl h2
  · refine .inr ⟨g, c, cur, hv, hg, ?_, r⟩
    rw [hb.block g (Array.getElem?_eq_some_iff.1 hh).1]; exact hh
theorem OwnC.below {W W' : World} {B : Nat} {v : Value} {l : List Ck} (h : OwnC W B v l) (hb : Below W.heap.size W W') : OwnC W' B v l := by
  obtain ⟨ps, h1, h2, h3⟩ := h
  exact ⟨ps, h1, row_bel h2 hb, fun q hq => row_bel (h3 q hq) hb⟩
theorem Quad.grown {b : Nat} {W W' : World} {row : Option Nat} {x y z u : Value} (h : Quad b W x y z u) (hg : W.grownBy W' row) (hr : some b ≠ row) : Quad b W' x y z u := by
  obtain ⟨h0, h1, h2, h3, h4, h5⟩ := h
  have e := hg.block b h5 hr
  have f : ∀ k, W'.cell? ⟨b, k, none⟩ = W.cell? ⟨b, k, none⟩ := fun k => World.cell?_of_block (a := ⟨b, k, none⟩) e
  exact ⟨by rw [f]; exact h0, by rw [f]; exact h1, by rw [f]; exact h2, by rw [f]; exact h3, fun k hk => by rw [World.frozen?_of_block (a := ⟨b, k, none⟩) e]; exact h4 k hk, Nat.lt_of_lt_of_le h5 hg.size⟩
theorem Quad.set2 {b : Nat} {W : World} {x y z u : Value} (h : Quad b W x y z u) (t : Value) : Quad b (W.setCell ⟨b, 2, none⟩ t) x y t u := by
  obtain ⟨h0, h1, h2, h3, h4, h5⟩ := h
  refine ⟨?_, ?_, ?_, ?_, fun k hk => ?_, ?_⟩
  · rw [World.cell?_setCell_other _ _ _ _ (by simp)]; exact h0
  · rw [World.cell?_setCell_other _ _ _ _ (by simp)]; exact h1
  · exact World.cell?_setCell_same _ _ _ h2
  · rw [World.cell?_setCell_other _ _ _ _ (by simp)]; exact h3
  · rw [World.frozen?_setCell]; exact h4 k hk
  · simpa [World.setCell] using h5
theorem grown_set (W : World) (b i : Nat) (v : Value) : W.grownBy (W.setCell ⟨b, i, none⟩ v) (some b) :=
  ⟨rfl, rfl, rfl, by simp [World.setCell], fun k _ hne => Below.heap_setCell _ _ _ _ (by intro e; exact hne (by rw [e]))⟩
theorem OwnC.cks {W : World} {B : Nat} {v : Value} {l : List Ck} (h : OwnC W B v l) (hn : ∀ c ∈ l, c.nm.size ≤ 9223372036854775807 ∧ (-9223372036854775808 ≤ c.ps ∧ c.ps ≤ 9223372036854775807) ∧ (-9223372036854775808 ≤ c.dc ∧ c.dc ≤ 9223372036854775807)) : Cks W v l := by
  obtain ⟨ps, h1, h2, h3⟩ := h
  have h2' := h2
  obtain ⟨_, h4⟩ := h2
  rcases h4 with ⟨rfl, h0⟩ | ⟨g, cap, cur, rfl, hg, hh, hc, hm, _⟩
  · exact ⟨none, 0, by rw [h0], by omega, .inl h0⟩
  · have hlt : g < W.heap.size := (Array.getElem?_eq_some_iff.1 hh).1
    unfold maxLen at hm
    refine ⟨_, cap, rfl, ⟨hc, by omega⟩, .inr ⟨g, 0, rfl, hlt, fun j hj => ?_⟩⟩
    have hcell := World.ownsRow.cells h2' (g := g) rfl
    have hjz : j < (l.zip ps).length := by simp; omega
    have hf := flatC_at (l.zip ps) j hjz
    have hz : (l.zip ps)[j] = (l[j], ps[j]'(by omega)) := by simp
    rw [hz] at hf
    obtain ⟨f0, f1, f2, f3⟩ := hf
    have c0 := hcell _ _ f0
    have c1 := hcell _ _ f1
    have c2 := hcell _ _ f2
    have c3 := hcell _ _ f3
    rw [Go.WideShapes.add_plain] at c0 c1 c2 c3
    have hp := OwnP.pts (h3 (l[j], ps[j]'(by omega)) (by rw [← hz]; exact List.getElem_mem _))
    obtain ⟨a, cp, e, _, _⟩ := hp.shape
    simp only at e hp
    rw [e] at hp c2
    exact ⟨_, _, _, _, c0, by rw [Nat.add_assoc]; exact c1, by rw [Nat.add_assoc]; exact c2, by rw [Nat.add_assoc]; exact c3, a, cp, rfl, hp, hn _ (List.getElem_mem _)⟩
theorem own_far {w : World} {B n size b i : Nat} {e : TypeId} {v z : Value} {xs : List Value} (h : w.ownsRow B e size v n xs) (hb : b < B) : (w.setCell ⟨b, i, none⟩ z).ownsRow B e size v n xs :=
  World.ownsRow.kept h (grown_set w b i z) (by
    by_cases q : v.ownBlock = some b
    · have := (h.lt b q).1; omega
    · exact .inr q)
theorem OwnC.one {W : World} {B : Nat} {u : Value} {c : Ck} (h : OwnC W B u [c]) : ∃ g cap a cp, u = .slice (some ⟨g, 0, none⟩) 1 cap ∧ B ≤ g ∧ W.cell? ⟨g, 0, none⟩ = some (.string c.nm) ∧ W.cell? ⟨g, 1, none⟩ = some (.int .i64 c.ps) ∧ W.cell? ⟨g, 2, none⟩ = some (.slice a c.pf.length cp) ∧ W.cell? ⟨g, 3, none⟩ = some (.int .i64 c.dc) ∧ OwnP W B (.slice a c.pf.length cp) c.pf := by
  obtain ⟨ps, h1, h2, h3⟩ := h
  obtain ⟨p, rfl⟩ : ∃ p, ps = [p] := by
    rcases ps with _ | ⟨p, _ | ⟨q, ps⟩⟩ <;> simp at h1
    exact ⟨p, rfl⟩
  have hP : OwnP W B p c.pf := h3 (c, p) (by simp)
  obtain ⟨a, cp, rfl, _, _⟩ := hP.pts.shape
  have h2' := h2
  obtain ⟨_, h4⟩ := h2
  rcases h4 with ⟨_, h0⟩ | ⟨g, cap, cur, rfl, hg, _⟩
  · simp at h0
  · have hcell := World.ownsRow.cells h2' (g := g) rfl
    have c0 := hcell 0 (.string c.nm) (by simp [flatC, ckCells])
    have c1 := hcell 1 (.int .i64 c.ps) (by simp [flatC, ckCells])
    have c2 := hcell 2 (.slice a c.pf.length cp) (by simp [flatC, ckCells])
    have c3 := hcell 3 (.int .i64 c.dc) (by simp [flatC, ckCells])
    rw [Go.WideShapes.add_plain] at c0 c1 c2 c3
    exact ⟨g, cap, a, cp, rfl, hg, c0, c1, c2, c3, hP⟩
end Go.Proofs.YtgjdopjolokaiaaGreat

/- The reference of layer 9: Copy, walked. -/
namespace Go.Proofs.YtgjdopjolokaiaaGreat
open Go.RowKit

theorem wpList_append_run {P : Program} {w : World} {ops : Array Oper} {rest : List Oper} {o : Oper} {a : Act} {Q : Exit → Act → World → Prop} (hgd : o.guard = none) (s x : Operand) (t : TypeId)
    (ho : o.op = .call { callee := .builtin .append, args := #[s, x], argTypes := #[t, t] }) (v x' v' : Value) (w' : World) (hs : a.eval s = v) (hx : a.eval x = x')
    (hr : (Builtin.append_ #[t, t] o.type #[v, x']).run P w = .ok v' w') (h : wpList P ops Q rest (a.put o.dst v') w') : wpList P ops Q (o :: rest) a w := by
  refine wpList_plain hgd fun K hK => ?_
  unfold Oper.wp execOp
  simp only [ho, resolve, invoke, builtin, Sem.run_bind, Sem.run_pure, Result.andThen_ok, List.map_toArray, List.map_cons, List.map_nil, hs, hx, hr]
  exact hK _ _ h
theorem ckCells_one (c : Ck) (p : Value) (hp : p.oneCell' = true) : ∀ u ∈ ckCells c p, u.oneCell' = true := by
  intro u hu
  simp only [ckCells, List.mem_cons, List.not_mem_nil, or_false] at hu
  rcases hu with rfl | rfl | rfl | rfl <;> first | rfl | exact hp
theorem own_oneCell {W : World} {B n size : Nat} {e : TypeId} {v : Value} {xs : List Value} (h : W.ownsRow B e size v n xs) : v.oneCell' = true := by
  rcases h.2 with ⟨rfl, _⟩ | ⟨g, c, cur, rfl, _⟩ <;> rfl
/-- a block of four cells that was laid, as what is appended -/
theorem quad_news (w : World) (x y z u : Value) (t : TypeId) : ∀ j v, [x, y, z, u][j]? = some v → (w.alloc (.cells #[x, y, z, u] t)).cell? ((⟨w.heap.size, 0, none⟩ : Addr).add j) = some v := by
  intro j v hj
  have hlt : j < 4 := by have := (List.getElem?_eq_some_iff.1 hj).1; simpa using this
  rw [Go.WideShapes.add_plain, World.cell?_alloc_new]
  simpa using hj
set_option maxHeartbeats 16000000 in
set_option maxRecDepth 100000 in
theorem refCopy_some (b off n cap : Nat) (l : List Ck) (w : World) (n1 : n ≤ 1000) (hn : Hid (n = l.length)) (hb : b < w.heap.size) (hp : Hid (∀ c ∈ l, c.pf.length ≤ 1000))
    (hc : Hid (∀ j (hj : j < l.length), CkAt w b off j l[j])) :
    Calls Tryz.prog 27 #[.slice (some ⟨b, off, none⟩) n cap] w fun e w' => ∃ u, e = .returned u ∧ OwnC w' w.heap.size u l ∧ Below w.heap.size w w' := by
  obtain ⟨i0, hi0, hz0, hz1, hz2⟩ := info_parts pt_info
  obtain ⟨j0, hj0, gz0, gz1, gz2⟩ := info_parts ck_info
  have hi0 := Lib.hid hi0
  have hz0 := Lib.hid hz0
  have hz1 := Lib.hid hz1
  have hz2 := Lib.hid hz2
  have hj0 := Lib.hid hj0
  have gz0 := Lib.hid gz0
  have gz1 := Lib.hid gz1
  have gz2 := Lib.hid gz2
  go_enter Tryz.func27, Tryz.ntmps27
  go_wp2_with fail
  go_loopw [3, 4] (fun out ii wr => ∃ k : Nat, k ≤ n ∧ ii = .int .i64 k ∧ Hid (OwnC wr w.heap.size out (l.take k)) ∧ Hid (Below w.heap.size w wr)) (fun _ ii _ => n - (intOf ii).toNat)
  case atStart => exact ⟨0, by omega, rfl, ⟨[], rfl, World.ownsRow_nil _ _ _ _, fun q hq => by simp at hq⟩, Below.refl _ _⟩
  case round =>
    obtain ⟨k, hk, rfl, hO, hB⟩ := hrel
    by_cases hlt : k < n
    · have hkl : k < l.length := by rw [← hn.out]; exact hlt
      obtain ⟨a, cp, c0, c1, c2, c3, hP, _⟩ := (hc.out k hkl).below hb hB.out
      have hP := Lib.hid hP
      have hs := hp.out _ (List.getElem_mem hkl)
      have eT : l.take (k + 1) = l.take k ++ [l[k]] := by rw [List.take_succ_eq_append_getElem hkl]
      have eT := Lib.hid eT
      have hT : (l.take k).length = k := by simp; omega
      have hT := Lib.hid hT
      have l1 : (k : Int) < (n : Int) := by omega
      generalize hcc : l[k] = c at *
      have HB0 := hB.out
      have HS := Lib.hid HB0.size
      cases a with
      | none =>
        have hL : c.pf = [] := by
          obtain ⟨a', cp', e, _, hh⟩ := hP.out
          rcases hh with hh | ⟨pb, poff, e2, _⟩
          · exact List.length_eq_zero_iff.1 hh
          · simp only [Value.slice.injEq] at e
            rw [e2] at e; cases e.1
        have hL0 : c.pf.length = 0 := by rw [hL]; rfl
        rw [hL0] at c2
        have AN : ∀ W : World, (Builtin.append_ #[22, 22] 22 #[.slice (some ⟨wr.heap.size + 1, 0, none⟩) 0 0, .slice none 0 cp]).run Tryz.prog W = .ok (.slice (some ⟨wr.heap.size + 1, 0, none⟩) 0 0) W := fun W => run_append_nothing W _ _ _ 46 i0 Tryz.underlying22 hi0.out _ 0 0 (Nat.le_refl _) _ (Src.ofNil W Tryz.underlying22 cp)
        have oc : (Value.slice (some ⟨wr.heap.size + 1, 0, none⟩) 0 0).oneCell' = true := rfl
        clear hP
        generalize hnm : c.nm = nm at *
        generalize hps : c.ps = ps at *
        generalize hdc : c.dc = dc at *
        have OP2 : Hid (OwnP ((wr.alloc (.cells #[.string nm, .int .i64 ps, .slice (some ⟨wr.heap.size + 1, 0, none⟩) 0 0, .int .i64 dc] 24)).alloc (.cells #[] 46)) w.heap.size (.slice (some ⟨wr.heap.size + 1, 0, none⟩) 0 0) c.pf) := by
          have := World.ownsRow_made (e := 46) (size := 2) (base := w.heap.size) (wr.alloc (.cells #[.string nm, .int .i64 ps, .slice (some ⟨wr.heap.size + 1, 0, none⟩) 0 0, .int .i64 dc] 24)) #[] 0 (by have := HB0.size; simp; omega) (Nat.zero_le _) (by simp)
          simp only [World.size_alloc] at this
          exact Lib.hid (by unfold OwnP; rw [hL]; exact this)
        have X2 : Hid (Below wr.heap.size wr ((wr.alloc (.cells #[.string nm, .int .i64 ps, .slice (some ⟨wr.heap.size + 1, 0, none⟩) 0 0, .int .i64 dc] 24)).alloc (.cells #[] 46))) := Lib.hid (bel_alloc (bel_alloc (Below.refl _ _)))
        clear HB0
        have FN : Hid (∀ j u, (ckCells c (.slice (some ⟨wr.heap.size + 1, 0, none⟩) 0 0))[j]? = some u → (((wr.alloc (.cells #[.string nm, .int .i64 ps, .slice (some ⟨wr.heap.size + 1, 0, none⟩) 0 0, .int .i64 dc] 24)).alloc (.cells #[] 46)).alloc (.cells #[.string nm, .int .i64 ps, (.slice (some ⟨wr.heap.size + 1, 0, none⟩) 0 0), .int .i64 dc] 24)).cell? ((⟨wr.heap.size + 1 + 1, 0, none⟩ : Addr).add j) = some u) := by
          have := quad_news ((wr.alloc (.cells #[.string nm, .int .i64 ps, .slice (some ⟨wr.heap.size + 1, 0, none⟩) 0 0, .int .i64 dc] 24)).alloc (.cells #[] 46)) (.string nm) (.int .i64 ps) (.slice (some ⟨wr.heap.size + 1, 0, none⟩) 0 0) (.int .i64 dc) 24
          have e : ((wr.alloc (.cells #[.string nm, .int .i64 ps, .slice (some ⟨wr.heap.size + 1, 0, none⟩) 0 0, .int .i64 dc] 24)).alloc (.cells #[] 46)).heap.size = wr.heap.size + 1 + 1 := by simp [World.setCell]
          rw [e] at this
          exact Lib.hid (by rw [← hnm, ← hps, ← hdc] at *; exact this)
        have X3 := X2.out.alloc X2.out.size (.cells #[.string nm, .int .i64 ps, (.slice (some ⟨wr.heap.size + 1, 0, none⟩) 0 0), .int .i64 dc] 24)
        obtain ⟨qs, o1, o2, o3⟩ := hO.out.below X3
        rw [hT.out] at o2
        have OP3 := row_bel OP2.out (bel_alloc (o := .cells #[.string nm, .int .i64 ps, (.slice (some ⟨wr.heap.size + 1, 0, none⟩) 0 0), .int .i64 dc] 24) (Below.refl _ _))
        have BS : Hid (w.heap.size ≤ (((wr.alloc (.cells #[.string nm, .int .i64 ps, .slice (some ⟨wr.heap.size + 1, 0, none⟩) 0 0, .int .i64 dc] 24)).alloc (.cells #[] 46)).alloc (.cells #[.string nm, .int .i64 ps, (.slice (some ⟨wr.heap.size + 1, 0, none⟩) 0 0), .int .i64 dc] 24)).heap.size) := Lib.hid (Nat.le_trans HS.out X3.size)
        have O1 := Lib.hid o1
        have O2 := Lib.hid o2
        have O3 := Lib.hid o3
        have Y3 := Lib.hid X3
        have P3 := Lib.hid OP3
        have OC := Lib.hid oc
        clear o1 o2 o3 X3 OP3 oc X2 OP2
        go_wp2_with (at_builtin; first | (refine wpList_append_run rfl _ _ 22 rfl _ _ _ _ rfl rfl (AN _) ?_) | (refine wpList_append_own_at _ rfl _ _ 51 rfl w.heap.size 24 j0 (.agg #[.string ByteArray.empty, .int .i64 0, .slice none 0 0, .int .i64 0]) 4 56 Tryz.underlying51 hj0.out gz0.out gz1.out gz2.out rfl (by omega) _ _ _ rfl O2.out ⟨wr.heap.size + 1 + 1, 0, none⟩ 1 1 (ckCells c (.slice (some ⟨wr.heap.size + 1, 0, none⟩) 0 0)) rfl rfl FN.out (ckCells_one c (.slice (some ⟨wr.heap.size + 1, 0, none⟩) 0 0) OC.out) ?qd4 ?qd5 BS.out ?_))
        case qd4 => unfold maxLen; omega
        case qd5 => omega
        intro v2 w2 hown hgrow _ hat
        have SN := Lib.hid (OwnC.snoc (c := c) O1.out (by rw [hT.out]; exact O2.out) O3.out hgrow P3.out (by rw [hT.out]; exact hown))
        rw [← eT.out] at SN
        have B2 := Lib.hid ((bel_trans hB.out Y3.out).grown hgrow BS.out (fun q hq => (World.ownsRow.lt O2.out q hq).1))
        clear hown hgrow hat O1 O2 O3 P3 FN
        go_wp2
        go_roundw
        case rel => exact ⟨k + 1, by omega, by go_num, SN, B2⟩
        case measure => simp [intOf]; omega
      | some ad =>
        have NW : Hid (∀ W, Below wr.heap.size wr W → ∀ j u, (flat c.pf)[j]? = some u → W.cell? (ad.add j) = some u) := fun W hW j u hj => by
          have hq := hP.out.below hW
          obtain ⟨a', cp', e, _, hh⟩ := hq
          simp only [Value.slice.injEq] at e
          obtain ⟨rfl, _, rfl⟩ := e
          rcases hh with hh | ⟨pb, poff, e, _, hcl⟩
          · obtain h0 := List.length_eq_zero_iff.1 hh
            rw [h0] at hj; simp [flat] at hj
          · obtain rfl := Option.some.inj e
            obtain ⟨i, hi, ⟨rfl, rfl⟩ | ⟨rfl, rfl⟩⟩ := flat_inv c.pf j u hj
            · rw [Go.WideShapes.add_plain]; exact (hcl i hi).1
            · rw [Go.WideShapes.add_plain, ← Nat.add_assoc]; exact (hcl i hi).2
        have OM : Hid (((wr.alloc (.cells #[.string c.nm, .int .i64 c.ps, .slice (some ad) c.pf.length cp, .int .i64 c.dc] 24)).alloc (.cells #[] 46)).ownsRow w.heap.size 46 2 (.slice (some ⟨wr.heap.size + 1, 0, none⟩) 0 0) 0 []) := by
          have := World.ownsRow_made (e := 46) (size := 2) (base := w.heap.size) (wr.alloc (.cells #[.string c.nm, .int .i64 c.ps, .slice (some ad) c.pf.length cp, .int .i64 c.dc] 24)) #[] 0 (by have := HB0.size; simp; omega) (Nat.zero_le _) (by simp)
          exact Lib.hid (by simpa using this)
        have F0 := Lib.hid ((Quad.new wr (.string c.nm) (.int .i64 c.ps) (.slice (some ad) c.pf.length cp) (.int .i64 c.dc) 24).alloc (.cells #[] 46))
        have fl := Lib.hid (flat_len c.pf)
        have fo := Lib.hid (flat_one c.pf)
        clear HB0 hP
        generalize hL : c.pf.length = L at *
        generalize hnm : c.nm = nm at *
        generalize hps : c.ps = ps at *
        generalize hdc : c.dc = dc at *
        go_wp2_with (at_builtin; refine wpList_append_own_at _ rfl _ _ 22 rfl w.heap.size 46 i0 (.agg #[.int .i64 0, .int .i64 0]) 2 16 Tryz.underlying22 hi0.out hz0.out hz1.out hz2.out rfl (by omega) _ _ _ rfl OM.out ad L cp (flat c.pf) rfl ?qc1 ?qc2 ?qc3 ?qc4 ?qc5 ?qc6 ?_)
        case qc1 => exact fl.out
        case qc2 => exact NW.out _ (bel_alloc (bel_alloc (Below.refl _ _)))
        case qc3 => exact fo.out
        case qc4 => rw [Nat.zero_add]; unfold maxLen; omega
        case qc5 => rw [Nat.zero_add]; omega
        case qc6 => have := HS.out; simp; omega
        intro v0 w1 hown hgrow hnil hat
        obtain ⟨g', cap', hv0⟩ : ∃ g' cap', v0 = .slice (some ⟨g', 0, none⟩) L cap' := by
          rcases hown.2 with ⟨h0, _⟩ | ⟨g', cap', _, h0, _⟩
          · exact absurd h0 (by simpa using hnil)
          · exact ⟨g', cap', by simpa using h0⟩
        subst hv0
        clear hnil
        have hvb : (Value.slice (some ⟨g', 0, none⟩) L cap').ownBlock ≠ some wr.heap.size := by
          rcases hat with hat | hat
          · rw [hat]; simp [Value.ownBlock]
          · rw [hat]; simp; omega
        have F1 := Lib.hid (F0.out.grown hgrow (by simp [Value.ownBlock]))
        have X1 := Lib.hid ((bel_alloc (bel_alloc (Below.refl _ _)) : Below wr.heap.size wr _).grown hgrow (by simp; omega) (by intro q hq; simp [Value.ownBlock] at hq; omega))
        have OP : Hid (OwnP w1 w.heap.size (.slice (some ⟨g', 0, none⟩) L cap') c.pf) := Lib.hid (by unfold OwnP; rw [hL]; simpa using hown)
        have oc := own_oneCell hown
        clear hown hgrow hat F0 OM NW fl fo
        obtain ⟨f0, f1, f2, f3, f4, f5⟩ := F1.out
        have f42 := f4 2 (by omega)
        obtain ⟨g0, g1, g2, g3, _, _⟩ := F1.out.set2 (.slice (some ⟨g', 0, none⟩) L cap')
        have OP2 : Hid (OwnP (w1.setCell ⟨wr.heap.size, 2, none⟩ (.slice (some ⟨g', 0, none⟩) L cap')) w.heap.size (.slice (some ⟨g', 0, none⟩) L cap') c.pf) := Lib.hid (World.ownsRow.kept OP.out (grown_set w1 wr.heap.size 2 (.slice (some ⟨g', 0, none⟩) L cap')) (.inr hvb))
        have X2 := Lib.hid (X1.out.setCell (p := ⟨wr.heap.size, 2, none⟩) (Nat.le_refl _) (.slice (some ⟨g', 0, none⟩) L cap'))
        clear f4
        have FN : Hid (∀ j u, (ckCells c (.slice (some ⟨g', 0, none⟩) L cap'))[j]? = some u → ((w1.setCell ⟨wr.heap.size, 2, none⟩ (.slice (some ⟨g', 0, none⟩) L cap')).alloc (.cells #[.string nm, .int .i64 ps, (.slice (some ⟨g', 0, none⟩) L cap'), .int .i64 dc] 24)).cell? ((⟨w1.heap.size, 0, none⟩ : Addr).add j) = some u) := by
          have := quad_news (w1.setCell ⟨wr.heap.size, 2, none⟩ (.slice (some ⟨g', 0, none⟩) L cap')) (.string nm) (.int .i64 ps) (.slice (some ⟨g', 0, none⟩) L cap') (.int .i64 dc) 24
          have e : (w1.setCell ⟨wr.heap.size, 2, none⟩ (.slice (some ⟨g', 0, none⟩) L cap')).heap.size = w1.heap.size := by simp [World.setCell]
          rw [e] at this
          exact Lib.hid (by rw [← hnm, ← hps, ← hdc] at *; exact this)
        have X3 := X2.out.alloc X2.out.size (.cells #[.string nm, .int .i64 ps, (.slice (some ⟨g', 0, none⟩) L cap'), .int .i64 dc] 24)
        obtain ⟨qs, o1, o2, o3⟩ := hO.out.below X3
        rw [hT.out] at o2
        have OP3 := row_bel OP2.out (bel_alloc (o := .cells #[.string nm, .int .i64 ps, (.slice (some ⟨g', 0, none⟩) L cap'), .int .i64 dc] 24) (Below.refl _ _))
        have BS : Hid (w.heap.size ≤ ((w1.setCell ⟨wr.heap.size, 2, none⟩ (.slice (some ⟨g', 0, none⟩) L cap')).alloc (.cells #[.string nm, .int .i64 ps, (.slice (some ⟨g', 0, none⟩) L cap'), .int .i64 dc] 24)).heap.size) := Lib.hid (Nat.le_trans HS.out X3.size)
        have O1 := Lib.hid o1
        have O2 := Lib.hid o2
        have O3 := Lib.hid o3
        have Y3 := Lib.hid X3
        have P3 := Lib.hid OP3
        have OC := Lib.hid oc
        clear o1 o2 o3 X3 OP3 oc X1 X2 OP OP2 F1
        go_wp2_with (at_builtin; refine wpList_append_own_at _ rfl _ _ 51 rfl w.heap.size 24 j0 (.agg #[.string ByteArray.empty, .int .i64 0, .slice none 0 0, .int .i64 0]) 4 56 Tryz.underlying51 hj0.out gz0.out gz1.out gz2.out rfl (by omega) _ _ _ rfl O2.out ⟨w1.heap.size, 0, none⟩ 1 1 (ckCells c (.slice (some ⟨g', 0, none⟩) L cap')) rfl rfl FN.out (ckCells_one c (.slice (some ⟨g', 0, none⟩) L cap') OC.out) ?qd4 ?qd5 BS.out ?_)
        case qd4 => unfold maxLen; omega
        case qd5 => omega
        intro v2 w2 hown hgrow _ hat
        have SN := Lib.hid (OwnC.snoc (c := c) O1.out (by rw [hT.out]; exact O2.out) O3.out hgrow P3.out (by rw [hT.out]; exact hown))
        rw [← eT.out] at SN
        have B2 := Lib.hid ((bel_trans hB.out Y3.out).grown hgrow BS.out (fun q hq => (World.ownsRow.lt O2.out q hq).1))
        clear hown hgrow hat O1 O2 O3 P3 FN
        go_wp2
        go_roundw
        case rel => exact ⟨k + 1, by omega, by go_num, SN, B2⟩
        case measure => simp [intOf]; omega
    · obtain rfl : k = n := by omega
      go_wp2
      go_returns
      exact ⟨_, rfl, by have := hO.out; rwa [hn.out, List.take_length] at this, hB.out⟩
theorem refCopy_nil (a : Option Addr) (cap : Nat) (w : World) :
    Calls Tryz.prog 27 #[.slice a 0 cap] w fun e w' => ∃ u, e = .returned u ∧ OwnC w' w.heap.size u [] ∧ Below w.heap.size w w' := by
  have H0 : Hid (OwnC w w.heap.size (.slice none 0 0) []) := ⟨[], rfl, World.ownsRow_nil _ _ _ _, fun q hq => by simp at hq⟩
  go_enter Tryz.func27, Tryz.ntmps27
  go_wp2_with fail
  go_loopw [3, 4] (fun out ii wr => ii = .int .i64 0 ∧ out = .slice none 0 0 ∧ wr = w) (fun _ _ _ => 0)
  case atStart => exact ⟨rfl, rfl, rfl⟩
  case round =>
    obtain ⟨rfl, rfl, rfl⟩ := hrel
    go_wp2
    go_returns
    exact ⟨_, rfl, H0.out, Below.refl _ _⟩
theorem refCopy_any (v : Value) (l : List Ck) (w : World) (hv : Cks w v l) (hl : l.length ≤ 1000) (hp : ∀ c ∈ l, c.pf.length ≤ 1000) :
    Calls Tryz.prog 27 #[v] w fun e w' => ∃ u, e = .returned u ∧ OwnC w' w.heap.size u l ∧ Below w.heap.size w w' := by
  by_cases h0 : 0 < l.length
  · obtain ⟨b, off, cap, rfl, hb, _, hc⟩ := hv.cks h0
    exact refCopy_some b off _ cap l w hl rfl hb hp hc
  · obtain ⟨a, cap, rfl, _⟩ := hv.shape
    obtain rfl : l = [] := List.length_eq_zero_iff.1 (by omega)
    exact refCopy_nil a cap w
/-- the numbers of a cask are in the machine's range -/
def CkW (c : Ck) : Prop := c.nm.size ≤ 9223372036854775807 ∧ (-9223372036854775808 ≤ c.ps ∧ c.ps ≤ 9223372036854775807) ∧ (-9223372036854775808 ≤ c.dc ∧ c.dc ≤ 9223372036854775807)
theorem Cks.wide {W : World} {v : Value} {l : List Ck} (h : Cks W v l) : ∀ c ∈ l, CkW c := by
  intro c hc
  obtain ⟨j, hj, rfl⟩ := List.getElem_of_mem hc
  obtain ⟨b, off, cap, _, _, _, g⟩ := h.cks (by omega)
  obtain ⟨_, _, _, _, _, _, _, r⟩ := g j hj
  exact r
end Go.Proofs.YtgjdopjolokaiaaGreat

/- The reference of layer 9: Few. -/
namespace Go.Proofs.YtgjdopjolokaiaaGreat
open Go.RowKit

def fewC (c : Ck) : Bool := decide (c.pf.length ≤ 33) && decide (c.nm.size ≤ 70)
def fewB (l : List Ck) : Bool := l.all fewC && decide (l.length ≤ 33)
set_option maxHeartbeats 8000000 in
theorem refFew_some (b off n cap : Nat) (l : List Ck) (B : Bool) (w : World) (hn : Hid (n = l.length)) (nc : n ≤ 9223372036854775807) (hb : b < w.heap.size)
    (hc : Hid (∀ j (hj : j < l.length), CkAt w b off j l[j]))
    (h1 : Hid ((∃ c ∈ l, fewC c = false) → B = false)) (h2 : Hid ((∀ c ∈ l, fewC c = true) → B = decide (n ≤ 33))) :
    Calls Tryz.prog 22 #[.slice (some ⟨b, off, none⟩) n cap] w fun e w' => e = .returned (.bool B) ∧ w' = w := by
  go_enter Tryz.func22, Tryz.ntmps22
  go_wp2_with fail
  go_loopw [3] (fun ii wr => ∃ k : Nat, k ≤ n ∧ ii = .int .i64 k ∧ wr = w ∧ Hid (∀ j (hj : j < l.length), j < k → fewC l[j] = true)) (fun ii _ => n - (intOf ii).toNat)
  case atStart => exact ⟨0, by omega, rfl, rfl, fun j hj h => by omega⟩
  case round =>
    obtain ⟨k, hk, rfl, rfl, ha⟩ := hrel
    by_cases hlt : k < n
    · have hkl : k < l.length := by rw [← hn.out]; exact hlt
      obtain ⟨a, cp, c0, c1, c2, c3, hP, hs, _⟩ := hc.out k hkl
      have HT : Hid (fewC l[k] = true → ∀ j (hj : j < l.length), j < k + 1 → fewC l[j] = true) := fun h j hj hj2 => by
        by_cases e : j = k
        · subst e; exact h
        · exact ha.out j hj (by omega)
      have HF : Hid (fewC l[k] = false → B = false) := fun h => h1.out ⟨_, List.getElem_mem hkl, h⟩
      have FW := Lib.hid (few_any _ _ wr hP)
      have HP := Lib.hid hP
      have l1 : (k : Int) < (n : Int) := by omega
      generalize l[k] = c at *
      unfold fewC at HT HF
      clear ha h1 h2 hc
      by_cases q1 : c.pf.length ≤ 33
      · rw [decide_eq_true q1] at FW HT HF
        have fe := FW
        clear hP
        by_cases q2 : c.nm.size ≤ 70
        · have d0 : decide ((70 : Int) < (c.nm.size : Int)) = false := decide_eq_false (by omega)
          rw [decide_eq_true q2] at HT
          have hx := Lib.hid (HT.out rfl)
          clear HT HF q1 q2
          generalize c.pf.length = L at *
          go_wp2_with fail
          refine FW.out.mono ?_
          rintro e w1 ⟨rfl, hw⟩
          subst hw
          go_wp2
          go_roundw
          case rel => exact ⟨k + 1, by omega, by go_num, by first | rfl | trivial, hx⟩
          case measure => simp [intOf]; omega
        · have d0 : decide ((70 : Int) < (c.nm.size : Int)) = true := decide_eq_true (by omega)
          rw [decide_eq_false q2] at HF
          obtain rfl := HF.out rfl
          clear HT HF q1 q2
          generalize c.pf.length = L at *
          go_wp2_with fail
          refine FW.out.mono ?_
          rintro e w1 ⟨rfl, hw⟩
          subst hw
          go_wp2
          go_returns
          exact ⟨rfl, rfl⟩
      · rw [decide_eq_false q1] at FW HF
        obtain rfl := HF.out rfl
        clear HT HF q1 hP
        generalize c.pf.length = L at *
        go_wp2_with fail
        refine FW.out.mono ?_
        rintro e w1 ⟨rfl, hw⟩
        subst hw
        go_wp2
        go_returns
        exact ⟨rfl, rfl⟩
    · obtain rfl : k = n := by omega
      have hB := h2.out (fun c hc => by
        obtain ⟨j, hj, rfl⟩ := List.getElem_of_mem hc
        exact ha.out j hj (by rw [hn.out]; exact hj))
      have hB2 : B = decide ((k : Int) ≤ 33) := by rw [hB]; exact decide_eq_decide.2 (by omega)
      clear hB h1 h2 ha hc
      subst hB2
      go_wp2
      go_returns
      exact ⟨by first | rfl | simp, rfl⟩
theorem refFew_nil (a : Option Addr) (cap : Nat) (w : World) :
    Calls Tryz.prog 22 #[.slice a 0 cap] w fun e w' => e = .returned (.bool true) ∧ w' = w := by
  go_enter Tryz.func22, Tryz.ntmps22
  go_wp2_with fail
  go_loopw [3] (fun ii wr => ii = .int .i64 0 ∧ wr = w) (fun _ _ => 0)
  case atStart => exact ⟨rfl, rfl⟩
  case round =>
    obtain ⟨rfl, rfl⟩ := hrel
    go_wp2
    go_returns
    exact ⟨rfl, rfl⟩
theorem refFew_any (v : Value) (l : List Ck) (w : World) (hv : Cks w v l) :
    Calls Tryz.prog 22 #[v] w fun e w' => e = .returned (.bool (fewB l)) ∧ w' = w := by
  by_cases h0 : 0 < l.length
  · obtain ⟨b, off, cap, rfl, hb, hl, hc⟩ := hv.cks h0
    refine refFew_some b off _ cap l _ w rfl (by omega) hb hc (fun ⟨c, hc, h⟩ => ?_) (fun h => ?_)
    · show fewB l = false
      unfold fewB
      rw [show l.all fewC = false by rw [List.all_eq_false]; exact ⟨c, hc, by rw [h]; simp⟩]; rfl
    · show fewB l = _
      unfold fewB
      rw [show l.all fewC = true by rw [List.all_eq_true]; exact h]; simp
  · obtain ⟨a, cap, rfl, _⟩ := hv.shape
    obtain rfl : l = [] := List.length_eq_zero_iff.1 (by omega)
    exact refFew_nil a cap w
end Go.Proofs.YtgjdopjolokaiaaGreat

/- A cask in a box: copies of it by a closure, and as a list of one. -/
namespace Go.Proofs.YtgjdopjolokaiaaGreat
open Go.RowKit

/-- a cask in a block of the call's own -/
def CkB (q : Nat) (W : World) (c : Ck) : Prop :=
  ∃ a cap, Quad q W (.string c.nm) (.int .i64 c.ps) (.slice a c.pf.length cap) (.int .i64 c.dc) ∧ Pts W (.slice a c.pf.length cap) c.pf ∧ CkW c
theorem CkB.below {q : Nat} {W W' : World} {c : Ck} (h : CkB q W c) (hb : Below W.heap.size W W') : CkB q W' c := by
  obtain ⟨a, cap, h1, h2, h3⟩ := h
  exact ⟨a, cap, h1.below hb, h2.below hb, h3⟩
theorem CkB.alloc {q : Nat} {W : World} {c : Ck} (h : CkB q W c) (o : Obj) : CkB q (W.alloc o) c := h.below (bel_alloc (Below.refl _ _))
theorem CkB.val {q : Nat} {W : World} {c : Ck} (h : CkB q W c) : ∃ a cap, W.cell? ⟨q, 0, none⟩ = some (.string c.nm) ∧ W.cell? ⟨q, 1, none⟩ = some (.int .i64 c.ps) ∧ W.cell? ⟨q, 2, none⟩ = some (.slice a c.pf.length cap) ∧ W.cell? ⟨q, 3, none⟩ = some (.int .i64 c.dc) ∧ CkV W (.agg #[.string c.nm, .int .i64 c.ps, .slice a c.pf.length cap, .int .i64 c.dc]) c := by
  obtain ⟨a, cap, ⟨h0, h1, h2, h3, _, _⟩, hp, hw⟩ := h
  exact ⟨a, cap, h0, h1, h2, h3, a, cap, rfl, hp, hw⟩
theorem CkB.new {W : World} {c : Ck} {a : Option Addr} {cap : Nat} (hp : Pts W (.slice a c.pf.length cap) c.pf) (hw : CkW c) : CkB W.heap.size (W.alloc (.cells #[.string c.nm, .int .i64 c.ps, .slice a c.pf.length cap, .int .i64 c.dc] 24)) c :=
  ⟨a, cap, Quad.new _ _ _ _ _ _, hp.alloc _, hw⟩
/-- a list of one, laid now -/
theorem cks_one {W : World} {c : Ck} {a : Option Addr} {cap : Nat} (hp : Pts W (.slice a c.pf.length cap) c.pf) (hw : CkW c) : Cks (W.alloc (.cells #[.string c.nm, .int .i64 c.ps, .slice a c.pf.length cap, .int .i64 c.dc] 24)) (.slice (some ⟨W.heap.size, 0, none⟩) 1 1) [c] := by
  obtain ⟨h0, h1, h2, h3, _, h5⟩ := Quad.new W (.string c.nm) (.int .i64 c.ps) (.slice a c.pf.length cap) (.int .i64 c.dc) 24
  refine ⟨_, 1, rfl, by simp, .inr ⟨W.heap.size, 0, rfl, h5, fun j hj => ?_⟩⟩
  obtain rfl : j = 0 := by simpa using hj
  exact ⟨_, _, _, _, h0, h1, h2, h3, a, cap, rfl, hp.alloc _, hw⟩
theorem few_one (c : Ck) : fewB [c] = fewC c := by unfold fewB; simp
theorem fewC_pf {c : Ck} (h : fewC c = true) : c.pf.length ≤ 33 ∧ c.nm.size ≤ 70 := by
  unfold fewC at h; simpa using h
end Go.Proofs.YtgjdopjolokaiaaGreat

/- The statements about layer 11: casks are copied; few. -/
namespace Go.Proofs.YtgjdopjolokaiaaGreat
open Go.RowKit

set_option maxHeartbeats 8000000 in
set_option maxRecDepth 100000 in
theorem own_core (c : Ck) (a : Option Addr) (n cap : Nat) (w : World) (hn : n = c.pf.length) (hp : c.pf.length ≤ 1000) (hP : Pts w (.slice a n cap) c.pf) (hW : CkW c) :
    Calls Tryz.prog 8 #[.agg #[.string c.nm, .int .i64 c.ps, .slice a n cap, .int .i64 c.dc]] w fun e w' => ∃ u, e = .returned u ∧ CkV w' u c ∧ Below w.heap.size w w' := by
  have T0 := Quad.new (w.alloc (.cells #[.string c.nm, .int .i64 c.ps, .slice a n cap, .int .i64 c.dc] 24)) (.string ByteArray.empty) (.int .i64 0) (.slice none 0 0) (.int .i64 0) 24
  rw [World.size_alloc] at T0
  replace T0 := Lib.hid (T0.alloc (.cells #[.string c.nm, .int .i64 c.ps, .slice a n cap, .int .i64 c.dc] 24))
  have hHC : Calls Tryz.prog 27 #[.slice (some ⟨w.heap.size + 1 + 1, 0, none⟩) 1 1] (((w.alloc (.cells #[.string c.nm, .int .i64 c.ps, .slice a n cap, .int .i64 c.dc] 24)).alloc (.cells #[.string ByteArray.empty, .int .i64 0, .slice none 0 0, .int .i64 0] 24)).alloc (.cells #[.string c.nm, .int .i64 c.ps, .slice a n cap, .int .i64 c.dc] 24)) fun e w' => ∃ u, e = .returned u ∧ OwnC w' (w.heap.size + 1 + 1 + 1) u [c] ∧ Below (w.heap.size + 1 + 1 + 1) (((w.alloc (.cells #[.string c.nm, .int .i64 c.ps, .slice a n cap, .int .i64 c.dc] 24)).alloc (.cells #[.string ByteArray.empty, .int .i64 0, .slice none 0 0, .int .i64 0] 24)).alloc (.cells #[.string c.nm, .int .i64 c.ps, .slice a n cap, .int .i64 c.dc] 24)) w' := by
    subst hn
    have CO := cks_one ((hP.alloc (.cells #[.string c.nm, .int .i64 c.ps, .slice a c.pf.length cap, .int .i64 c.dc] 24)).alloc (.cells #[.string ByteArray.empty, .int .i64 0, .slice none 0 0, .int .i64 0] 24)) hW
    have := refCopy_any _ [c] _ CO (by simp) (by intro d hd; rw [List.mem_singleton] at hd; subst hd; exact hp)
    simp only [World.size_alloc] at this
    exact this
  have HC := Lib.hid hHC
  have HW := Lib.hid hW
  have HN := Lib.hid hn
  clear hP hW hHC hn
  go_enter Tryz.func8, Tryz.ntmps8
  go_wp2_with fail
  refine HC.out.mono ?_
  rintro e w2 ⟨u, rfl, gO, gg⟩
  obtain ⟨g, cap', a', cp', rfl, hg, d0, d1, d2, d3, hO⟩ := gO.one
  have hsz : (((w.alloc (.cells #[.string c.nm, .int .i64 c.ps, .slice a n cap, .int .i64 c.dc] 24)).alloc (.cells #[.string ByteArray.empty, .int .i64 0, .slice none 0 0, .int .i64 0] 24)).alloc (.cells #[.string c.nm, .int .i64 c.ps, .slice a n cap, .int .i64 c.dc] 24)).heap.size = w.heap.size + 1 + 1 + 1 := by simp
  rw [← hsz] at gg
  have X1 : Hid (Below w.heap.size w w2) := Lib.hid (bel_alloc (bel_alloc (bel_alloc gg)))
  replace T0 := Lib.hid (T0.out.below gg)
  have OP := Lib.hid hO
  clear gO gg HC hO
  obtain ⟨u0, u1, u2, u3, uf, _⟩ := T0.out
  have f0 := uf 0 (by omega)
  have f1 := uf 1 (by omega)
  have f2 := uf 2 (by omega)
  have f3 := uf 3 (by omega)
  clear uf
  rw [← HN.out] at d2 OP
  go_wp2
  obtain ⟨t0, t1, t2, t3⟩ := quad_read w2 (w.heap.size + 1) (.string c.nm) (.int .i64 c.ps) (.slice a' n cp') (.int .i64 c.dc) u0 u1 u2 u3
  refine bodyPost_ret (v := .agg #[.string c.nm, .int .i64 c.ps, .slice a' n cp', .int .i64 c.dc]) (by simp [results, Tryz.results8, go_sem, t0, t1, t2, t3]) rfl ?_
  have hs : w.heap.size + 1 < w.heap.size + 1 + 1 + 1 := by omega
  have P2 := own_far (b := w.heap.size + 1) (i := 3) (z := .int .i64 c.dc) (own_far (b := w.heap.size + 1) (i := 2) (z := .slice a' n cp') (own_far (b := w.heap.size + 1) (i := 1) (z := .int .i64 c.ps) (own_far (b := w.heap.size + 1) (i := 0) (z := .string c.nm) OP.out hs) hs) hs) hs
  exact ⟨_, rfl, ⟨a', cp', by rw [← HN.out], by rw [← HN.out]; exact OwnP.pts P2, HW.out⟩, (((X1.out.setCell (Nat.le_succ _) _).setCell (Nat.le_succ _) _).setCell (Nat.le_succ _) _).setCell (Nat.le_succ _) _⟩
theorem own_any (v : Value) (c : Ck) (w : World) (hv : CkV w v c) (hp : c.pf.length ≤ 1000) :
    Calls Tryz.prog 8 #[v] w fun e w' => ∃ u, e = .returned u ∧ CkV w' u c ∧ Below w.heap.size w w' := by
  obtain ⟨a, cap, rfl, hP, hW⟩ := hv
  exact own_core c a _ cap w rfl hp hP hW
theorem few1_any (a : Option Addr) (n cap : Nat) (w : World) (hn : n ≤ 9223372036854775807) :
    Calls Tryz.prog 24 #[.slice a n cap] w fun e w' => e = .returned (.bool (decide (66 < n))) ∧ w' = w := by
  by_cases h : 66 < n
  · rw [decide_eq_true h]
    have d : decide (66 < (n : Int)) = true := decide_eq_true (by omega)
    go_enter Tryz.func24, Tryz.ntmps24
    go_wp2
    go_ret
    exact ⟨rfl, rfl⟩
  · rw [decide_eq_false h]
    have d : decide (66 < (n : Int)) = false := decide_eq_false (by omega)
    go_enter Tryz.func24, Tryz.ntmps24
    go_wp2
    go_ret
    exact ⟨rfl, rfl⟩
/-- a slice of slices, of which the lengths are known -/
def Lns (w : World) (v : Value) (ns : List Nat) : Prop :=
  ∃ a cap, v = .slice a ns.length cap ∧ (ns.length ≤ cap ∧ cap ≤ 9223372036854775807) ∧ (∀ n ∈ ns, n ≤ 9223372036854775807) ∧
    (ns.length = 0 ∨ ∃ b off, a = some ⟨b, off, none⟩ ∧ b < w.heap.size ∧ ∀ j, j < ns.length → ∃ a' c', w.cell? ⟨b, off + j, none⟩ = some (.slice a' (ns.getD j 0) c'))
theorem Lns.below {w w' : World} {v : Value} {ns : List Nat} (h : Lns w v ns) (hb : Below w.heap.size w w') : Lns w' v ns := by
  obtain ⟨a, cap, rfl, hl, hm, h | ⟨b, off, rfl, hlt, hc⟩⟩ := h
  · exact ⟨a, cap, rfl, hl, hm, .inl h⟩
  · exact ⟨_, cap, rfl, hl, hm, .inr ⟨b, off, rfl, Nat.lt_of_lt_of_le hlt hb.size, fun j hj => by rw [(bcell hb).1 _ _ hlt]; exact hc j hj⟩⟩
set_option maxHeartbeats 8000000 in
theorem idxl_some (b off n cap : Nat) (ns : List Nat) (B : Bool) (w : World) (n1 : n ≤ 9223372036854775807) (hn : Hid (ns.length = n)) (hm : Hid (∀ n ∈ ns, n ≤ 9223372036854775807))
    (hc : Hid (∀ j, j < n → ∃ a' c', w.cell? ⟨b, off + j, none⟩ = some (.slice a' (ns.getD j 0) c')))
    (h1 : Hid ((∃ j, j < n ∧ 66 < ns.getD j 0) → B = true)) (h2 : Hid ((∀ j, j < n → ¬ 66 < ns.getD j 0) → B = false)) :
    Calls Tryz.prog 45 #[.slice (some ⟨b, off, none⟩) n cap, .func (.func 24) #[] #[]] w fun e w' => ∃ k : Int, e = .returned (.int .i64 k) ∧ decide (0 ≤ k) = B ∧ w' = w := by
  go_enter Tryz.func45, Tryz.ntmps45
  go_wp2_with fail
  go_loopw [5, 8] (fun _ i wr => ∃ k : Nat, k ≤ n ∧ i = .int .i64 k ∧ w = wr ∧ Hid (∀ j, j < k → ¬ 66 < ns.getD j 0)) (fun _ i _ => n - (intOf i).toNat)
  case atStart => exact ⟨0, Nat.zero_le _, rfl, rfl, fun j hj => by omega⟩
  case round =>
    obtain ⟨k, hk, rfl, rfl, ha⟩ := hrel
    by_cases hlt : k < n
    · obtain ⟨a', c', c0⟩ := hc.out k hlt
      have hmk : ns.getD k 0 ≤ 9223372036854775807 := hm.out _ (by
        have h := hn.out
        rw [List.getD_eq_getElem?_getD, List.getElem?_eq_getElem (by omega), Option.getD_some]
        exact List.getElem_mem _)
      have HP := Lib.hid (few1_any a' (ns.getD k 0) c' w hmk)
      by_cases hq : 66 < ns.getD k 0
      · have hBt := h1.out ⟨k, hlt, hq⟩
        rw [decide_eq_true hq] at HP
        generalize ns.getD k 0 = x at *
        go_wp2_with fail
        refine HP.out.mono ?_
        rintro e w2 ⟨rfl, hw⟩
        subst hw
        go_wp2
        go_returns
        exact ⟨k, rfl, by rw [hBt]; simp, rfl⟩
      · have ha2 : Hid (∀ j, j < k + 1 → ¬ 66 < ns.getD j 0) := fun j hj => by
          by_cases e : j = k
          · rw [e]; exact hq
          · exact ha.out j (by omega)
        rw [decide_eq_false hq] at HP
        clear hq ha
        generalize ns.getD k 0 = x at c0 HP
        go_wp2_with fail
        refine HP.out.mono ?_
        rintro e w2 ⟨rfl, hw⟩
        subst hw
        go_wp2
        go_roundw
        case rel => exact ⟨k + 1, by omega, by go_num, by first | rfl | trivial, ha2⟩
        case measure => simp [intOf]; omega
    · obtain rfl : k = n := by omega
      have hBf := h2.out ha.out
      go_wp2
      go_returns
      exact ⟨-1, rfl, by rw [hBf]; simp, rfl⟩
theorem idxl_nil (a : Option Addr) (cap : Nat) (f : Value) (w : World) (g : Nat) (hf : f = .func (.func g) #[] #[]) :
    Calls Tryz.prog 45 #[.slice a 0 cap, f] w fun e w' => e = .returned (.int .i64 (-1)) ∧ w' = w := by
  subst hf
  go_enter Tryz.func45, Tryz.ntmps45
  go_wp2_with fail
  go_loopw [5, 8] (fun _ i wr => i = .int .i64 0 ∧ w = wr) (fun _ _ _ => 0)
  case atStart => exact ⟨rfl, rfl⟩
  case round =>
    obtain ⟨rfl, rfl⟩ := hrel
    go_wp2
    go_returns
    exact ⟨rfl, rfl⟩
def lnB (ns : List Nat) : Bool := ns.all (fun n => decide (n ≤ 66))
theorem conl_any (v : Value) (ns : List Nat) (w : World) (hv : Lns w v ns) :
    Calls Tryz.prog 23 #[v, .func (.func 24) #[] #[]] w fun e w' => e = .returned (.bool (!lnB ns)) ∧ w' = w := by
  obtain ⟨a, cap, rfl, hl, hm, hh⟩ := hv
  have HI : Hid (Calls Tryz.prog 45 #[.slice a ns.length cap, .func (.func 24) #[] #[]] w fun e w' => ∃ k : Int, e = .returned (.int .i64 k) ∧ decide (0 ≤ k) = (!lnB ns) ∧ w' = w) := Lib.hid (by
    rcases hh with h0 | ⟨b, off, rfl, _, hc⟩
    · have e0 := List.length_eq_zero_iff.1 h0
      subst e0
      exact (idxl_nil a cap _ w _ rfl).mono fun e w' ⟨g1, g2⟩ => ⟨_, g1, by decide, g2⟩
    · refine idxl_some b off _ cap ns _ w (by omega) (Lib.hid rfl) (Lib.hid hm) (Lib.hid hc) (Lib.hid ?_) (Lib.hid ?_)
      · rintro ⟨j, hj, hx⟩
        rw [Bool.not_eq_true', Bool.eq_false_iff]
        intro ha
        unfold lnB at ha
        rw [List.all_eq_true] at ha
        have := ha _ (List.getElem_mem hj)
        rw [List.getD_eq_getElem?_getD, List.getElem?_eq_getElem hj, Option.getD_some] at hx
        simp at this
        omega
      · intro ha
        rw [Bool.not_eq_false']
        unfold lnB
        rw [List.all_eq_true]
        intro x hx
        obtain ⟨j, hj, rfl⟩ := List.getElem_of_mem hx
        have := ha j hj
        rw [List.getD_eq_getElem?_getD, List.getElem?_eq_getElem hj, Option.getD_some] at this
        simp; omega)
  generalize ns.length = n at *
  generalize lnB ns = B at *
  clear hh hm
  go_enter Tryz.func23, Tryz.ntmps23
  go_wp2_with fail
  refine HI.out.mono ?_
  rintro e w1 ⟨k, rfl, hk, hw⟩
  subst hw
  cases B with
  | true =>
    have d : decide (0 ≤ k) = false := hk
    go_wp2
    all_goals
      go_ret
      exact ⟨by simp_all, rfl⟩
  | false =>
    have d : decide (0 ≤ k) = true := hk
    go_wp2
    all_goals
      go_ret
      exact ⟨by simp_all, rfl⟩
set_option maxHeartbeats 8000000 in
set_option maxRecDepth 100000 in
theorem few_core (c : Ck) (a : Option Addr) (n cap : Nat) (a2 : Option Addr) (n2 cap2 : Nat) (B1 B2 : Bool) (w : World) (hn : n = c.pf.length) (hP : Pts w (.slice a n cap) c.pf) (hW : CkW c) (hB : fewC c = B1)
    (H2 : Hid (∀ W, Below w.heap.size w W → Calls Tryz.prog 23 #[.slice a2 n2 cap2, .func (.func 24) #[] #[]] W fun e w' => e = .returned (.bool (!B2)) ∧ w' = W)) :
    Calls Tryz.prog 6 #[.agg #[.string c.nm, .int .i64 c.ps, .slice a n cap, .int .i64 c.dc], .slice a2 n2 cap2] w fun e w' => e = .returned (.bool (B1 && B2)) ∧ Below w.heap.size w w' := by
  have hHC : Calls Tryz.prog 22 #[.slice (some ⟨w.heap.size + 1, 0, none⟩) 1 1] ((w.alloc (.cells #[.string c.nm, .int .i64 c.ps, .slice a n cap, .int .i64 c.dc] 24)).alloc (.cells #[.string c.nm, .int .i64 c.ps, .slice a n cap, .int .i64 c.dc] 24)) fun e w' => e = .returned (.bool B1) ∧ w' = ((w.alloc (.cells #[.string c.nm, .int .i64 c.ps, .slice a n cap, .int .i64 c.dc] 24)).alloc (.cells #[.string c.nm, .int .i64 c.ps, .slice a n cap, .int .i64 c.dc] 24)) := by
    subst hn
    have CO := cks_one (hP.alloc (.cells #[.string c.nm, .int .i64 c.ps, .slice a c.pf.length cap, .int .i64 c.dc] 24)) hW
    have := refFew_any _ [c] _ CO
    simp only [World.size_alloc] at this
    rwa [few_one, hB] at this
  have HC := Lib.hid hHC
  clear hP hW hHC hn
  have X1 : Hid (Below w.heap.size w ((w.alloc (.cells #[.string c.nm, .int .i64 c.ps, .slice a n cap, .int .i64 c.dc] 24)).alloc (.cells #[.string c.nm, .int .i64 c.ps, .slice a n cap, .int .i64 c.dc] 24))) := Lib.hid (bel_alloc (bel_alloc (Below.refl _ _)))
  go_enter Tryz.func6, Tryz.ntmps6
  go_wp2_with fail
  refine HC.out.mono ?_
  rintro e w2 ⟨rfl, hw⟩
  subst hw
  cases B1 with
  | false =>
    go_wp2
    go_returns
    exact ⟨rfl, X1.out⟩
  | true =>
    go_wp2_with fail
    refine (H2.out _ X1.out).mono ?_
    rintro e w3 ⟨rfl, hw⟩
    subst hw
    cases B2 with
    | true =>
      go_wp2
      go_returns
      exact ⟨rfl, X1.out⟩
    | false =>
      go_wp2
      go_returns
      exact ⟨rfl, X1.out⟩
theorem fewL_any (v u : Value) (c : Ck) (ns : List Nat) (w : World) (hv : CkV w v c) (hu : Lns w u ns) :
    Calls Tryz.prog 6 #[v, u] w fun e w' => e = .returned (.bool (fewC c && lnB ns)) ∧ Below w.heap.size w w' := by
  have H2 : Hid (∀ W, Below w.heap.size w W → _) := Lib.hid fun W hW => conl_any u ns W (hu.below hW)
  obtain ⟨a, cap, rfl, hP, hW⟩ := hv
  obtain ⟨a2, cap2, rfl, _⟩ := hu
  exact few_core c a _ cap a2 _ cap2 _ _ w rfl hP hW rfl H2
theorem lns_nil (w : World) : Lns w (.slice none 0 0) [] := ⟨none, 0, rfl, by simp, (fun n h => by cases h), .inl rfl⟩
/-- a list of one slice, or of two, laid now -/
theorem lns_one (w : World) (a : Option Addr) (n cap : Nat) (T : TypeId) (hn : n ≤ 9223372036854775807) : Lns (w.alloc (.cells #[.slice a n cap] T)) (.slice (some ⟨w.heap.size, 0, none⟩) 1 1) [n] := by
  refine ⟨_, 1, rfl, by simp, (fun m h => by rw [List.mem_singleton] at h; omega), .inr ⟨w.heap.size, 0, rfl, by simp, fun j hj => ?_⟩⟩
  obtain rfl : j = 0 := by simpa using hj
  exact ⟨a, cap, by simp [go_sem]⟩
theorem lns_two (w : World) (a a2 : Option Addr) (n cap n2 cap2 : Nat) (T : TypeId) (hn : n ≤ 9223372036854775807) (hn2 : n2 ≤ 9223372036854775807) : Lns (w.alloc (.cells #[.slice a n cap, .slice a2 n2 cap2] T)) (.slice (some ⟨w.heap.size, 0, none⟩) 2 2) [n, n2] := by
  refine ⟨_, 2, rfl, by simp, (fun m h => by simp at h; omega), .inr ⟨w.heap.size, 0, rfl, by simp, fun j hj => ?_⟩⟩
  simp only [List.length_cons, List.length_nil] at hj
  match j, hj with
  | 0, _ => exact ⟨a, cap, by simp [go_sem]⟩
  | 1, _ => exact ⟨a2, cap2, by simp [go_sem]⟩
end Go.Proofs.YtgjdopjolokaiaaGreat

/- How arguments are opened: slices of points. -/
namespace Go.Proofs.YtgjdopjolokaiaaGreat
open Go.ChangeShapes Go.WideShapes Go.ChangeAt Go.RowKit Go.Joins

theorem own : ownKnob Tryz.prog.godebug = none := by kernel_rfl
theorem laidOut : laidOutB Tryz.prog = true := by kernel_rfl
theorem wf_bd {n : Int} (h : (Lit.int .i64 n).wf = true) : -9223372036854775808 ≤ n ∧ n ≤ 9223372036854775807 := by
  have := bounds_i64 h
  omega
set_option maxRecDepth 100000 in
theorem open_pts_at {H : Type} {enc : TypeId × Value → H} {w : World} {base fuel : Nat} {spare : Nat → Bool} {held : Bool} {v : Value} {y : DataW H × List MemPlace} (hs : ∀ k, spare k = true)
    (hf : DataW.trod enc Tryz.prog w base spare held fuel 22 [v] = some y) :
    ∃ l : List (Int × Int), Pts w v l := by
  rcases Deep.open_slice_pairs Tryz.underlying22 Tryz.underlying46 (by kernel_rfl) rfl rfl (by kernel_rfl) (by kernel_rfl) hf with ⟨hcs, _⟩ | ⟨x, len0, cap0, m, n, V0, V1, D0, D1, P0, P1, hcs, _, hl, hm, hmm, _, hi⟩
  · simp only [List.cons.injEq, and_true] at hcs
    subst hcs
    exact ⟨[], none, 0, rfl, ⟨by simp, by omega⟩, .inl rfl⟩
  · simp only [List.cons.injEq, and_true] at hcs
    subst hcs
    unfold maxLen at hm
    rw [hs] at hmm
    simp only [if_true] at hmm
    subst hmm
    have hint : ∀ i, i < len0 → ∃ q : Int × Int, w.cell? (x.add (i * 2)) = some (.int .i64 q.1) ∧ w.cell? (x.add (i * 2 + 1)) = some (.int .i64 q.2) := by
      intro i hlt
      obtain ⟨h0, h1, h2, h3⟩ := hi i (by omega)
      obtain ⟨a, ea, _, _⟩ := DataW.trod_int (k := .i64) Tryz.underlying3 h2
      obtain ⟨b, eb, _, _⟩ := DataW.trod_int (k := .i64) Tryz.underlying3 h3
      simp only [List.cons.injEq, and_true] at ea eb
      exact ⟨(a, b), by rw [h0, ea], by rw [h1, eb]⟩
    let f : Nat → Int × Int := fun i => if hlt : i < len0 then (hint i hlt).choose else (0, 0)
    have hf2 : ∀ i, i < len0 → w.cell? (x.add (i * 2)) = some (.int .i64 (f i).1) ∧ w.cell? (x.add (i * 2 + 1)) = some (.int .i64 (f i).2) := by
      intro i hlt
      have := (hint i hlt).choose_spec
      simp only [f, dif_pos hlt]
      exact this
    have hlen : ((List.range len0).map f).length = len0 := by simp
    refine ⟨(List.range len0).map f, some x, m, by rw [hlen], by rw [hlen]; omega, ?_⟩
    rw [hlen]
    by_cases h0 : len0 = 0
    · exact .inl h0
    · right
      obtain ⟨b, off, spot⟩ := x
      have hspot : spot = none := by simpa [Addr.add] using World.cell?_spot (hf2 0 (by omega)).1
      subst hspot
      have hb := World.block_lt_of_cell? w _ (hf2 0 (by omega)).1
      refine ⟨b, off, rfl, by simpa [Addr.add] using hb, fun j hj => ?_⟩
      obtain ⟨g0, g1⟩ := hf2 j hj
      rw [Go.WideShapes.add_plain] at g0 g1
      unfold gX gR
      rw [List.getD_eq_getElem?_getD, List.getElem?_map, List.getElem?_range hj]
      exact ⟨g0, by rw [Nat.add_assoc]; exact g1⟩
set_option maxRecDepth 100000 in
theorem open_pts {H : Type} {enc : TypeId × Value → H} {w : World} {r : Reach} {b0 : Nat} {v : Value} {d : DataW H} {p : List MemPlace}
    (hv : Value.okWide Tryz.prog w r b0 22 v) (h : DataW.Trod enc Tryz.prog w 0 (fun _ => true) true 22 v d p) :
    ∃ l : List (Int × Int), Pts w v l := by
  obtain ⟨a0, len0, cap0, rfl⟩ := okWide_slice Tryz.underlying22 hv
  obtain ⟨fuel, hf⟩ := h
  exact open_pts_at (fun _ => rfl) hf
end Go.Proofs.YtgjdopjolokaiaaGreat

/- How arguments are opened: casks, slices of casks. -/
namespace Go.Proofs.YtgjdopjolokaiaaGreat
open Go.ChangeShapes Go.WideShapes Go.ChangeAt Go.RowKit Go.Joins

set_option maxRecDepth 100000 in
/-- a cask's four cells -/
theorem open_ck_at {H : Type} {enc : TypeId × Value → H} {w : World} {base n : Nat} {spare : Nat → Bool} {held : Bool} {v0 v1 v2 v3 : Value} {y0 y1 y2 y3 : DataW H × List MemPlace} (hs : ∀ k, spare k = true)
    (h0 : DataW.trod enc Tryz.prog w base spare held n 9 [v0] = some y0) (h1 : DataW.trod enc Tryz.prog w base spare held n 3 [v1] = some y1) (h2 : DataW.trod enc Tryz.prog w base spare held n 22 [v2] = some y2) (h3 : DataW.trod enc Tryz.prog w base spare held n 3 [v3] = some y3) :
    ∃ c, CkV w (.agg #[v0, v1, v2, v3]) c := by
  obtain ⟨s, e0, _, ws⟩ := DataW.trod_string Tryz.underlying9 h0
  obtain ⟨a, e1, _, wa⟩ := DataW.trod_int (k := .i64) Tryz.underlying3 h1
  obtain ⟨b, e3, _, wb⟩ := DataW.trod_int (k := .i64) Tryz.underlying3 h3
  obtain ⟨l, hl⟩ := open_pts_at hs h2
  simp only [List.cons.injEq, and_true] at e0 e1 e3
  subst e0 e1 e3
  obtain ⟨ad, cap, rfl, _, _⟩ := hl.shape
  unfold maxLen at ws
  exact ⟨⟨s, a, l, b⟩, ad, cap, rfl, hl, by omega, wf_bd wa, wf_bd wb⟩
set_option maxRecDepth 100000 in
/-- a cask by value -/
theorem open_ck {H : Type} {enc : TypeId × Value → H} {w : World} {r : Reach} {b0 : Nat} {v : Value} {d : DataW H} {p : List MemPlace}
    (hv : Value.okWide Tryz.prog w r b0 24 v) (h : DataW.Trod enc Tryz.prog w 0 (fun _ => true) true 24 v d p) : ∃ c, CkV w v c := by
  obtain ⟨v0, v1, v2, v3, y0, y1, y2, y3, n, rfl, _, _, h0, h1, h2, h3⟩ := open_agg4 Tryz.underlying24 (by kernel_rfl) (by kernel_rfl) hv h
  exact open_ck_at (fun _ => rfl) h0 h1 h2 h3
set_option maxRecDepth 100000 in
/-- a slice of casks -/
theorem open_cks {H : Type} {enc : TypeId × Value → H} {w : World} {r : Reach} {b0 : Nat} {v : Value} {d : DataW H} {p : List MemPlace}
    (hv : Value.okWide Tryz.prog w r b0 51 v) (h : DataW.Trod enc Tryz.prog w 0 (fun _ => true) true 51 v d p) : ∃ l : List Ck, Cks w v l := by
  obtain ⟨a0, len0, cap0, rfl⟩ := okWide_slice Tryz.underlying51 hv
  obtain ⟨fuel, hf⟩ := h
  rcases Deep.open_slice Tryz.underlying51 hf with ⟨hcs, _⟩ | ⟨x, l, c, m, n, D, Pl, hcs, _, hl, hm, hmm, _, hi⟩
  · simp [Value.cells] at hcs
    obtain ⟨rfl, rfl, rfl⟩ := hcs
    exact ⟨[], none, 0, rfl, ⟨by simp, by omega⟩, .inl rfl⟩
  · simp [Value.cells] at hcs
    obtain ⟨rfl, rfl, rfl⟩ := hcs
    unfold maxLen at hm
    simp only [if_true] at hmm
    subst hmm
    have ce : Tryz.prog.cellsOf 24 = 4 := by kernel_rfl
    rw [ce] at hi
    have hint : ∀ i, i < len0 → ∃ c : Ck, ∃ x0 x1 x2 x3, w.cell? (x.add (i * 4)) = some x0 ∧ w.cell? (x.add (i * 4 + 1)) = some x1 ∧ w.cell? (x.add (i * 4 + 2)) = some x2 ∧ w.cell? (x.add (i * 4 + 3)) = some x3 ∧ CkV w (.agg #[x0, x1, x2, x3]) c := by
      intro i hlt
      obtain ⟨cs', h1, h2⟩ := hi i (by omega)
      obtain ⟨_, hlen, hcell⟩ := World.cells?_some h1
      obtain ⟨y0, y1, y2, y3, k, _, _, g0, g1, g2, g3⟩ := trod_struct4 Tryz.underlying24 h2
      match cs', hlen with
      | [v0, v1, v2, v3], _ =>
        have e0 := hcell 0 (by omega)
        have e1 := hcell 1 (by omega)
        have e2 := hcell 2 (by omega)
        have e3 := hcell 3 (by omega)
        rw [Deep.add_add] at e0 e1 e2 e3
        have c0 : Tryz.prog.cellsOf 9 = 1 := by kernel_rfl
        have c1 : Tryz.prog.cellsOf 3 = 1 := by kernel_rfl
        have c2 : Tryz.prog.cellsOf 22 = 1 := by kernel_rfl
        simp only [c0, c1, c2] at g0 g1 g2 g3
        obtain ⟨q, hq⟩ := open_ck_at (fun _ => rfl) g0 g1 g2 g3
        exact ⟨q, v0, v1, v2, v3, by simpa using e0, by simpa using e1, by simpa using e2, by simpa using e3, hq⟩
    let f : Nat → Ck := fun i => if hlt : i < len0 then (hint i hlt).choose else ⟨ByteArray.empty, 0, [], 0⟩
    have hf2 : ∀ i, i < len0 → ∃ x0 x1 x2 x3, w.cell? (x.add (i * 4)) = some x0 ∧ w.cell? (x.add (i * 4 + 1)) = some x1 ∧ w.cell? (x.add (i * 4 + 2)) = some x2 ∧ w.cell? (x.add (i * 4 + 3)) = some x3 ∧ CkV w (.agg #[x0, x1, x2, x3]) (f i) := by
      intro i hlt
      have := (hint i hlt).choose_spec
      simp only [f, dif_pos hlt]
      exact this
    have hlen : ((List.range len0).map f).length = len0 := by simp
    refine ⟨(List.range len0).map f, some x, m, by rw [hlen], by rw [hlen]; omega, ?_⟩
    by_cases h0 : len0 = 0
    · exact .inl (by rw [hlen]; exact h0)
    · right
      obtain ⟨b, off, spot⟩ := x
      obtain ⟨z0, _, _, _, q0, _⟩ := hf2 0 (by omega)
      have hspot : spot = none := by simpa [Addr.add] using World.cell?_spot q0
      subst hspot
      have hb := World.block_lt_of_cell? w _ q0
      refine ⟨b, off, rfl, by simpa [Addr.add] using hb, fun j hj => ?_⟩
      obtain ⟨x0, x1, x2, x3, g0, g1, g2, g3, g⟩ := hf2 j (by omega)
      rw [Go.WideShapes.add_plain] at g0 g1 g2 g3
      have e : ((List.range len0).map f)[j] = f j := by simp
      rw [e]
      exact ⟨x0, x1, x2, x3, g0, by rw [Nat.add_assoc]; exact g1, by rw [Nat.add_assoc]; exact g2, by rw [Nat.add_assoc]; exact g3, g⟩
end Go.Proofs.YtgjdopjolokaiaaGreat

/- What the statements about layer 11 need: their opening, the example. -/
namespace Go.Proofs.YtgjdopjolokaiaaGreat
open Go.ChangeShapes Go.WideShapes Go.ChangeAt Go.RowKit Go.Joins

/-- a slice of integers -/
theorem open_intSlice {H : Type} {enc : TypeId × Value → H} {P : Program} {w : World} {r : Reach} {b0 : Nat} {t e : TypeId} {v : Value} {d : DataW H} {p : List MemPlace}
    (ht : P.underlying t = some (.slice e)) (he : P.underlying e = some (.int .i64)) (hC : P.cellsOf e = 1)
    (hv : Value.okWide P w r b0 t v) (h : DataW.Trod enc P w 0 (fun _ => true) true t v d p) :
    ∃ zs : List Int, Nums w v zs ∧ ∀ z ∈ zs, (Lit.int .i64 z).wf = true := by
  obtain ⟨a0, len0, cap0, rfl⟩ := okWide_slice ht hv
  obtain ⟨fuel, hf⟩ := h
  rcases open_ints ht he hC hf with ⟨hcs, _⟩ | ⟨x, l, c, zs, hcs, _, hl, hm, hz, _, hcell, hwz⟩
  · simp [Value.cells] at hcs
    obtain ⟨rfl, rfl, rfl⟩ := hcs
    exact ⟨[], ⟨none, 0, rfl, by simp, .inl rfl⟩, by simp⟩
  · simp [Value.cells] at hcs
    obtain ⟨rfl, rfl, rfl⟩ := hcs
    simp only [if_true] at hz
    unfold maxLen at hm
    refine ⟨zs.take len0, ⟨some x, cap0, by rw [List.length_take, Nat.min_eq_left (by omega)], by rw [List.length_take]; omega, ?_⟩, fun z hz => hwz z (List.mem_of_mem_take hz)⟩
    by_cases h0 : len0 = 0
    · left; rw [List.length_take]; omega
    · right
      obtain ⟨b, off, rfl, hc⟩ := ints_at hcell (by omega)
      have := hc 0 (by omega)
      refine ⟨b, off, rfl, World.block_lt_of_cell? w _ this, fun j hj => ?_⟩
      rw [List.length_take] at hj
      rw [hc j (by omega)]
      congr 2
      simp only [List.getD_eq_getElem?_getD, List.getElem?_take]
      rw [if_pos (by omega)]
end Go.Proofs.YtgjdopjolokaiaaGreat

/- Slices that read as lists of points: copies. -/
namespace Go.Proofs.YtgjdopjolokaiaaGreat
open Go.RowKit Go.Sort

end Go.Proofs.YtgjdopjolokaiaaGreat
