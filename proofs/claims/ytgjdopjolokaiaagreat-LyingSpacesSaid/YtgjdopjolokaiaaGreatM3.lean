/- Texts that the proofs of this seat share, one behind the other: LP, LRH, LRI, LRJ, KRA, PKept, TailIn, Ups, PPB, PPC, PPD, PPA, PPEC, PPE, KPA, KPB, LDW, CKA, CKB, PPEL, LPA, PPEB, RT, SChd, SPa, Kept, SPb, SPc, SPe, SRefE, SRefF. -/
import Derived.Test.YtgjdopjolokaiaaGreatM1
import Derived.Test.YtgjdopjolokaiaaGreatM2
import Derived.Laws.OwnMore
import Derived.RangeFuncNested
import Derived.RangeFuncBound
import Derived.RangeFuncCalls
import Derived.RangeFuncLeaves
import Derived.RangeFuncBox
import Derived.StillTail
import Derived.StillTactics
import Derived.OrdersIn
import Derived.TacticsIn
import Derived.Lib.Hide
import Derived.Shelf.Abstract
import Derived.Shelf.RegionOpen
import Derived.OwnWalkIn
import Derived.TacticsInMore
import Derived.LoopNIn
import Derived.LoopIn
import Derived.Deep.RegionHeld3
import Derived.Laws.EntriesVeiled
import Derived.FnLit
import Derived.Shelf.GgClosure.StringsRunes
import Derived.Laws.RangeAny
import Derived.Laws.StructEq
import Derived.WalkMore
import Derived.BigQuiet
import Derived.Deep.RegionWith

set_option linter.unusedVariables false
set_option linter.unusedSimpArgs false

/- Plain facts of layer 11: wet and dry space together; nothing at the dip 0; cylinders. No program stands in this text. -/
namespace Go.Proofs.YtgjdopjolokaiaaGreat

theorem tog_both {l : List (Int × Int)} {ps h1 h2 : List Int} {p : Int} {k1 k2 : Nat} (hR : RP l) (hP : PlR l ps) (h : Two64 (bgR l) p h1 h2 k1 k2) (k : Nat) (hk : k < ps.length) :
    339 * (tbL l (bgR l) ps h1 k1 k + tbL l (bgR l) ps h2 k2 k) ≤ 355 * enL l ps k ∧ 333 * enH l ps k ≤ 318 * (tbH l (bgR l) ps h1 k1 k + tbH l (bgR l) ps h2 k2 k) := by
  induction k with
  | zero => simp [tbL, tbH, enL, enH]
  | succ k ih =>
    obtain ⟨i1, i2⟩ := ih (by omega)
    obtain ⟨⟨w0, w1⟩, s0, s1, s2, s3⟩ := hP.slice hR hk
    obtain ⟨r, er⟩ : ∃ r : Nat, (r : Int) = slL l (ps.getD k 0) (ps.getD (k + 1) 0) := ⟨(slL l (ps.getD k 0) (ps.getD (k + 1) 0)).toNat, by omega⟩
    obtain ⟨s, es⟩ : ∃ s : Nat, (s : Int) = slH l (ps.getD k 0) (ps.getD (k + 1) 0) := ⟨(slH l (ps.getD k 0) (ps.getD (k + 1) 0)).toNat, by omega⟩
    have t1 := two_low (R := r) (by omega) h
    have t2 := two_high (R := s) (by omega) h
    have m1 := Int.mul_le_mul_of_nonneg_left t1 (show 0 ≤ ps.getD (k + 1) 0 - ps.getD k 0 by omega)
    have m2 := Int.mul_le_mul_of_nonneg_left t2 (show 0 ≤ ps.getD (k + 1) 0 - ps.getD k 0 by omega)
    unfold tbL tbH enL enH
    rw [← er, ← es]
    rw [Int.mul_left_comm, Int.mul_add, Int.mul_left_comm _ 355] at m1
    rw [Int.mul_left_comm, Int.mul_left_comm _ 106, Int.mul_add] at m2
    omega
theorem tog_full {l : List (Int × Int)} {ps h1 h2 : List Int} {p : Int} {k1 k2 : Nat} (hR : RP l) (hP : PlR l ps) (h : Two64 (bgR l) p h1 h2 k1 k2) :
    tbL l (bgR l) ps h1 k1 (ps.length - 1) + tbL l (bgR l) ps h2 k2 (ps.length - 1) ≤ cbH (frS l) ∧ cbL (frS l) ≤ tbH l (bgR l) ps h1 k1 (ps.length - 1) + tbH l (bgR l) ps h2 k2 (ps.length - 1) := by
  obtain ⟨a, b⟩ := tog_both hR hP h (ps.length - 1) (by have := hP.n0; omega)
  obtain ⟨c, d⟩ := en_whole hR hP
  unfold cbL cbH
  omega
/-- heights of a dip and those above it -/
def hd (dip top : Int) (n : Nat) : List Int := (hs (top - dip) n).map (· + dip)
theorem hd_get (dip top : Int) (n i : Nat) (h : i ≤ n) : (hd dip top n).getD i 0 = (i : Int) * (top - dip) / n + dip := by
  unfold hd
  rw [List.getD_eq_getElem?_getD, List.getElem?_map]
  have e := hs_get (top - dip) n i h
  rw [List.getD_eq_getElem?_getD] at e
  rw [List.getElem?_eq_getElem (by rw [hs_len]; omega)] at e ⊢
  simp only [Option.map_some, Option.getD_some] at e ⊢
  rw [e]
theorem hd_len (dip top : Int) (n : Nat) : (hd dip top n).length = n + 1 := by unfold hd; rw [List.length_map, hs_len]
theorem div64 {t : Int} {n : Nat} (h0 : 0 ≤ t) (hn : 1 ≤ n) (hn2 : n ≤ 64) : t / 64 ≤ t / n := by
  apply Int.le_ediv_of_mul_le (by omega)
  have m := Int.mul_le_mul_of_nonneg_left (show (n : Int) ≤ 64 by omega) (show 0 ≤ t / 64 by omega)
  omega
theorem wet_dry {c p : Int} {n : Nat} (p0 : 0 ≤ p) (p1 : p ≤ 2 * c) (hn : 1 ≤ n) (hn2 : n ≤ 64) : Two64 c p (hs p n) (hd p (2 * c) n) n n := by
  refine ⟨p0, p1, ?_, ?_, ?_, ?_, fun i hi => ?_, fun i hi => ?_⟩
  · rw [hs_get _ _ _ (by omega)]; simp
  · rw [hs_get _ _ _ (by omega)]; exact Int.mul_ediv_cancel_left _ (by omega)
  · rw [hd_get _ _ _ _ (by omega)]; simp
  · rw [hd_get _ _ _ _ (by omega), Int.mul_ediv_cancel_left _ (by omega)]; omega
  · have w := hs_wide p n i hn hi
    have d := div64 p0 hn hn2
    have z : 0 ≤ p / n := Int.ediv_nonneg p0 (by omega)
    omega
  · have w := hs_wide (2 * c - p) n i hn hi
    have d := div64 (t := 2 * c - p) (by omega) hn hn2
    have z : 0 ≤ (2 * c - p) / n := Int.ediv_nonneg (by omega) (by omega)
    rw [hs_get _ _ _ (by omega), hs_get _ _ _ (by omega)] at w
    rw [hd_get _ _ _ _ (by omega), hd_get _ _ _ _ (by omega)]
    omega
theorem hd_right {c p : Int} {n : Nat} (p0 : 0 ≤ p) (p1 : p ≤ 2 * c) (c1 : c ≤ 100000) (hn : 1 ≤ n) (hn2 : n ≤ 64) : HR (hd p (2 * c) n) := by
  have a := hs_right (2 * c - p) n hn hn2 (by omega) (by omega)
  have lo : ∀ i, i ≤ n → 0 ≤ (i : Int) * (2 * c - p) / n ∧ (i : Int) * (2 * c - p) / n ≤ 2 * c - p := fun i hi => by
    constructor
    · exact Int.ediv_nonneg (Int.mul_nonneg (by omega) (by omega)) (by omega)
    · apply Int.ediv_le_of_le_mul (by omega)
      rw [Int.mul_comm (2 * c - p)]
      exact Int.mul_le_mul_of_nonneg_right (by omega) (by omega)
  refine ⟨by rw [hd_len]; omega, by rw [hd_len]; omega, fun i hi => ?_, fun i hi => ?_⟩
  · rw [hd_len] at hi
    rw [hd_get _ _ _ _ (by omega)]
    have := lo i (by omega)
    omega
  · rw [hd_len] at hi
    have := a.asc i (by rw [hs_len]; omega)
    rw [hs_get _ _ _ (by omega), hs_get _ _ _ (by omega)] at this
    rw [hd_get _ _ _ _ (by omega), hd_get _ _ _ _ (by omega)]
    omega
/-- heights that are all the same -/
theorem pr_flat {r c a : Int} {hs : List Int} (k : Nat) (h : ∀ i, i ≤ k → hs.getD i 0 = a) : prL r c hs k = 0 ∧ prH r c hs k = 0 := by
  induction k with
  | zero => simp [prL, prH]
  | succ k ih =>
    obtain ⟨e1, e2⟩ := ih (fun i hi => h i (by omega))
    unfold prL prH ofL ofH
    rw [e1, e2, h k (by omega), h (k + 1) (by omega)]
    simp
theorem tb_flat {l : List (Int × Int)} {c a : Int} {ps hs : List Int} (j : Nat) (h : ∀ i, i ≤ j → hs.getD i 0 = a) (k : Nat) : tbL l c ps hs j k = 0 ∧ tbH l c ps hs j k = 0 := by
  induction k with
  | zero => simp [tbL, tbH]
  | succ k ih =>
    unfold tbL tbH
    rw [ih.1, ih.2, (pr_flat j h).1, (pr_flat j h).2]
    simp
theorem hs_zero (n i : Nat) (h : i ≤ n) : (hs 0 n).getD i 0 = 0 := by rw [hs_get _ _ _ h]; simp
/-- a cylinder -/
theorem rd_cyl {X r x : Int} (hX : 0 < X ∧ X ≤ 100000) (hr : 1 ≤ r ∧ r ≤ 100000) (x0 : 0 ≤ x) (x1 : x ≤ X) (hR : RP [(0, r), (X, r)]) : rdL [(0, r), (X, r)] x = r ∧ rdH [(0, r), (X, r)] x = r := by
  obtain ⟨e1, e2⟩ := rd_piece hR (k := 0) (by simp) (x := x) x0 x1
  have e : ∀ y, lnN 0 r X r y = r * (X - 0) := fun y => by unfold lnN; simp
  have g : gX [(0, r), (X, r)] 0 = 0 ∧ gX [(0, r), (X, r)] (0 + 1) = X ∧ gR [(0, r), (X, r)] 0 = r ∧ gR [(0, r), (X, r)] (0 + 1) = r := ⟨rfl, rfl, rfl, rfl⟩
  rw [g.1, g.2.1, g.2.2.1, g.2.2.2] at e1 e2
  rw [e1, e2]
  unfold lnL lnH
  rw [e, fl_int _ _ (by omega), cl_int _ _ (by omega)]
  exact ⟨rfl, rfl⟩
theorem tb_cyl {X r : Int} {ps hs : List Int} {c : Int} (hX : 0 < X ∧ X ≤ 100000) (hr : 1 ≤ r ∧ r ≤ 100000) (hR : RP [(0, r), (X, r)]) (hP : PlR [(0, r), (X, r)] ps) (j k : Nat) (hk : k < ps.length) :
    tbL [(0, r), (X, r)] c ps hs j k = ps.getD k 0 * prL r c hs j ∧ tbH [(0, r), (X, r)] c ps hs j k = ps.getD k 0 * prH r c hs j := by
  induction k with
  | zero => rw [hP.z]; simp [tbL, tbH]
  | succ k ih =>
    obtain ⟨e1, e2⟩ := ih (by omega)
    have b0 := hP.bd (show k < ps.length by omega)
    have b1 := hP.bd hk
    have gl : gX [(0, r), (X, r)] ([(0, r), (X, r)].length - 1) = X := rfl
    rw [gl] at b0 b1
    obtain ⟨u1, u2⟩ := rd_cyl hX hr b0.1 b0.2 hR
    obtain ⟨v1, v2⟩ := rd_cyl hX hr b1.1 b1.2 hR
    unfold tbL tbH slL slH
    rw [u1, u2, v1, v2, e1, e2, show min r r = r by omega, show max r r = r by omega, ← Int.add_mul, ← Int.add_mul, show ps.getD k 0 + (ps.getD (k + 1) 0 - ps.getD k 0) = ps.getD (k + 1) 0 by omega]
    exact ⟨rfl, rfl⟩
end Go.Proofs.YtgjdopjolokaiaaGreat

/- The reference of layer 11: Wet. -/
namespace Go.Proofs.YtgjdopjolokaiaaGreat
open Go.RowKit

/-- what Wet and Dry report -/
def wtE (c : Ck) (dip m n : Int) : Int := if liSE c = 0 then (if dip < 0 ∨ 2 * brQ c < dip ∨ m < 1 ∨ 64 < m ∨ n < 1 ∨ 64 < n then 2 else slE c.pf m) else liSE c
def wtP (c : Ck) (dip m n : Int) : List Int := if wtE c dip m n = 0 then slP c.pf m else []
theorem rlyWt_bad (nm : ByteArray) (cps dc E dip m n : Int) (a : Option Addr) (k cap : Nat) (w : World) (e1 : (E == 0) = false) (e2 : (E != 0) = true)
    (H1 : Hid (∀ W, Below w.heap.size w W → Calls Tryz.prog 57 #[.agg #[.string nm, .int .i64 cps, .slice a k cap, .int .i64 dc]] W fun e w' => e = .returned (.int .i64 E) ∧ Below W.heap.size W w')) :
    Calls Tryz.prog 33 #[.agg #[.string nm, .int .i64 cps, .slice a k cap, .int .i64 dc], .int .i64 dip, .int .i64 m, .int .i64 n] w fun e w' => e = .returned (.tuple #[.slice none 0 0, .int .i64 E]) ∧ Below w.heap.size w w' := by
  go_enter Tryz.func33, Tryz.ntmps33
  go_wp2_with fail
  refine (H1.out _ (bel_alloc (Below.refl _ _))).mono ?_
  rintro e w1 ⟨rfl, gg⟩
  have X1 := Lib.hid (bel_alloc gg); clear gg
  go_wp2
  go_returns
  exact ⟨rfl, X1.out⟩
set_option maxHeartbeats 8000000 in
theorem rlyWt_range (nm : ByteArray) (cps dc r dip m n : Int) (a : Option Addr) (k cap : Nat) (w : World) (r0 : 0 ≤ r) (r1 : r ≤ 100000)
    (h : dip < 0 ∨ (0 ≤ dip ∧ 2 * r < dip) ∨ (0 ≤ dip ∧ dip ≤ 2 * r ∧ m < 1) ∨ (0 ≤ dip ∧ dip ≤ 2 * r ∧ 1 ≤ m ∧ 64 < m) ∨ (0 ≤ dip ∧ dip ≤ 2 * r ∧ 1 ≤ m ∧ m ≤ 64 ∧ n < 1) ∨ (0 ≤ dip ∧ dip ≤ 2 * r ∧ 1 ≤ m ∧ m ≤ 64 ∧ 1 ≤ n ∧ 64 < n))
    (H1 : Hid (∀ W, Below w.heap.size w W → Calls Tryz.prog 57 #[.agg #[.string nm, .int .i64 cps, .slice a k cap, .int .i64 dc]] W fun e w' => e = .returned (.int .i64 0) ∧ Below W.heap.size W w'))
    (H2 : Hid (∀ W, Below w.heap.size w W → Calls Tryz.prog 35 #[.agg #[.string nm, .int .i64 cps, .slice a k cap, .int .i64 dc]] W fun e w' => e = .returned (.int .i64 r) ∧ Below W.heap.size W w')) :
    Calls Tryz.prog 33 #[.agg #[.string nm, .int .i64 cps, .slice a k cap, .int .i64 dc], .int .i64 dip, .int .i64 m, .int .i64 n] w fun e w' => e = .returned (.tuple #[.slice none 0 0, .int .i64 2]) ∧ Below w.heap.size w w' := by
  have w2 : IntKind.i64.wrap (2 * r) = 2 * r := wrap_in _ ⟨by omega, by omega⟩
  have F0 := Lib.hid (Quad.new w (.string nm) (.int .i64 cps) (.slice a k cap) (.int .i64 dc) 24)
  rcases h with h | ⟨h0, h⟩ | ⟨h0, h1, h⟩ | ⟨h0, h1, h2, h⟩ | ⟨h0, h1, h2, h3, h⟩ | ⟨h0, h1, h2, h3, h4, h⟩
  · go_enter Tryz.func33, Tryz.ntmps33
    go_wp2_with fail
    refine (H1.out _ (bel_alloc (Below.refl _ _))).mono ?_
    rintro e w1 ⟨rfl, gg⟩
    have X1 := Lib.hid (bel_alloc gg); clear gg
    go_wp2
    go_returns
    exact ⟨rfl, X1.out⟩
  all_goals
    go_enter Tryz.func33, Tryz.ntmps33
    go_wp2_with fail
    refine (H1.out _ (bel_alloc (Below.refl _ _))).mono ?_
    rintro e w1 ⟨rfl, gg⟩
    replace F0 := Lib.hid (F0.out.below gg)
    have X1 := Lib.hid (bel_alloc gg); clear gg
    obtain ⟨y0, y1, y2, y3, _, _⟩ := F0.out
    go_wp2_with fail
    refine (H2.out _ X1.out).mono ?_
    rintro e w2 ⟨rfl, gg⟩
    replace X1 := Lib.hid (bel_trans X1.out gg); clear gg y0 y1 y2 y3
    go_wp2
    go_returns
    exact ⟨rfl, X1.out⟩
theorem rlyWt_ok (nm : ByteArray) (cps dc r dip m n E : Int) (a : Option Addr) (k cap : Nat) (ps : List Int) (w : World) (r0 : 0 ≤ r) (r1 : r ≤ 100000) (h0 : 0 ≤ dip) (h1 : dip ≤ 2 * r) (h2 : 1 ≤ m) (h3 : m ≤ 64) (h4 : 1 ≤ n) (h5 : n ≤ 64)
    (H1 : Hid (∀ W, Below w.heap.size w W → Calls Tryz.prog 57 #[.agg #[.string nm, .int .i64 cps, .slice a k cap, .int .i64 dc]] W fun e w' => e = .returned (.int .i64 0) ∧ Below W.heap.size W w'))
    (H2 : Hid (∀ W, Below w.heap.size w W → Calls Tryz.prog 35 #[.agg #[.string nm, .int .i64 cps, .slice a k cap, .int .i64 dc]] W fun e w' => e = .returned (.int .i64 r) ∧ Below W.heap.size W w'))
    (H3 : Hid (∀ W, Below w.heap.size w W → Calls Tryz.prog 58 #[.slice a k cap, .int .i64 m] W fun e w' => ∃ u, e = .returned (.tuple #[u, .int .i64 E]) ∧ Nums w' u ps ∧ Below W.heap.size W w')) :
    Calls Tryz.prog 33 #[.agg #[.string nm, .int .i64 cps, .slice a k cap, .int .i64 dc], .int .i64 dip, .int .i64 m, .int .i64 n] w fun e w' => ∃ u, e = .returned (.tuple #[u, .int .i64 E]) ∧ Nums w' u ps ∧ Below w.heap.size w w' := by
  have w2 : IntKind.i64.wrap (2 * r) = 2 * r := wrap_in _ ⟨by omega, by omega⟩
  have F0 := Lib.hid (Quad.new w (.string nm) (.int .i64 cps) (.slice a k cap) (.int .i64 dc) 24)
  go_enter Tryz.func33, Tryz.ntmps33
  go_wp2_with fail
  refine (H1.out _ (bel_alloc (Below.refl _ _))).mono ?_
  rintro e w1 ⟨rfl, gg⟩
  replace F0 := Lib.hid (F0.out.below gg)
  have X1 := Lib.hid (bel_alloc gg); clear gg
  obtain ⟨y0, y1, y2, y3, _, _⟩ := F0.out
  go_wp2_with fail
  refine (H2.out _ X1.out).mono ?_
  rintro e w2 ⟨rfl, gg⟩
  replace F0 := Lib.hid (F0.out.below gg)
  replace X1 := Lib.hid (bel_trans X1.out gg); clear gg y0 y1 y2 y3
  obtain ⟨y0, y1, y2, y3, _, _⟩ := F0.out
  go_wp2_with fail
  refine (H3.out _ X1.out).mono ?_
  rintro e w3 ⟨u, rfl, hu, gg⟩
  replace X1 := Lib.hid (bel_trans X1.out gg); clear gg y0 y1 y2 y3
  have HU := Lib.hid hu
  clear hu
  go_wp2
  go_returns
  exact ⟨_, rfl, HU.out, X1.out⟩
theorem rlyWt_any (v : Value) (c : Ck) (dip m n : Int) (w : World) (hv : CkV w v c) :
    Calls Tryz.prog 33 #[v, .int .i64 dip, .int .i64 m, .int .i64 n] w fun e w' => ∃ u, e = .returned (.tuple #[u, .int .i64 (wtE c dip m n)]) ∧ Nums w' u (wtP c dip m n) ∧ Below w.heap.size w w' := by
  have H1 : Hid (∀ W, Below w.heap.size w W → _) := Lib.hid fun W hW => rlyIs_any v c W (hv.below hW)
  have nn : ∀ W, Nums W (.slice none 0 0) [] := fun W => ⟨none, 0, rfl, by simp, .inl rfl⟩
  by_cases h : liSE c = 0
  · obtain ⟨h1, h2⟩ := liSE_zero.1 h
    obtain ⟨_, _, _, hR⟩ := ccE_pf h1
    have H2 : Hid (∀ W, Below w.heap.size w W → _) := Lib.hid fun W hW => refRad_any v c W (hv.below hW) h1
    have hl : bg c.pf c.pf.length < c.pf.length := by have := bg_lt c.pf c.pf.length; have := hR.n0; omega
    have br : 1 ≤ brQ c ∧ brQ c ≤ 100000 := hR.br _ hl
    rw [h] at H1
    by_cases g : dip < 0 ∨ 2 * brQ c < dip ∨ m < 1 ∨ 64 < m ∨ n < 1 ∨ 64 < n
    · have e1 : wtE c dip m n = 2 := by unfold wtE; rw [if_pos h, if_pos g]
      have e2 : wtP c dip m n = [] := by unfold wtP; rw [if_neg (by rw [e1]; decide)]
      rw [e1, e2]
      obtain ⟨a, cap, rfl, _⟩ := hv
      exact (rlyWt_range _ _ _ (brQ c) dip m n a _ cap w (by omega) br.2 (by omega) H1 H2).mono fun e w' ⟨g1, g2⟩ => ⟨_, g1, nn _, g2⟩
    · have e1 : wtE c dip m n = slE c.pf m := by unfold wtE; rw [if_pos h, if_neg g]
      have e2 : wtP c dip m n = slP c.pf m := by
        unfold wtP
        rw [e1]
        by_cases q : slE c.pf m = 0
        · rw [if_pos q]
        · rw [if_neg q]; unfold slP; rw [if_neg q]
      rw [e1, e2]
      have hv' := hv
      obtain ⟨a, cap, rfl, hp, _⟩ := hv'
      exact rlyWt_ok _ _ _ (brQ c) dip m n _ a _ cap _ w (by omega) br.2 (by omega) (by omega) (by omega) (by omega) (by omega) (by omega) H1 H2 (Lib.hid fun W hW => rlySl_any _ c.pf m W (hp.below hW))
  · have e1 : wtE c dip m n = liSE c := by unfold wtE; rw [if_neg h]
    have e2 : wtP c dip m n = [] := by unfold wtP; rw [if_neg (by rw [e1]; exact h)]
    rw [e1, e2]
    obtain ⟨a, cap, rfl, _⟩ := hv
    exact (rlyWt_bad _ _ _ _ dip m n a _ cap w (by simpa using h) (by simpa using h) H1).mono fun e w' ⟨g1, g2⟩ => ⟨_, g1, nn _, g2⟩
end Go.Proofs.YtgjdopjolokaiaaGreat

/- The reference of layer 11: Wet as a whole. -/
namespace Go.Proofs.YtgjdopjolokaiaaGreat
open Go.RowKit

theorem wtE_zero {c : Ck} {dip m n : Int} (h : wtE c dip m n = 0) : (ccE c = 0 ∧ c.ps = 1) ∧ (0 ≤ dip ∧ dip ≤ 2 * bgR c.pf) ∧ (1 ≤ m ∧ m ≤ 64) ∧ (1 ≤ n ∧ n ≤ 64) ∧ wtP c dip m n = plO c.pf m.toNat (c.pf.length - 1) ∧ PlR c.pf (wtP c dip m n) ∧ (wtP c dip m n).length ≤ 65 := by
  have h' := h
  unfold wtE at h
  split at h
  · rename_i g
    split at h
    · omega
    · rename_i g2
      obtain ⟨h1, h2⟩ := liSE_zero.1 g
      obtain ⟨_, _, _, hR⟩ := ccE_pf h1
      have e : wtP c dip m n = plO c.pf m.toNat (c.pf.length - 1) := by
        unfold wtP; rw [if_pos h']; unfold slP; rw [if_pos h]
      have len : (plO c.pf m.toNat (c.pf.length - 1)).length ≤ 65 := by
        unfold slE at h
        split at h
        · split at h
          · omega
          · split at h
            · omega
            · omega
        · omega
      have b : brQ c = bgR c.pf := rfl
      refine ⟨⟨h1, h2⟩, by omega, by omega, by omega, e, ?_, by rw [e]; exact len⟩
      rw [e]
      exact plO_right hR (by omega) (by omega)
  · contradiction
noncomputable def wtL (c : Ck) (dip m n : Int) : Int := if wtE c dip m n = 0 then tbL c.pf (bgR c.pf) (wtP c dip m n) (hs dip n.toNat) n.toNat ((wtP c dip m n).length - 1) else 0
noncomputable def wtH (c : Ck) (dip m n : Int) : Int := if wtE c dip m n = 0 then tbH c.pf (bgR c.pf) (wtP c dip m n) (hs dip n.toNat) n.toNat ((wtP c dip m n).length - 1) else 0
theorem rlyWet_bad (f : Nat) (nm : ByteArray) (cps dc E dip m n : Int) (a : Option Addr) (k cap : Nat) (ps : List Int) (w : World) (e1 : (E == 0) = false) (e2 : (E != 0) = true)
    (H1 : Hid (∀ W, Below w.heap.size w W → Calls Tryz.prog 33 #[.agg #[.string nm, .int .i64 cps, .slice a k cap, .int .i64 dc], .int .i64 dip, .int .i64 m, .int .i64 n] W fun e w' => ∃ u, e = .returned (.tuple #[u, .int .i64 E]) ∧ Nums w' u ps ∧ Below W.heap.size W w')) :
    Calls Tryz.prog 15 #[.agg #[.string nm, .int .i64 cps, .slice a k cap, .int .i64 dc], .int .i64 dip, .int .i64 m, .int .i64 n] w fun e w' => e = .returned (.tuple #[.agg #[.int .i64 0, .int .i64 0], .int .i64 E]) ∧ Below w.heap.size w w' := by
  have T0 := Lib.hid (Two.new (w.alloc (.cells #[.string nm, .int .i64 cps, .slice a k cap, .int .i64 dc] 24)) (.int .i64 0) (.int .i64 0) 29)
  rw [World.size_alloc] at T0
  go_enter Tryz.func15, Tryz.ntmps15
  go_wp2_with fail
  refine (H1.out _ (bel_alloc (bel_alloc (Below.refl _ _)))).mono ?_
  rintro e w1 ⟨u, rfl, hu, gg⟩
  clear hu
  replace T0 := Lib.hid (T0.out.below gg)
  have X1 := Lib.hid (bel_alloc (bel_alloc gg)); clear gg
  obtain ⟨r0, r1, rf0, rf1, _⟩ := T0.out
  go_wp2
  obtain ⟨t0, t1⟩ := two_read w1 (w.heap.size + 1) (.int .i64 0) (.int .i64 0) r0 r1
  refine bodyPost_ret (v := .tuple #[.agg #[.int .i64 0, .int .i64 0], .int .i64 E]) (by simp [results, Tryz.results15, go_sem, t0, t1]) rfl ?_
  exact ⟨rfl, (X1.out.setCell (Nat.le_succ _) _).setCell (Nat.le_succ _) _⟩
theorem rlyWet_ok (nm : ByteArray) (cps dc F dip m n L H : Int) (a : Option Addr) (k cap : Nat) (ps zs : List Int) (w : World)
    (H1 : Hid (∀ W, Below w.heap.size w W → Calls Tryz.prog 33 #[.agg #[.string nm, .int .i64 cps, .slice a k cap, .int .i64 dc], .int .i64 dip, .int .i64 m, .int .i64 n] W fun e w' => ∃ u, e = .returned (.tuple #[u, .int .i64 0]) ∧ Nums w' u ps ∧ Below W.heap.size W w'))
    (H2 : Hid (∀ W, Calls Tryz.prog 34 #[.int .i64 dip, .int .i64 n] W fun e w' => ∃ u, e = .returned (.tuple #[u, .int .i64 F]) ∧ Nums w' u zs ∧ Below W.heap.size W w'))
    (H3 : Hid (∀ u h W, Below w.heap.size w W → Nums W u ps → Nums W h zs → Calls Tryz.prog 29 #[.agg #[.string nm, .int .i64 cps, .slice a k cap, .int .i64 dc], u, h] W fun e w' => e = .returned (.agg #[.int .i64 L, .int .i64 H]) ∧ Below W.heap.size W w')) :
    Calls Tryz.prog 15 #[.agg #[.string nm, .int .i64 cps, .slice a k cap, .int .i64 dc], .int .i64 dip, .int .i64 m, .int .i64 n] w fun e w' => e = .returned (.tuple #[.agg #[.int .i64 L, .int .i64 H], .int .i64 0]) ∧ Below w.heap.size w w' := by
  have F0 := Lib.hid ((Quad.new w (.string nm) (.int .i64 cps) (.slice a k cap) (.int .i64 dc) 24).alloc (.cells #[.int .i64 0, .int .i64 0] 29))
  have T0 := Lib.hid (Two.new (w.alloc (.cells #[.string nm, .int .i64 cps, .slice a k cap, .int .i64 dc] 24)) (.int .i64 0) (.int .i64 0) 29)
  rw [World.size_alloc] at T0
  go_enter Tryz.func15, Tryz.ntmps15
  go_wp2_with fail
  refine (H1.out _ (bel_alloc (bel_alloc (Below.refl _ _)))).mono ?_
  rintro e w1 ⟨u, rfl, hu, gg⟩
  have HU := Lib.hid hu
  clear hu
  replace T0 := Lib.hid (T0.out.below gg)
  replace F0 := Lib.hid (F0.out.below gg)
  have X1 := Lib.hid (bel_alloc (bel_alloc gg)); clear gg
  go_wp2_with fail
  refine (H2.out _).mono ?_
  rintro e w2 ⟨h, rfl, hh, gg⟩
  have HH := Lib.hid hh
  clear hh
  replace T0 := Lib.hid (T0.out.below gg)
  replace F0 := Lib.hid (F0.out.below gg)
  replace HU := Lib.hid (HU.out.below gg)
  replace X1 := Lib.hid (bel_trans X1.out gg); clear gg
  obtain ⟨y0, y1, y2, y3, _, _⟩ := F0.out
  go_wp2_with fail
  refine (H3.out _ _ _ X1.out HU.out HH.out).mono ?_
  rintro e w3 ⟨rfl, gg⟩
  replace T0 := Lib.hid (T0.out.below gg)
  replace X1 := Lib.hid (bel_trans X1.out gg); clear gg y0 y1 y2 y3
  obtain ⟨r0, r1, rf0, rf1, _⟩ := T0.out
  go_wp2
  obtain ⟨t0, t1⟩ := two_read w3 (w.heap.size + 1) (.int .i64 L) (.int .i64 H) r0 r1
  refine bodyPost_ret (v := .tuple #[.agg #[.int .i64 L, .int .i64 H], .int .i64 0]) (by simp [results, Tryz.results15, go_sem, t0, t1]) rfl ?_
  exact ⟨rfl, (X1.out.setCell (Nat.le_succ _) _).setCell (Nat.le_succ _) _⟩
theorem rlyWet_any (v : Value) (c : Ck) (dip m n : Int) (w : World) (hv : CkV w v c) :
    Calls Tryz.prog 15 #[v, .int .i64 dip, .int .i64 m, .int .i64 n] w fun e w' => e = .returned (.tuple #[.agg #[.int .i64 (wtL c dip m n), .int .i64 (wtH c dip m n)], .int .i64 (wtE c dip m n)]) ∧ Below w.heap.size w w' := by
  have H1 : Hid (∀ W, Below w.heap.size w W → _) := Lib.hid fun W hW => rlyWt_any v c dip m n W (hv.below hW)
  unfold wtL wtH
  by_cases g : wtE c dip m n = 0
  · obtain ⟨⟨h1, h2⟩, h3, h4, h5, _, h6, h7⟩ := wtE_zero g
    obtain ⟨_, _, _, hR⟩ := ccE_pf h1
    have hl : bg c.pf c.pf.length < c.pf.length := by have := bg_lt c.pf c.pf.length; have := hR.n0; omega
    have br : bgR c.pf ≤ 100000 := (hR.br _ hl).2
    rw [if_pos g, if_pos g, g]
    rw [g] at H1
    have hH := hs_right dip n.toNat (by omega) (by omega) h3.1 (by omega)
    have H2 : Hid (∀ W, _) := Lib.hid fun W => refHts_any dip n W
    have eh : heL dip n = hs dip n.toNat := by unfold heL heB; rw [if_pos (by simp; omega)]
    rw [eh] at H2
    have ln := hs_len dip n.toNat
    have H3 : Hid (∀ u h W, Below w.heap.size w W → Nums W u (wtP c dip m n) → Nums W h (hs dip n.toNat) → _) := Lib.hid fun u h W hW hu hh => rlyBt_any v u h c _ _ W (hv.below hW) hu hh h1 h6 h7 hH
    rw [ln, Nat.add_sub_cancel] at H3
    have hv' := hv
    obtain ⟨a, cap, rfl, _⟩ := hv'
    exact rlyWet_ok _ _ _ _ dip m n _ _ a _ cap _ _ w H1 H2 H3
  · rw [if_neg g, if_neg g]
    obtain ⟨a, cap, rfl, _⟩ := hv
    exact rlyWet_bad 0 _ _ _ _ dip m n a _ cap _ w (by simpa using g) (by simpa using g) H1
end Go.Proofs.YtgjdopjolokaiaaGreat

/- The reference of layer 11: Dry. -/
namespace Go.Proofs.YtgjdopjolokaiaaGreat
open Go.RowKit

theorem OwnI.put {w : World} {B g n cap : Nat} {zs : List Int} (h : OwnI w B (.slice (some ⟨g, 0, none⟩) n cap) zs) (j : Nat) (x : Int) : OwnI (w.setCell ⟨g, j, none⟩ (.int .i64 x)) B (.slice (some ⟨g, 0, none⟩) n cap) (zs.set j x) := by
  have hl : n = zs.length := by
    obtain ⟨a, c, e, _⟩ := h.nums
    simp only [Value.slice.injEq] at e
    exact e.2.1
  subst hl
  unfold OwnI
  rw [List.length_set, List.map_set]
  exact (World.ownsRow.stored h j (.int .i64 x)).1
/-- heights of which the first i have been raised -/
def mxd (zs : List Int) (d : Int) (i : Nat) : List Int := (zs.take i).map (· + d) ++ zs.drop i
theorem mxd_len (zs : List Int) (d : Int) (i : Nat) (h : i ≤ zs.length) : (mxd zs d i).length = zs.length := by
  unfold mxd; rw [List.length_append, List.length_map, List.length_take, List.length_drop]; omega
theorem mxd_at (zs : List Int) (d : Int) (i : Nat) (h : i < zs.length) : (mxd zs d i).getD i 0 = zs.getD i 0 := by
  unfold mxd
  rw [List.getD_eq_getElem?_getD, List.getElem?_append_right (by rw [List.length_map, List.length_take]; omega), List.length_map, List.length_take, List.getElem?_drop, show i + (i - min i zs.length) = i by omega, ← List.getD_eq_getElem?_getD]
theorem mxd_next (zs : List Int) (d : Int) (i : Nat) (h : i < zs.length) : (mxd zs d i).set i (zs.getD i 0 + d) = mxd zs d (i + 1) := by
  unfold mxd
  have lt : ((zs.take i).map (· + d)).length = i := by rw [List.length_map, List.length_take]; omega
  rw [List.set_append_right _ _ (by omega), lt, Nat.sub_self, List.take_succ_eq_append_getElem h, List.map_append, List.append_assoc]
  congr 1
  rw [List.drop_eq_getElem_cons h, List.set_cons_zero, List.getD_eq_getElem?_getD, List.getElem?_eq_getElem h]
  rfl
theorem mxd_zero (zs : List Int) (d : Int) : mxd zs d 0 = zs := by unfold mxd; simp
theorem mxd_all (zs : List Int) (d : Int) : mxd zs d zs.length = zs.map (· + d) := by unfold mxd; simp
noncomputable def dyL (c : Ck) (dip m n : Int) : Int := if wtE c dip m n = 0 then tbL c.pf (bgR c.pf) (wtP c dip m n) (hd dip (2 * bgR c.pf) n.toNat) n.toNat ((wtP c dip m n).length - 1) else 0
noncomputable def dyH (c : Ck) (dip m n : Int) : Int := if wtE c dip m n = 0 then tbH c.pf (bgR c.pf) (wtP c dip m n) (hd dip (2 * bgR c.pf) n.toNat) n.toNat ((wtP c dip m n).length - 1) else 0
theorem rlyDry_bad (nm : ByteArray) (cps dc E dip m n : Int) (a : Option Addr) (k cap : Nat) (ps : List Int) (w : World) (e1 : (E == 0) = false) (e2 : (E != 0) = true)
    (H1 : Hid (∀ W, Below w.heap.size w W → Calls Tryz.prog 33 #[.agg #[.string nm, .int .i64 cps, .slice a k cap, .int .i64 dc], .int .i64 dip, .int .i64 m, .int .i64 n] W fun e w' => ∃ u, e = .returned (.tuple #[u, .int .i64 E]) ∧ Nums w' u ps ∧ Below W.heap.size W w')) :
    Calls Tryz.prog 17 #[.agg #[.string nm, .int .i64 cps, .slice a k cap, .int .i64 dc], .int .i64 dip, .int .i64 m, .int .i64 n] w fun e w' => e = .returned (.tuple #[.agg #[.int .i64 0, .int .i64 0], .int .i64 E]) ∧ Below w.heap.size w w' := by
  have T0 := Lib.hid (Two.new (w.alloc (.cells #[.string nm, .int .i64 cps, .slice a k cap, .int .i64 dc] 24)) (.int .i64 0) (.int .i64 0) 29)
  rw [World.size_alloc] at T0
  go_enter Tryz.func17, Tryz.ntmps17
  go_wp2_with fail
  refine (H1.out _ (bel_alloc (bel_alloc (Below.refl _ _)))).mono ?_
  rintro e w1 ⟨u, rfl, hu, gg⟩
  clear hu
  replace T0 := Lib.hid (T0.out.below gg)
  have X1 := Lib.hid (bel_alloc (bel_alloc gg)); clear gg
  obtain ⟨r0, r1, rf0, rf1, _⟩ := T0.out
  go_wp2
  obtain ⟨t0, t1⟩ := two_read w1 (w.heap.size + 1) (.int .i64 0) (.int .i64 0) r0 r1
  refine bodyPost_ret (v := .tuple #[.agg #[.int .i64 0, .int .i64 0], .int .i64 E]) (by simp [results, Tryz.results17, go_sem, t0, t1]) rfl ?_
  exact ⟨rfl, (X1.out.setCell (Nat.le_succ _) _).setCell (Nat.le_succ _) _⟩
set_option maxRecDepth 100000 in
set_option maxHeartbeats 8000000 in
theorem rlyDry_ok (nm : ByteArray) (cps dc r dip m L H : Int) (n : Nat) (a : Option Addr) (k cap : Nat) (ps : List Int) (w : World) (r0 : 1 ≤ r) (r1 : r ≤ 100000) (d0 : 0 ≤ dip) (d1 : dip ≤ 2 * r) (n0 : 1 ≤ n) (n1 : n ≤ 64)
    (H1 : Hid (∀ W, Below w.heap.size w W → Calls Tryz.prog 33 #[.agg #[.string nm, .int .i64 cps, .slice a k cap, .int .i64 dc], .int .i64 dip, .int .i64 m, .int .i64 n] W fun e w' => ∃ u, e = .returned (.tuple #[u, .int .i64 0]) ∧ Nums w' u ps ∧ Below W.heap.size W w'))
    (H2 : Hid (∀ W, Below w.heap.size w W → Calls Tryz.prog 35 #[.agg #[.string nm, .int .i64 cps, .slice a k cap, .int .i64 dc]] W fun e w' => e = .returned (.int .i64 r) ∧ Below W.heap.size W w'))
    (H3 : Hid (∀ u h W, Below w.heap.size w W → Nums W u ps → Nums W h (hd dip (2 * r) n) → Calls Tryz.prog 29 #[.agg #[.string nm, .int .i64 cps, .slice a k cap, .int .i64 dc], u, h] W fun e w' => e = .returned (.agg #[.int .i64 L, .int .i64 H]) ∧ Below W.heap.size W w')) :
    Calls Tryz.prog 17 #[.agg #[.string nm, .int .i64 cps, .slice a k cap, .int .i64 dc], .int .i64 dip, .int .i64 m, .int .i64 n] w fun e w' => e = .returned (.tuple #[.agg #[.int .i64 L, .int .i64 H], .int .i64 0]) ∧ Below w.heap.size w w' := by
  have F0 := Lib.hid ((Quad.new w (.string nm) (.int .i64 cps) (.slice a k cap) (.int .i64 dc) 24).alloc (.cells #[.int .i64 0, .int .i64 0] 29))
  have T0 := Lib.hid (Two.new (w.alloc (.cells #[.string nm, .int .i64 cps, .slice a k cap, .int .i64 dc] 24)) (.int .i64 0) (.int .i64 0) 29)
  rw [World.size_alloc] at T0
  have w2r : IntKind.i64.wrap (2 * r) = 2 * r := wrap_in _ ⟨by omega, by omega⟩
  have w2d : IntKind.i64.wrap (2 * r - dip) = 2 * r - dip := wrap_in _ ⟨by omega, by omega⟩
  go_enter Tryz.func17, Tryz.ntmps17
  go_wp2_with fail
  refine (H1.out _ (bel_alloc (bel_alloc (Below.refl _ _)))).mono ?_
  rintro e w1 ⟨u, rfl, hu, gg⟩
  have HU := Lib.hid hu
  clear hu
  replace T0 := Lib.hid (T0.out.below gg)
  replace F0 := Lib.hid (F0.out.below gg)
  have X1 := Lib.hid (bel_alloc (bel_alloc gg)); clear gg
  obtain ⟨y0, y1, y2, y3, _, _⟩ := F0.out
  go_wp2_with fail
  refine (H2.out _ X1.out).mono ?_
  rintro e w2 ⟨rfl, gg⟩
  replace T0 := Lib.hid (T0.out.below gg)
  replace F0 := Lib.hid (F0.out.below gg)
  replace HU := Lib.hid (HU.out.below gg)
  replace X1 := Lib.hid (bel_trans X1.out gg); clear gg y0 y1 y2 y3
  have HT := Lib.hid (refHts_own (2 * r - dip) n w2 (by omega) (by omega) n0 n1)
  go_wp2_with fail
  refine HT.out.mono ?_
  rintro e w3 ⟨h, rfl, hh, gg⟩
  have ln := hs_len (2 * r - dip) n
  have HH : Hid (OwnI w3 w2.heap.size h (hs (2 * r - dip) n)) := Lib.hid (by unfold OwnI; rw [ln]; exact hh)
  have B3 := Lib.hid gg
  clear hh gg HT
  have hb : ∀ i, i < n + 1 → 0 ≤ (hs (2 * r - dip) n).getD i 0 ∧ (hs (2 * r - dip) n).getD i 0 ≤ 200000 := fun i hi => (hs_right (2 * r - dip) n n0 n1 (by omega) (by omega)).bd i (by omega)
  replace hb := Lib.hid hb
  have ed : Hid ((hs (2 * r - dip) n).map (· + dip) = hd dip (2 * r) n) := Lib.hid rfl
  generalize hs (2 * r - dip) n = zs at *
  replace ln := Lib.hid ln
  obtain ⟨g, cp, rfl, hg, hgs, hcp, hcp2, _⟩ := HH.out.form (by rw [ln.out]; omega)
  rw [ln.out] at HH hcp ⊢
  go_wp2_with fail
  go_loopw [14] (fun ii wr => ∃ i : Nat, i ≤ n + 1 ∧ ii = .int .i64 (i : Int) ∧ Hid (OwnI wr w2.heap.size (.slice (some ⟨g, 0, none⟩) (n + 1) cp) (mxd zs dip i)) ∧ Hid (Below w2.heap.size w2 wr)) (fun ii _ => n + 1 - (intOf ii).toNat)
  case atStart => exact ⟨0, by omega, rfl, Lib.hid (by rw [mxd_zero]; exact HH.out), B3⟩
  case round =>
    obtain ⟨i, hi, rfl, hown, hB⟩ := hrel
    by_cases hlt : i < n + 1
    · have zl : i < zs.length := by rw [ln.out]; exact hlt
      have z := hb.out i hlt
      have cx := World.ownsRow.cellAt (g := g) (cap := cp) (show wr.ownsRow w2.heap.size 3 1 (.slice (some ⟨g, 0, none⟩) (n + 1) cp) (n + 1) ((mxd zs dip i).map (Value.int .i64)) by have := hown.out; unfold OwnI at this; rwa [mxd_len zs dip i (by omega), ln.out] at this) i (by omega)
      have fx := World.ownsRow.frozenAt (g := g) (cap := cp) (show wr.ownsRow w2.heap.size 3 1 (.slice (some ⟨g, 0, none⟩) (n + 1) cp) (n + 1) ((mxd zs dip i).map (Value.int .i64)) by have := hown.out; unfold OwnI at this; rwa [mxd_len zs dip i (by omega), ln.out] at this) i
      have cy : wr.cell? ⟨g, i, none⟩ = some (.int .i64 (zs.getD i 0)) := by
        rw [cx, ← mxd_at zs dip i zl, List.getElem?_map, List.getD_eq_getElem?_getD, List.getElem?_eq_getElem (by rw [mxd_len zs dip i (by omega)]; exact zl)]
        rfl
      have nx := Lib.hid (mxd_next zs dip i zl)
      clear cx zl
      generalize zs.getD i 0 = x at *
      have wx : IntKind.i64.wrap (x + dip) = x + dip := wrap_in _ ⟨by omega, by omega⟩
      have SN : Hid (OwnI (wr.setCell ⟨g, i, none⟩ (.int .i64 (x + dip))) w2.heap.size (.slice (some ⟨g, 0, none⟩) (n + 1) cp) (mxd zs dip (i + 1))) := Lib.hid (by rw [← nx.out]; exact hown.out.put i _)
      have SB : Hid (Below w2.heap.size w2 (wr.setCell ⟨g, i, none⟩ (.int .i64 (x + dip)))) := Lib.hid (hB.out.setCell (p := ⟨g, i, none⟩) hg _)
      have l2 : (i : Int) < (n : Int) + 1 := by omega
      go_wp2
      go_roundw
      case rel => exact ⟨i + 1, by omega, by go_num, SN, SB⟩
      case measure => simp [intOf]; omega
    · have hin : i = zs.length := by rw [ln.out]; omega
      have HN : Hid (Nums wr (.slice (some ⟨g, 0, none⟩) (n + 1) cp) (hd dip (2 * r) n)) := Lib.hid (by rw [← ed.out, ← mxd_all, ← hin]; exact hown.out.nums)
      replace T0 := Lib.hid (T0.out.below hB.out)
      replace F0 := Lib.hid (F0.out.below hB.out)
      replace HU := Lib.hid (HU.out.below hB.out)
      replace X1 := Lib.hid (bel_trans X1.out hB.out)
      clear hin
      obtain ⟨y0, y1, y2, y3, _, _⟩ := F0.out
      go_wp2_with fail
      refine (H3.out _ _ _ X1.out HU.out HN.out).mono ?_
      rintro e w4 ⟨rfl, gg⟩
      replace T0 := Lib.hid (T0.out.below gg)
      replace X1 := Lib.hid (bel_trans X1.out gg); clear gg y0 y1 y2 y3
      obtain ⟨q0, q1, qf0, qf1, _⟩ := T0.out
      go_wp2
      obtain ⟨t0, t1⟩ := two_read w4 (w.heap.size + 1) (.int .i64 L) (.int .i64 H) q0 q1
      refine bodyPost_ret (v := .tuple #[.agg #[.int .i64 L, .int .i64 H], .int .i64 0]) (by simp [results, Tryz.results17, go_sem, t0, t1]) rfl ?_
      exact ⟨rfl, (X1.out.setCell (Nat.le_succ _) _).setCell (Nat.le_succ _) _⟩
theorem rlyDry_any (v : Value) (c : Ck) (dip m n : Int) (w : World) (hv : CkV w v c) :
    Calls Tryz.prog 17 #[v, .int .i64 dip, .int .i64 m, .int .i64 n] w fun e w' => e = .returned (.tuple #[.agg #[.int .i64 (dyL c dip m n), .int .i64 (dyH c dip m n)], .int .i64 (wtE c dip m n)]) ∧ Below w.heap.size w w' := by
  have H1 : Hid (∀ W, Below w.heap.size w W → _) := Lib.hid fun W hW => rlyWt_any v c dip m n W (hv.below hW)
  unfold dyL dyH
  by_cases g : wtE c dip m n = 0
  · obtain ⟨⟨h1, h2⟩, h3, h4, h5, _, h6, h7⟩ := wtE_zero g
    obtain ⟨_, _, _, hR⟩ := ccE_pf h1
    have hl : bg c.pf c.pf.length < c.pf.length := by have := bg_lt c.pf c.pf.length; have := hR.n0; omega
    have br : 1 ≤ bgR c.pf ∧ bgR c.pf ≤ 100000 := hR.br _ hl
    rw [if_pos g, if_pos g, g]
    rw [g] at H1
    obtain ⟨t, rfl⟩ : ∃ t : Nat, n = t := ⟨n.toNat, by omega⟩
    rw [Int.toNat_natCast]
    have hH := hd_right (n := t) h3.1 h3.2 br.2 (by omega) (by omega)
    have H2 : Hid (∀ W, Below w.heap.size w W → _) := Lib.hid fun W hW => refRad_any v c W (hv.below hW) h1
    have ln := hd_len dip (2 * bgR c.pf) t
    have H3 : Hid (∀ u h W, Below w.heap.size w W → Nums W u (wtP c dip m t) → Nums W h (hd dip (2 * bgR c.pf) t) → _) := Lib.hid fun u h W hW hu hh => rlyBt_any v u h c _ _ W (hv.below hW) hu hh h1 h6 h7 hH
    rw [ln, Nat.add_sub_cancel] at H3
    have hv' := hv
    obtain ⟨a, cap, rfl, _⟩ := hv'
    exact rlyDry_ok _ _ _ (bgR c.pf) dip m _ _ t a _ cap _ w br.1 br.2 h3.1 h3.2 (by omega) (by omega) H1 H2 H3
  · rw [if_neg g, if_neg g]
    obtain ⟨a, cap, rfl, _⟩ := hv
    exact rlyDry_bad _ _ _ _ dip m n a _ cap _ w (by simpa using g) (by simpa using g) H1
end Go.Proofs.YtgjdopjolokaiaaGreat

/- The reference of layer 10: Sum, Frustums, Bounds, Litres, Space. -/
namespace Go.Proofs.YtgjdopjolokaiaaGreat
open Go.RowKit

theorem mul_bd {p q : Int} (hp : 1 ≤ p ∧ p ≤ 100000) (hq : 1 ≤ q ∧ q ≤ 100000) : 1 ≤ p * q ∧ p * q ≤ 10000000000 := by
  have a := Int.mul_le_mul hp.1 hq.1 (by omega) (by omega)
  have b := Int.mul_le_mul hp.2 hq.2 (by omega) (by omega)
  omega
/-- what Frustums returns -/
def fuQ (l : List (Int × Int)) : Int := if ckE l = 0 then frS l else 0
def spL (l : List (Int × Int)) : Int := if ckE l = 0 then cbL (frS l) else 0
def spH (l : List (Int × Int)) : Int := if ckE l = 0 then cbH (frS l) else 0
end Go.Proofs.YtgjdopjolokaiaaGreat

/- What is kept by blocks that are laid, and by stores elsewhere. -/
namespace Go.Proofs.YtgjdopjolokaiaaGreat
open Go.RowKit

theorem bA {w Y : World} (h : Below w.heap.size w Y) (o : Obj) : Below w.heap.size w (Y.alloc o) := h.alloc h.size o
theorem bS {w Y : World} (g i : Nat) (v : Value) (h : Below w.heap.size w Y) (hg : w.heap.size ≤ g) : Below w.heap.size w (Y.setCell ⟨g, i, none⟩ v) := h.setCell (p := ⟨g, i, none⟩) hg v
theorem Two.newAt {P : Nat} (W : World) (x y : Value) (T : TypeId) (h : P = W.heap.size) : Two P (W.alloc (.cells #[x, y] T)) x y := by subst h; exact Two.new W x y T
theorem Two.both {b : Nat} {W : World} {x y : Value} (u v : Value) (h : Two b W x y) : Two b ((W.setCell ⟨b, 0, none⟩ u).setCell ⟨b, 1, none⟩ v) u v := (h.set0 u).set1 v
theorem Two.apart {b : Nat} {W : World} {x y : Value} (g i : Nat) (v : Value) (h : Two b W x y) (hp : g ≠ b) : Two b (W.setCell ⟨g, i, none⟩ v) x y := h.other ⟨g, i, none⟩ hp v
theorem cell_al {W : World} {a : Addr} {v : Value} (o : Obj) (h : W.cell? a = some v) : (W.alloc o).cell? a = some v := by rw [World.cell?_alloc_lt W o _ (World.block_lt_of_cell? W _ h)]; exact h
theorem two_kept {b : Nat} {A B : World} {x y : Value} {row : Option Nat} (h : Two b A x y) (hg : A.grownBy B row) (hr : ∀ r, row = some r → ∃ o : Obj, A.heap[r]? = some o ∧ o.isCells = false) : Two b B x y := by
  obtain ⟨h0, h1, h2, h3, h4⟩ := h
  exact ⟨cell_kept h0 hg hr, cell_kept h1 hg hr, (frozen_kept h0 hg hr).trans h2, (frozen_kept h1 hg hr).trans h3, Nat.lt_of_lt_of_le h4 hg.size⟩

theorem keeps_set2 {W X : World} (B : Nat) (p q : Addr) (u v : Value) (h : Below W.heap.size W X) : KeepsFrom B W ((X.setCell p u).setCell q v) := by
  have h0 : KeepsOthers W X := ⟨h.size, fun k o hk _ => by
    have hlt : k < W.heap.size := (Array.getElem?_eq_some_iff.1 hk).1
    rw [h.block k hlt]; exact hk⟩
  exact ((h0.trans (KeepsOthers.setCell _ _ _)).trans (KeepsOthers.setCell _ _ _)).from B
theorem cell_apart {W : World} {b i g j : Nat} {v : Value} (u : Value) (h : W.cell? ⟨b, i, none⟩ = some v) (hn : b ≠ g) : (W.setCell ⟨g, j, none⟩ u).cell? ⟨b, i, none⟩ = some v := by
  rw [World.cell?_setCell_other _ _ _ _ (fun e => by injection e; omega)]; exact h

end Go.Proofs.YtgjdopjolokaiaaGreat

/- A region that draws its order, where every frame may be entered: all operations but the last few read; then the rest, in the order of the text. -/
namespace Go.Proofs.YtgjdopjolokaiaaGreat
section
variable {F : Fence} {n : Nat} {P : Program} {ops : Array Oper} {md : Region.Mode} {w : World}

/-- everything may be entered -/
structure Free (F : Fence) (P : Program) : Prop where
  fn : ∀ f, F.fn f
  depth : F.depth = none
  call : ∀ {m : Nat} {f : FuncId} {args : Array Value} {w : World} {R : Ending → World → Prop}, Calls P f args w R → CallsIn F m P f args w R
theorem free_wide (P : Program) : Free Fence.wide P := ⟨fun _ => trivial, rfl, fun h => callsIn_wide.2 h⟩
theorem free_round (P : Program) (l : Nat) : Free (Fence.wide.inRound l) P := ⟨fun _ => trivial, rfl, fun h => CallsIn.inRound l (callsIn_wide.2 h)⟩

theorem wpIn_of_still (hF : Free F P) {o : Oper} {a : Act} {K : Act → Prop} {K' : Act → World → Prop} {Q' : Exit → Act → World → Prop} (hs : ∀ ρ, Oper.semAt F.round ρ o = execOp ρ o) (h : ∀ a, K a → K' a w) (hh : o.still P a w K) : o.wpIn F n P a w K' Q' := by
  refine ⟨fun f _ => hF.fn f, ?_⟩
  rw [hs]
  unfold Oper.still at hh
  generalize (execOp a.eval o).run P w = r at *
  cases r with
  | ok x w' =>
    cases x <;> simp only [Oper.stillUpon] at hh <;> simp only [Oper.uponIn]
    case enter f args =>
      obtain ⟨rfl, v, hc, hn⟩ := hh
      refine ⟨(fun h0 => by rw [hF.depth] at h0; cases h0), hF.call (hc.mono fun e w'' he => ?_)⟩
      obtain ⟨rfl, rfl⟩ := he
      exact h _ hn
    all_goals (obtain ⟨rfl, h2⟩ := hh; exact h _ h2)
  | halt x w' => simp only [Oper.stillUpon] at hh

theorem wpOpIn_of_stOp (hF : Free F P) {i : Nat} {a : Act} {K : Act → Prop} {K' : Act → World → Prop} {Q' : Exit → Act → World → Prop} (hs : ∀ o ∈ ops, ∀ ρ, Oper.semAt F.round ρ o = execOp ρ o) (h : ∀ a, K a → K' a w) (hh : stOp P ops w i K a) : wpOpIn F n P ops Q' i K' a w := by
  unfold stOp at hh
  unfold wpOpIn
  cases ho : ops[i]? with
  | none => simp only [ho] at hh; exact h _ hh
  | some o =>
    simp only [ho] at hh
    by_cases hw : Region.wanted o (yielded ops a.tmps) = true
    · simp only [hw, if_true] at hh ⊢
      exact wpIn_of_still hF (hs o (Array.mem_of_getElem? ho)) h hh
    · simp only [hw] at hh ⊢
      exact ⟨fun f _ => hF.fn f, h _ hh⟩

theorem wpAnyIn_of_head (hF : Free F P) {k g : Nat} {L : Array Bool → Act → Prop} {Q' : Exit → Act → World → Prop} (hs : ∀ o ∈ ops, ∀ ρ, Oper.semAt F.round ρ o = execOp ρ o) (hL : ∀ listed a, L listed a → wpAnyIn F n P md ops Q' g listed a w) :
    ∀ (f : Nat) (listed : Array Bool) (a : Act), wpAnyL P md ops w k L f listed a → wpAnyIn F n P md ops Q' (f + g) listed a w
  | 0, listed, a, h => by rw [Nat.zero_add]; exact hL _ _ h
  | f + 1, listed, a, h => by
    have e : f + 1 + g = (f + g) + 1 := by omega
    rw [e]
    exact ⟨fun h0 => absurd h0 h.1, fun i hi => wpOpIn_of_stOp hF hs (fun a' h' => wpAnyIn_of_head hF hs hL f _ a' h') (h.2 i hi).2⟩

theorem wpAnyIn_of_seq {Q' : Exit → Act → World → Prop} (l : List Oper) : ∀ (k : Nat) (listed : Array Bool) (a : Act) (w : World), (∀ j, l[j]? = ops[k + j]?) →
    Region.seqB md ops l.length k listed = true → wpListIn F n P ops Q' l a w → wpAnyIn F n P md ops Q' l.length listed a w := by
  induction l with
  | nil => intro k listed a w _ hB h; exact ⟨by simpa [Region.seqB] using hB, h⟩
  | cons o l ih =>
    intro k listed a w hl hB h
    have h0 : ops[k]? = some o := by simpa using (hl 0).symm
    simp only [List.length_cons, Region.seqB, Bool.and_eq_true, decide_eq_true_eq] at hB
    refine ⟨(fun h1 => by rw [hB.1] at h1; cases h1), fun i hi => ?_⟩
    rw [hB.1] at hi
    obtain rfl : i = k := by simpa using hi
    have hw : wpOpIn F n P ops Q' i (wpListIn F n P ops Q' l) a w := by unfold wpOpIn; simp only [h0]; exact h
    exact wpOpIn_mono (fun a' w' h' => ih (i + 1) _ a' w' (fun j => by have := hl (j + 1); rw [List.getElem?_cons_succ] at this; rw [this]; congr 1; omega) hB.2 h') hw

theorem wpIn_region_tail (hF : Free F P) {id : Nat} {Q : Exit → Act → World → Prop} {a : Act} {l : List Oper} (k : Nat) (hm : P.follows .mixedOrders = true) (hB : Region.lexTailB .any l.toArray k = true) (hs : ∀ o ∈ l.toArray, ∀ ρ, Oper.semAt F.round ρ o = execOp ρ o)
    (h : wpStill P l.toArray w.drew (fun a' => wpListIn F n P l.toArray Q (l.drop k) a' w.drew) (l.take k) a) : (Code.region id l.toArray true).wpIn F n P Q a w := by
  simp only [Region.lexTailB, Bool.and_eq_true, decide_eq_true_eq] at hB
  obtain ⟨⟨⟨⟨hsel, hn⟩, hsk⟩, hc⟩, hlex⟩ := hB
  have hn' : k < l.length := by simpa using hn
  have htl : (l.take k).length = k := by simp; omega
  have hdl : (l.drop k).length = l.toArray.size - k := by simp
  have inv0 : HeadInv .any l.toArray k (Array.replicate l.toArray.size false) :=
    ⟨by simp, fun j oj _ hl => (by rw [getD_replicate_false] at hl; cases hl), fun t _ ht => getD_in (by simpa using ht) (getD_replicate_false _ _)⟩
  have H := wpAnyL_lex (md := .any) (g := l.toArray.size - k) (w := w.drew) hsel hsk hc hn (l.take k) 0 _ a (fun j hj => by
    have hj' : j < k := by rw [htl] at hj; exact hj
    simp [hj']) (by simpa using htl) inv0 (by rw [htl]; exact hlex) h
  refine wpIn_region_any hm ?_
  have G := wpAnyIn_of_head (n := n) (Q' := Q) (g := l.toArray.size - k) hF hs (fun listed a' hL => by
    have := wpAnyIn_of_seq (F := F) (n := n) (P := P) (md := .any) (Q' := Q) (l.drop k) k listed a' w.drew (fun j => by simp [List.getElem?_drop]) (by rw [hdl]; exact hL.1) hL.2
    rwa [hdl] at this) _ _ _ H
  rw [htl, show k + (l.toArray.size - k) = l.toArray.size by omega] at G
  exact G
end
/-- no operation that is laid aside for later -/
def plainOps (l : List Oper) : Bool := l.all fun o => match o.op with | .defer _ => false | _ => true
theorem sem_all {ro : Option Nat} {l : List Oper} (h : plainOps l = true) : ∀ o ∈ l.toArray, ∀ ρ, Oper.semAt ro ρ o = execOp ρ o := fun o ho ρ => by
  have := List.all_eq_true.1 h o (by simpa using ho)
  exact Oper.semAt_eq ro ρ o (fun c e => by rw [e] at this; cases this)
end Go.Proofs.YtgjdopjolokaiaaGreat

/- The first numbers below a bound: what an iterator has yielded when some rounds are over. -/
namespace Go.Proofs.YtgjdopjolokaiaaGreat
def ups (m k : Nat) : List (Fin m) := (List.range k).filterMap fun j => if h : j < m then some ⟨j, h⟩ else none
theorem ups_succ {m k : Nat} (h : k < m) : ups m (k + 1) = ups m k ++ [⟨k, h⟩] := by simp [ups, List.range_succ, h]
theorem ups_val {m k : Nat} (h : k ≤ m) : (ups m k).map (fun j => j.val) = List.range k := by
  induction k with
  | zero => simp [ups]
  | succ k ih => rw [ups_succ (by omega), List.map_append, ih (by omega), List.range_succ]; rfl
theorem ups_len {m k : Nat} (h : k ≤ m) : (ups m k).length = k := by
  have := congrArg List.length (ups_val h)
  simpa using this
theorem ups_zero (m : Nat) : ups m 0 = [] := rfl
end Go.Proofs.YtgjdopjolokaiaaGreat

/- Package profile: pieces are yielded. -/
namespace Go.Proofs.YtgjdopjolokaiaaGreat
open Go.RowKit Go.Shelf
attribute [local go_sem] Oper.semAt_some

/-- the index of a piece's second point, and the piece -/
def encP (l : List (Int × Int)) {m : Nat} (j : Fin m) : Array Value := #[.int .i64 ((j.val : Int) + 1), .agg #[.int .i64 (gX l j.val), .int .i64 (gR l j.val), .int .i64 (gX l (j.val + 1)), .int .i64 (gR l (j.val + 1))]]

/-- what a round keeps: what lay below n₀, and a box -/
def KpB (Bs n₀ : Nat) (W W' : World) : Prop := Below n₀ W W' ∧ ∀ v, W.cell? ⟨Bs, 0, none⟩ = some v → W'.cell? ⟨Bs, 0, none⟩ = some v
theorem kpB_refl (Bs n₀ : Nat) (W : World) : KpB Bs n₀ W W := ⟨Below.refl _ _, fun _ h => h⟩
theorem kpB_t {Bs n₀ : Nat} {A B C : World} (h : KpB Bs n₀ A B) (k : KpB Bs n₀ B C) : KpB Bs n₀ A C := ⟨h.1.trans k.1, fun v e => k.2 v (h.2 v e)⟩
theorem kpB_b {Bs n₀ : Nat} {w : World} (hn : n₀ ≤ w.heap.size) (W : World) (l : Nat) (o o' : Obj) (hl : w.heap.size ≤ l) (h : W.heap[l]? = some o) (h1 : o.isCells = false) (h2 : o.isWalk = false) : KpB Bs n₀ W (W.putObj l o') :=
  ⟨belowK_b hn W l o o' hl h h1 h2, fun _ e => cell_kept e (grownBy_putObj' W l o') (fun r e => by cases e; exact ⟨o, h, h1⟩)⟩
theorem kpB_drew (Bs n₀ : Nat) (W : World) : KpB Bs n₀ W W.drew := ⟨⟨rfl, rfl, rfl, Nat.le_refl _, fun _ _ => rfl⟩, fun _ h => h⟩

set_option maxRecDepth 100000 in
set_option maxHeartbeats 4000000 in
theorem pieces1_in (n : Nat) (l Bs n₀ b off len cap : Nat) (zs : List (Int × Int)) (hl : 1 ≤ len) (hl2 : len ≤ 1000) (hb : b < n₀) (J Jx : List (Fin (len - 1)) → World → Prop) (B0 : Nat) (hJ : AbidesFrom B0 J)
    (hY : ∀ pre x W, J pre W → pre.length < len - 1 → YieldAt Fence.wide (n - 1) Tryz.prog l (encP zs x) W fun e W' =>
      (e = .returned (.bool true) ∧ J (pre ++ [x]) W' ∧ KpB Bs n₀ W W') ∨ (e = .returned (.bool false) ∧ Jx (pre ++ [x]) W'))
    (W : World) (hBs : W.cell? ⟨Bs, 0, none⟩ = some (.slice (some ⟨b, off, none⟩) len cap)) (hc : ∀ j, j < len → W.cell? ⟨b, off + j * 2, none⟩ = some (.int .i64 (gX zs j)) ∧ W.cell? ⟨b, off + j * 2 + 1, none⟩ = some (.int .i64 (gR zs j))) (h0 : J [] W) :
    CallsIn Fence.wide n Tryz.prog 96 #[.func (.yield l) #[] #[], .pointer (some ⟨Bs, 0, none⟩)] W fun e W' => (∃ v, e = .returned v) ∧
      ((∃ ys, ys = ups (len - 1) (len - 1) ∧ J ys W') ∨ (∃ pre, (∃ k, k ≤ len - 1 ∧ pre = ups (len - 1) k) ∧ Jx pre W')) := by
  refine callsIn_of_wp Tryz.func96 rfl trivial ?_ rfl
  simp only [Tryz.ntmps96, List.size_toArray, List.length_cons, List.length_nil, Nat.reduceAdd, Nat.reduceSub, Array.replicate_succ, Array.replicate_zero, List.push_toArray, List.append_toArray, List.nil_append, List.cons_append]
  gi_wp2
  gi_loopw [3] (fun i wr => ∃ k : Nat, k + 1 ≤ len ∧ i = .int .i64 ((k : Int) + 1) ∧ J (ups (len - 1) k) wr ∧ KpB Bs n₀ W wr)
    (fun i _ => len - (intOf i).toNat)
  case atStart => exact ⟨0, hl, rfl, h0, kpB_refl _ _ _⟩
  case round =>
    obtain ⟨k, hk, rfl, hJs, hnx⟩ := hrel
    have hBx : wr.cell? ⟨Bs, 0, none⟩ = some (.slice (some ⟨b, off, none⟩) len cap) := hnx.2 _ hBs
    by_cases hlt : k + 1 < len
    · have c0 := hc k (by omega)
      have c1 := hc (k + 1) hlt
      have d0 : wr.cell? ⟨b, off + k * 2, none⟩ = some (.int .i64 (gX zs k)) := (hnx.1.cell (p := ⟨b, off + k * 2, none⟩) hb).trans c0.1
      have d1 : wr.cell? ⟨b, off + k * 2 + 1, none⟩ = some (.int .i64 (gR zs k)) := (hnx.1.cell (p := ⟨b, off + k * 2 + 1, none⟩) hb).trans c0.2
      have d2 : wr.cell? ⟨b, off + (k + 1) * 2, none⟩ = some (.int .i64 (gX zs (k + 1))) := (hnx.1.cell (p := ⟨b, off + (k + 1) * 2, none⟩) hb).trans c1.1
      have d3 : wr.cell? ⟨b, off + (k + 1) * 2 + 1, none⟩ = some (.int .i64 (gR zs (k + 1))) := (hnx.1.cell (p := ⟨b, off + (k + 1) * 2 + 1, none⟩) hb).trans c1.2
      clear c0 c1
      obtain ⟨fn, tmps, assign, body, hy, hR⟩ := hY _ ⟨k, by omega⟩ wr.drew (hJ _ _ _ none hJs ⟨rfl, rfl, rfl, Nat.le_refl _, fun _ _ _ => rfl⟩ (fun r e => by cases e)) (by rw [ups_len (by omega)]; omega)
      rw [← ups_succ (by omega)] at hR
      dsimp only [encP] at hy
      have hmx : Tryz.prog.follows .mixedOrders = true := by kernel_rfl
      have HR2 : Hid (RoundIn Fence.wide (n - 1) Tryz.prog l fn tmps assign body wr.drew fun e W' => ∃ bb : Bool, e = .returned (.bool bb) ∧ Hid ((bb = true ∧ J (ups (len - 1) (k + 1)) W' ∧ KpB Bs n₀ wr.drew W') ∨ (bb = false ∧ Jx (ups (len - 1) (k + 1)) W'))) := by
        refine hR.mono ?_
        rintro e W3 (⟨rfl, h⟩ | ⟨rfl, h⟩)
        · exact ⟨true, rfl, .inl ⟨rfl, h⟩⟩
        · exact ⟨false, rfl, .inr ⟨rfl, h⟩⟩
      clear hR
      generalize gX zs k = x at *
      generalize gR zs k = p at *
      generalize gX zs (k + 1) = y at *
      generalize gR zs (k + 1) = q at *
      have wj : IntKind.i64.wrap ((k : Int) + 1 - 1) = (k : Int) := by simp only [IntKind.wrap_i64]; omega
      have wk : IntKind.i64.wrap (k : Int) = (k : Int) := by simp only [IntKind.wrap_i64]; omega
      have l0 : (k : Int) < (len : Int) := by omega
      have l1 : (k : Int) + 1 < (len : Int) := by omega
      have l2 : k < len := by omega
      have l3 : 0 ≤ (k : Int) + 1 := by omega
      have l4 : ((k : Int) + 1).toNat = k + 1 := by omega
      gi_wp2
      refine wpIn_region_tail (free_wide _) 12 hmx (by kernel_rfl) (fun _ _ _ => rfl) ?_
      simp only [List.take_succ_cons, List.take_zero, List.drop_succ_cons, List.drop_zero]
      repeat still_step
      refine wpStill_nil ?_
      gi_wp2
      refine ⟨(fun h => by cases h), HR2.out.mono ?_⟩
      rintro e W3 ⟨bb, rfl, h3⟩
      rcases h3.out with ⟨rfl, hJ3, hk3⟩ | ⟨rfl, hJx3⟩
      · gi_wp2
        go_roundw
        case rel => exact ⟨k + 1, by omega, by go_num, hJ3, kpB_t hnx (kpB_t (kpB_drew _ _ wr) hk3)⟩
        case measure => simp [intOf]; omega
      · gi_wp2
        refine bodyPost_ret (results_none rfl _ _ _) rfl ?_
        exact ⟨⟨_, rfl⟩, .inr ⟨_, ⟨k + 1, by omega, rfl⟩, hJx3⟩⟩
    · obtain rfl : len = k + 1 := by omega
      gi_wp2
      go_end0
      exact ⟨⟨_, rfl⟩, .inl ⟨_, rfl, hJs⟩⟩

theorem pieces_any (a : Option Addr) (len cap : Nat) (w : World) :
    Calls Tryz.prog 81 #[.slice a len cap] w fun e w' => e = .returned (.func (.func 96) #[] #[.pointer (some ⟨w.heap.size, 0, none⟩)]) ∧ w' = w.alloc (.cells #[.slice a len cap] 22) := by
  have hmf : ∀ (fn : Fn) (first cap : Array Value) (w : World), (Instr.makeFunc fn first cap).run Tryz.prog w = .ok (.func fn first cap) w := fun _ _ _ _ => rfl
  go_enter Tryz.func81, Tryz.ntmps81
  go_wp2
  go_ret
  exact ⟨rfl, rfl⟩

/-- what pieces returns yields all pieces, or the first ones -/
theorem pieces_stops (n Bs n₀ b off len cap : Nat) (zs : List (Int × Int)) (hl : 1 ≤ len) (hl2 : len ≤ 1000) (hb : b < n₀) (w : World) (hn : n₀ ≤ w.heap.size)
    (hBs : w.cell? ⟨Bs, 0, none⟩ = some (.slice (some ⟨b, off, none⟩) len cap)) (hc : ∀ j, j < len → w.cell? ⟨b, off + j * 2, none⟩ = some (.int .i64 (gX zs j)) ∧ w.cell? ⟨b, off + j * 2 + 1, none⟩ = some (.int .i64 (gR zs j))) :
    SeqStopsK Fence.wide n Tryz.prog 96 #[.pointer (some ⟨Bs, 0, none⟩)] (fun x : Fin (len - 1) => encP zs x) (KpB Bs n₀) (fun ys => ys = ups (len - 1) (len - 1))
      (fun pre => ∃ k, k ≤ len - 1 ∧ pre = ups (len - 1) k) (len - 1) w := fun l J Jx W hW hJ _ hY h0 =>
  pieces1_in n l Bs n₀ b off len cap zs hl hl2 hb J Jx W.heap.size hJ hY W ((hW.cell (p := ⟨Bs, 0, none⟩) (World.block_lt_of_cell? w _ hBs)).trans hBs) (fun j hj => ⟨(hW.cell (p := ⟨b, off + j * 2, none⟩) (by show b < _; omega)).trans (hc j hj).1, (hW.cell (p := ⟨b, off + j * 2 + 1, none⟩) (by show b < _; omega)).trans (hc j hj).2⟩) h0
end Go.Proofs.YtgjdopjolokaiaaGreat

/- Package profile: advances. -/
namespace Go.Proofs.YtgjdopjolokaiaaGreat
open Go.RowKit Go.Shelf
attribute [local go_sem] Oper.semAt_some

/-- a block with four cells -/
def Four (b : Nat) (W : World) (x p y q : Value) : Prop := W.cell? ⟨b, 0, none⟩ = some x ∧ W.cell? ⟨b, 1, none⟩ = some p ∧ W.cell? ⟨b, 2, none⟩ = some y ∧ W.cell? ⟨b, 3, none⟩ = some q
theorem Four.new (W : World) (x p y q : Value) (T : TypeId) : Four W.heap.size (W.alloc (.cells #[x, p, y, q] T)) x p y q := ⟨by simp [go_sem], by simp [go_sem], by simp [go_sem], by simp [go_sem]⟩
theorem four_kept {b : Nat} {A B : World} {x p y q : Value} {row : Option Nat} (h : Four b A x p y q) (hg : A.grownBy B row) (hr : ∀ r, row = some r → ∃ o : Obj, A.heap[r]? = some o ∧ o.isCells = false) : Four b B x p y q := by
  obtain ⟨h0, h1, h2, h3⟩ := h
  exact ⟨cell_kept h0 hg hr, cell_kept h1 hg hr, cell_kept h2 hg hr, cell_kept h3 hg hr⟩

set_option maxRecDepth 100000 in
set_option maxHeartbeats 8000000 in
theorem advances_some (b off n cap : Nat) (l : List (Int × Int)) (A : Bool) (w : World) (n0 : 1 ≤ n) (n1 : n ≤ 1000) (hb : b < w.heap.size)
    (hc : Hid (∀ j, j < n → w.cell? ⟨b, off + j * 2, none⟩ = some (.int .i64 (gX l j)) ∧ w.cell? ⟨b, off + j * 2 + 1, none⟩ = some (.int .i64 (gR l j))))
    (h1 : Hid ((∀ j, j + 1 < n → gX l j < gX l (j + 1)) → A = (gX l 0 == 0))) (h2 : Hid ((∃ j, j + 1 < n ∧ ¬ gX l j < gX l (j + 1)) → A = false)) :
    Calls Tryz.prog 61 #[.slice (some ⟨b, off, none⟩) n cap] w fun e w' => e = .returned (.bool A) ∧ Below w.heap.size w w' := by
  refine (callsIn_wide (n := 10)).1 ?_
  refine callsIn_of_wp_marks Tryz.func61 rfl trivial ?_ rfl
  simp only [Tryz.ntmps61, List.size_toArray, List.length_cons, List.length_nil, Nat.reduceAdd, Nat.reduceSub, Array.replicate_succ, Array.replicate_zero, List.push_toArray, List.append_toArray, List.nil_append, List.cons_append]
  gi_wp2_with fail
  refine ⟨trivial, (callsIn_wide.2 (pieces_any _ _ _ _)).mono ?_⟩
  rintro e w3 ⟨rfl, rfl⟩
  gi_wp2_with fail
  have BO : Hid (Boxed (w.alloc (.cells #[.bool false] 4)) w.heap.size 4 (.bool false)) := Boxed.new w 4 (.bool false)
  have BX : Hid (Boxed ((w.alloc (.cells #[.bool false] 4)).alloc (.cells #[.slice (some ⟨b, off, none⟩) n cap] 22)) (w.heap.size + 1) 22 (.slice (some ⟨b, off, none⟩) n cap)) := by
    have := Boxed.new (w.alloc (.cells #[.bool false] 4)) 22 (.slice (some ⟨b, off, none⟩) n cap)
    rwa [World.size_alloc] at this
  replace BO := Lib.hid (BO.out.alloc (.cells #[.slice (some ⟨b, off, none⟩) n cap] 22))
  have X1 : Hid (Below w.heap.size w ((w.alloc (.cells #[.bool false] 4)).alloc (.cells #[.slice (some ⟨b, off, none⟩) n cap] 22))) := bel_alloc (bel_alloc (Below.refl _ _))
  obtain ⟨W0, hW0⟩ : ∃ W0, ((w.alloc (.cells #[.bool false] 4)).alloc (.cells #[.slice (some ⟨b, off, none⟩) n cap] 22)) = W0 := ⟨_, rfl⟩
  have hsz : W0.heap.size = w.heap.size + 1 + 1 := by rw [← hW0]; simp
  rw [hW0] at BO BX X1 ⊢
  clear hW0
  have hl1 : ∀ j, j < n → W0.cell? ⟨b, off + j * 2, none⟩ = some (.int .i64 (gX l j)) ∧ W0.cell? ⟨b, off + j * 2 + 1, none⟩ = some (.int .i64 (gR l j)) := fun j hj => by rw [(bcell X1.out).1 _ _ hb, (bcell X1.out).1 _ _ hb]; exact hc.out j hj
  refine wpIn_rangeFunc_ownH rfl (by omega) (gf := 96) (lb := #[.pointer (some ⟨w.heap.size + 1, 0, none⟩)]) rfl trivial (enters_of Tryz.func96 (by kernel_rfl) rfl)
    (pieces_stops 9 (w.heap.size + 1) w.heap.size b off n cap l (by omega) (by omega) hb W0 X1.out.size BX.out.cell hl1) kpB_t (kpB_b X1.out.size) (Below.refl _ _) (fun _ => rfl)
    (fun pre W => (∀ j ∈ pre, gX l j.val < gX l (j.val + 1)) ∧ Boxed W w.heap.size 4 (.bool false) ∧ Boxed W (w.heap.size + 1) 22 (.slice (some ⟨b, off, none⟩) n cap) ∧ Below w.heap.size w W)
    (fun c pre W => c = .ret ∧ (∃ j ∈ pre, ¬ gX l j.val < gX l (j.val + 1)) ∧ W.cell? ⟨w.heap.size, 0, none⟩ = some (.bool false) ∧ Below w.heap.size w W)
    (fun s A B row ⟨i1, i2, i3, i4⟩ hg hr => ⟨i1, i2.kept hg (fun e => by obtain ⟨o, h3, h4⟩ := (hr _ e.symm).2; rw [show A.heap[w.heap.size]? = _ from i2] at h3; cases h3; cases h4), i3.kept hg (fun e => by obtain ⟨o, h3, h4⟩ := (hr _ e.symm).2; rw [show A.heap[w.heap.size + 1]? = _ from i3] at h3; cases h3; cases h4), ownFrom_below (β := Unit) (Nat.le_refl _) X1.out.size () A B row i4 hg hr⟩)
    (fun c s A B row ⟨i1, i2, i3, i4⟩ hg hr => ⟨i1, i2, cell_kept i3 hg (fun r e => (hr r e).2), ownFrom_below (β := Unit) (Nat.le_refl _) X1.out.size () A B row i4 hg hr⟩)
    ⟨(fun j hj => by cases hj), BO.out, BX.out, X1.out⟩
    (fun x a' W => ∃ Bx : Nat, w.heap.size + 1 < Bx ∧ Four Bx W (.int .i64 (gX l x.val)) (.int .i64 (gR l x.val)) (.int .i64 (gX l (x.val + 1))) (.int .i64 (gR l (x.val + 1))) ∧ a' = { tmps := #[.slice (some ⟨b, off, none⟩) n cap, undef, .pointer (some ⟨w.heap.size, 0, none⟩), undef, .pointer (some ⟨Bx, 0, none⟩), .slice (some ⟨b, off, none⟩) n cap, .func (.func 96) #[] #[.pointer (some ⟨w.heap.size + 1, 0, none⟩)], .int .i64 ((x.val : Int) + 1), .agg #[.int .i64 (gX l x.val), .int .i64 (gR l x.val), .int .i64 (gX l (x.val + 1)), .int .i64 (gR l (x.val + 1))], undef, undef, undef, undef, undef, undef, undef, undef, undef, undef, undef, undef], defers := [] })
    (fun x a' _ A B row ⟨Bx, h1, h2, h3⟩ hg hr => ⟨Bx, h1, four_kept h2 hg (fun r e => (hr r e).2), h3⟩) ?assign ?body ?done ?stop
  case assign =>
    rintro lp pre x W K ⟨i1, i2, i3, i4⟩ hK
    dsimp only [encP]
    generalize gX l x.val = u at *
    generalize gR l x.val = p at *
    generalize gX l (x.val + 1) = v at *
    generalize gR l (x.val + 1) = q at *
    gi_wp2
    exact hK _ _ ((KeepsOthers.alloc _ _).from _) ⟨(Below.refl _ W).alloc i4.size _, fun v e => (cell_al _ e)⟩ ⟨i1, i2.alloc _, i3.alloc _, bA i4 _⟩ ⟨W.heap.size, i3.lt, Four.new _ _ _ _ _ _, rfl⟩
  case body =>
    rintro lp pre x aa W hlp ⟨rr, hrr⟩ ⟨i1, i2, i3, i4⟩ ⟨Bx, hBx, iX, rfl⟩ hlen
    have hxl := x.isLt
    by_cases hq : gX l x.val < gX l (x.val + 1)
    · have e1 : ∀ j ∈ pre ++ [x], gX l j.val < gX l (j.val + 1) := fun j hj => by
        rcases List.mem_append.1 hj with h | h
        · exact i1 j h
        · rw [List.mem_singleton.1 h]; exact hq
      generalize gX l x.val = u at *
      generalize gR l x.val = p at *
      generalize gX l (x.val + 1) = v at *
      generalize gR l (x.val + 1) = q at *
      obtain ⟨f0, f1, f2, f3⟩ := iX
      gi_wp2
      exact ⟨(KeepsOthers.refl _).from _, kpB_refl _ _ _, e1, i2, i3, i4⟩
    · have e1 : ∃ j ∈ pre ++ [x], ¬ gX l j.val < gX l (j.val + 1) := ⟨x, by simp, hq⟩
      generalize gX l x.val = u at *
      generalize gR l x.val = p at *
      generalize gX l (x.val + 1) = v at *
      generalize gR l (x.val + 1) = q at *
      obtain ⟨f0, f1, f2, f3⟩ := iX
      have hc2 := i2.cell
      have hf2 := i2.frozen
      gi_wp2
      exact ⟨(KeepsOthers.setCell _ _ _).from _, rfl, e1, World.cell?_setCell_same _ _ _ hc2, i4.setCell (p := ⟨w.heap.size, 0, none⟩) (Nat.le_refl _) _⟩
  case done =>
    rintro D ys W hD rfl ⟨i1, i2, i3, i4⟩ hK
    have hA := h1.out (fun j hj => i1 ⟨j, by omega⟩ (by
      have hv := ups_val (m := n - 1) (Nat.le_refl _)
      have : j ∈ (ups (n - 1) (n - 1)).map (fun j => j.val) := by rw [hv]; exact List.mem_range.2 (by omega)
      obtain ⟨y, hy, he⟩ := List.mem_map.1 this
      have : y = ⟨j, by omega⟩ := Fin.ext he
      rwa [this] at hy))
    have c0 : W.cell? ⟨b, off + 0 * 2, none⟩ = some (.int .i64 (gX l 0)) := by rw [(bcell i4).1 _ _ hb]; exact (hc.out 0 (by omega)).1
    rw [Nat.zero_mul, Nat.add_zero] at c0
    have hc2 := i2.cell
    have hf2 := i2.frozen
    subst hA
    obtain ⟨x0, hx0⟩ : ∃ x0, gX l 0 = x0 := ⟨_, rfl⟩
    rw [hx0] at c0
    cases hx : (x0 == 0) with
    | true =>
      gi_wp2
      have hK' := (KeepsOthers.setCell W ⟨w.heap.size, 0, none⟩ (.bool true)).same D _ hK rfl
      refine ⟨by simp, .inl ⟨_, _, rfl, run_takeDeferred hK', ?_⟩⟩
      have hc5 := cell_kept (World.cell?_setCell_same W ⟨w.heap.size, 0, none⟩ (.bool true) hc2) (grownBy_putObj' _ D (.deferred none)) (fun r e => by cases e; exact ⟨_, hK', rfl⟩)
      refine ⟨.bool true, ?_, by first | rfl | rw [hx0, hx], (i4.setCell (p := ⟨w.heap.size, 0, none⟩) (Nat.le_refl _) _).trans (belowK_b (w := w) (Nat.le_refl _) _ D _ _ (by omega) hK' rfl rfl)⟩
      simp [results, Tryz.results61, go_sem, hc5]
    | false =>
      gi_wp2
      have hK' := (KeepsOthers.setCell W ⟨w.heap.size, 0, none⟩ (.bool false)).same D _ hK rfl
      refine ⟨by simp, .inl ⟨_, _, rfl, run_takeDeferred hK', ?_⟩⟩
      have hc5 := cell_kept (World.cell?_setCell_same W ⟨w.heap.size, 0, none⟩ (.bool false) hc2) (grownBy_putObj' _ D (.deferred none)) (fun r e => by cases e; exact ⟨_, hK', rfl⟩)
      refine ⟨.bool false, ?_, by first | rfl | rw [hx0, hx], (i4.setCell (p := ⟨w.heap.size, 0, none⟩) (Nat.le_refl _) _).trans (belowK_b (w := w) (Nat.le_refl _) _ D _ _ (by omega) hK' rfl rfl)⟩
      simp [results, Tryz.results61, go_sem, hc5]
  case stop =>
    rintro D cc pre W hD _ ⟨rfl, ⟨j, _, hj⟩, i3, i4⟩ hK
    have hjl := j.isLt
    have hA := h2.out ⟨j.val, by omega, by omega⟩
    subst hA
    gi_wp2
    refine ⟨by simp, .inl ⟨_, _, rfl, run_takeDeferred hK, ?_⟩⟩
    have hc5 := cell_kept i3 (grownBy_putObj' _ D (.deferred none)) (fun r e => by cases e; exact ⟨_, hK, rfl⟩)
    refine ⟨.bool false, ?_, rfl, i4.trans (belowK_b (w := w) (Nat.le_refl _) _ D _ _ (by omega) hK rfl rfl)⟩
    simp [results, Tryz.results61, go_sem, hc5]
end Go.Proofs.YtgjdopjolokaiaaGreat

/- Package profile: swells. -/
namespace Go.Proofs.YtgjdopjolokaiaaGreat
open Go.RowKit Go.Shelf
attribute [local go_sem] Oper.semAt_some

theorem box_kept {A B : World} {row : Option Nat} {g : Nat} {t : TypeId} {v : Value} (h : Boxed A g t v) (hg : A.grownBy B row) (hr : ∀ r, row = some r → ∃ o : Obj, A.heap[r]? = some o ∧ o.isCells = false) : Boxed B g t v :=
  h.kept hg (fun e => by obtain ⟨o, h3, h4⟩ := hr _ e.symm; rw [show A.heap[g]? = _ from h] at h3; cases h3; cases h4)
/-- whether some pieces fall, and whether one rises behind one that falls -/
def stP (l : List (Int × Int)) {m : Nat} (pre : List (Fin m)) : Bool × Bool := pre.foldl (fun s j => (s.1 || decide (gR l (j.val + 1) < gR l j.val), s.2 || (s.1 && decide (gR l j.val < gR l (j.val + 1))))) (false, false)
theorem stP_snoc (l : List (Int × Int)) {m : Nat} (pre : List (Fin m)) (j : Fin m) : stP l (pre ++ [j]) = ((stP l pre).1 || decide (gR l (j.val + 1) < gR l j.val), (stP l pre).2 || ((stP l pre).1 && decide (gR l j.val < gR l (j.val + 1)))) := by
  unfold stP; rw [List.foldl_append]; rfl
theorem stP_all (l : List (Int × Int)) {m : Nat} (k : Nat) (h : k ≤ m) : stP l (ups m k) = (fal l k, swl l k) := by
  induction k with
  | zero => rfl
  | succ k ih => rw [ups_succ (by omega), stP_snoc, ih (by omega)]; rfl

set_option maxRecDepth 100000 in
set_option maxHeartbeats 8000000 in
theorem swells_some (b off n cap : Nat) (l : List (Int × Int)) (S : Bool) (w : World) (n0 : 1 ≤ n) (n1 : n ≤ 1000) (hb : b < w.heap.size)
    (hc : Hid (∀ j, j < n → w.cell? ⟨b, off + j * 2, none⟩ = some (.int .i64 (gX l j)) ∧ w.cell? ⟨b, off + j * 2 + 1, none⟩ = some (.int .i64 (gR l j))))
    (hS : Hid (swl l (n - 1) = S)) :
    Calls Tryz.prog 63 #[.slice (some ⟨b, off, none⟩) n cap] w fun e w' => e = .returned (.bool S) ∧ Below w.heap.size w w' := by
  refine (callsIn_wide (n := 10)).1 ?_
  refine callsIn_of_wp_marks Tryz.func63 rfl trivial ?_ rfl
  simp only [Tryz.ntmps63, List.size_toArray, List.length_cons, List.length_nil, Nat.reduceAdd, Nat.reduceSub, Array.replicate_succ, Array.replicate_zero, List.push_toArray, List.append_toArray, List.nil_append, List.cons_append]
  gi_wp2_with fail
  refine ⟨trivial, (callsIn_wide.2 (pieces_any _ _ _ _)).mono ?_⟩
  rintro e w3 ⟨rfl, rfl⟩
  gi_wp2_with fail
  have BO : Hid (Boxed (w.alloc (.cells #[.bool false] 4)) w.heap.size 4 (.bool false)) := Boxed.new w 4 (.bool false)
  have BF : Hid (Boxed ((w.alloc (.cells #[.bool false] 4)).alloc (.cells #[.bool false] 4)) (w.heap.size + 1) 4 (.bool false)) := by
    have := Boxed.new (w.alloc (.cells #[.bool false] 4)) 4 (.bool false)
    rwa [World.size_alloc] at this
  have BX : Hid (Boxed (((w.alloc (.cells #[.bool false] 4)).alloc (.cells #[.bool false] 4)).alloc (.cells #[.slice (some ⟨b, off, none⟩) n cap] 22)) (w.heap.size + 1 + 1) 22 (.slice (some ⟨b, off, none⟩) n cap)) := by
    have := Boxed.new ((w.alloc (.cells #[.bool false] 4)).alloc (.cells #[.bool false] 4)) 22 (.slice (some ⟨b, off, none⟩) n cap)
    rwa [World.size_alloc, World.size_alloc] at this
  replace BO := Lib.hid ((BO.out.alloc (.cells #[.bool false] 4)).alloc (.cells #[.slice (some ⟨b, off, none⟩) n cap] 22))
  replace BF := Lib.hid (BF.out.alloc (.cells #[.slice (some ⟨b, off, none⟩) n cap] 22))
  have X1 : Hid (Below w.heap.size w (((w.alloc (.cells #[.bool false] 4)).alloc (.cells #[.bool false] 4)).alloc (.cells #[.slice (some ⟨b, off, none⟩) n cap] 22))) := bel_alloc (bel_alloc (bel_alloc (Below.refl _ _)))
  obtain ⟨W0, hW0⟩ : ∃ W0, (((w.alloc (.cells #[.bool false] 4)).alloc (.cells #[.bool false] 4)).alloc (.cells #[.slice (some ⟨b, off, none⟩) n cap] 22)) = W0 := ⟨_, rfl⟩
  have hsz : W0.heap.size = w.heap.size + 1 + 1 + 1 := by rw [← hW0]; simp
  rw [hW0] at BO BF BX X1 ⊢
  clear hW0
  have hl1 : ∀ j, j < n → W0.cell? ⟨b, off + j * 2, none⟩ = some (.int .i64 (gX l j)) ∧ W0.cell? ⟨b, off + j * 2 + 1, none⟩ = some (.int .i64 (gR l j)) := fun j hj => by rw [(bcell X1.out).1 _ _ hb, (bcell X1.out).1 _ _ hb]; exact hc.out j hj
  refine wpIn_rangeFunc_ownH rfl (by omega) (gf := 96) (lb := #[.pointer (some ⟨w.heap.size + 1 + 1, 0, none⟩)]) rfl trivial (enters_of Tryz.func96 (by kernel_rfl) rfl)
    (pieces_stops 9 (w.heap.size + 1 + 1) w.heap.size b off n cap l (by omega) (by omega) hb W0 X1.out.size BX.out.cell hl1) kpB_t (kpB_b X1.out.size) (Below.refl _ _) (fun _ => rfl)
    (fun pre W => (stP l pre).2 = false ∧ Boxed W w.heap.size 4 (.bool false) ∧ Boxed W (w.heap.size + 1) 4 (.bool (stP l pre).1) ∧ Boxed W (w.heap.size + 1 + 1) 22 (.slice (some ⟨b, off, none⟩) n cap) ∧ Below w.heap.size w W)
    (fun c pre W => c = .ret ∧ (stP l pre).2 = true ∧ W.cell? ⟨w.heap.size, 0, none⟩ = some (.bool true) ∧ Below w.heap.size w W)
    (fun s A B row ⟨i1, i2, i3, i4, i5⟩ hg hr => ⟨i1, box_kept i2 hg (fun r e => (hr r e).2), box_kept i3 hg (fun r e => (hr r e).2), box_kept i4 hg (fun r e => (hr r e).2), ownFrom_below (β := Unit) (Nat.le_refl _) X1.out.size () A B row i5 hg hr⟩)
    (fun c s A B row ⟨i1, i2, i3, i4⟩ hg hr => ⟨i1, i2, cell_kept i3 hg (fun r e => (hr r e).2), ownFrom_below (β := Unit) (Nat.le_refl _) X1.out.size () A B row i4 hg hr⟩)
    ⟨rfl, BO.out, BF.out, BX.out, X1.out⟩
    (fun x a' W => ∃ Bx : Nat, w.heap.size + 1 + 1 < Bx ∧ Four Bx W (.int .i64 (gX l x.val)) (.int .i64 (gR l x.val)) (.int .i64 (gX l (x.val + 1))) (.int .i64 (gR l (x.val + 1))) ∧ a' = { tmps := #[.slice (some ⟨b, off, none⟩) n cap, undef, .pointer (some ⟨w.heap.size, 0, none⟩), .pointer (some ⟨w.heap.size + 1, 0, none⟩), undef, .pointer (some ⟨Bx, 0, none⟩), .slice (some ⟨b, off, none⟩) n cap, .func (.func 96) #[] #[.pointer (some ⟨w.heap.size + 1 + 1, 0, none⟩)], .int .i64 ((x.val : Int) + 1), .agg #[.int .i64 (gX l x.val), .int .i64 (gR l x.val), .int .i64 (gX l (x.val + 1)), .int .i64 (gR l (x.val + 1))], undef, undef, undef, undef, undef, undef, undef, undef, undef, undef, undef, undef, undef, undef, undef, undef, undef, undef, undef, undef], defers := [] })
    (fun x a' _ A B row ⟨Bx, h1, h2, h3⟩ hg hr => ⟨Bx, h1, four_kept h2 hg (fun r e => (hr r e).2), h3⟩) ?assign ?body ?done ?stop
  case assign =>
    rintro lp pre x W K ⟨i1, i2, i3, i4, i5⟩ hK
    dsimp only [encP]
    generalize gX l x.val = u at *
    generalize gR l x.val = p at *
    generalize gX l (x.val + 1) = v at *
    generalize gR l (x.val + 1) = q at *
    gi_wp2
    exact hK _ _ ((KeepsOthers.alloc _ _).from _) ⟨(Below.refl _ W).alloc i5.size _, fun v e => (cell_al _ e)⟩ ⟨i1, i2.alloc _, i3.alloc _, i4.alloc _, bA i5 _⟩ ⟨W.heap.size, i4.lt, Four.new _ _ _ _ _ _, rfl⟩
  case body =>
    rintro lp pre x aa W hlp ⟨rr, hrr⟩ ⟨i1, i2, i3, i4, i5⟩ ⟨Bx, hBx, iX, rfl⟩ hlen
    have es := stP_snoc l pre x
    have hf := i2.frozen
    have hc2 := i2.cell
    have hf3 := i3.frozen
    have hc3 := i3.cell
    rw [i1] at es
    generalize stP l pre = s at *
    obtain ⟨s1, s2⟩ := s
    dsimp only at *
    generalize gX l x.val = u at *
    generalize gR l x.val = p at *
    generalize gX l (x.val + 1) = v at *
    generalize gR l (x.val + 1) = q at *
    obtain ⟨f0, f1, f2, f3⟩ := iX
    have hn1 : w.heap.size + 1 ≠ w.heap.size := by omega
    have hn2 : w.heap.size + 1 + 1 ≠ w.heap.size := by omega
    have hn3 : w.heap.size + 1 + 1 ≠ w.heap.size + 1 := by omega
    have hle : w.heap.size ≤ w.heap.size + 1 := by omega
    by_cases g1 : p < q
    · have g2 : ¬ q < p := by omega
      have d1 : decide (p < q) = true := decide_eq_true g1
      have d2 : decide (q < p) = false := decide_eq_false g2
      rw [d1, d2] at es
      cases s1 with
      | true =>
        gi_wp2
        exact ⟨(KeepsOthers.setCell _ _ _).from _, rfl, by rw [es]; rfl, World.cell?_setCell_same _ _ _ hc2, i5.setCell (p := ⟨w.heap.size, 0, none⟩) (Nat.le_refl _) _⟩
      | false =>
        gi_wp2
        exact ⟨(KeepsOthers.setCell _ _ _).from _, ⟨(Below.refl _ W).setCell (p := ⟨w.heap.size + 1, 0, none⟩) hle _, fun v e => cell_apart _ e hn3⟩, by rw [es]; rfl, i2.other (by omega) _, by rw [es]; exact i3.set _, i4.other hn3 _, i5.setCell (p := ⟨w.heap.size + 1, 0, none⟩) hle _⟩
    · by_cases g2 : q < p
      · have d1 : decide (p < q) = false := decide_eq_false g1
        have d2 : decide (q < p) = true := decide_eq_true g2
        rw [d1, d2] at es
        cases s1 with
        | true =>
          gi_wp2
          exact ⟨(KeepsOthers.setCell _ _ _).from _, ⟨(Below.refl _ W).setCell (p := ⟨w.heap.size + 1, 0, none⟩) hle _, fun v e => cell_apart _ e hn3⟩, by rw [es]; rfl, i2.other (by omega) _, by rw [es]; exact i3.set _, i4.other hn3 _, i5.setCell (p := ⟨w.heap.size + 1, 0, none⟩) hle _⟩
        | false =>
          gi_wp2
          exact ⟨(KeepsOthers.setCell _ _ _).from _, ⟨(Below.refl _ W).setCell (p := ⟨w.heap.size + 1, 0, none⟩) hle _, fun v e => cell_apart _ e hn3⟩, by rw [es]; rfl, i2.other (by omega) _, by rw [es]; exact i3.set _, i4.other hn3 _, i5.setCell (p := ⟨w.heap.size + 1, 0, none⟩) hle _⟩
      · obtain rfl : p = q := by omega
        have d1 : decide (p < p) = false := decide_eq_false g1
        rw [d1] at es
        cases s1 with
        | true =>
          gi_wp2
          exact ⟨(KeepsOthers.setCell _ _ _).from _, ⟨(Below.refl _ W).setCell (p := ⟨w.heap.size + 1, 0, none⟩) hle _, fun v e => cell_apart _ e hn3⟩, by rw [es]; rfl, i2.other (by omega) _, by rw [es]; exact i3.set _, i4.other hn3 _, i5.setCell (p := ⟨w.heap.size + 1, 0, none⟩) hle _⟩
        | false =>
          gi_wp2
          exact ⟨(KeepsOthers.setCell _ _ _).from _, ⟨(Below.refl _ W).setCell (p := ⟨w.heap.size + 1, 0, none⟩) hle _, fun v e => cell_apart _ e hn3⟩, by rw [es]; rfl, i2.other (by omega) _, by rw [es]; exact i3.set _, i4.other hn3 _, i5.setCell (p := ⟨w.heap.size + 1, 0, none⟩) hle _⟩
  case done =>
    rintro D ys W hD rfl ⟨i1, i2, i3, i4, i5⟩ hK
    rw [stP_all l (n - 1) (Nat.le_refl _)] at i1
    obtain rfl : S = false := by rw [← hS.out]; exact i1
    have hc2 := i2.cell
    have hf2 := i2.frozen
    gi_wp2
    have hK' := (KeepsOthers.setCell W ⟨w.heap.size, 0, none⟩ (.bool false)).same D _ hK rfl
    refine ⟨by simp, .inl ⟨_, _, rfl, run_takeDeferred hK', ?_⟩⟩
    have hc5 := cell_kept (World.cell?_setCell_same W ⟨w.heap.size, 0, none⟩ (.bool false) hc2) (grownBy_putObj' _ D (.deferred none)) (fun r e => by cases e; exact ⟨_, hK', rfl⟩)
    refine ⟨.bool false, ?_, rfl, (i5.setCell (p := ⟨w.heap.size, 0, none⟩) (Nat.le_refl _) _).trans (belowK_b (w := w) (Nat.le_refl _) _ D _ _ (by omega) hK' rfl rfl)⟩
    simp [results, Tryz.results63, go_sem, hc5]
  case stop =>
    rintro D cc pre W hD ⟨k, hk, rfl⟩ ⟨rfl, i2, i3, i4⟩ hK
    rw [stP_all l k hk] at i2
    obtain rfl : S = true := by
      rw [← hS.out]
      obtain ⟨i, j, h1, h2, h3⟩ := (swl_iff _ _).1 i2
      exact (swl_iff _ _).2 ⟨i, j, h1, by omega, h3⟩
    gi_wp2
    refine ⟨by simp, .inl ⟨_, _, rfl, run_takeDeferred hK, ?_⟩⟩
    have hc5 := cell_kept i3 (grownBy_putObj' _ D (.deferred none)) (fun r e => by cases e; exact ⟨_, hK, rfl⟩)
    refine ⟨.bool true, ?_, rfl, i4.trans (belowK_b (w := w) (Nat.le_refl _) _ D _ _ (by omega) hK rfl rfl)⟩
    simp [results, Tryz.results63, go_sem, hc5]
end Go.Proofs.YtgjdopjolokaiaaGreat

/- Package profile: lengths; points that are out, or closed; whether a list contains one. -/
namespace Go.Proofs.YtgjdopjolokaiaaGreat
open Go.RowKit

theorem isLen_any (n : Int) (w : World) : Calls Tryz.prog 80 #[.int .i64 n] w fun e w' => e = .returned (.bool (lenB n)) ∧ w = w' := by
  by_cases h0 : 0 ≤ n <;> by_cases h1 : n ≤ 100000
  all_goals
    go_enter Tryz.func80, Tryz.ntmps80
    go_wp2
    go_ret
    exact ⟨by simp [lenB, h0, h1], rfl⟩
theorem isOut_any (x r : Int) (w : World) : Calls Tryz.prog 60 #[.agg #[.int .i64 x, .int .i64 r]] w fun e w' => e = .returned (.bool (ptOut (x, r))) ∧ Below w.heap.size w w' := by
  have H1 := Lib.hid (fun W => isLen_any x W)
  have H2 := Lib.hid (fun W => isLen_any r W)
  cases h : lenB x with
  | false =>
    rw [h] at H1
    have e : ptOut (x, r) = true := by simp [ptOut, h]
    rw [e]
    go_enter Tryz.func60, Tryz.ntmps60
    go_wp2_with fail
    refine (H1.out _).mono ?_
    rintro e w1 ⟨rfl, hw⟩
    subst hw
    go_wp2
    go_ret
    exact ⟨rfl, bel_alloc (Below.refl _ _)⟩
  | true =>
    rw [h] at H1
    cases h2 : lenB r with
    | false =>
      rw [h2] at H2
      have e : ptOut (x, r) = true := by simp [ptOut, h2]
      rw [e]
      go_enter Tryz.func60, Tryz.ntmps60
      go_wp2_with fail
      refine (H1.out _).mono ?_
      rintro e w1 ⟨rfl, hw⟩
      subst hw
      go_wp2_with fail
      refine (H2.out _).mono ?_
      rintro e w1 ⟨rfl, hw⟩
      subst hw
      go_wp2
      go_ret
      exact ⟨rfl, bel_alloc (Below.refl _ _)⟩
    | true =>
      rw [h2] at H2
      have e : ptOut (x, r) = false := by simp [ptOut, h, h2]
      rw [e]
      go_enter Tryz.func60, Tryz.ntmps60
      go_wp2_with fail
      refine (H1.out _).mono ?_
      rintro e w1 ⟨rfl, hw⟩
      subst hw
      go_wp2_with fail
      refine (H2.out _).mono ?_
      rintro e w1 ⟨rfl, hw⟩
      subst hw
      go_wp2
      go_ret
      exact ⟨rfl, bel_alloc (Below.refl _ _)⟩
theorem isCl_any (x r : Int) (w : World) : Calls Tryz.prog 62 #[.agg #[.int .i64 x, .int .i64 r]] w fun e w' => e = .returned (.bool (ptCl (x, r))) ∧ Below w.heap.size w w' := by
  cases h : (r == 0) with
  | false =>
    have e : ptCl (x, r) = false := by simp only [ptCl, h]
    rw [e]
    go_enter Tryz.func62, Tryz.ntmps62
    go_wp2
    go_ret
    exact ⟨rfl, bel_alloc (Below.refl _ _)⟩
  | true =>
    have e : ptCl (x, r) = true := by simp only [ptCl, h]
    rw [e]
    go_enter Tryz.func62, Tryz.ntmps62
    go_wp2
    go_ret
    exact ⟨rfl, bel_alloc (Below.refl _ _)⟩

/-- the index of the first point of a kind -/
theorem index_some (f : Nat) (p : Int × Int → Bool) (hp : Hid (∀ x r W, Calls Tryz.prog f #[.agg #[.int .i64 x, .int .i64 r]] W fun e w' => e = .returned (.bool (p (x, r))) ∧ Below W.heap.size W w'))
    (eg : ∀ args w, (callFunc f args).run Tryz.prog w = .ok (.enter f args) w)
    (b off n cap : Nat) (l : List (Int × Int)) (B : Bool) (w : World) (n1 : n ≤ 1000) (hb : b < w.heap.size)
    (hc : Hid (∀ j, j < n → w.cell? ⟨b, off + j * 2, none⟩ = some (.int .i64 (gX l j)) ∧ w.cell? ⟨b, off + j * 2 + 1, none⟩ = some (.int .i64 (gR l j))))
    (h1 : Hid ((∃ j, j < n ∧ p (gX l j, gR l j) = true) → B = true)) (h2 : Hid ((∀ j, j < n → p (gX l j, gR l j) = false) → B = false)) :
    Calls Tryz.prog 67 #[.slice (some ⟨b, off, none⟩) n cap, .func (.func f) #[] #[]] w fun e w' => ∃ k : Int, e = .returned (.int .i64 k) ∧ decide (0 ≤ k) = B ∧ Below w.heap.size w w' := by
  go_enter Tryz.func67, Tryz.ntmps67
  go_wp2_with fail
  go_loopw [5, 8] (fun _ i wr => ∃ k : Nat, k ≤ n ∧ i = .int .i64 k ∧ Hid (Below w.heap.size w wr) ∧ Hid (∀ j, j < k → p (gX l j, gR l j) = false)) (fun _ i _ => n - (intOf i).toNat)
  case atStart => exact ⟨0, Nat.zero_le _, rfl, Below.refl _ _, fun j hj => by omega⟩
  case round =>
    obtain ⟨k, hk, rfl, hB, ha⟩ := hrel
    by_cases hlt : k < n
    · have c0 : wr.cell? ⟨b, off + k * 2, none⟩ = some (.int .i64 (gX l k)) := by rw [(bcell hB.out).1 _ _ hb]; exact (hc.out k hlt).1
      have c1 : wr.cell? ⟨b, off + k * 2 + 1, none⟩ = some (.int .i64 (gR l k)) := by rw [(bcell hB.out).1 _ _ hb]; exact (hc.out k hlt).2
      have HP := Lib.hid (fun W => hp.out (gX l k) (gR l k) W)
      cases hq : p (gX l k, gR l k) with
      | true =>
        have hBt := h1.out ⟨k, hlt, hq⟩
        rw [hq] at HP
        generalize gX l k = x at *
        generalize gR l k = r at *
        go_wp2_with fail
        refine (HP.out _).mono ?_
        rintro e w2 ⟨rfl, gg⟩
        have X := Lib.hid (bel_trans hB.out gg); clear gg
        go_wp2
        go_returns
        exact ⟨k, rfl, by rw [hBt]; simp, X.out⟩
      | false =>
        have ha2 : Hid (∀ j, j < k + 1 → p (gX l j, gR l j) = false) := fun j hj => by
          by_cases e : j = k
          · rw [e]; exact hq
          · exact ha.out j (by omega)
        rw [hq] at HP
        clear hq ha
        generalize gX l k = x at c0 HP
        generalize gR l k = r at c1 HP
        go_wp2_with fail
        refine (HP.out _).mono ?_
        rintro e w2 ⟨rfl, gg⟩
        have X := Lib.hid (bel_trans hB.out gg); clear gg
        go_wp2
        go_roundw
        case rel => exact ⟨k + 1, by omega, by go_num, X, ha2⟩
        case measure => simp [intOf]; omega
    · obtain rfl : k = n := by omega
      have hBf := h2.out ha.out
      go_wp2
      go_returns
      exact ⟨-1, rfl, by rw [hBf]; simp, hB.out⟩
theorem contains_some (f : Nat) (p : Int × Int → Bool) (hp : Hid (∀ x r W, Calls Tryz.prog f #[.agg #[.int .i64 x, .int .i64 r]] W fun e w' => e = .returned (.bool (p (x, r))) ∧ Below W.heap.size W w'))
    (eg : ∀ args w, (callFunc f args).run Tryz.prog w = .ok (.enter f args) w)
    (b off n cap : Nat) (l : List (Int × Int)) (w : World) (hl : n = l.length) (n1 : n ≤ 1000) (hb : b < w.heap.size)
    (hc : Hid (∀ j, j < n → w.cell? ⟨b, off + j * 2, none⟩ = some (.int .i64 (gX l j)) ∧ w.cell? ⟨b, off + j * 2 + 1, none⟩ = some (.int .i64 (gR l j)))) :
    Calls Tryz.prog 43 #[.slice (some ⟨b, off, none⟩) n cap, .func (.func f) #[] #[]] w fun e w' => e = .returned (.bool (l.any p)) ∧ Below w.heap.size w w' := by
  have HI := Lib.hid (index_some f p hp eg b off n cap l (l.any p) w n1 hb hc (fun ⟨j, hj, h⟩ => any_of (by omega) h) (fun h => any_not fun i hi => h i (by omega)))
  generalize l.any p = B at *
  clear eg hp hc hl
  go_enter Tryz.func43, Tryz.ntmps43
  go_wp2_with fail
  refine HI.out.mono ?_
  rintro e w1 ⟨k, rfl, hk, hb⟩
  have HB := Lib.hid hb; clear hb
  subst hk
  go_wp2
  all_goals
    go_ret
    exact ⟨by simp_all, HB.out⟩
end Go.Proofs.YtgjdopjolokaiaaGreat

/- Package profile: Check, end. -/
namespace Go.Proofs.YtgjdopjolokaiaaGreat
open Go.RowKit

theorem ck_few (a : Option Addr) (n cap : Nat) (w : World) (h : n < 2) :
    Calls Tryz.prog 36 #[.slice a n cap] w fun e w' => e = .returned (.int .i64 9) ∧ Below w.heap.size w w' := by
  go_enter Tryz.func36, Tryz.ntmps36
  go_wp2
  go_returns
  exact ⟨rfl, Below.refl _ _⟩
theorem ck_many (a : Option Addr) (n cap : Nat) (w : World) (h : 32 < n) (h2 : n ≤ 9223372036854775807) :
    Calls Tryz.prog 36 #[.slice a n cap] w fun e w' => e = .returned (.int .i64 8) ∧ Below w.heap.size w w' := by
  go_enter Tryz.func36, Tryz.ntmps36
  go_wp2
  go_returns
  exact ⟨rfl, Below.refl _ _⟩
set_option maxHeartbeats 4000000 in
theorem ck_some (b off n cap : Nat) (O A C S : Bool) (w : World) (n0 : 2 ≤ n) (n1 : n ≤ 32)
    (H1 : Hid (∀ W, Below w.heap.size w W → Calls Tryz.prog 43 #[.slice (some ⟨b, off, none⟩) n cap, .func (.func 60) #[] #[]] W fun e w' => e = .returned (.bool O) ∧ Below W.heap.size W w'))
    (H2 : Hid (∀ W, Below w.heap.size w W → Calls Tryz.prog 61 #[.slice (some ⟨b, off, none⟩) n cap] W fun e w' => e = .returned (.bool A) ∧ Below W.heap.size W w'))
    (H3 : Hid (∀ W, Below w.heap.size w W → Calls Tryz.prog 43 #[.slice (some ⟨b, off, none⟩) n cap, .func (.func 62) #[] #[]] W fun e w' => e = .returned (.bool C) ∧ Below W.heap.size W w'))
    (H4 : Hid (∀ W, Below w.heap.size w W → Calls Tryz.prog 63 #[.slice (some ⟨b, off, none⟩) n cap] W fun e w' => e = .returned (.bool S) ∧ Below W.heap.size W w')) :
    Calls Tryz.prog 36 #[.slice (some ⟨b, off, none⟩) n cap] w fun e w' => e = .returned (.int .i64 (if O = true then 2 else if A = false then 5 else if C = true then 16 else if S = true then 10 else 0)) ∧ Below w.heap.size w w' := by
  cases O with
  | true =>
    go_enter Tryz.func36, Tryz.ntmps36
    go_wp2_with fail
    refine (H1.out _ (Below.refl _ _)).mono ?_
    rintro e w1 ⟨rfl, gg⟩
    have X1 := Lib.hid gg; clear gg
    go_wp2
    go_returns
    exact ⟨rfl, X1.out⟩
  | false =>
    cases A with
    | false =>
      go_enter Tryz.func36, Tryz.ntmps36
      go_wp2_with fail
      refine (H1.out _ (Below.refl _ _)).mono ?_
      rintro e w1 ⟨rfl, gg⟩
      have X1 := Lib.hid gg; clear gg
      go_wp2_with fail
      refine (H2.out _ X1.out).mono ?_
      rintro e w2 ⟨rfl, gg⟩
      have X2 := Lib.hid (bel_trans X1.out gg); clear gg
      go_wp2
      go_returns
      exact ⟨rfl, X2.out⟩
    | true =>
      cases C with
      | true =>
        go_enter Tryz.func36, Tryz.ntmps36
        go_wp2_with fail
        refine (H1.out _ (Below.refl _ _)).mono ?_
        rintro e w1 ⟨rfl, gg⟩
        have X1 := Lib.hid gg; clear gg
        go_wp2_with fail
        refine (H2.out _ X1.out).mono ?_
        rintro e w2 ⟨rfl, gg⟩
        have X2 := Lib.hid (bel_trans X1.out gg); clear gg
        go_wp2_with fail
        refine (H3.out _ X2.out).mono ?_
        rintro e w3 ⟨rfl, gg⟩
        have X3 := Lib.hid (bel_trans X2.out gg); clear gg
        go_wp2
        go_returns
        exact ⟨rfl, X3.out⟩
      | false =>
        cases S with
        | true =>
          go_enter Tryz.func36, Tryz.ntmps36
          go_wp2_with fail
          refine (H1.out _ (Below.refl _ _)).mono ?_
          rintro e w1 ⟨rfl, gg⟩
          have X1 := Lib.hid gg; clear gg
          go_wp2_with fail
          refine (H2.out _ X1.out).mono ?_
          rintro e w2 ⟨rfl, gg⟩
          have X2 := Lib.hid (bel_trans X1.out gg); clear gg
          go_wp2_with fail
          refine (H3.out _ X2.out).mono ?_
          rintro e w3 ⟨rfl, gg⟩
          have X3 := Lib.hid (bel_trans X2.out gg); clear gg
          go_wp2_with fail
          refine (H4.out _ X3.out).mono ?_
          rintro e w4 ⟨rfl, gg⟩
          have X4 := Lib.hid (bel_trans X3.out gg); clear gg
          go_wp2
          go_returns
          exact ⟨rfl, X4.out⟩
        | false =>
          go_enter Tryz.func36, Tryz.ntmps36
          go_wp2_with fail
          refine (H1.out _ (Below.refl _ _)).mono ?_
          rintro e w1 ⟨rfl, gg⟩
          have X1 := Lib.hid gg; clear gg
          go_wp2_with fail
          refine (H2.out _ X1.out).mono ?_
          rintro e w2 ⟨rfl, gg⟩
          have X2 := Lib.hid (bel_trans X1.out gg); clear gg
          go_wp2_with fail
          refine (H3.out _ X2.out).mono ?_
          rintro e w3 ⟨rfl, gg⟩
          have X3 := Lib.hid (bel_trans X2.out gg); clear gg
          go_wp2_with fail
          refine (H4.out _ X3.out).mono ?_
          rintro e w4 ⟨rfl, gg⟩
          have X4 := Lib.hid (bel_trans X3.out gg); clear gg
          go_wp2
          go_returns
          exact ⟨rfl, X4.out⟩
theorem ck_any (v : Value) (l : List (Int × Int)) (w : World) (hv : Pts w v l) :
    Calls Tryz.prog 36 #[v] w fun e w' => e = .returned (.int .i64 (ckE l)) ∧ Below w.heap.size w w' := by
  obtain ⟨a, cap, rfl, hl, hh⟩ := hv
  by_cases h0 : l.length < 2
  · rw [show ckE l = 9 by unfold ckE; rw [if_pos h0]]
    exact ck_few a l.length cap w h0
  · by_cases h1 : 32 < l.length
    · rw [show ckE l = 8 by unfold ckE; rw [if_neg h0, if_pos h1]]
      exact ck_many a l.length cap w h1 (by omega)
    · rcases hh with hh | ⟨b, off, rfl, hb, hc⟩
      · omega
      · have hc2 : ∀ W, Below w.heap.size w W → ∀ j, j < l.length → W.cell? ⟨b, off + j * 2, none⟩ = some (.int .i64 (gX l j)) ∧ W.cell? ⟨b, off + j * 2 + 1, none⟩ = some (.int .i64 (gR l j)) := fun W hW j hj => by
          rw [(bcell hW).1 _ _ hb, (bcell hW).1 _ _ hb]; exact hc j hj
        have e : ckE l = (if l.any ptOut = true then 2 else if (adv l (l.length - 1) && (gX l 0 == 0)) = false then 5 else if l.any ptCl = true then 16 else if swl l (l.length - 1) = true then 10 else 0) := by unfold ckE; rw [if_neg h0, if_neg h1]
        rw [e]
        refine ck_some b off l.length cap _ _ _ _ w (by omega) (by omega) (fun W hW => ?_) (fun W hW => ?_) (fun W hW => ?_) (fun W hW => ?_)
        · exact contains_some 60 ptOut (Lib.hid fun x r W => isOut_any x r W) (enters_of Tryz.func60 (by kernel_rfl) rfl) b off l.length cap l W rfl (by omega) (Nat.lt_of_lt_of_le hb hW.size) (Lib.hid (hc2 W hW))
        · refine advances_some b off l.length cap l _ W (by omega) (by omega) (Nat.lt_of_lt_of_le hb hW.size) (Lib.hid (hc2 W hW)) (Lib.hid fun h => ?_) (Lib.hid fun ⟨j, hj, h⟩ => ?_)
          · rw [(adv_iff l _).2 (fun i hi => h i (by omega)), Bool.true_and]
          · have : adv l (l.length - 1) = false := by
              rw [Bool.eq_false_iff]
              intro ha
              exact h ((adv_iff l _).1 ha j (by omega))
            rw [this, Bool.false_and]
        · exact contains_some 62 ptCl (Lib.hid fun x r W => isCl_any x r W) (enters_of Tryz.func62 (by kernel_rfl) rfl) b off l.length cap l W rfl (by omega) (Nat.lt_of_lt_of_le hb hW.size) (Lib.hid (hc2 W hW))
        · exact swells_some b off l.length cap l _ W (by omega) (by omega) (Nat.lt_of_lt_of_le hb hW.size) (Lib.hid (hc2 W hW)) (Lib.hid rfl)

theorem end_any (b off n cap : Nat) (l : List (Int × Int)) (w : World) (n0 : 1 ≤ n) (n1 : n ≤ 1000)
    (hc : Hid (∀ j, j < n → w.cell? ⟨b, off + j * 2, none⟩ = some (.int .i64 (gX l j)) ∧ w.cell? ⟨b, off + j * 2 + 1, none⟩ = some (.int .i64 (gR l j)))) :
    Calls Tryz.prog 65 #[.slice (some ⟨b, off, none⟩) n cap] w fun e w' => e = .returned (.int .i64 (gX l (n - 1))) ∧ w' = w := by
  obtain ⟨m, rfl⟩ : ∃ m, n = m + 1 := ⟨n - 1, by omega⟩
  have c0 := (hc.out m (by omega)).1
  rw [show m + 1 - 1 = m by omega]
  generalize gX l m = x at *
  have wk : IntKind.i64.wrap ((m : Int) + 1 - 1) = (m : Int) := by simp only [IntKind.wrap_i64]; omega
  have wk2 : IntKind.i64.wrap (m : Int) = (m : Int) := by simp only [IntKind.wrap_i64]; omega
  go_enter Tryz.func65, Tryz.ntmps65
  go_wp2
  go_ret
  exact ⟨rfl, rfl⟩
theorem end_of {v : Value} {l : List (Int × Int)} {w : World} (hv : Pts w v l) (h : ckE l = 0) :
    Calls Tryz.prog 65 #[v] w fun e w' => e = .returned (.int .i64 (gX l (l.length - 1))) ∧ w' = w := by
  have hR := (ckE_iff l).1 h
  have n0 := hR.n0
  have n1 := hR.n1
  obtain ⟨a, cap, rfl, hl, hh⟩ := hv
  rcases hh with hh | ⟨b, off, rfl, hb, hc⟩
  · omega
  · exact end_any b off l.length cap l w (by omega) (by omega) (Lib.hid hc)
end Go.Proofs.YtgjdopjolokaiaaGreat

/- Package profile: place. -/
namespace Go.Proofs.YtgjdopjolokaiaaGreat
open Go.RowKit
theorem place_bad (v : Value) (x E : Int) (w : World) (e1 : (E == 0) = false) (e2 : (E != 0) = true)
    (H1 : Hid (Calls Tryz.prog 36 #[v] w fun e w' => e = .returned (.int .i64 E) ∧ Below w.heap.size w w')) :
    Calls Tryz.prog 86 #[v, .int .i64 x] w fun e w' => e = .returned (.int .i64 1) ∧ Below w.heap.size w w' := by
  go_enter Tryz.func86, Tryz.ntmps86
  go_wp2_with fail
  refine H1.out.mono ?_
  rintro e w1 ⟨rfl, gg⟩
  have X1 := Lib.hid gg; clear gg
  go_wp2
  go_returns
  exact ⟨rfl, X1.out⟩
theorem place_ok (v : Value) (x X : Int) (w : World)
    (H1 : Hid (Calls Tryz.prog 36 #[v] w fun e w' => e = .returned (.int .i64 0) ∧ Below w.heap.size w w'))
    (H2 : Hid (∀ W, Below w.heap.size w W → Calls Tryz.prog 65 #[v] W fun e w' => e = .returned (.int .i64 X) ∧ w' = W)) :
    Calls Tryz.prog 86 #[v, .int .i64 x] w fun e w' => e = .returned (.int .i64 (if x < 0 ∨ X < x then 2 else 0)) ∧ Below w.heap.size w w' := by
  by_cases h0 : x < 0
  · rw [if_pos (.inl h0)]
    go_enter Tryz.func86, Tryz.ntmps86
    go_wp2_with fail
    refine H1.out.mono ?_
    rintro e w1 ⟨rfl, gg⟩
    have X1 := Lib.hid gg; clear gg
    go_wp2
    go_returns
    exact ⟨rfl, X1.out⟩
  · by_cases h1 : X < x
    · rw [if_pos (.inr h1)]
      go_enter Tryz.func86, Tryz.ntmps86
      go_wp2_with fail
      refine H1.out.mono ?_
      rintro e w1 ⟨rfl, gg⟩
      have X1 := Lib.hid gg; clear gg
      go_wp2_with fail
      refine (H2.out _ X1.out).mono ?_
      rintro e w2 ⟨rfl, hw⟩
      subst hw
      go_wp2
      go_returns
      exact ⟨rfl, X1.out⟩
    · rw [if_neg (by omega)]
      go_enter Tryz.func86, Tryz.ntmps86
      go_wp2_with fail
      refine H1.out.mono ?_
      rintro e w1 ⟨rfl, gg⟩
      have X1 := Lib.hid gg; clear gg
      go_wp2_with fail
      refine (H2.out _ X1.out).mono ?_
      rintro e w2 ⟨rfl, hw⟩
      subst hw
      go_wp2
      go_returns
      exact ⟨rfl, X1.out⟩
theorem place_any (v : Value) (l : List (Int × Int)) (x : Int) (w : World) (hv : Pts w v l) :
    Calls Tryz.prog 86 #[v, .int .i64 x] w fun e w' => e = .returned (.int .i64 (plE l x)) ∧ Below w.heap.size w w' := by
  have HC := Lib.hid (ck_any v l w hv)
  unfold plE
  by_cases h : ckE l = 0
  · rw [if_pos h]
    rw [h] at HC
    exact place_ok v x _ w HC (Lib.hid fun W hW => end_of (hv.below hW) h)
  · rw [if_neg h]
    exact place_bad v x _ w (by simpa using h) (by simpa using h) HC
end Go.Proofs.YtgjdopjolokaiaaGreat

/- Package capacity: frustum, up, Frustums, Space. -/
namespace Go.Proofs.YtgjdopjolokaiaaGreat
open Go.RowKit

end Go.Proofs.YtgjdopjolokaiaaGreat

/- Package capacity: Frustums. -/
namespace Go.Proofs.YtgjdopjolokaiaaGreat
open Go.RowKit

end Go.Proofs.YtgjdopjolokaiaaGreat

/- A range over an iterator that stores into boxes of its own between two rounds; every round goes on. -/
namespace Go.Proofs.YtgjdopjolokaiaaGreat
open Go Go.RowKit

/-- all blocks but G lie as they lay -/
def KeepB (G : Nat) (A B : World) : Prop := A.heap.size ≤ B.heap.size ∧ ∀ k, k < A.heap.size → k ≠ G → B.heap[k]? = A.heap[k]?
theorem keepB_refl (G : Nat) (A : World) : KeepB G A A := ⟨Nat.le_refl _, fun _ _ _ => rfl⟩
theorem keepB_t {G : Nat} {A B C : World} (h : KeepB G A B) (k : KeepB G B C) : KeepB G A C := ⟨Nat.le_trans h.1 k.1, fun i hi hg => (k.2 i (Nat.lt_of_lt_of_le hi h.1) hg).trans (h.2 i hi hg)⟩

/-- the iterator's word: what J says is kept by whatever is laid or turned above the start; all of L is yielded -/
def SeqAll {α : Type} (F : Fence) (n : Nat) (P : Program) (g : Nat) (lb : Array Value) (encs : α → Array Value) (G : Nat) (L : List α) (w : World) : Prop :=
  ∀ (l : Nat) (J : List α → World → Prop) (W : World), Below w.heap.size w W →
    (∀ s A B row, J s A → A.grownBy B row → (∀ r, row = some r → W.heap.size ≤ r) → J s B) →
    (∀ pre x rest W1, L = pre ++ x :: rest → J pre W1 → YieldAt F (n - 1) P l (encs x) W1 fun e W' => e = .returned (.bool true) ∧ J (pre ++ [x]) W' ∧ KeepB G W1 W') →
    J [] W →
    CallsIn F n P g (#[.func (.yield l) #[] #[]] ++ lb) W fun e W' => (∃ v, e = .returned v) ∧ J L W'

/-- how a round is left -/
def allPost {α : Type} (G : Nat) (I : List α → World → Prop) (xs : List α) (W : World) : Exit → Act → World → Prop
  | .normal, _, W' => KeepB G W W' ∧ I xs W'
  | .ret, _, _ => False
  | .exit _, _, _ => False
  | .goto _, _, _ => False
  | .panic _, _, _ => False
  | .outgrown, _, _ => False

theorem wpIn_rangeFunc_all {α : Type} {F : Fence} {n : Nat} {P : Program} {g : Operand} {ps : Array Tmp} {assign body : Code} {Q : Exit → Act → World → Prop} {a : Act} {w : World}
    (hro : F.round = none) (h1 : 1 ≤ n) {gf : Nat} {lb : Array Value} (hg : a.eval g = .func (.func gf) #[] lb) (hFg : F.fn gf) (eg : ∀ args w, (callFunc gf args).run P w = .ok (.enter gf args) w)
    {encs : α → Array Value} {G : Nat} {L : List α} (hseq : SeqAll F (n - 1) P gf lb encs G L w) (hG : G < w.heap.size) (hps : ∀ x, (encs x).size = ps.size)
    (I : List α → World → Prop)
    (hI : ∀ s A B row, I s A → A.grownBy B row → (∀ r, row = some r → w.heap.size ≤ r) → I s B)
    (h0 : I [] w) (Ax : α → Act → World → Prop)
    (hAx : ∀ x a' A B, Ax x a' A → A.grownBy B (some (w.heap.size + 1)) → (∃ o : Obj, A.heap[w.heap.size + 1]? = some o ∧ o.isCells = false) → Ax x a' B)
    (hassign : ∀ (l : Nat) (pre : List α) (x : α) (W : World) (K : Act → World → Prop), I pre W → w.heap.size + 1 < W.heap.size → (∀ a' W', Below W.heap.size W W' → I pre W' → Ax x a' W' → K a' W') →
      assign.wpIn (F.inRound l) (n - 1 - 1) P (Exit.then K (fun _ _ _ => False)) { tmps := (ps.zip (encs x)).foldl (fun t (p, v) => t.setIfInBounds p v) a.tmps, defers := [] } W)
    (hbody : ∀ (l : Nat) (pre : List α) (x : α) (rest : List α) (a' : Act) (W : World), L = pre ++ x :: rest → w.heap.size + 1 < W.heap.size → I pre W → Ax x a' W → body.wpIn (F.inRound l) (n - 1 - 1) P (allPost G I (pre ++ [x]) W) a' W)
    (hdone : ∀ (W : World), I L W → W.heap[w.heap.size]? = some (.deferred (some [])) → Q .normal { a with defers := { target := .collected w.heap.size, args := #[] } :: a.defers } W) :
    (Code.rangeFunc g ps assign body).wpIn F n P Q a w := by
  refine wpIn_rangeFunc ?_
  intro fn hfn
  rw [hro]
  obtain ⟨rec, hrec⟩ : ∃ rec : LoopState → Option Code → Loop, rec = fun st pe => { state := st, pending := pe, fn, tmps := a.tmps, params := ps, assign, body, defers := w.heap.size } := ⟨_, rfl⟩
  obtain ⟨W1, hW1⟩ : ∃ W1, (w.alloc (.deferred (some []))).alloc (.loop (rec .ready none)) = W1 := ⟨_, rfl⟩
  have hL1 : W1.heap[w.heap.size + 1]? = some (.loop (rec .ready none)) := by
    rw [← hW1]; have := World.alloc_heap_new (w.alloc (.deferred (some []))) (.loop (rec .ready none)); rwa [World.size_alloc] at this
  have hK1 : W1.heap[w.heap.size]? = some (.deferred (some [])) := by
    rw [← hW1]; exact (Below.heap_alloc _ _ _ (by simp)).trans (World.alloc_heap_new w _)
  have hI1 : I [] W1 := by
    rw [← hW1]
    exact hI _ _ _ none (hI _ _ _ none h0 (World.grownBy_alloc w _ none) (fun r e => by cases e)) (World.grownBy_alloc _ _ none) (fun r e => by cases e)
  have hb1 : Below w.heap.size w W1 := by
    rw [← hW1]
    exact ((Below.refl _ w).alloc (Nat.le_refl _) _).alloc (by simp) _
  have hsz : W1.heap.size = w.heap.size + 1 + 1 := by rw [← hW1]; simp
  have rowL : ∀ {A : World} {v : Obj}, A.grownBy (A.putObj (w.heap.size + 1) v) (some (w.heap.size + 1)) := fun {A v} => grownBy_putObj' A _ v
  have okL : ∀ r, some (w.heap.size + 1) = some r → w.heap.size ≤ r := fun r e => by cases e; omega
  refine ⟨w.heap.size + 1, [{ target := .collected w.heap.size, args := #[] }], W1, { target := .fn (.func gf) lb, args := #[.func (.yield (w.heap.size + 1)) #[] #[]] }, W1, gf,
    #[.func (.yield (w.heap.size + 1)) #[] #[]] ++ lb, W1, ?_, ?_, ?_, ?_, fun _ => h1, ?_⟩
  · rw [← hW1, hrec]; exact run_enterLoop_outer _ _ _ _ _
  · simp only [resolve, hg]
    simp [go_sem]
  · intro f' hf'; simp [Target.leads] at hf'; subst hf'; exact hFg
  · simp [invoke, go_sem, eg]
  · refine (hseq (w.heap.size + 1)
      (fun pre W => I pre W ∧ W.heap[w.heap.size + 1]? = some (.loop (rec .ready none)) ∧ W.heap[w.heap.size]? = some (.deferred (some [])))
      W1 hb1
      (fun s A B row hs hg' hr => by
        have q : ∀ k, k < W1.heap.size → k < A.heap.size → B.heap[k]? = A.heap[k]? := fun k hk hlt => hg'.block k hlt (fun e => by have := hr k (by first | exact e | exact e.symm); omega)
        refine ⟨hI s A B row hs.1 hg' (fun r e => ?_), (q _ (by omega) (Array.getElem?_eq_some_iff.1 hs.2.1).1).trans hs.2.1, (q _ (by omega) (Array.getElem?_eq_some_iff.1 hs.2.2).1).trans hs.2.2⟩
        have := hr r e
        omega)
      ?_ ⟨hI1, hL1, hK1⟩).mono ?_
    · -- a round
      rintro pre x rest W hL ⟨hi, hl, hk⟩
      have hlt : w.heap.size + 1 < W.heap.size := (Array.getElem?_eq_some_iff.1 hl).1
      have hy := run_yield (P := P) (args := encs x) hl (by rw [hrec]; exact hps x)
      rw [hrec] at hy
      refine ⟨fn, _, assign, body, hy, roundIn_of_wpIn hfn (hassign _ pre x W _ hi hlt (fun a' W2 hb hi2 hax => ?_))⟩
      have hlA : W2.heap[w.heap.size + 1]? = some (.loop (rec .ready none)) := (hb.block _ hlt).trans hl
      have hkA : W2.heap[w.heap.size]? = some (.deferred (some [])) := (hb.block _ (by omega)).trans hk
      have hltA : w.heap.size + 1 < W2.heap.size := Nat.lt_of_lt_of_le hlt hb.size
      refine ⟨_, run_beginRound hlA (by rw [hrec]), ?_⟩
      have hl2 : (W2.putObj (w.heap.size + 1) (.loop { rec .ready none with state := .busy })).heap[w.heap.size + 1]? = some (.loop { rec .ready none with state := .busy }) := World.putObj_heap_same hltA
      have hk2 : (W2.putObj (w.heap.size + 1) (.loop { rec .ready none with state := .busy })).heap[w.heap.size]? = some (.deferred (some [])) := (World.putObj_heap_other (by omega)).trans hkA
      have hlt2 : w.heap.size + 1 < (W2.putObj (w.heap.size + 1) (.loop { rec .ready none with state := .busy })).heap.size := (Array.getElem?_eq_some_iff.1 hl2).1
      have hsz2 : (W2.putObj (w.heap.size + 1) (.loop { rec .ready none with state := .busy })).heap.size = W2.heap.size := by simp [World.putObj]
      refine wpIn_mono (hbody _ pre x rest a' _ hL hlt2 (hI _ _ _ _ hi2 rowL okL) (hAx _ _ _ _ hax rowL ⟨_, hlA, rfl⟩)) ?_
      rintro e a3 W3 hp
      cases e with
      | normal =>
        obtain ⟨⟨hz, hkp⟩, hi3⟩ := hp
        have hz2 : W2.heap.size ≤ W3.heap.size := Nat.le_trans (by simp [World.putObj]) hz
        have hl3 := (hkp _ hlt2 (by omega)).trans hl2
        have hk3 := (hkp (w.heap.size) (Nat.lt_of_succ_lt hlt2) (by omega)).trans hk2
        have hlt3 := (Array.getElem?_eq_some_iff.1 hl3).1
        have hr := run_endRound (P := P) none hl3
        have hl4 : (W3.putObj (w.heap.size + 1) (.loop (rec .ready none))).heap[w.heap.size + 1]? = some (.loop (rec .ready none)) := World.putObj_heap_same hlt3
        have hk4 : (W3.putObj (w.heap.size + 1) (.loop (rec .ready none))).heap[w.heap.size]? = some (.deferred (some [])) := (World.putObj_heap_other (by omega)).trans hk3
        have hs4 : (W3.putObj (w.heap.size + 1) (.loop (rec .ready none))).heap.size = W3.heap.size := by simp [World.putObj]
        refine ⟨_, W3.putObj (w.heap.size + 1) (.loop (rec .ready none)), ?_, rfl, ⟨hI _ _ _ _ hi3 rowL okL, hl4, hk4⟩, by have := hb.size; omega, fun k hk5 hg5 => ?_⟩
        · rw [hrec] at hr ⊢
          exact hr
        · by_cases e5 : k = w.heap.size + 1
          · subst e5; exact hl4.trans hl.symm
          · refine (World.putObj_heap_other (fun e => e5 (by first | exact e | exact e.symm))).trans ((hkp k (by have := hb.size; simp [World.putObj]; omega) hg5).trans ((World.putObj_heap_other (fun e => e5 (by first | exact e | exact e.symm))).trans (hb.block k hk5)))
      | ret => exact hp.elim
      | exit id => exact hp.elim
      | goto t => exact hp.elim
      | panic ch => exact hp.elim
      | outgrown => exact hp.elim
    · rintro e W2 ⟨⟨v, rfl⟩, hi, hl, hk⟩
      exact ⟨none, _, by have := run_endLoop (P := P) hl (by rw [hrec]; simp); rw [hrec] at this; exact this, hdone _ (hI _ _ _ _ hi rowL okL) ((World.putObj_heap_other (by omega)).trans hk)⟩
end Go.Proofs.YtgjdopjolokaiaaGreat

/- Package cask: isNamed, isStrange, isName, isPosition, isVolume. -/
namespace Go.Proofs.YtgjdopjolokaiaaGreat
open Go.RowKit

/-- a rune that may stand in a name -/
def nmR (x : Nat) : Bool := decide (97 ≤ x ∧ x ≤ 122) || decide (65 ≤ x ∧ x ≤ 90) || decide (48 ≤ x ∧ x ≤ 57) || decide (x = 45) || decide (x = 46)
theorem nmR_iff (x : Nat) : nmR x = true ↔ (97 ≤ x ∧ x ≤ 122) ∨ (65 ≤ x ∧ x ≤ 90) ∨ (48 ≤ x ∧ x ≤ 57) ∨ x = 45 ∨ x = 46 := by
  simp [nmR, or_assoc]
theorem nmR_C (c : UInt8) : nmR c.toNat = nmC c := rfl
/-- which is not one -/
def stR (x : Nat) : Bool := !nmR x
theorem named_core (x : Nat) (B : Bool) (w : World) (hx : x ≤ 1114111) (h1 : Hid (nmR x = true → B = true)) (h0 : Hid (nmR x = false → B = false)) :
    Calls Tryz.prog 109 #[.int .i32 (x : Int)] w fun e w' => e = .returned (.bool B) ∧ w' = w := by
  have cs : (97 ≤ x ∧ x ≤ 122) ∨ (65 ≤ x ∧ x ≤ 90) ∨ (48 ≤ x ∧ x ≤ 57) ∨ (45 ≤ x ∧ x ≤ 45) ∨ (46 ≤ x ∧ x ≤ 46) ∨ (0 ≤ x ∧ x ≤ 44) ∨ (47 ≤ x ∧ x ≤ 47) ∨ (58 ≤ x ∧ x ≤ 64) ∨ (91 ≤ x ∧ x ≤ 96) ∨ (123 ≤ x ∧ x ≤ 1114111) := by omega
  rcases cs with cs | cs | cs | cs | cs | cs | cs | cs | cs | cs
  · obtain rfl := h1.out ((nmR_iff _).2 (by omega))
    clear h0 h1
    have za0 : decide ((97 : Int) ≤ (x : Int)) = true := decide_eq_true (by omega)
    have za1 : decide ((x : Int) ≤ 122) = true := decide_eq_true (by omega)
    have zb0 : decide ((65 : Int) ≤ (x : Int)) = true := decide_eq_true (by omega)
    have zb1 : decide ((x : Int) ≤ 90) = false := decide_eq_false (by omega)
    have zc0 : decide ((48 : Int) ≤ (x : Int)) = true := decide_eq_true (by omega)
    have zc1 : decide ((x : Int) ≤ 57) = false := decide_eq_false (by omega)
    have ze : ((x : Int) == 45) = false := by simp only [beq_eq_false_iff_ne, ne_eq]; omega
    have zf : ((x : Int) == 46) = false := by simp only [beq_eq_false_iff_ne, ne_eq]; omega
    clear cs
    go_enter Tryz.func109, Tryz.ntmps109
    go_wp2
    go_returns
    exact ⟨rfl, rfl⟩
  · obtain rfl := h1.out ((nmR_iff _).2 (by omega))
    clear h0 h1
    have za0 : decide ((97 : Int) ≤ (x : Int)) = false := decide_eq_false (by omega)
    have za1 : decide ((x : Int) ≤ 122) = true := decide_eq_true (by omega)
    have zb0 : decide ((65 : Int) ≤ (x : Int)) = true := decide_eq_true (by omega)
    have zb1 : decide ((x : Int) ≤ 90) = true := decide_eq_true (by omega)
    have zc0 : decide ((48 : Int) ≤ (x : Int)) = true := decide_eq_true (by omega)
    have zc1 : decide ((x : Int) ≤ 57) = false := decide_eq_false (by omega)
    have ze : ((x : Int) == 45) = false := by simp only [beq_eq_false_iff_ne, ne_eq]; omega
    have zf : ((x : Int) == 46) = false := by simp only [beq_eq_false_iff_ne, ne_eq]; omega
    clear cs
    go_enter Tryz.func109, Tryz.ntmps109
    go_wp2
    go_returns
    exact ⟨rfl, rfl⟩
  · obtain rfl := h1.out ((nmR_iff _).2 (by omega))
    clear h0 h1
    have za0 : decide ((97 : Int) ≤ (x : Int)) = false := decide_eq_false (by omega)
    have za1 : decide ((x : Int) ≤ 122) = true := decide_eq_true (by omega)
    have zb0 : decide ((65 : Int) ≤ (x : Int)) = false := decide_eq_false (by omega)
    have zb1 : decide ((x : Int) ≤ 90) = true := decide_eq_true (by omega)
    have zc0 : decide ((48 : Int) ≤ (x : Int)) = true := decide_eq_true (by omega)
    have zc1 : decide ((x : Int) ≤ 57) = true := decide_eq_true (by omega)
    have ze : ((x : Int) == 45) = false := by simp only [beq_eq_false_iff_ne, ne_eq]; omega
    have zf : ((x : Int) == 46) = false := by simp only [beq_eq_false_iff_ne, ne_eq]; omega
    clear cs
    go_enter Tryz.func109, Tryz.ntmps109
    go_wp2
    go_returns
    exact ⟨rfl, rfl⟩
  · obtain rfl := h1.out ((nmR_iff _).2 (by omega))
    clear h0 h1
    have za0 : decide ((97 : Int) ≤ (x : Int)) = false := decide_eq_false (by omega)
    have za1 : decide ((x : Int) ≤ 122) = true := decide_eq_true (by omega)
    have zb0 : decide ((65 : Int) ≤ (x : Int)) = false := decide_eq_false (by omega)
    have zb1 : decide ((x : Int) ≤ 90) = true := decide_eq_true (by omega)
    have zc0 : decide ((48 : Int) ≤ (x : Int)) = false := decide_eq_false (by omega)
    have zc1 : decide ((x : Int) ≤ 57) = true := decide_eq_true (by omega)
    have ze : ((x : Int) == 45) = true := by simp only [beq_iff_eq]; omega
    have zf : ((x : Int) == 46) = false := by simp only [beq_eq_false_iff_ne, ne_eq]; omega
    clear cs
    go_enter Tryz.func109, Tryz.ntmps109
    go_wp2
    go_returns
    exact ⟨rfl, rfl⟩
  · obtain rfl := h1.out ((nmR_iff _).2 (by omega))
    clear h0 h1
    have za0 : decide ((97 : Int) ≤ (x : Int)) = false := decide_eq_false (by omega)
    have za1 : decide ((x : Int) ≤ 122) = true := decide_eq_true (by omega)
    have zb0 : decide ((65 : Int) ≤ (x : Int)) = false := decide_eq_false (by omega)
    have zb1 : decide ((x : Int) ≤ 90) = true := decide_eq_true (by omega)
    have zc0 : decide ((48 : Int) ≤ (x : Int)) = false := decide_eq_false (by omega)
    have zc1 : decide ((x : Int) ≤ 57) = true := decide_eq_true (by omega)
    have ze : ((x : Int) == 45) = false := by simp only [beq_eq_false_iff_ne, ne_eq]; omega
    have zf : ((x : Int) == 46) = true := by simp only [beq_iff_eq]; omega
    clear cs
    go_enter Tryz.func109, Tryz.ntmps109
    go_wp2
    go_returns
    exact ⟨rfl, rfl⟩
  · obtain rfl := h0.out (by rw [Bool.eq_false_iff, ne_eq, nmR_iff]; omega)
    clear h0 h1
    have za0 : decide ((97 : Int) ≤ (x : Int)) = false := decide_eq_false (by omega)
    have za1 : decide ((x : Int) ≤ 122) = true := decide_eq_true (by omega)
    have zb0 : decide ((65 : Int) ≤ (x : Int)) = false := decide_eq_false (by omega)
    have zb1 : decide ((x : Int) ≤ 90) = true := decide_eq_true (by omega)
    have zc0 : decide ((48 : Int) ≤ (x : Int)) = false := decide_eq_false (by omega)
    have zc1 : decide ((x : Int) ≤ 57) = true := decide_eq_true (by omega)
    have ze : ((x : Int) == 45) = false := by simp only [beq_eq_false_iff_ne, ne_eq]; omega
    have zf : ((x : Int) == 46) = false := by simp only [beq_eq_false_iff_ne, ne_eq]; omega
    clear cs
    go_enter Tryz.func109, Tryz.ntmps109
    go_wp2
    go_returns
    exact ⟨rfl, rfl⟩
  · obtain rfl := h0.out (by rw [Bool.eq_false_iff, ne_eq, nmR_iff]; omega)
    clear h0 h1
    have za0 : decide ((97 : Int) ≤ (x : Int)) = false := decide_eq_false (by omega)
    have za1 : decide ((x : Int) ≤ 122) = true := decide_eq_true (by omega)
    have zb0 : decide ((65 : Int) ≤ (x : Int)) = false := decide_eq_false (by omega)
    have zb1 : decide ((x : Int) ≤ 90) = true := decide_eq_true (by omega)
    have zc0 : decide ((48 : Int) ≤ (x : Int)) = false := decide_eq_false (by omega)
    have zc1 : decide ((x : Int) ≤ 57) = true := decide_eq_true (by omega)
    have ze : ((x : Int) == 45) = false := by simp only [beq_eq_false_iff_ne, ne_eq]; omega
    have zf : ((x : Int) == 46) = false := by simp only [beq_eq_false_iff_ne, ne_eq]; omega
    clear cs
    go_enter Tryz.func109, Tryz.ntmps109
    go_wp2
    go_returns
    exact ⟨rfl, rfl⟩
  · obtain rfl := h0.out (by rw [Bool.eq_false_iff, ne_eq, nmR_iff]; omega)
    clear h0 h1
    have za0 : decide ((97 : Int) ≤ (x : Int)) = false := decide_eq_false (by omega)
    have za1 : decide ((x : Int) ≤ 122) = true := decide_eq_true (by omega)
    have zb0 : decide ((65 : Int) ≤ (x : Int)) = false := decide_eq_false (by omega)
    have zb1 : decide ((x : Int) ≤ 90) = true := decide_eq_true (by omega)
    have zc0 : decide ((48 : Int) ≤ (x : Int)) = true := decide_eq_true (by omega)
    have zc1 : decide ((x : Int) ≤ 57) = false := decide_eq_false (by omega)
    have ze : ((x : Int) == 45) = false := by simp only [beq_eq_false_iff_ne, ne_eq]; omega
    have zf : ((x : Int) == 46) = false := by simp only [beq_eq_false_iff_ne, ne_eq]; omega
    clear cs
    go_enter Tryz.func109, Tryz.ntmps109
    go_wp2
    go_returns
    exact ⟨rfl, rfl⟩
  · obtain rfl := h0.out (by rw [Bool.eq_false_iff, ne_eq, nmR_iff]; omega)
    clear h0 h1
    have za0 : decide ((97 : Int) ≤ (x : Int)) = false := decide_eq_false (by omega)
    have za1 : decide ((x : Int) ≤ 122) = true := decide_eq_true (by omega)
    have zb0 : decide ((65 : Int) ≤ (x : Int)) = true := decide_eq_true (by omega)
    have zb1 : decide ((x : Int) ≤ 90) = false := decide_eq_false (by omega)
    have zc0 : decide ((48 : Int) ≤ (x : Int)) = true := decide_eq_true (by omega)
    have zc1 : decide ((x : Int) ≤ 57) = false := decide_eq_false (by omega)
    have ze : ((x : Int) == 45) = false := by simp only [beq_eq_false_iff_ne, ne_eq]; omega
    have zf : ((x : Int) == 46) = false := by simp only [beq_eq_false_iff_ne, ne_eq]; omega
    clear cs
    go_enter Tryz.func109, Tryz.ntmps109
    go_wp2
    go_returns
    exact ⟨rfl, rfl⟩
  · obtain rfl := h0.out (by rw [Bool.eq_false_iff, ne_eq, nmR_iff]; omega)
    clear h0 h1
    have za0 : decide ((97 : Int) ≤ (x : Int)) = true := decide_eq_true (by omega)
    have za1 : decide ((x : Int) ≤ 122) = false := decide_eq_false (by omega)
    have zb0 : decide ((65 : Int) ≤ (x : Int)) = true := decide_eq_true (by omega)
    have zb1 : decide ((x : Int) ≤ 90) = false := decide_eq_false (by omega)
    have zc0 : decide ((48 : Int) ≤ (x : Int)) = true := decide_eq_true (by omega)
    have zc1 : decide ((x : Int) ≤ 57) = false := decide_eq_false (by omega)
    have ze : ((x : Int) == 45) = false := by simp only [beq_eq_false_iff_ne, ne_eq]; omega
    have zf : ((x : Int) == 46) = false := by simp only [beq_eq_false_iff_ne, ne_eq]; omega
    clear cs
    go_enter Tryz.func109, Tryz.ntmps109
    go_wp2
    go_returns
    exact ⟨rfl, rfl⟩
theorem named_any (x : Nat) (w : World) (hx : x ≤ 1114111) : Calls Tryz.prog 109 #[.int .i32 (x : Int)] w fun e w' => e = .returned (.bool (nmR x)) ∧ w' = w :=
  named_core x _ w hx (fun h => h) (fun h => h)
theorem strange_any (x : Nat) (w : World) (hx : x ≤ 1114111) : Calls Tryz.prog 98 #[.int .i32 (x : Int)] w fun e w' => e = .returned (.bool (stR x)) ∧ w' = w := by
  have HN := Lib.hid (fun W => named_any x W hx)
  unfold stR
  generalize nmR x = B at *
  go_enter Tryz.func98, Tryz.ntmps98
  go_wp2_with fail
  refine (HN.out _).mono ?_
  rintro e w1 ⟨rfl, gg⟩
  subst gg
  cases B <;> (go_wp2; go_returns; exact ⟨rfl, rfl⟩)
theorem strange_pred (w : World) : Go.Proofs.PredAtRunes Tryz.prog 98 #[] stR w := fun W x hx _ =>
  (strange_any x W hx).mono fun _ _ ⟨h, h2⟩ => ⟨h, 0, h2⟩

/-! ### a name has no strange rune -/
theorem idx_good (s : ByteArray) : ∀ f pos, (∀ i (h : i < s.size), pos ≤ i → nmC s[i] = true) → Lib.idxFuncFrom stR true s f pos = -1
  | 0, _, _ => rfl
  | f + 1, pos, h => by
    unfold Lib.idxFuncFrom
    by_cases hp : pos < s.size
    · have hn := h pos hp (Nat.le_refl _)
      have ha : (s[pos]'hp).toNat < 128 := by rw [nmC_iff] at hn; omega
      rw [if_pos hp, decode_ascii s pos hp ha]
      have hs : stR (s[pos]'hp).toNat = false := by unfold stR; rw [nmR_C, hn]; rfl
      simp only [hs, Bool.false_eq_true, if_false]
      exact idx_good s f (pos + 1) fun i hi hle => h i hi (by omega)
    · rw [if_neg hp]
theorem idx_bad (s : ByteArray) (k : Nat) (hk : k < s.size) (hb : nmC s[k] = false) : ∀ f pos, pos ≤ k → k < pos + f → (∀ i (h : i < s.size), pos ≤ i → i < k → nmC s[i] = true) → 0 ≤ Lib.idxFuncFrom stR true s f pos
  | 0, _, h1, h2, _ => by omega
  | f + 1, pos, h1, h2, h => by
    unfold Lib.idxFuncFrom
    have hp : pos < s.size := by omega
    rw [if_pos hp]
    by_cases e : pos = k
    · subst e
      have hs : stR (Utf8.decode s pos).1 = true := by
        by_cases ha : (s[pos]'hp).toNat < 128
        · rw [decode_ascii s pos hp ha]; show stR (s[pos]'hp).toNat = true
          unfold stR; rw [nmR_C, hb]; rfl
        · have := (decode_high s pos hp (by omega)).1
          unfold stR
          have hn : nmR (Utf8.decode s pos).1 = false := by rw [Bool.eq_false_iff, ne_eq, nmR_iff]; omega
          rw [hn]; rfl
      rw [if_pos hs]; omega
    · have hn := h pos hp (Nat.le_refl _) (by omega)
      have ha : (s[pos]'hp).toNat < 128 := by rw [nmC_iff] at hn; omega
      rw [decode_ascii s pos hp ha]
      have hs : stR (s[pos]'hp).toNat = false := by unfold stR; rw [nmR_C, hn]; rfl
      simp only [hs, Bool.false_eq_true, if_false]
      exact idx_bad s k hk hb f (pos + 1) (by omega) (by omega) fun i hi hle hlt => h i hi (by omega) hlt
theorem all_bytes {p : UInt8 → Bool} (s : ByteArray) : s.data.toList.all p = true ↔ ∀ i (h : i < s.size), p s[i] = true := by
  rw [List.all_eq_true]
  constructor
  · intro h i hi
    refine h _ ?_
    show s.data[i] ∈ s.data.toList
    exact List.getElem_mem (l := s.data.toList) (by simpa using hi)
  · intro h x hx
    obtain ⟨i, hi, rfl⟩ := List.getElem_of_mem hx
    exact h i (by simpa using hi)
theorem first_bad {p : UInt8 → Bool} (s : ByteArray) (h : ¬ ∀ i (h : i < s.size), p s[i] = true) : ∃ k, ∃ hk : k < s.size, p s[k] = false ∧ ∀ i (h : i < s.size), i < k → p s[i] = true := by
  have h' : ∃ k, ∃ hk : k < s.size, p s[k] = false := by
    simp only [Classical.not_forall] at h
    obtain ⟨k, hk, h⟩ := h
    exact ⟨k, hk, by simpa using h⟩
  obtain ⟨n, hn⟩ := h'
  induction n using Nat.strongRecOn with
  | ind n ih =>
    by_cases g : ∀ i (h : i < s.size), i < n → p s[i] = true
    · obtain ⟨hk, hb⟩ := hn
      exact ⟨n, hk, hb, g⟩
    · simp only [Classical.not_forall] at g
      obtain ⟨i, hi, hlt, hb⟩ := g
      exact ih i hlt ⟨hi, by simpa using hb⟩
theorem idx_names (s : ByteArray) : decide (0 ≤ Lib.idxFunc stR true s) = !s.data.toList.all nmC := by
  by_cases h : ∀ i (h : i < s.size), nmC s[i] = true
  · rw [(all_bytes s).2 h]
    unfold Lib.idxFunc
    rw [idx_good s s.size 0 fun i hi _ => h i hi]
    rfl
  · have hn : s.data.toList.all nmC = false := by rw [Bool.eq_false_iff, ne_eq, all_bytes]; exact h
    rw [hn]
    obtain ⟨k, hk, hb, hg⟩ := first_bad s h
    exact decide_eq_true (idx_bad s k hk hb s.size 0 (by omega) (by omega) fun i hi _ hlt => hg i hi hlt)
theorem strange_calls : ∀ args w, (callFunc 98 args).run Tryz.prog w = .ok (.enter 98 args) w := enters_of Tryz.func98 (by kernel_rfl) rfl
theorem allow_any (s : ByteArray) (w : World) : Calls Tryz.prog 97 #[.string s, .func (.func 98) #[] #[]] w fun e w' => e = .returned (.bool (!s.data.toList.all nmC)) ∧ Below w.heap.size w w' := by
  have := Tryz.strings_ContainsFunc_runes 98 #[] strange_calls stR s w (strange_pred w)
  rwa [idx_names] at this
end Go.Proofs.YtgjdopjolokaiaaGreat

/- Package cask: isName, isPosition, isVolume, Check. -/
namespace Go.Proofs.YtgjdopjolokaiaaGreat
open Go.RowKit

theorem isPos_any (n : Int) (w : World) : Calls Tryz.prog 83 #[.int .i64 n] w fun e w' => e = .returned (.bool (decide (n = 1 ∨ n = 2))) ∧ w' = w := by
  by_cases h1 : n = 1
  · subst h1
    go_enter Tryz.func83, Tryz.ntmps83
    go_wp2
    go_returns
    exact ⟨rfl, rfl⟩
  · by_cases h2 : n = 2
    · subst h2
      go_enter Tryz.func83, Tryz.ntmps83
      go_wp2
      go_returns
      exact ⟨rfl, rfl⟩
    · rw [decide_eq_false (show ¬ (n = 1 ∨ n = 2) by omega)]
      have e1 : (n == 1) = false := by simpa using h1
      have e2 : (n == 2) = false := by simpa using h2
      clear h1 h2
      go_enter Tryz.func83, Tryz.ntmps83
      go_wp2
      go_returns
      exact ⟨rfl, rfl⟩
theorem isVol_any (n : Int) (w : World) : Calls Tryz.prog 84 #[.int .i64 n] w fun e w' => e = .returned (.bool (decide (0 ≤ n ∧ n ≤ 1073741824))) ∧ w' = w := by
  by_cases h1 : 0 ≤ n
  · by_cases h2 : n ≤ 1073741824
    · rw [decide_eq_true (show 0 ≤ n ∧ n ≤ 1073741824 by omega)]
      have e1 : decide (0 ≤ n) = true := decide_eq_true h1
      have e2 : decide (n ≤ 1073741824) = true := decide_eq_true h2
      clear h1 h2
      go_enter Tryz.func84, Tryz.ntmps84
      go_wp2
      go_returns
      exact ⟨rfl, rfl⟩
    · rw [decide_eq_false (show ¬ (0 ≤ n ∧ n ≤ 1073741824) by omega)]
      have e1 : decide (0 ≤ n) = true := decide_eq_true h1
      have e2 : decide (n ≤ 1073741824) = false := decide_eq_false h2
      clear h1 h2
      go_enter Tryz.func84, Tryz.ntmps84
      go_wp2
      go_returns
      exact ⟨rfl, rfl⟩
  · rw [decide_eq_false (show ¬ (0 ≤ n ∧ n ≤ 1073741824) by omega)]
    have e1 : decide (0 ≤ n) = false := decide_eq_false h1
    clear h1
    go_enter Tryz.func84, Tryz.ntmps84
    go_wp2
    go_returns
    exact ⟨rfl, rfl⟩
theorem isName_core (s : ByteArray) (A B : Bool) (w : World) (hs : s.size ≤ 9223372036854775807) (hA : Hid (s.data.toList.all nmC = A)) (hB : Hid (B = (A && decide (1 ≤ s.size) && decide (s.size ≤ 64))))
    (HC : Hid (∀ W, Calls Tryz.prog 97 #[.string s, .func (.func 98) #[] #[]] W fun e w' => e = .returned (.bool (!A)) ∧ Below W.heap.size W w')) :
    Calls Tryz.prog 82 #[.string s] w fun e w' => e = .returned (.bool B) ∧ Below w.heap.size w w' := by
  have hl : s.toList = s.data.toList := ByteArray.toList_eq s
  by_cases h0 : s.size = 0
  · have g1 : s.data.toList = [] := List.eq_nil_of_length_eq_zero (by simpa using h0)
    have g0 : s.toList.isEmpty = true := by rw [hl, g1]; rfl
    obtain rfl : B = false := by rw [hB.out]; simp [h0]
    clear hl g1 h0
    go_enter Tryz.func82, Tryz.ntmps82
    go_wp2
    go_returns
    exact ⟨rfl, Below.refl _ _⟩
  · have g0 : s.toList.isEmpty = false := by
      rw [hl]
      cases hh : s.data.toList with
      | nil => exact absurd (by have := congrArg List.length hh; simpa using this) h0
      | cons a b => rfl
    have g0' : (!s.toList.isEmpty) = true := by rw [g0]; rfl
    by_cases h1 : s.size ≤ 64
    · obtain rfl : B = A := by rw [hB.out]; simp [show 1 ≤ s.size by omega, h1]
      have d0 : decide ((s.size : Int) ≤ 64) = true := decide_eq_true (by omega)
      clear hl h0 h1
      cases B
      all_goals
        go_enter Tryz.func82, Tryz.ntmps82
        go_wp2_with fail
        refine (HC.out _).mono ?_
        rintro e w1 ⟨rfl, gg⟩
        have X1 := Lib.hid gg; clear gg
        go_wp2
        go_returns
        exact ⟨rfl, X1.out⟩
    · obtain rfl : B = false := by rw [hB.out]; simp [h1]
      have d0 : decide ((s.size : Int) ≤ 64) = false := decide_eq_false (by omega)
      clear hl h0 h1
      go_enter Tryz.func82, Tryz.ntmps82
      go_wp2
      go_returns
      exact ⟨rfl, Below.refl _ _⟩
theorem isName_any (s : ByteArray) (w : World) (hs : s.size ≤ 9223372036854775807) :
    Calls Tryz.prog 82 #[.string s] w fun e w' => e = .returned (.bool (isNm s)) ∧ Below w.heap.size w w' :=
  isName_core s _ _ w hs rfl rfl fun W => allow_any s W
theorem ckk_core (nm : ByteArray) (ps dc E R : Int) (N P V : Bool) (a : Option Addr) (n cap : Nat) (w : World)
    (hE : Hid (R = if N = true then (if P = true then (if V = true then E else 2) else 2) else 4))
    (H1 : Hid (∀ W, Calls Tryz.prog 82 #[.string nm] W fun e w' => e = .returned (.bool N) ∧ Below W.heap.size W w'))
    (H2 : Hid (∀ W, Calls Tryz.prog 83 #[.int .i64 ps] W fun e w' => e = .returned (.bool P) ∧ w' = W))
    (H3 : Hid (∀ W, Calls Tryz.prog 84 #[.int .i64 dc] W fun e w' => e = .returned (.bool V) ∧ w' = W))
    (H4 : Hid (∀ W, Below w.heap.size w W → Calls Tryz.prog 36 #[.slice a n cap] W fun e w' => e = .returned (.int .i64 E) ∧ Below W.heap.size W w')) :
    Calls Tryz.prog 64 #[.agg #[.string nm, .int .i64 ps, .slice a n cap, .int .i64 dc]] w fun e w' => e = .returned (.int .i64 R) ∧ Below w.heap.size w w' := by
  have F0 := Lib.hid (Quad.new w (.string nm) (.int .i64 ps) (.slice a n cap) (.int .i64 dc) 24)
  cases N with
  | false =>
    obtain rfl : R = 4 := hE.out
    go_enter Tryz.func64, Tryz.ntmps64
    go_wp2_with fail
    refine (H1.out _).mono ?_
    rintro e w1 ⟨rfl, gg⟩
    have X1 := Lib.hid (bel_alloc gg); clear gg
    go_wp2
    go_returns
    exact ⟨rfl, X1.out⟩
  | true =>
    cases P with
    | false =>
      obtain rfl : R = 2 := hE.out
      go_enter Tryz.func64, Tryz.ntmps64
      go_wp2_with fail
      refine (H1.out _).mono ?_
      rintro e w1 ⟨rfl, gg⟩
      obtain ⟨c0, c1, c2, c3, _⟩ := F0.out.below gg
      have X1 := Lib.hid (bel_alloc gg); clear gg
      go_wp2_with fail
      refine (H2.out _).mono ?_
      rintro e w2 ⟨rfl, gg⟩
      subst gg
      go_wp2
      go_returns
      exact ⟨rfl, X1.out⟩
    | true =>
      cases V with
      | false =>
        obtain rfl : R = 2 := hE.out
        go_enter Tryz.func64, Tryz.ntmps64
        go_wp2_with fail
        refine (H1.out _).mono ?_
        rintro e w1 ⟨rfl, gg⟩
        obtain ⟨c0, c1, c2, c3, _⟩ := F0.out.below gg
        have X1 := Lib.hid (bel_alloc gg); clear gg
        go_wp2_with fail
        refine (H2.out _).mono ?_
        rintro e w2 ⟨rfl, gg⟩
        subst gg
        go_wp2_with fail
        refine (H3.out _).mono ?_
        rintro e w3 ⟨rfl, gg⟩
        subst gg
        go_wp2
        go_returns
        exact ⟨rfl, X1.out⟩
      | true =>
        obtain rfl : R = E := hE.out
        go_enter Tryz.func64, Tryz.ntmps64
        go_wp2_with fail
        refine (H1.out _).mono ?_
        rintro e w1 ⟨rfl, gg⟩
        obtain ⟨c0, c1, c2, c3, _⟩ := F0.out.below gg
        have X1 := Lib.hid (bel_alloc gg); clear gg
        go_wp2_with fail
        refine (H2.out _).mono ?_
        rintro e w2 ⟨rfl, gg⟩
        subst gg
        go_wp2_with fail
        refine (H3.out _).mono ?_
        rintro e w3 ⟨rfl, gg⟩
        subst gg
        go_wp2_with fail
        refine (H4.out _ X1.out).mono ?_
        rintro e w4 ⟨rfl, gg⟩
        have X2 := Lib.hid (bel_trans X1.out gg); clear gg
        go_wp2
        go_returns
        exact ⟨rfl, X2.out⟩
theorem ckk_any (v : Value) (c : Ck) (w : World) (hv : CkV w v c) :
    Calls Tryz.prog 64 #[v] w fun e w' => e = .returned (.int .i64 (ccE c)) ∧ Below w.heap.size w w' := by
  obtain ⟨a, cap, rfl, hp, hs, _⟩ := hv
  refine ckk_core c.nm c.ps c.dc (ckE c.pf) (ccE c) (isNm c.nm) (decide (c.ps = 1 ∨ c.ps = 2)) (decide (0 ≤ c.dc ∧ c.dc ≤ 1073741824)) a _ cap w ?_ (Lib.hid fun W => isName_any _ W hs) (Lib.hid fun W => isPos_any _ W) (Lib.hid fun W => isVol_any _ W) (Lib.hid fun W hW => ck_any _ _ W (hp.below hW))
  show _ = _
  unfold ccE
  simp only [decide_eq_true_eq]
  by_cases h1 : isNm c.nm = true
  · rw [if_pos h1, if_pos h1]
    by_cases h2 : c.ps = 1 ∨ c.ps = 2
    · rw [if_pos h2]
      by_cases h3 : 0 ≤ c.dc ∧ c.dc ≤ 1073741824
      · rw [if_pos h3, if_neg (by omega)]
      · rw [if_neg h3, if_pos (by omega)]
    · rw [if_neg h2, if_pos (by omega)]
  · rw [if_neg h1, if_neg h1]
end Go.Proofs.YtgjdopjolokaiaaGreat

/- Package profile: Length. -/
namespace Go.Proofs.YtgjdopjolokaiaaGreat
open Go.RowKit

theorem len_bad (v : Value) (E : Int) (w : World) (e1 : (E == 0) = false) (e2 : (E != 0) = true)
    (H1 : Hid (Calls Tryz.prog 36 #[v] w fun e w' => e = .returned (.int .i64 E) ∧ Below w.heap.size w w')) :
    Calls Tryz.prog 39 #[v] w fun e w' => e = .returned (.tuple #[.int .i64 0, .int .i64 E]) ∧ Below w.heap.size w w' := by
  go_enter Tryz.func39, Tryz.ntmps39
  go_wp2_with fail
  refine H1.out.mono ?_
  rintro e w1 ⟨rfl, gg⟩
  have X1 := Lib.hid gg; clear gg
  go_wp2
  go_returns
  exact ⟨rfl, X1.out⟩
theorem len_ok (v : Value) (X : Int) (w : World)
    (H1 : Hid (Calls Tryz.prog 36 #[v] w fun e w' => e = .returned (.int .i64 0) ∧ Below w.heap.size w w'))
    (H2 : Hid (∀ W, Below w.heap.size w W → Calls Tryz.prog 65 #[v] W fun e w' => e = .returned (.int .i64 X) ∧ w' = W)) :
    Calls Tryz.prog 39 #[v] w fun e w' => e = .returned (.tuple #[.int .i64 X, .int .i64 0]) ∧ Below w.heap.size w w' := by
  go_enter Tryz.func39, Tryz.ntmps39
  go_wp2_with fail
  refine H1.out.mono ?_
  rintro e w1 ⟨rfl, gg⟩
  have X1 := Lib.hid gg; clear gg
  go_wp2_with fail
  refine (H2.out _ X1.out).mono ?_
  rintro e w2 ⟨rfl, hw⟩
  subst hw
  go_wp2
  go_returns
  exact ⟨rfl, X1.out⟩
theorem len_any (v : Value) (l : List (Int × Int)) (w : World) (hv : Pts w v l) :
    Calls Tryz.prog 39 #[v] w fun e w' => e = .returned (.tuple #[.int .i64 (lgQ l), .int .i64 (ckE l)]) ∧ Below w.heap.size w w' := by
  have HC := Lib.hid (ck_any v l w hv)
  unfold lgQ
  by_cases h : ckE l = 0
  · rw [if_pos h, h]
    rw [h] at HC
    exact len_ok v _ w HC (Lib.hid fun W hW => end_of (hv.below hW) h)
  · rw [if_neg h]
    exact len_bad v _ w (by simpa using h) (by simpa using h) HC
end Go.Proofs.YtgjdopjolokaiaaGreat

/- Package lying: position, isCount, advances, Check. -/
namespace Go.Proofs.YtgjdopjolokaiaaGreat
open Go.RowKit

theorem lyPos_core (nm : ByteArray) (ps dc E V : Int) (a : Option Addr) (n cap : Nat) (w : World) (hV : Hid ((E ≠ 0 → V = 1) ∧ (E = 0 → ps ≠ 1 → V = 10) ∧ (E = 0 → ps = 1 → V = 0)))
    (H1 : Hid (∀ W, Below w.heap.size w W → Calls Tryz.prog 64 #[.agg #[.string nm, .int .i64 ps, .slice a n cap, .int .i64 dc]] W fun e w' => e = .returned (.int .i64 E) ∧ Below W.heap.size W w')) :
    Calls Tryz.prog 38 #[.agg #[.string nm, .int .i64 ps, .slice a n cap, .int .i64 dc]] w fun e w' => e = .returned (.int .i64 V) ∧ Below w.heap.size w w' := by
  have F0 := Lib.hid (Quad.new w (.string nm) (.int .i64 ps) (.slice a n cap) (.int .i64 dc) 24)
  go_enter Tryz.func38, Tryz.ntmps38
  go_wp2_with fail
  refine (H1.out _ (bel_alloc (Below.refl _ _))).mono ?_
  rintro e w1 ⟨rfl, gg⟩
  replace F0 := Lib.hid (F0.out.below gg)
  have X1 := Lib.hid (bel_alloc gg); clear gg
  obtain ⟨u0, u1, u2, u3, _, _⟩ := F0.out
  by_cases h : E = 0
  · have g : (E != 0) = false := by simp [h]
    by_cases h2 : ps = 1
    · have g2 : (ps != 1) = false := by simp [h2]
      obtain rfl := hV.out.2.2 h h2
      clear h h2 hV
      go_wp2
      go_returns
      exact ⟨rfl, X1.out⟩
    · have g2 : (ps != 1) = true := by simpa using h2
      obtain rfl := hV.out.2.1 h h2
      clear h h2 hV
      go_wp2
      go_returns
      exact ⟨rfl, X1.out⟩
  · have g : (E != 0) = true := by simpa using h
    obtain rfl := hV.out.1 h
    clear h hV
    go_wp2
    go_returns
    exact ⟨rfl, X1.out⟩
theorem lyPos_any (v : Value) (c : Ck) (w : World) (hv : CkV w v c) :
    Calls Tryz.prog 38 #[v] w fun e w' => e = .returned (.int .i64 (liSE c)) ∧ Below w.heap.size w w' := by
  have HC : Hid (∀ W, Below w.heap.size w W → _) := Lib.hid fun W hW => ckk_any v c W (hv.below hW)
  obtain ⟨a, cap, rfl, _⟩ := hv
  refine lyPos_core _ _ _ (ccE c) _ _ _ _ w (Lib.hid ⟨fun h => ?_, fun h h2 => ?_, fun h h2 => ?_⟩) HC
  · unfold liSE; rw [if_neg h]
  · unfold liSE; rw [if_pos h, if_neg h2]
  · unfold liSE; rw [if_pos h, if_pos h2]
/-- how many strips, or slices of a piece, there can be -/
def cntB (n : Int) : Bool := decide (1 ≤ n) && decide (n ≤ 64)
theorem lyCnt_any (n : Int) (w : World) :
    Calls Tryz.prog 37 #[.int .i64 n] w fun e w' => e = .returned (.bool (cntB n)) ∧ w = w' := by
  go_enter Tryz.func37, Tryz.ntmps37
  go_wp2
  all_goals go_ret
  all_goals (refine ⟨ret_bool ?_, rfl⟩; unfold cntB; grind)
set_option maxRecDepth 100000 in
set_option maxHeartbeats 4000000 in
theorem lyAdv_some (b off q cap : Nat) (ps : List Int) (X : Int) (A : Bool) (w : World) (n0 : 1 ≤ q) (n1 : q ≤ 64) (hcap : q + 1 ≤ cap)
    (hc : Hid (∀ j, j < q + 1 → w.cell? ⟨b, off + j, none⟩ = some (.int .i64 (ps.getD j 0))))
    (h5 : Hid ((∃ i, i < q ∧ ps.getD (i + 1) 0 ≤ ps.getD i 0) → A = false)) (h6 : Hid ((∀ i, i < q → ps.getD i 0 < ps.getD (i + 1) 0) → A = (ps.getD 0 0 == 0 && ps.getD q 0 == X))) :
    Calls Tryz.prog 42 #[.slice (some ⟨b, off, none⟩) (q + 1) cap, .int .i64 X] w fun e w' => e = .returned (.bool A) ∧ w' = w := by
  have hc1 : ¬ cap = 1 := by omega
  go_enter Tryz.func42, Tryz.ntmps42
  go_wp2_with fail
  go_loopw [10] (fun ii wr => ∃ j : Nat, j ≤ q ∧ ii = .int .i64 (j : Int) ∧ w = wr ∧ Hid (∀ i, i < j → ps.getD i 0 < ps.getD (i + 1) 0)) (fun ii _ => q - (intOf ii).toNat)
  case atStart => exact ⟨0, by omega, rfl, rfl, fun i hi => by omega⟩
  case round =>
    obtain ⟨j, hj, rfl, rfl, hs⟩ := hrel
    by_cases hlt : j < q
    · have c0 := hc.out j (by omega)
      have c1 : w.cell? ⟨b, off + 1 + j, none⟩ = some (.int .i64 (ps.getD (j + 1) 0)) := by rw [show off + 1 + j = off + (j + 1) by omega]; exact hc.out (j + 1) (by omega)
      have HG : Hid (ps.getD j 0 < ps.getD (j + 1) 0 → ∀ i, i < j + 1 → ps.getD i 0 < ps.getD (i + 1) 0) := fun h i hi => by
        by_cases e : i = j
        · rw [e]; exact h
        · exact hs.out i (by omega)
      have HN : Hid (ps.getD (j + 1) 0 ≤ ps.getD j 0 → A = false) := fun h => h5.out ⟨j, hlt, h⟩
      generalize ps.getD j 0 = x at *
      generalize ps.getD (j + 1) 0 = y at *
      have l0 : (j : Int) < (q : Int) + 1 := by omega
      by_cases hxy : y ≤ x
      · obtain rfl := HN.out hxy
        have hd : decide (y ≤ x) = true := decide_eq_true hxy
        clear HN HG
        go_wp2
        go_returns
        exact ⟨rfl, rfl⟩
      · have hd : decide (y ≤ x) = false := decide_eq_false hxy
        replace HG := Lib.hid (HG.out (by omega))
        clear HN
        go_wp2
        go_roundw
        case rel => exact ⟨j + 1, by omega, by go_num, by first | rfl | trivial, HG.out⟩
        case measure => simp [intOf]; omega
    · obtain rfl : j = q := by omega
      have c0 : w.cell? ⟨b, off, none⟩ = some (.int .i64 (ps.getD 0 0)) := hc.out 0 (by omega)
      have c1 := hc.out j (by omega)
      clear h5
      have hA := h6.out hs.out
      clear h6
      generalize ps.getD 0 0 = x at *
      generalize ps.getD j 0 = y at *
      have wj : IntKind.i64.wrap ((j : Int) + 1 - 1) = (j : Int) := by rw [wrap_in _ ⟨by omega, by omega⟩]; omega
      have wk : IntKind.i64.wrap (j : Int) = (j : Int) := wrap_in _ ⟨by omega, by omega⟩
      by_cases hx : x = 0
      · have e0 : (x == 0) = true := by simp [hx]
        by_cases hy : y = X
        · have e1 : (y == X) = true := by simp [hy]
          rw [e0, e1] at hA
          obtain rfl := hA
          clear hx hy
          go_wp2
          go_returns
          exact ⟨rfl, rfl⟩
        · have e1 : (y == X) = false := by simp [hy]
          rw [e0, e1] at hA
          obtain rfl := hA
          clear hx hy
          go_wp2
          go_returns
          exact ⟨rfl, rfl⟩
      · have e0 : (x == 0) = false := by simp [hx]
        rw [e0] at hA
        obtain rfl := hA
        clear hx
        go_wp2
        go_returns
        exact ⟨rfl, rfl⟩
end Go.Proofs.YtgjdopjolokaiaaGreat

/- Package profile: Bung. -/
namespace Go.Proofs.YtgjdopjolokaiaaGreat
open Go.RowKit

set_option maxHeartbeats 4000000 in
set_option maxRecDepth 100000 in
theorem bung_ok (b off n cap : Nat) (l : List (Int × Int)) (w : World) (n0 : 1 ≤ n) (n1 : n ≤ 1000) (hb : b < w.heap.size)
    (hc : Hid (∀ j, j < n → w.cell? ⟨b, off + j * 2, none⟩ = some (.int .i64 (gX l j)) ∧ w.cell? ⟨b, off + j * 2 + 1, none⟩ = some (.int .i64 (gR l j))))
    (H1 : Hid (Calls Tryz.prog 36 #[.slice (some ⟨b, off, none⟩) n cap] w fun e w' => e = .returned (.int .i64 0) ∧ Below w.heap.size w w')) :
    Calls Tryz.prog 70 #[.slice (some ⟨b, off, none⟩) n cap] w fun e w' => e = .returned (.tuple #[.int .i64 (bg l n), .int .i64 0]) ∧ Below w.heap.size w w' := by
  go_enter Tryz.func70, Tryz.ntmps70
  go_wp2_with fail
  refine H1.out.mono ?_
  rintro e w1 ⟨rfl, gg⟩
  have X1 := Lib.hid gg; clear gg H1
  go_wp2_with fail
  go_loopw [5, 6, 7, 15] (fun bu _ _ ii wr => ∃ k : Nat, k ≤ n ∧ ii = .int .i64 k ∧ bu = .int .i64 (bg l k) ∧ Hid (Below w.heap.size w wr)) (fun _ _ _ ii _ => n - (intOf ii).toNat)
  case atStart => exact ⟨0, Nat.zero_le _, rfl, rfl, X1⟩
  case round =>
    obtain ⟨k, hk, rfl, rfl, hB⟩ := hrel
    by_cases hlt : k < n
    · have c0 : wr.cell? ⟨b, off + k * 2, none⟩ = some (.int .i64 (gX l k)) := by rw [(bcell hB.out).1 _ _ hb]; exact (hc.out k hlt).1
      have c1 : wr.cell? ⟨b, off + k * 2 + 1, none⟩ = some (.int .i64 (gR l k)) := by rw [(bcell hB.out).1 _ _ hb]; exact (hc.out k hlt).2
      have hg := bg_lt l k
      have hgl : bg l k < n := by omega
      have hbr : b < wr.heap.size := Nat.lt_of_lt_of_le hb hB.out.size
      have eb : bg l (k + 1) = if gR l (bg l k) < gR l k then k else bg l k := rfl
      have c2 : wr.cell? ⟨b, off + bg l k * 2 + 1, none⟩ = some (.int .i64 (gR l (bg l k))) := by rw [(bcell hB.out).1 _ _ hb]; exact (hc.out (bg l k) hgl).2
      have EB := Lib.hid eb
      clear eb hg
      generalize hgg : bg l k = g at *
      generalize gR l g = rg at *
      generalize gX l k = x at *
      generalize gR l k = r at *
      clear hgg
      have T := Lib.hid (Two.new wr (.int .i64 x) (.int .i64 r) 46)
      have hne : b ≠ wr.heap.size := Nat.ne_of_lt hbr
      have c3 : (wr.alloc (.cells #[.int .i64 x, .int .i64 r] 46)).cell? ⟨b, off + g * 2 + 1, none⟩ = some (.int .i64 rg) := by rw [World.cell?_alloc_lt wr _ _ hbr]; exact c2
      have hB2 := Lib.hid (bA hB.out (.cells #[.int .i64 x, .int .i64 r] 46))
      obtain ⟨t0, t1, _, _, _⟩ := T.out
      by_cases hq : rg < r
      · have e : bg l (k + 1) = k := by rw [EB.out, if_pos hq]
        clear EB
        go_wp2_with fail
        go_quiet (fail)
        go_wp2
        go_roundw
        case rel => exact ⟨k + 1, by omega, by go_num, by rw [e], bel_trans hB2.out (bel_drewN _ _)⟩
        case measure => simp [intOf]; omega
      · have e : bg l (k + 1) = g := by rw [EB.out, if_neg hq]
        clear EB
        go_wp2_with fail
        go_quiet (fail)
        go_wp2
        go_roundw
        case rel => exact ⟨k + 1, by omega, by go_num, by rw [e], bel_trans hB2.out (bel_drewN _ _)⟩
        case measure => simp [intOf]; omega
    · obtain rfl : k = n := by omega
      go_wp2
      go_returns
      exact ⟨rfl, hB.out⟩
theorem bung_bad (v : Value) (E : Int) (w : World) (e1 : (E == 0) = false) (e2 : (E != 0) = true)
    (H1 : Hid (Calls Tryz.prog 36 #[v] w fun e w' => e = .returned (.int .i64 E) ∧ Below w.heap.size w w')) :
    Calls Tryz.prog 70 #[v] w fun e w' => e = .returned (.tuple #[.int .i64 0, .int .i64 E]) ∧ Below w.heap.size w w' := by
  go_enter Tryz.func70, Tryz.ntmps70
  go_wp2_with fail
  refine H1.out.mono ?_
  rintro e w1 ⟨rfl, gg⟩
  have X1 := Lib.hid gg; clear gg
  go_wp2
  go_returns
  exact ⟨rfl, X1.out⟩
theorem bung_any (v : Value) (l : List (Int × Int)) (w : World) (hv : Pts w v l) :
    Calls Tryz.prog 70 #[v] w fun e w' => e = .returned (.tuple #[.int .i64 (buQ l), .int .i64 (ckE l)]) ∧ Below w.heap.size w w' := by
  have HC := Lib.hid (ck_any v l w hv)
  unfold buQ
  by_cases h : ckE l = 0
  · have hR := (ckE_iff l).1 h
    have n0 := hR.n0
    have n1 := hR.n1
    rw [if_pos h, h]
    rw [h] at HC
    obtain ⟨a, cap, rfl, hl, hh⟩ := hv
    rcases hh with hh | ⟨b, off, rfl, hb, hc⟩
    · omega
    · exact bung_ok b off l.length cap l w (by omega) (by omega) hb (Lib.hid hc) HC
  · rw [if_neg h]
    exact bung_bad v _ w (by simpa using h) (by simpa using h) HC
end Go.Proofs.YtgjdopjolokaiaaGreat

/- Package root: exactly, between. -/
namespace Go.Proofs.YtgjdopjolokaiaaGreat
open Go.RowKit

/-- both ends of the search -/
def BI (n lo hi : Int) : Prop := 0 ≤ n ∧ -1 ≤ lo ∧ lo < hi ∧ 1 ≤ hi ∧ hi ≤ 1073741824 ∧ (lo = -1 ∨ lo * lo < n) ∧ n < hi * hi
theorem BI.start (n : Int) (h0 : 0 ≤ n) (h1 : n < 1152921504606846976) : BI n (-1) 1073741824 := ⟨h0, by omega, by omega, by omega, by omega, .inl rfl, by omega⟩
theorem BI.hi1 {n lo hi : Int} (h : BI n lo hi) (m : Int) (h0 : 0 ≤ m) (hl : lo < m) (hh : m < hi) (hm : n < m * m) : BI n lo m := by
  obtain ⟨a, b, c, d, e, f, g⟩ := h
  refine ⟨a, b, hl, ?_, by omega, f, hm⟩
  apply Classical.byContradiction
  intro hn
  obtain rfl : m = 0 := by omega
  omega
theorem BI.lo1 {n lo hi : Int} (h : BI n lo hi) (m : Int) (h0 : 0 ≤ m) (hl : lo < m) (hh : m < hi) (hm : m * m < n) : BI n m hi := by
  obtain ⟨a, b, c, d, e, f, g⟩ := h
  exact ⟨a, by omega, hh, d, e, .inr hm, g⟩
theorem BI.mid {n lo hi : Int} (h : BI n lo hi) : ∃ m, (lo + hi) / 2 = m ∧ 0 ≤ lo + hi ∧ lo + hi ≤ 2147483648 ∧ 0 ≤ m ∧ m ≤ 1073741824 ∧ lo ≤ m ∧ m < hi ∧ (hi - lo ≠ 1 → lo < m) ∧ 0 ≤ m * m ∧ m * m ≤ 1152921504606846976 := by
  obtain ⟨a, b, c, d, e, f, g⟩ := h
  have h1 : 0 ≤ (lo + hi) / 2 ∧ (lo + hi) / 2 ≤ 1073741824 := by omega
  have := sq_mono h1.1 h1.2
  exact ⟨_, rfl, by omega, by omega, h1.1, h1.2, by omega, by omega, by omega, Int.mul_nonneg h1.1 h1.1, by omega⟩
theorem BI.found {n lo hi : Int} (h : BI n lo hi) (m : Int) (h0 : 0 ≤ m) (hm : m * m = n) : rt n = m ∧ ce n = m := by
  subst hm
  exact ⟨rt_sq m h0, ce_sq m h0⟩
theorem BI.done {n lo hi : Int} (h : BI n lo hi) (h1 : hi - lo = 1) : rt n = lo ∧ ce n = hi := by
  obtain ⟨a, b, c, d, e, f, g⟩ := h
  obtain rfl : hi = lo + 1 := by omega
  have hl : lo * lo < n := by
    rcases f with rfl | f
    · omega
    · exact f
  have hr : rt n = lo := rt_of (by omega) (by omega) g
  refine ⟨hr, ?_⟩
  unfold ce
  rw [hr, if_pos hl]

def num? (w : World) (p : Addr) : Int := intOf ((w.cell? p).getD (.int .i64 0))
theorem num_at {w : World} {p : Addr} {a : Int} (h : w.cell? p = some (.int .i64 a)) : num? w p = a := by unfold num?; rw [h]; rfl

theorem exactly_any (m : Int) (w : World) :
    Calls Tryz.prog 120 #[.int .i64 m] w fun e w' => e = .returned (.agg #[.int .i64 m, .int .i64 m]) ∧ Below w.heap.size w w' := by
  go_enter Tryz.func120, Tryz.ntmps120
  go_wp2
  refine bodyPost_ret (v := .agg #[.int .i64 m, .int .i64 m]) (by simp [results, Tryz.results120, go_sem]) rfl ?_
  exact ⟨rfl, bel_alloc (Below.refl _ _)⟩

set_option maxHeartbeats 2000000 in
theorem between_any (n : Int) (w : World) (h0 : 0 ≤ n) (h1 : n < 1152921504606846976) :
    Calls Tryz.prog 119 #[.int .i64 n] w fun e w' => e = .returned (.agg #[.int .i64 (rt n), .int .i64 (ce n)]) ∧ Below w.heap.size w w' := by
  have H0 := Lib.hid (BI.start n h0 h1)
  have T0 := Lib.hid ((Two.new w (.int .i64 0) (.int .i64 0) 29).alloc (.cells #[.int .i64 (-1), .int .i64 1073741824] 29))
  have T1 := Lib.hid (Two.new (w.alloc (.cells #[.int .i64 0, .int .i64 0] 29)) (.int .i64 (-1)) (.int .i64 1073741824) 29)
  have X1 := Lib.hid (bel_alloc (bel_alloc (Below.refl ((w.alloc (.cells #[.int .i64 0, .int .i64 0] 29)).alloc (.cells #[.int .i64 (-1), .int .i64 1073741824] 29)).heap.size _)))
  go_enter Tryz.func119, Tryz.ntmps119
  go_wp2
  go_step3
  go_wp2
  go_step3
  go_wp2
  go_loopw [4, 5] (fun _ _ wr => ∃ lo hi : Int, Hid (BI n lo hi) ∧ Hid (Below w.heap.size w wr) ∧ Hid (Two w.heap.size wr (.int .i64 0) (.int .i64 0)) ∧ Hid (Two (w.heap.size + 1) wr (.int .i64 lo) (.int .i64 hi))) (fun _ _ wr => (num? wr ⟨w.heap.size + 1, 1, none⟩ - num? wr ⟨w.heap.size + 1, 0, none⟩).toNat)
  case atStart => exact ⟨-1, 1073741824, H0, X1, T0, by have := T1.out; simpa [Lib.hid] using Lib.hid this⟩
  case round =>
    obtain ⟨lo, hi, hI, hB, hT, hS⟩ := hrel
    have HE := Lib.hid (fun m W => exactly_any m W)
    have HM : Hid (num? wr ⟨w.heap.size + 1, 0, none⟩ = lo ∧ num? wr ⟨w.heap.size + 1, 1, none⟩ = hi) := ⟨num_at hS.out.1, num_at hS.out.2.1⟩
    obtain ⟨s0, s1, sf0, sf1, slt⟩ := hS.out
    obtain ⟨r0, r1, f0, f1, rlt⟩ := hT.out
    obtain ⟨m, hm, a0, a1, m0, m1, ml, mh, mn, q0, q1⟩ := hI.out.mid
    obtain ⟨_, b0, b1, b2, b3, _, _⟩ := hI.out
    clear H0 T0 T1 X1
    by_cases h1 : hi - lo = 1
    · have e1 : (hi - lo == 1) = true := by simpa using h1
      have HR := Lib.hid (hI.out.done h1)
      clear h1 mn hI
      go_wp2
      rw [Exit.noGoto_ret]
      obtain ⟨t0, t1⟩ := two_read _ w.heap.size (.int .i64 lo) (.int .i64 hi) r0 r1
      refine bodyPost_ret (v := .agg #[.int .i64 lo, .int .i64 hi]) (by simp [results, Tryz.results119, go_sem, t0, t1]) rfl ?_
      exact ⟨by rw [HR.out.1, HR.out.2], (hB.out.setCell (Nat.le_refl _) _).setCell (Nat.le_refl _) _⟩
    · have e1 : (hi - lo == 1) = false := by simpa using h1
      have hlm := mn h1
      clear mn h1
      by_cases h2 : m * m < n
      · have HN := Lib.hid (hI.out.lo1 m m0 hlm mh h2)
        have X := Lib.hid ((hT.out.other ⟨w.heap.size + 1, 0, none⟩ (by simp) (.int .i64 m)))
        have Y := Lib.hid (hS.out.set0 (.int .i64 m))
        have Z := Lib.hid (hB.out.setCell (p := ⟨w.heap.size + 1, 0, none⟩) (Nat.le_succ _) (.int .i64 m))
        go_wp2
        go_roundw
        case rel => exact ⟨m, hi, HN, Z, X, Y⟩
        case measure => rw [HM.out.1, HM.out.2, num_at Y.out.1, num_at Y.out.2.1]; omega
      · by_cases h3 : n < m * m
        · have HN := Lib.hid (hI.out.hi1 m m0 hlm mh h3)
          have X := Lib.hid ((hT.out.other ⟨w.heap.size + 1, 1, none⟩ (by simp) (.int .i64 m)))
          have Y := Lib.hid (hS.out.set1 (.int .i64 m))
          have Z := Lib.hid (hB.out.setCell (p := ⟨w.heap.size + 1, 1, none⟩) (Nat.le_succ _) (.int .i64 m))
          go_wp2
          go_roundw
          case rel => exact ⟨lo, m, HN, Z, X, Y⟩
          case measure => rw [HM.out.1, HM.out.2, num_at Y.out.1, num_at Y.out.2.1]; omega
        · have HR := Lib.hid (hI.out.found m m0 (by omega))
          clear hI
          go_wp2_with fail
          refine (HE.out _ _).mono ?_
          rintro e w1 ⟨rfl, gg⟩
          replace hT := Lib.hid (hT.out.below gg)
          replace hB := Lib.hid (bel_trans hB.out gg); clear gg s0 s1 sf0 sf1 slt r0 r1 f0 f1 rlt
          obtain ⟨r0, r1, f0, f1, rlt⟩ := hT.out
          go_wp2
          rw [Exit.noGoto_ret]
          obtain ⟨t0, t1⟩ := two_read _ w.heap.size (.int .i64 m) (.int .i64 m) r0 r1
          refine bodyPost_ret (v := .agg #[.int .i64 m, .int .i64 m]) (by simp [results, Tryz.results119, go_sem, t0, t1]) rfl ?_
          exact ⟨by rw [HR.out.1, HR.out.2], (hB.out.setCell (Nat.le_refl _) _).setCell (Nat.le_refl _) _⟩
end Go.Proofs.YtgjdopjolokaiaaGreat

/- Package root: half chords, chords. -/
namespace Go.Proofs.YtgjdopjolokaiaaGreat
open Go.RowKit

theorem field_low (a b : Int) (w : World) : (Instr.field 29 (.agg #[.int .i64 a, .int .i64 b]) 0).run Tryz.prog w = .ok (.int .i64 a) w := by kernel_rfl
theorem field_high (a b : Int) (w : World) : (Instr.field 29 (.agg #[.int .i64 a, .int .i64 b]) 1).run Tryz.prog w = .ok (.int .i64 b) w := by kernel_rfl

theorem hf_not {r y : Int} (h : hfB r y = false) : r < 0 ∨ (0 ≤ r ∧ 100000 < r) ∨ ((0 ≤ r ∧ r ≤ 100000) ∧ y < -100000) ∨ ((0 ≤ r ∧ r ≤ 100000) ∧ -100000 ≤ y ∧ 100000 < y) := by
  have : ¬ ((0 ≤ r ∧ r ≤ 100000) ∧ -100000 ≤ y ∧ y ≤ 100000) := fun hc => by rw [(hfB_iff r y).2 hc] at h; cases h
  omega
set_option maxHeartbeats 2000000 in
theorem half_any (r y : Int) (w : World) :
    Calls Tryz.prog 117 #[.int .i64 r, .int .i64 y] w fun e w' => e = .returned (.tuple #[.agg #[.int .i64 (hfL r y), .int .i64 (hfH r y)], .int .i64 (hfE r y)]) ∧ Below w.heap.size w w' := by
  have T0 := Lib.hid (Two.new w (.int .i64 0) (.int .i64 0) 29)
  cases h : hfB r y with
  | true =>
    obtain ⟨⟨h0, h1⟩, h2, h3⟩ := (hfB_iff r y).1 h
    have e3 : hfE r y = 0 := by unfold hfE; rw [if_pos h]
    by_cases hy : r < max y (-y)
    · have ho : r < y ∨ y < -r := by omega
      obtain ⟨e1, e2⟩ := hf_out r y ho
      rw [e1, e2, e3]
      clear e1 e2 e3 h ho
      go_enter Tryz.func117, Tryz.ntmps117
      go_wp2
      refine bodyPost_ret (v := .tuple #[.agg #[.int .i64 0, .int .i64 0], .int .i64 0]) (by simp [results, Tryz.results117, go_sem]) rfl ?_
      exact ⟨rfl, bel_alloc (Below.refl _ _)⟩
    · have ho : ¬ (r < y ∨ y < -r) := by omega
      have e1 : hfL r y = rt (r * r - y * y) := by unfold hfL hcL; rw [if_pos h, if_neg ho]
      have e2 : hfH r y = ce (r * r - y * y) := by unfold hfH hcH; rw [if_pos h, if_neg ho]
      obtain ⟨⟨p0, p1⟩, q0, q1⟩ := hf_sq r y h
      have hs := sq_abs ho
      have HB := Lib.hid (fun W => between_any (r * r - y * y) W hs (by omega))
      rw [e1, e2, e3]
      generalize rt (r * r - y * y) = F at *
      generalize ce (r * r - y * y) = C at *
      clear e1 e2 e3 h ho
      go_enter Tryz.func117, Tryz.ntmps117
      go_wp2_with fail
      refine (HB.out _).mono ?_
      rintro e w1 ⟨rfl, gg⟩
      replace T0 := Lib.hid (T0.out.below gg)
      have X1 := Lib.hid (bel_alloc gg); clear gg
      obtain ⟨r0, r1, f0, f1, hlt⟩ := T0.out
      go_wp2
      obtain ⟨t0, t1⟩ := two_read _ w.heap.size (.int .i64 F) (.int .i64 C) r0 r1
      refine bodyPost_ret (v := .tuple #[.agg #[.int .i64 F, .int .i64 C], .int .i64 0]) (by simp [results, Tryz.results117, go_sem, t0, t1]) rfl ?_
      exact ⟨rfl, (X1.out.setCell (Nat.le_refl _) _).setCell (Nat.le_refl _) _⟩
  | false =>
    have hn := hf_not h
    have e1 : hfL r y = 0 := by unfold hfL; rw [if_neg (by rw [h]; simp)]
    have e2 : hfH r y = 0 := by unfold hfH; rw [if_neg (by rw [h]; simp)]
    have e3 : hfE r y = 2 := by unfold hfE; rw [if_neg (by rw [h]; simp)]
    rw [e1, e2, e3]
    clear e1 e2 e3 h
    rcases hn with hn | ⟨hn, hn2⟩ | ⟨⟨hn, hn2⟩, hn3⟩ | ⟨⟨hn, hn2⟩, hn3, hn4⟩
    all_goals
      go_enter Tryz.func117, Tryz.ntmps117
      go_wp2
      refine bodyPost_ret (v := .tuple #[.agg #[.int .i64 0, .int .i64 0], .int .i64 2]) (by simp [results, Tryz.results117, go_sem]) rfl ?_
      exact ⟨rfl, bel_alloc (Below.refl _ _)⟩

set_option maxHeartbeats 2000000 in
theorem chord_any (r y : Int) (w : World) :
    Calls Tryz.prog 113 #[.int .i64 r, .int .i64 y] w fun e w' => e = .returned (.tuple #[.agg #[.int .i64 (2 * hfL r y), .int .i64 (2 * hfH r y)], .int .i64 (hfE r y)]) ∧ Below w.heap.size w w' := by
  have HB := Lib.hid (fun W => half_any r y W)
  have hb : (0 ≤ hfL r y ∧ hfL r y ≤ 100000) ∧ 0 ≤ hfH r y ∧ hfH r y ≤ 100000 := by
    cases h : hfB r y with
    | true => have := hf_bd r y h; have := ((hfB_iff r y).1 h).1; omega
    | false =>
      have e1 : hfL r y = 0 := by unfold hfL; rw [if_neg (by rw [h]; simp)]
      have e2 : hfH r y = 0 := by unfold hfH; rw [if_neg (by rw [h]; simp)]
      omega
  generalize hfL r y = F at *
  generalize hfH r y = C at *
  generalize hfE r y = E at *
  obtain ⟨⟨b0, b1⟩, b2, b3⟩ := hb
  have T0 := Lib.hid (Two.new w (.int .i64 0) (.int .i64 0) 29)
  go_enter Tryz.func113, Tryz.ntmps113
  go_wp2_with fail
  refine (HB.out _).mono ?_
  rintro e w1 ⟨rfl, gg⟩
  replace T0 := Lib.hid ((T0.out.below gg).alloc (.cells #[.int .i64 F, .int .i64 C] 29))
  have X1 := Lib.hid (bel_trans (bel_alloc gg) (bel_alloc (Below.refl (w1.alloc (.cells #[.int .i64 F, .int .i64 C] 29)).heap.size _))); clear gg
  obtain ⟨r0, r1, f0, f1, hlt⟩ := T0.out
  go_wp2
  obtain ⟨t0, t1⟩ := two_read _ w.heap.size (.int .i64 (2 * F)) (.int .i64 (2 * C)) r0 r1
  refine bodyPost_ret (v := .tuple #[.agg #[.int .i64 (2 * F), .int .i64 (2 * C)], .int .i64 E]) (by simp [results, Tryz.results113, go_sem, t0, t1]) rfl ?_
  exact ⟨rfl, (X1.out.setCell (Nat.le_refl _) _).setCell (Nat.le_refl _) _⟩
end Go.Proofs.YtgjdopjolokaiaaGreat

/- Package segment: lengths, heights, chords of a circle. -/
namespace Go.Proofs.YtgjdopjolokaiaaGreat
open Go.RowKit

theorem isLenS_any (n : Int) (w : World) :
    Calls Tryz.prog 103 #[.int .i64 n] w fun e w' => e = .returned (.bool (lenB n)) ∧ w = w' := by
  go_enter Tryz.func103, Tryz.ntmps103
  go_wp2
  all_goals go_ret
  all_goals (refine ⟨ret_bool ?_, rfl⟩; unfold lenB; grind)
theorem isHt_any (n : Int) (w : World) :
    Calls Tryz.prog 68 #[.int .i64 n] w fun e w' => e = .returned (.bool (hB n)) ∧ w = w' := by
  go_enter Tryz.func68, Tryz.ntmps68
  go_wp2
  all_goals go_ret
  all_goals (refine ⟨ret_bool ?_, rfl⟩; unfold hB; grind)
theorem isRt_any (r c : Int) (w : World) :
    Calls Tryz.prog 89 #[.agg #[.int .i64 r, .int .i64 c]] w fun e w' => e = .returned (.bool (lenB r && lenB c)) ∧ Below w.heap.size w w' := by
  have H1 := Lib.hid (fun W => isLenS_any r W)
  have H2 := Lib.hid (fun W => isLenS_any c W)
  generalize lenB r = x at *
  generalize lenB c = y at *
  cases x with
  | true =>
    go_enter Tryz.func89, Tryz.ntmps89
    go_wp2_with fail
    refine (H1.out _).mono ?_
    rintro e w1 ⟨rfl, hw⟩
    subst hw
    go_wp2_with fail
    refine (H2.out _).mono ?_
    rintro e w1 ⟨rfl, hw⟩
    subst hw
    go_wp2
    go_returns
    exact ⟨rfl, bel_alloc (Below.refl _ _)⟩
  | false =>
    go_enter Tryz.func89, Tryz.ntmps89
    go_wp2_with fail
    refine (H1.out _).mono ?_
    rintro e w1 ⟨rfl, hw⟩
    subst hw
    go_wp2
    go_returns
    exact ⟨rfl, bel_alloc (Below.refl _ _)⟩

/-- a distance that lies above what root allows has no chord -/
theorem hf_min (r d : Int) (h0 : 0 ≤ r) (h1 : r ≤ 100000) (d0 : -100000 ≤ d) : hfL r (min d 100000) = hcL r d ∧ hfH r (min d 100000) = hcH r d := by
  have hb : hfB r (min d 100000) = true := (hfB_iff _ _).2 ⟨⟨h0, h1⟩, by omega, by omega⟩
  unfold hfL hfH
  rw [if_pos hb, if_pos hb]
  by_cases hd : d ≤ 100000
  · rw [show min d 100000 = d by omega]; exact ⟨rfl, rfl⟩
  · rw [show min d 100000 = 100000 by omega]
    have e1 : hcL r d = 0 := by unfold hcL; rw [if_pos (by omega)]
    have e2 : hcH r d = 0 := by unfold hcH; rw [if_pos (by omega)]
    rw [e1, e2]
    by_cases hr : r < 100000
    · unfold hcL hcH
      rw [if_pos (by omega), if_pos (by omega)]
      exact ⟨rfl, rfl⟩
    · obtain rfl : r = 100000 := by omega
      have z1 : rt 0 = 0 := rt_sq 0 (by omega)
      have z2 : ce 0 = 0 := ce_sq 0 (by omega)
      unfold hcL hcH
      rw [if_neg (by omega), if_neg (by omega), show (100000 : Int) * 100000 - 100000 * 100000 = 0 by decide, z1, z2]
      exact ⟨rfl, rfl⟩

set_option maxHeartbeats 2000000 in
theorem cChord_any (r c y : Int) (w : World) (h0 : 0 ≤ r) (h1 : r ≤ 100000) (c0 : 0 ≤ c) (c1 : c ≤ 100000) (y0 : 0 ≤ y) (y1 : y ≤ 200000) :
    Calls Tryz.prog 105 #[.agg #[.int .i64 r, .int .i64 c], .int .i64 y] w fun e w' => e = .returned (.agg #[.int .i64 (2 * hcL r (y - c)), .int .i64 (2 * hcH r (y - c))]) ∧ Below w.heap.size w w' := by
  have HC := Lib.hid (fun W => chord_any r (min (y - c) 100000) W)
  obtain ⟨m1, m2⟩ := hf_min r (y - c) h0 h1 (by omega)
  rw [m1, m2] at HC
  clear m1 m2
  generalize hcL r (y - c) = F at *
  generalize hcH r (y - c) = C at *
  generalize hfE r (min (y - c) 100000) = E at *
  have T0 : Hid (Two (w.heap.size + 1) ((w.alloc (.cells #[.int .i64 r, .int .i64 c] 108)).alloc (.cells #[.int .i64 0, .int .i64 0] 29)) (.int .i64 0) (.int .i64 0)) := by
    have := Two.new (w.alloc (.cells #[.int .i64 r, .int .i64 c] 108)) (.int .i64 0) (.int .i64 0) 29
    rwa [World.size_alloc] at this
  go_enter Tryz.func105, Tryz.ntmps105
  go_wp2_with fail
  refine (HC.out _).mono ?_
  rintro e w1 ⟨rfl, gg⟩
  replace T0 := Lib.hid ((T0.out.below gg).alloc (.cells #[.int .i64 (2 * F), .int .i64 (2 * C)] 29))
  have X1 := Lib.hid (bel_trans (bel_alloc (bel_alloc gg)) (bel_alloc (Below.refl (w1.alloc (.cells #[.int .i64 (2 * F), .int .i64 (2 * C)] 29)).heap.size _))); clear gg
  obtain ⟨r0, r1, f0, f1, hlt⟩ := T0.out
  go_wp2
  obtain ⟨t0, t1⟩ := two_read _ (w.heap.size + 1) (.int .i64 (2 * F)) (.int .i64 (2 * C)) r0 r1
  refine bodyPost_ret (v := .agg #[.int .i64 (2 * F), .int .i64 (2 * C)]) (by simp [results, Tryz.results105, go_sem, t0, t1]) rfl ?_
  exact ⟨rfl, (X1.out.setCell (p := ⟨w.heap.size + 1, 0, none⟩) (Nat.le_succ _) _).setCell (p := ⟨w.heap.size + 1, 1, none⟩) (Nat.le_succ _) _⟩

set_option maxHeartbeats 2000000 in
/-- the method value's function: bounds are added in place -/
theorem add_any (b : Nat) (pL pH oL oH : Int) (w : World) (h : Two b w (.int .i64 pL) (.int .i64 pH)) (a0 : 0 ≤ pL) (a1 : pL ≤ 4000000000000) (b0 : 0 ≤ pH) (b1 : pH ≤ 4000000000000) (c0 : 0 ≤ oL) (c1 : oL ≤ 4000000000000) (d0 : 0 ≤ oH) (d1 : oH ≤ 4000000000000) :
    Calls Tryz.prog 90 #[.pointer (some ⟨b, 0, none⟩), .agg #[.int .i64 oL, .int .i64 oH]] w fun e w' => e = .returned (.tuple #[]) ∧ ∃ w2, Below w.heap.size w w2 ∧ w' = (w2.setCell ⟨b, 0, none⟩ (.int .i64 (pL + oL))).setCell ⟨b, 1, none⟩ (.int .i64 (pH + oH)) := by
  obtain ⟨z0, z1, f0, f1, hb⟩ := h
  have hne : b ≠ w.heap.size := by omega
  have hne2 : w.heap.size ≠ b := by omega
  have wl : IntKind.i64.wrap (pL + oL) = pL + oL := wrap_in _ ⟨by omega, by omega⟩
  have wh : IntKind.i64.wrap (pH + oH) = pH + oH := wrap_in _ ⟨by omega, by omega⟩
  have HW : Hid (((((w.setCell ⟨b, 0, none⟩ (.int .i64 (pL + oL))).setCell ⟨b, 1, none⟩ (.int .i64 (pH + oH))).alloc (.cells #[.int .i64 oL, .int .i64 oH] 29)).drew.drew) = (((w.alloc (.cells #[.int .i64 oL, .int .i64 oH] 29)).drew.drew).setCell ⟨b, 0, none⟩ (.int .i64 (pL + oL))).setCell ⟨b, 1, none⟩ (.int .i64 (pH + oH))) := by
    show _ = (((w.alloc _).setCell ⟨b, 0, none⟩ _).setCell ⟨b, 1, none⟩ _).drew.drew
    rw [World.setCell_alloc_past _ _ _ _ hb, World.setCell_alloc_past _ _ _ _ (by simpa [World.setCell] using hb)]
  go_enter Tryz.func90, Tryz.ntmps90
  go_wp2_with fail
  go_region
  all_goals go_wp2_with fail
  all_goals go_region
  all_goals go_wp2
  all_goals go_end0
  all_goals exact ⟨rfl, _, bel_alloc (bel_trans (bel_drew _) (bel_drew _)), HW.out⟩
end Go.Proofs.YtgjdopjolokaiaaGreat

/- What is kept by blocks that are laid, and by stores elsewhere. -/
namespace Go.Proofs.YtgjdopjolokaiaaGreat
end Go.Proofs.YtgjdopjolokaiaaGreat

/- Package segment: the area in a strip. -/
namespace Go.Proofs.YtgjdopjolokaiaaGreat
open Go.RowKit

theorem keepS {B : Nat} {W W' : World} {r c a b : Value} {n : Nat} (gg : Below W.heap.size W W') (hn : B + 1 < n) (h : W.cell? ⟨B, 0, none⟩ = some r ∧ W.cell? ⟨B, 1, none⟩ = some c ∧ W.cell? ⟨B + 1, 0, none⟩ = some a ∧ W.cell? ⟨B + 1, 1, none⟩ = some b ∧ n ≤ W.heap.size) :
    W'.cell? ⟨B, 0, none⟩ = some r ∧ W'.cell? ⟨B, 1, none⟩ = some c ∧ W'.cell? ⟨B + 1, 0, none⟩ = some a ∧ W'.cell? ⟨B + 1, 1, none⟩ = some b ∧ n ≤ W'.heap.size := by
  obtain ⟨h0, h1, h2, h3, h4⟩ := h
  exact ⟨by rw [(bcell gg).1 _ _ (by omega)]; exact h0, by rw [(bcell gg).1 _ _ (by omega)]; exact h1, by rw [(bcell gg).1 _ _ (by omega)]; exact h2, by rw [(bcell gg).1 _ _ (by omega)]; exact h3, Nat.le_trans h4 gg.size⟩
/-- both chords lie in blocks of their own -/
def Ends (w1 : World) (A0 A1 B0 B1 : Value) (s5 s6 : Value) (wx : World) : Prop := ∃ p q : Nat, s5 = .pointer (some ⟨p, 0, none⟩) ∧ s6 = .pointer (some ⟨q, 0, none⟩) ∧ Hid (Two p wx A0 A1) ∧ Hid (Two q wx B0 B1) ∧ Hid (Below w1.heap.size w1 wx)

set_option maxHeartbeats 8000000 in
set_option maxRecDepth 100000 in
theorem cArea_core (r c a b A0 A1 B0 B1 H : Int) (w : World) (r0 : 0 ≤ r) (r1 : r ≤ 100000) (a0 : 0 ≤ a) (ab : a ≤ b) (b1 : b ≤ 200000)
    (p0 : 0 ≤ A0) (p1 : A0 ≤ 200000) (p2 : 0 ≤ A1) (p3 : A1 ≤ 200000) (q0 : 0 ≤ B0) (q1 : B0 ≤ 200000) (q2 : 0 ≤ B1) (q3 : B1 ≤ 200000)
    (hc : (a ≤ c ∧ c ≤ b ∧ H = 2 * r) ∨ (c < a ∧ H = max A1 B1) ∨ (a ≤ c ∧ b < c ∧ H = max A1 B1)) (m0 : 0 ≤ (b - a) * min A0 B0) (m1 : (b - a) * min A0 B0 ≤ 40000000000) (m2 : 0 ≤ (b - a) * H) (m3 : (b - a) * H ≤ 40000000000)
    (H1 : Hid (∀ W, Calls Tryz.prog 105 #[.agg #[.int .i64 r, .int .i64 c], .int .i64 a] W fun e w' => e = .returned (.agg #[.int .i64 A0, .int .i64 A1]) ∧ Below W.heap.size W w'))
    (H2 : Hid (∀ W, Calls Tryz.prog 105 #[.agg #[.int .i64 r, .int .i64 c], .int .i64 b] W fun e w' => e = .returned (.agg #[.int .i64 B0, .int .i64 B1]) ∧ Below W.heap.size W w')) :
    Calls Tryz.prog 92 #[.agg #[.int .i64 r, .int .i64 c], .agg #[.int .i64 a, .int .i64 b]] w fun e w' => e = .returned (.agg #[.int .i64 ((b - a) * min A0 B0), .int .i64 ((b - a) * H)]) ∧ Below w.heap.size w w' := by
  go_enter Tryz.func92, Tryz.ntmps92
  go_wp2_with fail
  generalize hw1 : ((w.alloc (.cells #[.int .i64 r, .int .i64 c] 108)).alloc (.cells #[.int .i64 a, .int .i64 b] 29)).alloc (.cells #[.int .i64 0, .int .i64 0] 29) = w1
  have TC : Hid (Two w.heap.size w1 (.int .i64 r) (.int .i64 c)) := by rw [← hw1]; exact ((Two.new w _ _ _).alloc _).alloc _
  have TS : Hid (Two (w.heap.size + 1) w1 (.int .i64 a) (.int .i64 b)) := by rw [← hw1, ← World.size_alloc w (.cells #[.int .i64 r, .int .i64 c] 108)]; exact (Two.new _ _ _ _).alloc _
  have T0 : Hid (Two (w.heap.size + 1 + 1) w1 (.int .i64 0) (.int .i64 0)) := by rw [← hw1, ← World.size_alloc w (.cells #[.int .i64 r, .int .i64 c] 108), ← World.size_alloc (w.alloc (.cells #[.int .i64 r, .int .i64 c] 108)) (.cells #[.int .i64 a, .int .i64 b] 29)]; exact Two.new _ _ _ _
  obtain ⟨c0, c1, _, _, clt⟩ := TC.out
  obtain ⟨s0, s1, _, _, slt⟩ := TS.out
  have X0 : Hid (Below w.heap.size w w1) := by rw [← hw1]; exact bel_alloc (bel_alloc (bel_alloc (Below.refl _ _)))
  clear hw1
  have hB1 : w.heap.size + 1 < w1.heap.size := slt
  have HC := Lib.hid hc
  clear hc
  go_upto_region 1 with fail
  go_cut [5, 6] (fun s5 s6 wz => ∃ wx, wx = wz ∧ Ends w1 (.int .i64 A0) (.int .i64 A1) (.int .i64 B0) (.int .i64 B1) s5 s6 wx)
  case first =>
    go_region_held3 (fun W => W.cell? ⟨w.heap.size, 0, none⟩ = some (.int .i64 r) ∧ W.cell? ⟨w.heap.size, 1, none⟩ = some (.int .i64 c) ∧ W.cell? ⟨w.heap.size + 1, 0, none⟩ = some (.int .i64 a) ∧ W.cell? ⟨w.heap.size + 1, 1, none⟩ = some (.int .i64 b) ∧ w1.heap.size ≤ W.heap.size)
      ((refine keepS (W := w1) ?_ hB1 ⟨c0, c1, s0, s1, Nat.le_refl _⟩; repeat (first | (with_reducible exact Below.refl _ _) | (with_reducible exact bel_drew _) | (with_reducible refine bA ?_ _) | (with_reducible refine bS _ _ _ ?_ (by omega)) | (with_reducible refine bel_trans ?_ (bel_drew _)) | (with_reducible exact g1) | (with_reducible refine bel_trans ?_ g2) | (with_reducible refine bel_trans ?_ g1))))
      (first
        | (go_at_call_of 105 (Value.int IntKind.i64 a); refine (H1.out _).mono ?_; clear H1; rintro e w2 ⟨rfl, g1⟩; have z1 := g1.size; (try simp at z1); (try (refine (fun (q1 : Two w1.heap.size w2 (.int .i64 0) (.int .i64 0)) => ?_) (Two.below ?_ g1); rotate_left; (focus ((repeat (first | ((with_reducible refine Two.newAt _ _ _ _ ?_); first | (with_reducible rfl) | (simp only [World.size_alloc]; done) | (simp only [World.size_drew]; done) | (simp only [World.size_alloc, World.size_drew]; done)) | (with_reducible refine Two.alloc ?_ _) | (with_reducible refine Two.below ?_ (bel_drew _)))); done)); have q1h := Lib.hid q1; obtain ⟨q10, q11, q12, q13, q14⟩ := q1)); (try (refine (fun (q2 : Two (w1.heap.size + 1) w2 (.int .i64 0) (.int .i64 0)) => ?_) (Two.below ?_ g1); rotate_left; (focus ((repeat (first | ((with_reducible refine Two.newAt _ _ _ _ ?_); first | (with_reducible rfl) | (simp only [World.size_alloc]; done) | (simp only [World.size_drew]; done) | (simp only [World.size_alloc, World.size_drew]; done)) | (with_reducible refine Two.alloc ?_ _) | (with_reducible refine Two.below ?_ (bel_drew _)))); done)); have q2h := Lib.hid q2; obtain ⟨q20, q21, q22, q23, q24⟩ := q2)))
        | (go_at_call_of 105 (Value.int IntKind.i64 b); refine (H2.out _).mono ?_; clear H2; rintro e w3 ⟨rfl, g2⟩; have z2 := g2.size; (try simp at z2); (try (refine (fun (q3 : Two w1.heap.size w3 (.int .i64 0) (.int .i64 0)) => ?_) (Two.below ?_ g2); rotate_left; (focus ((repeat (first | ((with_reducible refine Two.newAt _ _ _ _ ?_); first | (with_reducible rfl) | (simp only [World.size_alloc]; done) | (simp only [World.size_drew]; done) | (simp only [World.size_alloc, World.size_drew]; done)) | (with_reducible exact q1h.out) | (with_reducible exact q2h.out) | (with_reducible refine Two.alloc ?_ _) | (with_reducible refine Two.below ?_ (bel_drew _)))); done)); have q3h := Lib.hid q3; obtain ⟨q30, q31, q32, q33, q34⟩ := q3)); (try (refine (fun (q4 : Two (w1.heap.size + 1) w3 (.int .i64 0) (.int .i64 0)) => ?_) (Two.below ?_ g2); rotate_left; (focus ((repeat (first | ((with_reducible refine Two.newAt _ _ _ _ ?_); first | (with_reducible rfl) | (simp only [World.size_alloc]; done) | (simp only [World.size_drew]; done) | (simp only [World.size_alloc, World.size_drew]; done)) | (with_reducible exact q1h.out) | (with_reducible exact q2h.out) | (with_reducible refine Two.alloc ?_ _) | (with_reducible refine Two.below ?_ (bel_drew _)))); done)); have q4h := Lib.hid q4; obtain ⟨q40, q41, q42, q43, q44⟩ := q4)); (try (refine (fun (q5 : Two w2.heap.size w3 (.int .i64 0) (.int .i64 0)) => ?_) (Two.below ?_ g2); rotate_left; (focus ((repeat (first | ((with_reducible refine Two.newAt _ _ _ _ ?_); first | (with_reducible rfl) | (simp only [World.size_alloc]; done) | (simp only [World.size_drew]; done) | (simp only [World.size_alloc, World.size_drew]; done)) | (with_reducible exact q1h.out) | (with_reducible exact q2h.out) | (with_reducible refine Two.alloc ?_ _) | (with_reducible refine Two.below ?_ (bel_drew _)))); done)); have q5h := Lib.hid q5; obtain ⟨q50, q51, q52, q53, q54⟩ := q5)); (try (refine (fun (q6 : Two (w2.heap.size + 1) w3 (.int .i64 0) (.int .i64 0)) => ?_) (Two.below ?_ g2); rotate_left; (focus ((repeat (first | ((with_reducible refine Two.newAt _ _ _ _ ?_); first | (with_reducible rfl) | (simp only [World.size_alloc]; done) | (simp only [World.size_drew]; done) | (simp only [World.size_alloc, World.size_drew]; done)) | (with_reducible exact q1h.out) | (with_reducible exact q2h.out) | (with_reducible refine Two.alloc ?_ _) | (with_reducible refine Two.below ?_ (bel_drew _)))); done)); have q6h := Lib.hid q6; obtain ⟨q60, q61, q62, q63, q64⟩ := q6))))
    all_goals go_wp2_with fail
    all_goals go_meet
    all_goals exact ⟨_, rfl, _, _, rfl, rfl, (show Two _ _ _ _ by ((repeat (first | ((with_reducible refine Two.newAt _ _ _ _ ?_); first | (with_reducible rfl) | (simp only [World.size_alloc]; done) | (simp only [World.size_drew]; done) | (simp only [World.size_alloc, World.size_drew]; done) | (simp [World.setCell]; done)) | (with_reducible refine Two.alloc ?_ _) | (with_reducible refine Two.below ?_ (bel_drew _)) | (with_reducible refine Two.both _ _ (x := .int .i64 0) (y := .int .i64 0) ?_) | (with_reducible refine Two.apart _ _ _ ?_ (by omega)) | (with_reducible refine Two.below ?_ g2) | (with_reducible refine Two.below ?_ g1))); done)), (show Two _ _ _ _ by ((repeat (first | ((with_reducible refine Two.newAt _ _ _ _ ?_); first | (with_reducible rfl) | (simp only [World.size_alloc]; done) | (simp only [World.size_drew]; done) | (simp only [World.size_alloc, World.size_drew]; done) | (simp [World.setCell]; done)) | (with_reducible refine Two.alloc ?_ _) | (with_reducible refine Two.below ?_ (bel_drew _)) | (with_reducible refine Two.both _ _ (x := .int .i64 0) (y := .int .i64 0) ?_) | (with_reducible refine Two.apart _ _ _ ?_ (by omega)) | (with_reducible refine Two.below ?_ g2) | (with_reducible refine Two.below ?_ g1))); done)), (show Below _ _ _ by ((repeat (first | (with_reducible exact Below.refl _ _) | (with_reducible exact bel_drew _) | (with_reducible refine bA ?_ _) | (with_reducible refine bS _ _ _ ?_ (by omega)) | (with_reducible refine bel_trans ?_ (bel_drew _)) | (with_reducible exact g1) | (with_reducible refine bel_trans ?_ g2) | (with_reducible refine bel_trans ?_ g1))); done))⟩
  case rest =>
    obtain ⟨wx, hwx, p, q, rfl, rfl, hP, hQ, hB⟩ := hcut
    subst hwx
    have TC2 := (TC.out.below hB.out)
    have TS2 := (TS.out.below hB.out)
    have T02 := Lib.hid (T0.out.below hB.out)
    have X1 := Lib.hid (X0.out.trans (hB.out.mono X0.out.size))
    clear c0 c1 s0 s1 clt slt hB1 TC TS T0 H1 H2 X0 hB
    obtain ⟨p0, p1, _, _, _⟩ := hP.out
    obtain ⟨q0, q1, _, _, _⟩ := hQ.out
    obtain ⟨c0, c1, _, _, _⟩ := TC2
    obtain ⟨s0, s1, _, _, _⟩ := TS2
    go_wp2
    go_quiet (fail)
    replace T02 : Two (w.heap.size + 1 + 1) (wx.drewN nq) (.int .i64 0) (.int .i64 0) := T02.out
    replace X1 := Lib.hid (bel_trans X1.out (bel_drewN _ nq))
    replace c0 : (wx.drewN nq).cell? ⟨w.heap.size, 0, none⟩ = some (.int .i64 r) := c0
    replace c1 : (wx.drewN nq).cell? ⟨w.heap.size, 1, none⟩ = some (.int .i64 c) := c1
    replace s0 : (wx.drewN nq).cell? ⟨w.heap.size + 1, 0, none⟩ = some (.int .i64 a) := s0
    replace s1 : (wx.drewN nq).cell? ⟨w.heap.size + 1, 1, none⟩ = some (.int .i64 b) := s1
    generalize wx.drewN nq = wq at *
    clear hP hQ p0 p1 q0 q1
    obtain ⟨z0, z1, f0, f1, hlt⟩ := T02
    rcases HC.out with ⟨d1, d2, rfl⟩ | ⟨d1, rfl⟩ | ⟨d1, d2, rfl⟩
    · clear HC
      go_wp2
      obtain ⟨t0, t1⟩ := two_read wq (w.heap.size + 1 + 1) (.int .i64 ((b - a) * min A0 B0)) (.int .i64 ((b - a) * (2 * r))) z0 z1
      refine bodyPost_ret (v := .agg #[.int .i64 ((b - a) * min A0 B0), .int .i64 ((b - a) * (2 * r))]) (by simp [results, Tryz.results92, go_sem, t0, t1]) rfl ?_
      exact ⟨rfl, bS _ _ _ (bS _ _ _ X1.out (by omega)) (by omega)⟩
    all_goals
      clear HC
      go_wp2
      obtain ⟨t0, t1⟩ := two_read wq (w.heap.size + 1 + 1) (.int .i64 ((b - a) * min A0 B0)) (.int .i64 ((b - a) * max A1 B1)) z0 z1
      refine bodyPost_ret (v := .agg #[.int .i64 ((b - a) * min A0 B0), .int .i64 ((b - a) * max A1 B1)]) (by simp [results, Tryz.results92, go_sem, t0, t1]) rfl ?_
      exact ⟨rfl, bS _ _ _ (bS _ _ _ X1.out (by omega)) (by omega)⟩
theorem cArea_any (r c a b : Int) (w : World) (r0 : 0 ≤ r) (r1 : r ≤ 100000) (c0 : 0 ≤ c) (c1 : c ≤ 100000) (a0 : 0 ≤ a) (ab : a ≤ b) (b1 : b ≤ 200000) :
    Calls Tryz.prog 92 #[.agg #[.int .i64 r, .int .i64 c], .agg #[.int .i64 a, .int .i64 b]] w fun e w' => e = .returned (.agg #[.int .i64 (ofL r c a b), .int .i64 (ofH r c a b)]) ∧ Below w.heap.size w w' := by
  have ha := hc_le r (a - c) r0
  have hb := hc_le r (b - c) r0
  have bd := of_bd r c a b r0 ab
  have q : (b - a) * (2 * r) ≤ 200000 * 200000 := Int.mul_le_mul (by omega) (by omega) (by omega) (by omega)
  refine cArea_core r c a b (2 * hcL r (a - c)) (2 * hcH r (a - c)) (2 * hcL r (b - c)) (2 * hcH r (b - c)) _ w r0 r1 a0 ab b1 (by omega) (by omega) (by omega) (by omega) (by omega) (by omega) (by omega) (by omega) ?_ bd.1 (by show ofL r c a b ≤ _; omega) (by show 0 ≤ ofH r c a b; omega) (by show ofH r c a b ≤ _; omega) (fun W => cChord_any r c a W r0 r1 c0 c1 a0 (by omega)) (fun W => cChord_any r c b W r0 r1 c0 c1 (by omega) b1)
  by_cases h : a ≤ c ∧ c ≤ b
  · left; exact ⟨h.1, h.2, if_pos h⟩
  · right
    rw [if_neg h]
    by_cases h2 : c < a
    · left; exact ⟨h2, rfl⟩
    · right; exact ⟨by omega, by omega, rfl⟩
end Go.Proofs.YtgjdopjolokaiaaGreat

/- Package segment: strips are yielded. -/
namespace Go.Proofs.YtgjdopjolokaiaaGreat
open Go.RowKit Go.Shelf
attribute [local go_sem] Oper.semAt_some

/-- a strip between two of the heights -/
def encB (l : List Int) {m : Nat} (j : Fin m) : Array Value := #[.agg #[.int .i64 (l.getD j.val 0), .int .i64 (l.getD (j.val + 1) 0)]]

/-- what a round keeps: what lay below n₀, and a box -/
def KpS (Bs n₀ : Nat) (W W' : World) : Prop := Below n₀ W W' ∧ ∀ v, W.cell? ⟨Bs, 0, none⟩ = some v → W'.cell? ⟨Bs, 0, none⟩ = some v
theorem kpS_refl (Bs n₀ : Nat) (W : World) : KpS Bs n₀ W W := ⟨Below.refl _ _, fun _ h => h⟩
theorem kpS_t {Bs n₀ : Nat} {A B C : World} (h : KpS Bs n₀ A B) (k : KpS Bs n₀ B C) : KpS Bs n₀ A C := ⟨h.1.trans k.1, fun v e => k.2 v (h.2 v e)⟩
theorem kpS_b {Bs n₀ : Nat} {w : World} (hn : n₀ ≤ w.heap.size) (W : World) (l : Nat) (o o' : Obj) (hl : w.heap.size ≤ l) (h : W.heap[l]? = some o) (h1 : o.isCells = false) (h2 : o.isWalk = false) : KpS Bs n₀ W (W.putObj l o') :=
  ⟨belowK_b hn W l o o' hl h h1 h2, fun _ e => cell_kept e (grownBy_putObj' W l o') (fun r e => by cases e; exact ⟨o, h, h1⟩)⟩
theorem kpS_drew (Bs n₀ : Nat) (W : World) : KpS Bs n₀ W W.drew := ⟨⟨rfl, rfl, rfl, Nat.le_refl _, fun _ _ => rfl⟩, fun _ h => h⟩

set_option maxRecDepth 100000 in
set_option maxHeartbeats 4000000 in
theorem strips1_in (n : Nat) (l Bs n₀ b off len cap : Nat) (zs : List Int) (hl : 1 ≤ len) (hl2 : len ≤ 1000) (hb : b < n₀) (J Jx : List (Fin (len - 1)) → World → Prop) (B0 : Nat) (hJ : AbidesFrom B0 J)
    (hY : ∀ pre x W, J pre W → pre.length < len - 1 → YieldAt Fence.wide (n - 1) Tryz.prog l (encB zs x) W fun e W' =>
      (e = .returned (.bool true) ∧ J (pre ++ [x]) W' ∧ KpS Bs n₀ W W') ∨ (e = .returned (.bool false) ∧ Jx (pre ++ [x]) W'))
    (W : World) (hBs : W.cell? ⟨Bs, 0, none⟩ = some (.slice (some ⟨b, off, none⟩) len cap)) (hc : ∀ j, j < len → W.cell? ⟨b, off + j, none⟩ = some (.int .i64 (zs.getD j 0))) (h0 : J [] W) :
    CallsIn Fence.wide n Tryz.prog 104 #[.func (.yield l) #[] #[], .pointer (some ⟨Bs, 0, none⟩)] W fun e W' => (∃ v, e = .returned v) ∧
      ((∃ ys, ys = ups (len - 1) (len - 1) ∧ J ys W') ∨ (∃ pre, (∃ k, k ≤ len - 1 ∧ pre = ups (len - 1) k) ∧ Jx pre W')) := by
  refine callsIn_of_wp Tryz.func104 rfl trivial ?_ rfl
  simp only [Tryz.ntmps104, List.size_toArray, List.length_cons, List.length_nil, Nat.reduceAdd, Nat.reduceSub, Array.replicate_succ, Array.replicate_zero, List.push_toArray, List.append_toArray, List.nil_append, List.cons_append]
  gi_wp2
  gi_loopw [3] (fun i wr => ∃ k : Nat, k + 1 ≤ len ∧ i = .int .i64 ((k : Int) + 1) ∧ J (ups (len - 1) k) wr ∧ KpS Bs n₀ W wr)
    (fun i _ => len - (intOf i).toNat)
  case atStart => exact ⟨0, hl, rfl, h0, kpS_refl _ _ _⟩
  case round =>
    obtain ⟨k, hk, rfl, hJs, hnx⟩ := hrel
    have hBx : wr.cell? ⟨Bs, 0, none⟩ = some (.slice (some ⟨b, off, none⟩) len cap) := hnx.2 _ hBs
    by_cases hlt : k + 1 < len
    · have d0 : wr.cell? ⟨b, off + k, none⟩ = some (.int .i64 (zs.getD k 0)) := (hnx.1.cell (p := ⟨b, off + k, none⟩) hb).trans (hc k (by omega))
      have d1 : wr.cell? ⟨b, off + (k + 1), none⟩ = some (.int .i64 (zs.getD (k + 1) 0)) := (hnx.1.cell (p := ⟨b, off + (k + 1), none⟩) hb).trans (hc (k + 1) hlt)
      obtain ⟨fn, tmps, assign, body, hy, hR⟩ := hY _ ⟨k, by omega⟩ wr.drew (hJ _ _ _ none hJs ⟨rfl, rfl, rfl, Nat.le_refl _, fun _ _ _ => rfl⟩ (fun r e => by cases e)) (by rw [ups_len (by omega)]; omega)
      rw [← ups_succ (by omega)] at hR
      dsimp only [encB] at hy
      have hmx : Tryz.prog.follows .mixedOrders = true := by kernel_rfl
      have HR2 : Hid (RoundIn Fence.wide (n - 1) Tryz.prog l fn tmps assign body wr.drew fun e W' => ∃ bb : Bool, e = .returned (.bool bb) ∧ Hid ((bb = true ∧ J (ups (len - 1) (k + 1)) W' ∧ KpS Bs n₀ wr.drew W') ∨ (bb = false ∧ Jx (ups (len - 1) (k + 1)) W'))) := by
        refine hR.mono ?_
        rintro e W3 (⟨rfl, h⟩ | ⟨rfl, h⟩)
        · exact ⟨true, rfl, .inl ⟨rfl, h⟩⟩
        · exact ⟨false, rfl, .inr ⟨rfl, h⟩⟩
      clear hR
      generalize zs.getD k 0 = x at *
      generalize zs.getD (k + 1) 0 = y at *
      have wj : IntKind.i64.wrap ((k : Int) + 1 - 1) = (k : Int) := by rw [wrap_in _ ⟨by omega, by omega⟩]; omega
      have wk : IntKind.i64.wrap (k : Int) = (k : Int) := wrap_in _ ⟨by omega, by omega⟩
      have l0 : (k : Int) < (len : Int) := by omega
      have l1 : (k : Int) + 1 < (len : Int) := by omega
      have l2 : k < len := by omega
      have l3 : 0 ≤ (k : Int) + 1 := by omega
      have l4 : ((k : Int) + 1).toNat = k + 1 := by omega
      gi_wp2
      refine wpIn_region_tail (free_wide _) 11 hmx (by kernel_rfl) (fun _ _ _ => rfl) ?_
      simp only [List.take_succ_cons, List.take_zero, List.drop_succ_cons, List.drop_zero]
      repeat still_step
      refine wpStill_nil ?_
      gi_wp2
      refine ⟨(fun h => by cases h), HR2.out.mono ?_⟩
      rintro e W3 ⟨bb, rfl, h3⟩
      rcases h3.out with ⟨rfl, hJ3, hk3⟩ | ⟨rfl, hJx3⟩
      · gi_wp2
        go_roundw
        case rel => exact ⟨k + 1, by omega, by go_num, hJ3, kpS_t hnx (kpS_t (kpS_drew _ _ wr) hk3)⟩
        case measure => simp [intOf]; omega
      · gi_wp2
        refine bodyPost_ret (results_none rfl _ _ _) rfl ?_
        exact ⟨⟨_, rfl⟩, .inr ⟨_, ⟨k + 1, by omega, rfl⟩, hJx3⟩⟩
    · obtain rfl : len = k + 1 := by omega
      gi_wp2
      go_end0
      exact ⟨⟨_, rfl⟩, .inl ⟨_, rfl, hJs⟩⟩

theorem strips_any (a : Option Addr) (len cap : Nat) (w : World) :
    Calls Tryz.prog 91 #[.slice a len cap] w fun e w' => e = .returned (.func (.func 104) #[] #[.pointer (some ⟨w.heap.size, 0, none⟩)]) ∧ w' = w.alloc (.cells #[.slice a len cap] 25) := by
  have hmf : ∀ (fn : Fn) (first cap : Array Value) (w : World), (Instr.makeFunc fn first cap).run Tryz.prog w = .ok (.func fn first cap) w := fun _ _ _ _ => rfl
  go_enter Tryz.func91, Tryz.ntmps91
  go_wp2
  go_ret
  exact ⟨rfl, rfl⟩

/-- what strips returns yields all strips, or the first ones -/
theorem strips_stops (n Bs n₀ b off len cap : Nat) (zs : List Int) (hl : 1 ≤ len) (hl2 : len ≤ 1000) (hb : b < n₀) (w : World) (hn : n₀ ≤ w.heap.size)
    (hBs : w.cell? ⟨Bs, 0, none⟩ = some (.slice (some ⟨b, off, none⟩) len cap)) (hc : ∀ j, j < len → w.cell? ⟨b, off + j, none⟩ = some (.int .i64 (zs.getD j 0))) :
    SeqStopsK Fence.wide n Tryz.prog 104 #[.pointer (some ⟨Bs, 0, none⟩)] (fun x : Fin (len - 1) => encB zs x) (KpS Bs n₀) (fun ys => ys = ups (len - 1) (len - 1))
      (fun pre => ∃ k, k ≤ len - 1 ∧ pre = ups (len - 1) k) (len - 1) w := fun l J Jx W hW hJ _ hY h0 =>
  strips1_in n l Bs n₀ b off len cap zs hl hl2 hb J Jx W.heap.size hJ hY W ((hW.cell (p := ⟨Bs, 0, none⟩) (World.block_lt_of_cell? w _ hBs)).trans hBs) (fun j hj => (hW.cell (p := ⟨b, off + j, none⟩) (by show b < _; omega)).trans (hc j hj)) h0
end Go.Proofs.YtgjdopjolokaiaaGreat

/- Package segment: heights are checked. -/
namespace Go.Proofs.YtgjdopjolokaiaaGreat
open Go.RowKit

theorem nan_any (a : Int) (w : World) : Calls Tryz.prog 99 #[.int .i64 a] w fun e w' => e = .returned (.bool false) ∧ w = w' := by
  have h : (a != a) = false := by simp
  go_enter Tryz.func99, Tryz.ntmps99
  go_wp2
  go_returns
  exact ⟨rfl, rfl⟩
theorem less_any (a b : Int) (w : World) : Calls Tryz.prog 85 #[.int .i64 a, .int .i64 b] w fun e w' => e = .returned (.bool (decide (a < b))) ∧ w = w' := by
  have H := Lib.hid (fun W => nan_any a W)
  go_enter Tryz.func85, Tryz.ntmps85
  go_wp2_with fail
  refine (H.out _).mono ?_
  rintro e w1 ⟨rfl, hw⟩
  subst hw
  go_wp2
  go_returns
  exact ⟨rfl, rfl⟩

theorem less_same (a b : Int) (w : World) : Calls Tryz.prog 85 #[.int .i64 a, .int .i64 b] w fun e w' => e = .returned (.bool (decide (a < b))) ∧ w' = w :=
  (less_any a b w).mono fun _ _ h => ⟨h.1, h.2.symm⟩

set_option maxHeartbeats 4000000 in
theorem sorted_any (b off n cap : Nat) (l : List Int) (B : Bool) (w : World) (n0 : 1 ≤ n) (n1 : n ≤ 1000) (hb : b < w.heap.size)
    (hc : Hid (∀ j, j < n → w.cell? ⟨b, off + j, none⟩ = some (.int .i64 (l.getD j 0))))
    (h2 : Hid ((∃ i, i + 1 < n ∧ l.getD (i + 1) 0 < l.getD i 0) → B = false)) (h3 : Hid ((∀ i, i + 1 < n → l.getD i 0 ≤ l.getD (i + 1) 0) → B = true)) :
    Calls Tryz.prog 69 #[.slice (some ⟨b, off, none⟩) n cap] w fun e w' => e = .returned (.bool B) ∧ Below w.heap.size w w' := by
  go_enter Tryz.func69, Tryz.ntmps69
  go_wp2_with fail
  go_loopw [3] (fun ii wr => ∃ (k : Nat), k + 1 ≤ n ∧ ii = .int .i64 k ∧ Hid (Below w.heap.size w wr) ∧ Hid (∀ i, k ≤ i → i + 1 < n → l.getD i 0 ≤ l.getD (i + 1) 0)) (fun ii _ => (intOf ii).toNat)
  case atStart => exact ⟨n - 1, by omega, by go_num, Below.refl _ _, fun i h1 h2 => by omega⟩
  case round =>
    obtain ⟨k, hk, rfl, hB, hs⟩ := hrel
    by_cases hlt : 0 < k
    · obtain ⟨j, rfl⟩ : ∃ j, k = j + 1 := ⟨k - 1, by omega⟩
      have c0 : wr.cell? ⟨b, off + j, none⟩ = some (.int .i64 (l.getD j 0)) := by rw [(bcell hB.out).1 _ _ hb]; exact hc.out j (by omega)
      have c1 : wr.cell? ⟨b, off + (j + 1), none⟩ = some (.int .i64 (l.getD (j + 1) 0)) := by rw [(bcell hB.out).1 _ _ hb]; exact hc.out (j + 1) (by omega)
      have HG : Hid (l.getD j 0 ≤ l.getD (j + 1) 0 → ∀ i, j ≤ i → i + 1 < n → l.getD i 0 ≤ l.getD (i + 1) 0) := fun h i h1 h2 => by
        by_cases e : i = j
        · rw [e]; exact h
        · exact hs.out i (by omega) h2
      have HN : Hid (l.getD (j + 1) 0 < l.getD j 0 → B = false) := fun h => h2.out ⟨j, by omega, h⟩
      have HL := Lib.hid (fun W => less_same (l.getD (j + 1) 0) (l.getD j 0) W)
      generalize l.getD j 0 = x at *
      generalize l.getD (j + 1) 0 = y at *
      have wk : IntKind.i64.wrap (j : Int) = (j : Int) := wrap_in _ ⟨by omega, by omega⟩
      have wj : IntKind.i64.wrap ((j : Int) + 1 - 1) = (j : Int) := by rw [wrap_in _ ⟨by omega, by omega⟩]; omega
      have wj2 : IntKind.i64.wrap (((j + 1 : Nat) : Int) - 1) = (j : Int) := by rw [wrap_in _ ⟨by omega, by omega⟩]; omega
      have l0 : (j : Int) < (n : Int) := by omega
      have l1 : (j : Int) + 1 < (n : Int) := by omega
      have l2 : j < n := by omega
      have l3 : 0 ≤ (j : Int) + 1 := by omega
      have l4 : ((j : Int) + 1).toNat = j + 1 := by omega
      by_cases hxy : y < x
      · obtain rfl := HN.out hxy
        have hd : decide (y < x) = true := decide_eq_true hxy
        rw [hd] at HL
        clear HN HG hd
        go_wp2
        go_quiet (first | (go_at_call 85; refine Calls.quiet_of_same (HL.out _)))
        go_wp2
        go_returns
        exact ⟨rfl, bel_trans hB.out (bel_drewN _ _)⟩
      · have hd : decide (y < x) = false := decide_eq_false hxy
        replace HG := Lib.hid (HG.out (by omega))
        rw [hd] at HL
        clear HN hd
        go_wp2
        go_quiet (first | (go_at_call 85; refine Calls.quiet_of_same (HL.out _)))
        go_wp2
        go_roundw
        case rel => exact ⟨j, by omega, by first | rfl | go_num, bel_trans hB.out (bel_drewN _ _), HG.out⟩
        case measure => first | omega | (simp [intOf]; done) | (simp [intOf]; omega)
    · obtain rfl : k = 0 := by omega
      obtain rfl := h3.out (fun i hi => hs.out i (by omega) hi)
      go_wp2
      go_returns
      exact ⟨rfl, hB.out⟩
theorem chk_few (a : Option Addr) (n cap : Nat) (w : World) (h : n < 2) :
    Calls Tryz.prog 46 #[.slice a n cap] w fun e w' => e = .returned (.int .i64 9) ∧ Below w.heap.size w w' := by
  go_enter Tryz.func46, Tryz.ntmps46
  go_wp2
  go_returns
  exact ⟨rfl, Below.refl _ _⟩
theorem chk_many (a : Option Addr) (n cap : Nat) (w : World) (h : 65 < n) (h2 : n ≤ 9223372036854775807) :
    Calls Tryz.prog 46 #[.slice a n cap] w fun e w' => e = .returned (.int .i64 8) ∧ Below w.heap.size w w' := by
  go_enter Tryz.func46, Tryz.ntmps46
  go_wp2
  go_returns
  exact ⟨rfl, Below.refl _ _⟩
set_option maxHeartbeats 4000000 in
theorem chk_some (b off n cap : Nat) (l : List Int) (E : Int) (w : World) (n0 : 2 ≤ n) (n1 : n ≤ 65) (hl : n = l.length) (hb : b < w.heap.size)
    (hc : Hid (∀ j, j < n → w.cell? ⟨b, off + j, none⟩ = some (.int .i64 (l.getD j 0))))
    (h1 : Hid (l.all hB = false → E = 2)) (h2 : Hid (l.all hB = true → (∃ i, i + 1 < n ∧ l.getD (i + 1) 0 < l.getD i 0) → E = 5)) (h3 : Hid (l.all hB = true → (∀ i, i + 1 < n → l.getD i 0 ≤ l.getD (i + 1) 0) → E = 0)) :
    Calls Tryz.prog 46 #[.slice (some ⟨b, off, none⟩) n cap] w fun e w' => e = .returned (.int .i64 E) ∧ Below w.heap.size w w' := by
  have HL := Lib.hid hl
  clear hl
  go_enter Tryz.func46, Tryz.ntmps46
  go_wp2_with fail
  go_loopw [4, 15] (fun _ ii wr => ∃ (k : Nat), k ≤ n ∧ ii = .int .i64 k ∧ w = wr ∧ Hid ((l.take k).all hB = true)) (fun _ ii _ => n - (intOf ii).toNat)
  case atStart => exact ⟨0, by omega, rfl, rfl, by show _ = _; simp⟩
  case round =>
    obtain ⟨k, hk, rfl, rfl, ha⟩ := hrel
    by_cases hlt : k < n
    · have c0 := hc.out k hlt
      have hkl : k < l.length := by rw [← HL.out]; exact hlt
      have HA := Lib.hid (all_next hB l k hkl)
      have HN : Hid (hB (l.getD k 0) = false → E = 2) := fun h => h1.out (all_not hB l k hkl h)
      have HT := Lib.hid (fun W => isHt_any (l.getD k 0) W)
      clear hkl
      generalize l.getD k 0 = x at *
      cases hx : hB x with
      | true =>
        have HA2 : Hid ((l.take (k + 1)).all hB = true) := by show _ = _; rw [HA.out, ha.out, hx]; rfl
        rw [hx] at HT
        clear HN HA hx
        go_wp2_with fail
        refine (HT.out _).mono ?_
        rintro e w1 ⟨rfl, hw⟩
        subst hw
        go_wp2
        go_roundw
        case rel => exact ⟨k + 1, by omega, by go_num, by first | rfl | trivial, HA2⟩
        case measure => simp [intOf]; omega
      | false =>
        obtain rfl := HN.out hx
        rw [hx] at HT
        clear HN HA hx
        go_wp2_with fail
        refine (HT.out _).mono ?_
        rintro e w1 ⟨rfl, hw⟩
        subst hw
        go_wp2
        go_returns
        exact ⟨rfl, Below.refl _ _⟩
    · obtain rfl : k = n := by omega
      have hall := take_allN (by rw [← HL.out]; exact Nat.le_refl _) ha.out
      have H2 := Lib.hid (h2.out hall)
      have H3 := Lib.hid (h3.out hall)
      clear hall h1 h2 h3 ha
      by_cases hs : ∀ i, i + 1 < k → l.getD i 0 ≤ l.getD (i + 1) 0
      · obtain rfl := H3.out hs
        have HS := Lib.hid (sorted_any b off k cap l true w (by omega) (by omega) hb hc (fun ⟨i, hi, h⟩ => by have := hs i hi; omega) (fun _ => rfl))
        clear hs H2 H3
        go_wp2_with fail
        refine HS.out.mono ?_
        rintro e w1 ⟨rfl, gg⟩
        have X1 := Lib.hid gg; clear gg
        go_wp2
        go_returns
        exact ⟨rfl, X1.out⟩
      · obtain ⟨i, hi, hlt2⟩ : ∃ i, i + 1 < k ∧ l.getD (i + 1) 0 < l.getD i 0 := by
          refine Classical.byContradiction fun h => hs fun i hi => ?_
          by_cases h' : l.getD (i + 1) 0 < l.getD i 0
          · exact absurd ⟨i, hi, h'⟩ h
          · omega
        obtain rfl := H2.out ⟨i, hi, hlt2⟩
        have HS := Lib.hid (sorted_any b off k cap l false w (by omega) (by omega) hb hc (fun _ => rfl) (fun h => by have := h i hi; omega))
        clear hs hi hlt2 H2 H3
        go_wp2_with fail
        refine HS.out.mono ?_
        rintro e w1 ⟨rfl, gg⟩
        have X1 := Lib.hid gg; clear gg
        go_wp2
        go_returns
        exact ⟨rfl, X1.out⟩
theorem chk_any (v : Value) (l : List Int) (w : World) (hv : Nums w v l) :
    Calls Tryz.prog 46 #[v] w fun e w' => e = .returned (.int .i64 (hcE l)) ∧ Below w.heap.size w w' := by
  obtain ⟨a, cap, rfl, hl, h⟩ := hv
  unfold hcE
  by_cases g1 : l.length < 2
  · rw [if_pos g1]
    exact chk_few a _ cap w g1
  · by_cases g2 : 65 < l.length
    · rw [if_neg g1, if_pos g2]
      exact chk_many a _ cap w g2 (by omega)
    · rcases h with h | ⟨b, off, rfl, hb, hc⟩
      · omega
      · rw [if_neg g1, if_neg g2]
        refine chk_some b off l.length cap l _ w (by omega) (by omega) rfl hb hc (fun h => ?_) (fun h h2 => ?_) (fun h h2 => ?_)
        · rw [if_pos h]
        · rw [if_neg (by rw [h]; simp), if_pos]
          obtain ⟨i, hi, hlt⟩ := h2
          rw [Bool.eq_false_iff]
          intro hc
          have := (ascB_iff l).1 hc i hi
          omega
        · rw [if_neg (by rw [h]; simp), if_neg]
          rw [(ascB_iff l).2 h2]; simp
end Go.Proofs.YtgjdopjolokaiaaGreat

/- The reference of layer 7: areas between right heights. -/
namespace Go.Proofs.YtgjdopjolokaiaaGreat
open Go.RowKit

end Go.Proofs.YtgjdopjolokaiaaGreat

/- The reference of layer 7: Area, Strip, Whole. -/
namespace Go.Proofs.YtgjdopjolokaiaaGreat
open Go.RowKit

/-- what Area returns -/
def arE (r c : Int) (l : List Int) : Int := if lenB r = true ∧ lenB c = true then hcE l else 2
noncomputable def arL (r c : Int) (l : List Int) : Int := if arE r c l = 0 then prL r c l (l.length - 1) else 0
noncomputable def arH (r c : Int) (l : List Int) : Int := if arE r c l = 0 then prH r c l (l.length - 1) else 0
/-- what Whole returns -/
def whE (r : Int) : Int := if lenB r = true then 0 else 2
def whL (r : Int) : Int := if lenB r = true then r * r * 333 / 106 else 0
def whH (r : Int) : Int := if lenB r = true then (r * r * 355 + 112) / 113 else 0
end Go.Proofs.YtgjdopjolokaiaaGreat
