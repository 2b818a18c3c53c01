/-
  The statement LyingSpaces of spile/spilelaw11 holds: for every input the call returns true, and each argument reads afterwards as it read before.
-/
import Derived.Test.YtgjdopjolokaiaaGreatM5
import Derived.Deep.RegionHeld3
import Derived.Deep.RegionLaw
import Derived.Below
import Derived.Carry

set_option linter.unusedVariables false
set_option linter.unusedSimpArgs false

namespace Go.Proofs.YtgjdopjolokaiaaGreat
open Go.RowKit

theorem step_append_ownB {P : Program} (w : World) {ops : Array Oper} {o : Oper} {a : Act} {K : Act → World → Prop} {Q : Exit → Act → World → Prop} {E : Prop} (hgd : o.guard = none) (s x : Operand) (t : TypeId)
    (ho : o.op = .call { callee := .builtin .append, args := #[s, x], argTypes := #[t, t] })
    (base : Nat) (e : TypeId) (i : TypeInfo) (z : Value) (size bytes : Nat) (ht : P.underlying t = some (.slice e)) (hi : P.info? e = some i) (hz : i.zero = some z)
    (hsize : i.size = size) (hby : i.bytes = bytes) (hzs : z.cells.size = size) (hsz : 0 < size)
    (v : Value) (n : Nat) (xs : List Value) (hs : a.eval s = v) (hown : w.ownsRow base e size v n xs)
    (ad : Addr) (m c : Nat) (news : List Value) (hx : a.eval x = .slice (some ad) m c) (hl : news.length = m * size) (hnews : ∀ j u, news[j]? = some u → w.cell? (ad.add j) = some u) (h1 : ∀ u ∈ news, u.oneCell' = true)
    (h63 : n + m ≤ maxLen) (hbytes : (n + m) * bytes ≤ 140737488355328) (hbase : base ≤ w.heap.size)
    (h : ∀ v' w', w'.ownsRow base e size v' (n + m) (xs ++ news) → w.grownBy w' v.ownBlock → K (a.put o.dst v') w') :
    if Region.wanted o (yielded ops a.tmps) = true then Oper.wp P o a w K Q else E := by
  rw [if_pos (by simp [Region.wanted, hgd])]
  exact wp_append_own w s x t ho base e i z size bytes ht hi hz hsize hby hzs hsz v n xs hs hown ad m c news hx hl hnews h1 h63 hbytes hbase fun v' w' g1 g2 _ => h v' w' g1 g2

theorem ownB_nil (W : World) (B : Nat) : OwnB W B (.slice none 0 0) [] := World.ownsRow_nil _ _ _ _
theorem ownB_below {W W' : World} {B : Nat} {v : Value} {l : List (Int × Int)} (h : OwnB W B v l) (hb : Below W.heap.size W W') : OwnB W' B v l := row_belB h hb
theorem flat_two (x y : Int) : flat [(x, y)] = [.int .i64 x, .int .i64 y] := rfl
theorem rlyStr_bad (v u h : Value) (E : Int) (nm : ByteArray) (cps dc : Int) (a : Option Addr) (m cap : Nat) (hv : v = .agg #[.string nm, .int .i64 cps, .slice a m cap, .int .i64 dc]) (w : World) (e1 : (E == 0) = false) (e2 : (E != 0) = true)
    (H1 : Hid (∀ W, Below w.heap.size w W → Calls Tryz.prog 28 #[v, u, h] W fun e w' => e = .returned (.int .i64 E) ∧ Below W.heap.size W w')) :
    Calls Tryz.prog 12 #[v, u, h] w fun e w' => e = .returned (.tuple #[.slice none 0 0, .int .i64 E]) ∧ Below w.heap.size w w' := by
  subst hv
  go_enter Tryz.func12, Tryz.ntmps12
  go_wp2_with fail
  refine (H1.out _ (bel_alloc (Below.refl _ _))).mono ?_
  rintro e w1 ⟨rfl, gg⟩
  have X1 := Lib.hid (bel_alloc gg); clear gg
  go_wp2
  go_returns
  exact ⟨rfl, X1.out⟩
theorem ownB_new {W W' : World} {B k : Nat} {v : Value} {l : List (Int × Int)} (h : OwnB W B v l) (hb : Below W.heap.size W W') (y0 y1 : Int) (hk : l.length = k) : (W'.alloc (.cells #[.int .i64 y0, .int .i64 y1] 29)).ownsRow B 29 2 v k (flat l) := by
  subst hk
  exact ownB_below (ownB_below h hb) (bel_alloc (o := .cells #[.int .i64 y0, .int .i64 y1] 29) (Below.refl _ _))
theorem pair_new (w : World) (y0 y1 : Int) (T : TypeId) (j : Nat) (u : Value) (hj : [Value.int .i64 y0, .int .i64 y1][j]? = some u) : (w.alloc (.cells #[.int .i64 y0, .int .i64 y1] T)).cell? ((⟨w.heap.size, 0, none⟩ : Addr).add j) = some u := by
  obtain ⟨n0, n1, _, _, _⟩ := Two.new w (.int .i64 y0) (.int .i64 y1) T
  rw [Go.WideShapes.add_plain, Nat.zero_add]
  match j, hj with
  | 0, hj => simp at hj; rw [← hj]; exact n0
  | 1, hj => simp at hj; rw [← hj]; exact n1
  | j + 2, hj => simp at hj
theorem pair_one (y0 y1 : Int) : ∀ u ∈ [Value.int .i64 y0, .int .i64 y1], u.oneCell' = true := by
  intro u hu; simp at hu; rcases hu with rfl | rfl <;> rfl
theorem ownB_push {W : World} {B k : Nat} {v : Value} {l m : List (Int × Int)} {y0 y1 : Int} (e : m = l ++ [(y0, y1)]) (hk : l.length = k) (h : W.ownsRow B 29 2 v (k + 1) (flat l ++ [.int .i64 y0, .int .i64 y1])) : OwnB W B v m := by
  rw [e]
  unfold OwnB
  rw [flat_app, flat_two, List.length_append, hk]
  exact h
theorem grown_new {A W W' V : World} {k : Nat} {v : Value} {xs : List Value} {o : Obj} {e : TypeId} {s : Nat} (h : Below A.heap.size A W) (h2 : Below W.heap.size W W') (hg : (W'.alloc o).grownBy V v.ownBlock) (hr : (W'.alloc o).ownsRow A.heap.size e s v k xs) : Below A.heap.size A V :=
  (h.trans ((h2.trans ((bel_alloc (o := o) (Below.refl _ _)).mono h2.size)).mono h.size)).grown hg (Nat.le_trans h.size (Nat.le_trans h2.size (bel_alloc (w := W') (o := o) (Below.refl _ _)).size)) (fun r hq => (World.ownsRow.lt hr r hq).1)
set_option maxRecDepth 100000 in
set_option maxHeartbeats 16000000 in
theorem rlyStr_ok (nm : ByteArray) (cps dc : Int) (a : Option Addr) (m cap : Nat) (u : Value) (b3 off3 q cap3 : Nat) (H : Nat → Int) (f : Nat → Int × Int) (w : World) (q1 : 1 ≤ q) (q2 : q ≤ 64) (hcap : q + 1 ≤ cap3 ∧ cap3 ≤ 9223372036854775807) (hb : b3 < w.heap.size)
    (hc : Hid (∀ j, j < q + 1 → w.cell? ⟨b3, off3 + j, none⟩ = some (.int .i64 (H j))))
    (H1 : Hid (∀ W, Below w.heap.size w W → Calls Tryz.prog 28 #[.agg #[.string nm, .int .i64 cps, .slice a m cap, .int .i64 dc], u, .slice (some ⟨b3, off3, none⟩) (q + 1) cap3] W fun e w' => e = .returned (.int .i64 0) ∧ Below W.heap.size W w'))
    (H2 : Hid (∀ k W, k < q → Below w.heap.size w W → Calls Tryz.prog 30 #[.agg #[.string nm, .int .i64 cps, .slice a m cap, .int .i64 dc], u, .int .i64 (H k), .int .i64 (H (k + 1))] W fun e w' => e = .returned (.agg #[.int .i64 (f k).1, .int .i64 (f k).2]) ∧ Below W.heap.size W w')) :
    Calls Tryz.prog 12 #[.agg #[.string nm, .int .i64 cps, .slice a m cap, .int .i64 dc], u, .slice (some ⟨b3, off3, none⟩) (q + 1) cap3] w fun e w' => ∃ v, e = .returned (.tuple #[v, .int .i64 0]) ∧ Pts w' v ((List.range q).map f) ∧ Below w.heap.size w w' := by
  obtain ⟨i0, hi, hz0, hz1, hz2⟩ := info_parts bd_info
  replace hi := Lib.hid hi
  replace hz0 := Lib.hid hz0
  replace hz1 := Lib.hid hz1
  replace hz2 := Lib.hid hz2
  have F0 := Lib.hid (Quad.new w (.string nm) (.int .i64 cps) (.slice a m cap) (.int .i64 dc) 24)
  go_enter Tryz.func12, Tryz.ntmps12
  go_wp2_with fail
  refine (H1.out _ (bel_alloc (Below.refl _ _))).mono ?_
  rintro e w1 ⟨rfl, gg⟩
  replace F0 := Lib.hid (F0.out.below gg)
  have X1 := Lib.hid (bel_alloc gg); clear gg
  have hw1 : w.heap.size < w1.heap.size := F0.out.2.2.2.2.2
  go_wp2_with fail
  go_loopw [9, 10] (fun v ii wr => ∃ k : Nat, k ≤ q ∧ ii = .int .i64 ((k : Int) + 1) ∧ Hid (OwnB wr w1.heap.size v ((List.range k).map f)) ∧ Hid (Below w1.heap.size w1 wr)) (fun _ ii _ => q + 1 - (intOf ii).toNat)
  case atStart => exact ⟨0, Nat.zero_le _, rfl, Lib.hid (ownB_nil _ _), Lib.hid (Below.refl _ _)⟩
  case round =>
    obtain ⟨k, hk, rfl, hO, hB⟩ := hrel
    by_cases hlt : k < q
    · have HB := Lib.hid (fun W (hW : Below wr.heap.size wr W) => H2.out k W hlt (bel_trans (X1.out.trans (hB.out.mono X1.out.size)) hW))
      have BW : Below w.heap.size w wr := X1.out.trans (hB.out.mono X1.out.size)
      have d0 : wr.cell? ⟨b3, off3 + k, none⟩ = some (.int .i64 (H k)) := by rw [(bcell BW).1 _ _ hb]; exact hc.out k (by omega)
      have d1 : wr.cell? ⟨b3, off3 + (k + 1), none⟩ = some (.int .i64 (H (k + 1))) := by rw [(bcell BW).1 _ _ hb]; exact hc.out (k + 1) (by omega)
      clear BW
      have D0 := Lib.hid (hc.out k (by omega))
      have D1 := Lib.hid (hc.out (k + 1) (by omega))
      obtain ⟨c0, c1, c2, c3, _, _⟩ := F0.out.below hB.out
      have PK : Hid ((List.range (k + 1)).map f = (List.range k).map f ++ [((f k).1, (f k).2)]) := Lib.hid (by rw [List.range_succ, List.map_append]; rfl)
      have hln : ((List.range k).map f).length = k := by simp
      generalize (List.range k).map f = L at *
      generalize (f k).1 = y0 at *
      generalize (f k).2 = y1 at *
      generalize H k = h0 at *
      generalize H (k + 1) = h1 at *
      have l0 : (k : Int) < (q : Int) := by omega
      have l1 : (k : Int) < (q : Int) + 1 := by omega
      have l2 : (k : Int) + 1 < (q : Int) + 1 := by omega
      have l3 : 0 ≤ (k : Int) + 1 := by omega
      have l4 : ((k : Int) + 1).toNat = k + 1 := by omega
      have w1' : IntKind.i64.wrap ((k : Int) + 1 - 1) = (k : Int) := by rw [wrap_in _ ⟨by omega, by omega⟩]; omega
      have w2' : IntKind.i64.wrap (k : Int) = (k : Int) := wrap_in _ ⟨by omega, by omega⟩
      have CE : Hid (∀ W, Below w1.heap.size w1 W → (W.cell? ⟨w.heap.size, 0, none⟩ = some (.string nm) ∧ W.cell? ⟨w.heap.size, 1, none⟩ = some (.int .i64 cps) ∧ W.cell? ⟨w.heap.size, 2, none⟩ = some (.slice a m cap) ∧ W.cell? ⟨w.heap.size, 3, none⟩ = some (.int .i64 dc)) ∧ (W.cell? ⟨b3, off3 + k, none⟩ = some (.int .i64 h0) ∧ W.cell? ⟨b3, off3 + (k + 1), none⟩ = some (.int .i64 h1)) ∧ (w.heap.size ≠ W.heap.size ∧ W.heap.size ≠ w.heap.size ∧ b3 ≠ W.heap.size ∧ W.heap.size ≠ b3)) := Lib.hid fun W hW => by
        obtain ⟨c0, c1, c2, c3, _, _⟩ := F0.out.below hW
        have BW : Below w.heap.size w W := X1.out.trans (hW.mono X1.out.size)
        have := hW.size
        exact ⟨⟨c0, c1, c2, c3⟩, ⟨by rw [(bcell BW).1 _ _ hb]; exact D0.out, by rw [(bcell BW).1 _ _ hb]; exact D1.out⟩, by omega, by omega, by omega, by omega⟩
      have M1 : Hid (k + 1 ≤ maxLen) := Lib.hid (by unfold maxLen; omega)
      have M2 : Hid ((k + 1) * 16 ≤ 140737488355328) := Lib.hid (by omega)
      go_wp2_with fail
      go_region_held3 (fun w' => w'.cell? ⟨w.heap.size, 0, none⟩ = some (.string nm) ∧ w'.cell? ⟨w.heap.size, 1, none⟩ = some (.int .i64 cps) ∧ w'.cell? ⟨w.heap.size, 2, none⟩ = some (.slice a m cap) ∧ w'.cell? ⟨w.heap.size, 3, none⟩ = some (.int .i64 dc) ∧ w'.cell? ⟨b3, off3 + k, none⟩ = some (.int .i64 h0) ∧ w'.cell? ⟨b3, off3 + (k + 1), none⟩ = some (.int .i64 h1)) (go_keep) (first
        | (go_at_call 30; (with_reducible refine (HB.out _ (bel_drew wr)).mono ?_); rintro e w3 ⟨rfl, gg⟩; have X3 := Lib.hid (bel_trans (bel_drew wr) gg); obtain ⟨⟨c0, c1, c2, c3⟩, ⟨d0, d1⟩, n0, n1, n2, n3⟩ := CE.out w3 (hB.out.trans (X3.out.mono hB.out.size)); have OA := Lib.hid (ownB_new hO.out X3.out y0 y1 hln); have CN := Lib.hid (pair_new w3 y0 y1 29); have HS := Lib.hid (Nat.le_trans (Nat.le_trans hB.out.size X3.out.size) (bel_alloc (w := w3) (o := .cells #[.int .i64 y0, .int .i64 y1] 29) (Below.refl _ _)).size); clear gg)
        | (refine step_append_ownB _ rfl (.tmp 24) (.tmp 37) 35 rfl w1.heap.size 29 i0 (.agg #[.int .i64 0, .int .i64 0]) 2 16 Tryz.underlying35 hi.out hz0.out hz1.out hz2.out rfl (by omega) u9 k (flat L) (by rfl) OA.out ⟨w3.heap.size, 0, none⟩ 1 1 [.int .i64 y0, .int .i64 y1] (by rfl) rfl CN.out (pair_one y0 y1) M1.out M2.out HS.out ?_; intro v2 w4 hown hgrow; have SN := Lib.hid (ownB_push PK.out hln hown); have B2 := Lib.hid (grown_new hB.out X3.out hgrow OA.out); obtain ⟨⟨c0, c1, c2, c3⟩, ⟨d0, d1⟩, n0, n1, n2, n3⟩ := CE.out w4 B2.out; clear hown hgrow))
      go_wp2
      go_roundw
      case rel => exact ⟨k + 1, by omega, by go_num, SN, B2⟩
      case measure => simp [intOf]; omega
    · obtain rfl : k = q := by omega
      go_wp2
      go_returns
      exact ⟨_, rfl, hO.out.pts, X1.out.trans (hB.out.mono X1.out.size)⟩
theorem rlyStr_any (v u h : Value) (c : Ck) (ps hs : List Int) (w : World) (hv : CkV w v c) (hu : Nums w u ps) (hh : Nums w h hs) :
    Calls Tryz.prog 12 #[v, u, h] w fun e w' => ∃ z, e = .returned (.tuple #[z, .int .i64 (lrE c ps hs)]) ∧ Pts w' z (stL c ps hs) ∧ Below w.heap.size w w' := by
  have H1 : Hid (∀ W, Below w.heap.size w W → _) := Lib.hid fun W hW => rlyRd_any v u h c ps hs W (hv.below hW) (hu.below hW) (hh.below hW)
  have hv' := hv
  obtain ⟨a, cap, e, hp, _⟩ := hv'
  unfold stL
  by_cases g : lrE c ps hs = 0
  · obtain ⟨⟨⟨h1, h2⟩, h3, h4⟩, h5⟩ := lrE_zero.1 g
    have n0 := h5.n0
    have n1 := h5.n1
    rw [if_pos g, g]
    rw [g] at H1
    obtain ⟨a3, cap3, rfl, hc3, hz | ⟨b3, off3, rfl, hb3, hhs⟩⟩ := hh
    · omega
    obtain ⟨q, hq⟩ : ∃ q, hs.length = q + 1 := ⟨hs.length - 1, by omega⟩
    rw [hq] at H1 hc3 ⊢
    rw [Nat.add_sub_cancel]
    have hv2 := hv
    subst e
    refine rlyStr_ok _ _ _ a _ cap u b3 off3 q cap3 (fun j => hs.getD j 0) (stF c ps hs) w (by omega) (by omega) ⟨hc3.1, hc3.2⟩ hb3 (Lib.hid fun j hj => hhs j (by omega)) H1 (Lib.hid fun k W hk hW => ?_)
    have b0 := h5.bd k (by omega)
    have b1 := h5.bd (k + 1) (by omega)
    have b2 := h5.asc k (by omega)
    exact rlyOf_any _ u c ps _ _ W (hv2.below hW) (hu.below hW) h1 h3 h4 (by omega) (by omega) (by omega)
  · rw [if_neg g]
    exact (rlyStr_bad v u h _ _ _ _ a _ cap e w (by simpa using g) (by simpa using g) H1).mono fun e w' ⟨g1, g2⟩ => ⟨_, g1, pts_nil _, g2⟩
end Go.Proofs.YtgjdopjolokaiaaGreat

namespace Go.Proofs.YtgjdopjolokaiaaGreat.lyingSpaces
open Go.ChangeShapes Go.WideShapes Go.ChangeAt Go.RowKit
open Go.ChangeMaps (open_string shut_string)
set_option linter.unusedVariables false

set_option maxHeartbeats 32000000 in
set_option maxRecDepth 100000 in
theorem core (L H E : Int) (a : Option Addr) (n cap : Nat) (c : Ck) (a2 : Option Addr) (n2 cap2 : Nat) (a3 : Option Addr) (n3 cap3 : Nat) (ps hs : List Int) (xs : List (Int × Int)) (w : World) (B1 : Bool)
    (KB : Hid (CkB w.heap.size (w.alloc (.cells #[.string c.nm, .int .i64 c.ps, .slice a n cap, .int .i64 c.dc] 24)) c)) (NP : Hid (Nums (w.alloc (.cells #[.string c.nm, .int .i64 c.ps, .slice a n cap, .int .i64 c.dc] 24)) (.slice a2 n2 cap2) ps)) (NH : Hid (Nums (w.alloc (.cells #[.string c.nm, .int .i64 c.ps, .slice a n cap, .int .i64 c.dc] 24)) (.slice a3 n3 cap3) hs))
    (hc : n = c.pf.length) (hpf : Hid (B1 = true → c.pf.length ≤ 1000)) (hps : Hid (B1 = true → ps.length ≤ 1000)) (hhs : Hid (B1 = true → hs.length ≤ 1000)) (hn2 : n2 ≤ 9223372036854775807) (hn3 : n3 ≤ 9223372036854775807)
    (FW : Hid (∀ v u W, CkV W v c → Lns W u [n2, n3] → Calls Tryz.prog 6 #[v, u] W fun e w' => e = .returned (.bool B1) ∧ Below W.heap.size W w'))
    (H1 : Hid (∀ v u h W, CkV W v c → Nums W u ps → Nums W h hs → Calls Tryz.prog 7 #[v, u, h] W fun e w' => e = .returned (.tuple #[.agg #[.int .i64 L, .int .i64 H], .int .i64 E]) ∧ Below W.heap.size W w'))
    (R1 : Hid (∀ v u h W, CkV W v c → Nums W u ps → Nums W h hs → Calls Tryz.prog 10 #[v, u, h] W fun e w' => e = .returned (.tuple #[.agg #[.int .i64 L, .int .i64 H], .int .i64 E]) ∧ Below W.heap.size W w'))
    (H2 : Hid (∀ v u h W, CkV W v c → Nums W u ps → Nums W h hs → Calls Tryz.prog 11 #[v, u, h] W fun e w' => ∃ z, e = .returned (.tuple #[z, .int .i64 E]) ∧ Pts w' z xs ∧ Below W.heap.size W w'))
    (R2 : Hid (∀ v u h W, CkV W v c → Nums W u ps → Nums W h hs → Calls Tryz.prog 12 #[v, u, h] W fun e w' => ∃ z, e = .returned (.tuple #[z, .int .i64 E]) ∧ Pts w' z xs ∧ Below W.heap.size W w'))
    (HE : Hid (∀ v u W, Pts W v xs → Pts W u xs → Calls Tryz.prog 13 #[v, u] W fun e w' => e = .returned (.bool true) ∧ Below W.heap.size W w')) :
    Calls Tryz.prog 3 #[.agg #[.string c.nm, .int .i64 c.ps, .slice a n cap, .int .i64 c.dc], .slice a2 n2 cap2, .slice a3 n3 cap3] w fun e w' => e = .returned (.bool true) ∧ Below w.heap.size w w' := by
  subst hc
  have HA := Lib.hid (fun W => awake_any W)
  have Q1 : ∀ (p q : Int) W, (binOp .eql 29 (.agg #[.int .i64 p, .int .i64 q]) (.agg #[.int .i64 p, .int .i64 q])).run Tryz.prog W = .ok (.bool true) W := fun p q W => by rw [run_eql_bounds, show samB p q p q = true by simp [samB]]
  have HB := Lib.hid ((Below.refl w.heap.size w).alloc (Nat.le_refl _) (.cells #[.string c.nm, .int .i64 c.ps, .slice a c.pf.length cap, .int .i64 c.dc] 24))
  go_enter Tryz.func3, Tryz.ntmps3
  go_wp2_with fail
  refine (HA.out _).mono ?_
  rintro e w5 ⟨rfl, h1⟩
  replace HB := Lib.hid (bel_trans HB.out h1)
  replace NP := Lib.hid (NP.out.below h1)
  replace NH := Lib.hid (NH.out.below h1)
  replace KB := Lib.hid (KB.out.below h1); clear h1
  obtain ⟨a4, cap4, c0, c1, c2, c3, kv⟩ := KB.out.val
  have FO := Lib.hid (FW.out _ _ (w5.alloc (.cells #[.slice a2 n2 cap2, .slice a3 n3 cap3] 25)) (kv.alloc _) (lns_two w5 a2 a3 n2 cap2 n3 cap3 _ hn2 hn3))
  clear kv
  generalize hL : c.pf.length = LN at *
  go_wp2_with fail
  refine FO.out.mono ?_
  rintro e w6 ⟨rfl, h1⟩
  replace h1 := bel_alloc h1
  replace HB := Lib.hid (bel_trans HB.out h1)
  replace NP := Lib.hid (NP.out.below h1)
  replace NH := Lib.hid (NH.out.below h1)
  replace KB := Lib.hid (KB.out.below h1); clear h1
  clear FO c0 c1 c2 c3
  cases B1 with
  | false =>
    go_wp2
    go_returns
    exact ⟨rfl, HB.out⟩
  | true =>
    have OW : Hid (∀ v W, CkV W v c → Calls Tryz.prog 8 #[v] W fun e w' => ∃ u, e = .returned u ∧ CkV w' u c ∧ Below W.heap.size W w') := Lib.hid fun v W h => own_any v c W h (by rw [hL]; exact hpf.out rfl)
    have CW : Hid (∀ W, Nums W (.slice a2 n2 cap2) ps → Calls Tryz.prog 9 #[.slice a2 n2 cap2] W fun e w' => ∃ u, e = .returned u ∧ Nums w' u ps ∧ Below W.heap.size W w') := Lib.hid fun W h => clone_nums _ ps W h (hps.out rfl)
    have CH : Hid (∀ W, Nums W (.slice a3 n3 cap3) hs → Calls Tryz.prog 9 #[.slice a3 n3 cap3] W fun e w' => ∃ u, e = .returned u ∧ Nums w' u hs ∧ Below W.heap.size W w') := Lib.hid fun W h => clone_nums _ hs W h (hhs.out rfl)
    obtain ⟨a4, cap4, c0, c1, c2, c3, kv⟩ := KB.out.val
    rw [hL] at c2 kv
    go_wp2_with fail
    refine (OW.out _ _ kv).mono ?_
    rintro e w3 ⟨V1, rfl, hx, h1⟩
    replace KB := Lib.hid (KB.out.below h1)
    replace NP := Lib.hid (NP.out.below h1)
    replace NH := Lib.hid (NH.out.below h1)
    replace HB := Lib.hid (bel_trans HB.out h1); clear h1
    have N1 := Lib.hid hx; clear hx
    clear c0 c1 c2 c3 kv
    go_wp2_with fail
    refine (CW.out _ NP.out).mono ?_
    rintro e w4 ⟨V2, rfl, hx, h1⟩
    replace KB := Lib.hid (KB.out.below h1)
    replace NP := Lib.hid (NP.out.below h1)
    replace NH := Lib.hid (NH.out.below h1)
    replace N1 := Lib.hid (N1.out.below h1)
    replace HB := Lib.hid (bel_trans HB.out h1); clear h1
    have N2 := Lib.hid hx; clear hx
    go_wp2_with fail
    refine (CH.out _ NH.out).mono ?_
    rintro e w5 ⟨V3, rfl, hx, h1⟩
    replace KB := Lib.hid (KB.out.below h1)
    replace NP := Lib.hid (NP.out.below h1)
    replace NH := Lib.hid (NH.out.below h1)
    replace N1 := Lib.hid (N1.out.below h1)
    replace N2 := Lib.hid (N2.out.below h1)
    replace HB := Lib.hid (bel_trans HB.out h1); clear h1
    have N3 := Lib.hid hx; clear hx
    go_wp2_with fail
    refine (H1.out _ _ _ _ N1.out N2.out N3.out).mono ?_
    rintro e w6 ⟨rfl, h1⟩
    replace KB := Lib.hid ((KB.out.below h1).alloc (.cells #[.int .i64 L, .int .i64 H] 29))
    replace NP := Lib.hid ((NP.out.below h1).alloc (.cells #[.int .i64 L, .int .i64 H] 29))
    replace NH := Lib.hid ((NH.out.below h1).alloc (.cells #[.int .i64 L, .int .i64 H] 29))
    replace N1 := Lib.hid ((N1.out.below h1).alloc (.cells #[.int .i64 L, .int .i64 H] 29))
    replace N2 := Lib.hid ((N2.out.below h1).alloc (.cells #[.int .i64 L, .int .i64 H] 29))
    replace N3 := Lib.hid ((N3.out.below h1).alloc (.cells #[.int .i64 L, .int .i64 H] 29))
    replace HB := Lib.hid ((bel_trans HB.out h1).alloc (bel_trans HB.out h1).size (.cells #[.int .i64 L, .int .i64 H] 29)); clear h1
    have T1 := Lib.hid (Two.new w6 (.int .i64 L) (.int .i64 H) 29)
    clear N1 N2 N3
    obtain ⟨a5, cap5, c0, c1, c2, c3, kv⟩ := KB.out.val
    rw [hL] at c2 kv
    go_wp2_with fail
    refine (R1.out _ _ _ _ kv NP.out NH.out).mono ?_
    rintro e w8 ⟨rfl, h1⟩
    replace KB := Lib.hid ((KB.out.below h1).alloc (.cells #[.int .i64 L, .int .i64 H] 29))
    replace NP := Lib.hid ((NP.out.below h1).alloc (.cells #[.int .i64 L, .int .i64 H] 29))
    replace NH := Lib.hid ((NH.out.below h1).alloc (.cells #[.int .i64 L, .int .i64 H] 29))
    replace T1 := Lib.hid ((T1.out.below h1).alloc (.cells #[.int .i64 L, .int .i64 H] 29))
    replace HB := Lib.hid ((bel_trans HB.out h1).alloc (bel_trans HB.out h1).size (.cells #[.int .i64 L, .int .i64 H] 29)); clear h1
    have T2 := Lib.hid (Two.new w8 (.int .i64 L) (.int .i64 H) 29)
    clear c0 c1 c2 c3 kv
    obtain ⟨a6, cap6, c0, c1, c2, c3, kv⟩ := KB.out.val
    rw [hL] at c2 kv
    go_wp2_with fail
    refine (OW.out _ _ kv).mono ?_
    rintro e w9 ⟨V4, rfl, hx, h1⟩
    replace KB := Lib.hid (KB.out.below h1)
    replace NP := Lib.hid (NP.out.below h1)
    replace NH := Lib.hid (NH.out.below h1)
    replace T1 := Lib.hid (T1.out.below h1)
    replace T2 := Lib.hid (T2.out.below h1)
    replace HB := Lib.hid (bel_trans HB.out h1); clear h1
    have N4 := Lib.hid hx; clear hx
    clear c0 c1 c2 c3 kv
    go_wp2_with fail
    refine (CW.out _ NP.out).mono ?_
    rintro e w10 ⟨V5, rfl, hx, h1⟩
    replace KB := Lib.hid (KB.out.below h1)
    replace NP := Lib.hid (NP.out.below h1)
    replace NH := Lib.hid (NH.out.below h1)
    replace T1 := Lib.hid (T1.out.below h1)
    replace T2 := Lib.hid (T2.out.below h1)
    replace N4 := Lib.hid (N4.out.below h1)
    replace HB := Lib.hid (bel_trans HB.out h1); clear h1
    have N5 := Lib.hid hx; clear hx
    go_wp2_with fail
    refine (CH.out _ NH.out).mono ?_
    rintro e w11 ⟨V6, rfl, hx, h1⟩
    replace KB := Lib.hid (KB.out.below h1)
    replace NP := Lib.hid (NP.out.below h1)
    replace NH := Lib.hid (NH.out.below h1)
    replace T1 := Lib.hid (T1.out.below h1)
    replace T2 := Lib.hid (T2.out.below h1)
    replace N4 := Lib.hid (N4.out.below h1)
    replace N5 := Lib.hid (N5.out.below h1)
    replace HB := Lib.hid (bel_trans HB.out h1); clear h1
    have N6 := Lib.hid hx; clear hx
    go_wp2_with fail
    refine (H2.out _ _ _ _ N4.out N5.out N6.out).mono ?_
    rintro e w12 ⟨X1, rfl, hx, h1⟩
    replace KB := Lib.hid (KB.out.below h1)
    replace NP := Lib.hid (NP.out.below h1)
    replace NH := Lib.hid (NH.out.below h1)
    replace T1 := Lib.hid (T1.out.below h1)
    replace T2 := Lib.hid (T2.out.below h1)
    replace N4 := Lib.hid (N4.out.below h1)
    replace N5 := Lib.hid (N5.out.below h1)
    replace N6 := Lib.hid (N6.out.below h1)
    replace HB := Lib.hid (bel_trans HB.out h1); clear h1
    have NX := Lib.hid hx; clear hx
    clear N4 N5 N6
    obtain ⟨a7, cap7, c0, c1, c2, c3, kv⟩ := KB.out.val
    rw [hL] at c2 kv
    go_wp2_with fail
    refine (R2.out _ _ _ _ kv NP.out NH.out).mono ?_
    rintro e w14 ⟨X2, rfl, hx, h1⟩
    replace KB := Lib.hid (KB.out.below h1)
    replace NP := Lib.hid (NP.out.below h1)
    replace NH := Lib.hid (NH.out.below h1)
    replace T1 := Lib.hid (T1.out.below h1)
    replace T2 := Lib.hid (T2.out.below h1)
    replace NX := Lib.hid (NX.out.below h1)
    replace HB := Lib.hid (bel_trans HB.out h1); clear h1
    have NY := Lib.hid hx; clear hx
    clear c0 c1 c2 c3 kv
    have he1 : (E == E) = true := by simp
    obtain ⟨T10, T11, T12, T13, T14⟩ := T1.out
    obtain ⟨T20, T21, T22, T23, T24⟩ := T2.out
    go_wp2_with fail
    refine (HE.out _ _ _ NX.out NY.out).mono ?_
    rintro e w16 ⟨rfl, h1⟩
    replace KB := Lib.hid (KB.out.below h1)
    replace NP := Lib.hid (NP.out.below h1)
    replace NH := Lib.hid (NH.out.below h1)
    replace T1 := Lib.hid (T1.out.below h1)
    replace T2 := Lib.hid (T2.out.below h1)
    replace NX := Lib.hid (NX.out.below h1)
    replace NY := Lib.hid (NY.out.below h1)
    replace HB := Lib.hid (bel_trans HB.out h1); clear h1
    go_wp2
    go_returns
    exact ⟨rfl, HB.out⟩
theorem walk (z : Value) (c : Ck) (u : Value) (ps : List Int) (h : Value) (hs : List Int) (w : World) (hv : CkV w z c) (hu : Nums w u ps) (hz : ∀ z ∈ ps, (Lit.int .i64 z).wf = true) (hh : Nums w h hs) (hz2 : ∀ z ∈ hs, (Lit.int .i64 z).wf = true) :
    Calls Tryz.prog 3 #[z, u, h] w fun e w' => e = .returned (.bool true) ∧ Below w.heap.size w w' := by
  obtain ⟨a, cap, rfl, hp, hw⟩ := hv
  have KB := Lib.hid (CkB.new hp hw)
  have hu' := hu
  have hh' := hh
  obtain ⟨a2, cap2, rfl, hc2, _⟩ := hu'
  obtain ⟨a3, cap3, rfl, hc3, _⟩ := hh'
  have fw : (fewC c && lnB [ps.length, hs.length]) = true → c.pf.length ≤ 1000 ∧ ps.length ≤ 1000 ∧ hs.length ≤ 1000 := fun h => by
    rw [Bool.and_eq_true] at h
    have h1 := fewC_pf h.1
    have h2 := h.2
    simp [lnB] at h2
    omega
  refine core (btwL c ps hs) (btwH c ps hs) (lrE c ps hs) a _ cap c a2 _ cap2 a3 _ cap3 ps hs (stL c ps hs) w (fewC c && lnB [ps.length, hs.length]) KB (Lib.hid (hu.alloc _)) (Lib.hid (hh.alloc _)) rfl (Lib.hid fun h => (fw h).1) (Lib.hid fun h => (fw h).2.1) (Lib.hid fun h => (fw h).2.2) (by omega) (by omega) (Lib.hid fun v u W h1 h2 => fewL_any v u c _ W h1 h2) (Lib.hid fun v u h W h1 h2 h3 => lyBw_any v u h c ps hs W h1 h2 h3) (Lib.hid fun v u h W h1 h2 h3 => rlyBw_any v u h c ps hs W h1 h2 h3) (Lib.hid fun v u h W h1 h2 h3 => lyStr_any v u h c ps hs W h1 h2 h3) (Lib.hid fun v u h W h1 h2 h3 => rlyStr_any v u h c ps hs W h1 h2 h3) (Lib.hid fun v u W h1 h2 => ?_)
  have := eqB_any v u _ _ W h1 h2
  simpa using this

set_option maxRecDepth 100000 in
theorem lifted (os : Os) (started : os.Started) (H : Type) (enc : TypeId × Value → H) :
    ReturnsInHanded {} Tryz.checked os 3 .any (Rows.lyingSpacesSpec.pre6 enc Tryz.prog Tryz.f3 Rows.lyingSpacesRow.domain false) (Rows.lyingSpacesSpec.post enc Tryz.prog Tryz.f3 false true false false) := by
  refine returnsInHanded_of_change (C := Tryz.checked) own started (by kernel_rfl) Tryz.func3
    (ChangeSpec.witness6 (enc := enc) (C := Tryz.checked) false ⟨#[], #[.agg #[.string ByteArray.empty, .int .i64 0, .slice none 0 0, .int .i64 0], .slice none 0 0, .slice none 0 0], []⟩ 8 (by kernel_rfl) (by kernel_rfl) (by kernel_rfl) (by kernel_rfl)) ?_
  intro W base args ds gs before hval0 hW hcnd _
  have hval : ∀ (j : Nat) t v, Tryz.f3.params[j]? = some t → args[j]? = some v → Value.okWide Tryz.prog W .any base t v := hval0
  clear hval0
  have hW' := hW
  obtain ⟨p, q, hA0, hV, rfl, hfz, hnd⟩ := hW
  have hA : DataW.TrodAll enc Tryz.prog W 0 (fun _ => true) true Tryz.f3.params.toList args.toList ds p := hA0
  rw [Tryz.params3] at hA hval
  obtain ⟨v0, vs0, d0, ds0, p0, q0, hargs, rfl, rfl, h0, r0⟩ := trodAll_cons hA
  obtain ⟨v1, vs1, d1, ds1, p1, q1, rfl, rfl, rfl, h1, r1⟩ := trodAll_cons r0
  obtain ⟨v2, vs2, d2, ds2, p2, q2, rfl, rfl, rfl, h2, r2⟩ := trodAll_cons r1
  obtain ⟨rfl, rfl, rfl⟩ := trodAll_nil r2
  obtain rfl : args = #[v0, v1, v2] := by cases args; simp_all
  obtain ⟨rfl, rfl⟩ := trodVars_none hV
  have k0 := h0
  have lt0 : ∀ x ∈ p0, x.block < W.heap.size := by obtain ⟨m, hm⟩ := k0; exact DataW.trod_lt m _ _ _ hm
  have k1 := h1
  have lt1 : ∀ x ∈ p1, x.block < W.heap.size := by obtain ⟨m, hm⟩ := k1; exact DataW.trod_lt m _ _ _ hm
  have k2 := h2
  have lt2 : ∀ x ∈ p2, x.block < W.heap.size := by obtain ⟨m, hm⟩ := k2; exact DataW.trod_lt m _ _ _ hm
  obtain ⟨z0, w0⟩ := open_ck (hval 0 24 v0 rfl rfl) h0
  obtain ⟨z1, w1, b1⟩ := open_intSlice Tryz.underlying25 Tryz.underlying3 (by kernel_rfl) (hval 1 25 v1 rfl rfl) h1
  obtain ⟨z2, w2, b2⟩ := open_intSlice Tryz.underlying25 Tryz.underlying3 (by kernel_rfl) (hval 2 25 v2 rfl rfl) h2
  clear hA0
  refine (walk v0 z0 v1 z1 v2 z2 W w0 w1 b1 w2 b2).mono fun e W' ⟨he, bel⟩ => ?_
  subst he
  exact ⟨_, rfl, _, _, _, [], _, [], hW', trodAll_mk1 (shut_bool Tryz.underlying4 _), (trodAll_cons_mk (Below.trod laidOut (by kernel_rfl) (of_decide_eq_true (by kernel_rfl)) k0 bel lt0) (trodAll_cons_mk (Below.trod laidOut (by kernel_rfl) (of_decide_eq_true (by kernel_rfl)) k1 bel lt1) (trodAll_cons_mk (Below.trod laidOut (by kernel_rfl) (of_decide_eq_true (by kernel_rfl)) k2 bel lt2) trodAll_mk0))), rfl, bel.frame _, fun h => by cases h⟩

theorem over : Rows.lyingSpacesRow.holds Tryz.pinned (OpenSpec.ofChange Rows.lyingSpacesSpec) :=
  OpenClaim.holds_of_wide 3 Tryz.f3 rfl rfl rfl rfl rfl rfl rfl ⟨rfl, rfl, rfl, rfl, rfl⟩ rfl rfl rfl rfl rfl (by kernel_rfl) Tryz.func3 (by kernel_rfl)
    (of_decide_eq_true (by kernel_rfl)) (by unfold Func.isWrapper; first | (rw [if_pos (by decide +kernel)]; kernel_rfl) | (rw [if_neg (by decide +kernel)]; exact ⟨rfl, rfl⟩))
    (fun os started H enc _ => lifted os started H enc)

theorem proved : Rows.LyingSpacesSaid := over
#print axioms proved
end Go.Proofs.YtgjdopjolokaiaaGreat.lyingSpaces
