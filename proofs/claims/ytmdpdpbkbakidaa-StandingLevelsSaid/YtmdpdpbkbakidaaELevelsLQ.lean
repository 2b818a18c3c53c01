/-
  The statement StandingLevels of spile/spilelaw12 holds: for every input the call returns true, and each argument reads afterwards as it read before.
-/
import Derived.Test.YtmdpdpbkbakidaaM4
import Derived.BigQuiet
import Derived.Maps.AppendAt
import Derived.Below
import Derived.Carry

set_option linter.unusedVariables false
set_option linter.unusedSimpArgs false

namespace Go.Proofs.Ytmdpdpbkbakidaa
open Go.RowKit

set_option maxRecDepth 100000 in
set_option maxHeartbeats 8000000 in
theorem rstNext_some (b off m cap : Nat) (l : List (Int × Int)) (d x : Int) (n : Nat) (w : World) (m1 : m ≤ 1000) (d0 : 0 ≤ d) (d2 : d ≤ 100000) (n0 : 1 ≤ n) (n1 : n ≤ 64)
    (hc : Hid (∀ j, j < m → w.cell? ⟨b, off + j * 2, none⟩ = some (.int .i64 (gX l j)))) :
    Calls Try.prog 60 #[.slice (some ⟨b, off, none⟩) m cap, .int .i64 d, .int .i64 n, .int .i64 x] w fun e w' => e = .returned (.int .i64 (nxB l d n x m)) ∧ w' = w := by
  go_enter Try.func60, Try.ntmps60
  go_wp2_with fail
  go_loopw [9, 10, 11] (fun bb ii _ wr => ∃ k : Nat, k ≤ n + 1 ∧ ii = .int .i64 k ∧ bb = .int .i64 (nxA d n x k) ∧ w = wr) (fun _ ii _ _ => n + 1 - (intOf ii).toNat)
  case atStart => exact ⟨0, by omega, rfl, rfl, rfl⟩
  case round =>
    obtain ⟨k, hk, rfl, rfl, rfl⟩ := hrel
    by_cases hlt : k < n + 1
    · have hF : Hid (muF d n k = (k : Int) * d / (n : Int)) := Lib.hid rfl
      have m0 : 0 ≤ (k : Int) * d ∧ (k : Int) * d ≤ 64 * 100000 := ⟨Int.mul_nonneg (by omega) d0, Int.mul_le_mul (by omega) d2 d0 (by omega)⟩
      have dv : 0 ≤ (k : Int) * d / (n : Int) ∧ (k : Int) * d / (n : Int) ≤ (k : Int) * d := ⟨Int.ediv_nonneg m0.1 (by omega), Int.ediv_le_self _ m0.1⟩
      have q1 : IntKind.i64.wrap ((k : Int) * d) = (k : Int) * d := wrap_in _ ⟨by omega, by omega⟩
      have q2 : IntKind.i64.wrap (((k : Int) * d).tdiv n) = muF d n k := by rw [Int.tdiv_eq_ediv_of_nonneg m0.1, hF.out]; exact wrap_in _ ⟨by omega, by omega⟩
      have nz : ¬ (n : Int) = 0 := by omega
      have nz2 : ((n : Int) == 0) = false := by simp; omega
      have l0 : (k : Int) ≤ (n : Int) := by omega
      have hA : Hid (nxA d n x (k + 1) = if x < muF d n k ∧ muF d n k < nxA d n x k then muF d n k else nxA d n x k) := Lib.hid rfl
      generalize muF d n k = y at *
      generalize nxA d n x k = bst at *
      clear m0 dv
      by_cases g1 : x < y
      · have p1 : decide (x < y) = true := decide_eq_true g1
        by_cases g2 : y < bst
        · have p2 : decide (y < bst) = true := decide_eq_true g2
          have hA2 := hA.out
          rw [if_pos ⟨g1, g2⟩] at hA2
          replace hA := Lib.hid hA2
          clear hA2 g1 g2
          go_wp2
          go_roundw
          case rel => exact ⟨k + 1, by omega, by go_num, by rw [hA.out], by first | rfl | trivial⟩
          case measure => simp [intOf]; omega
        · have p2 : decide (y < bst) = false := decide_eq_false g2
          have hA2 := hA.out
          rw [if_neg (fun h => g2 h.2)] at hA2
          replace hA := Lib.hid hA2
          clear hA2 g1 g2
          go_wp2
          go_roundw
          case rel => exact ⟨k + 1, by omega, by go_num, by rw [hA.out], by first | rfl | trivial⟩
          case measure => simp [intOf]; omega
      · have p1 : decide (x < y) = false := decide_eq_false g1
        have hA2 := hA.out
        rw [if_neg (fun h => g1 h.1)] at hA2
        replace hA := Lib.hid hA2
        clear hA2 g1
        go_wp2
        go_roundw
        case rel => exact ⟨k + 1, by omega, by go_num, by rw [hA.out], by first | rfl | trivial⟩
        case measure => simp [intOf]; omega
    · obtain rfl : k = n + 1 := by omega
      have hB0 : Hid (nxB l d n x 0 = nxA d n x (n + 1)) := Lib.hid rfl
      generalize nxA d n x (n + 1) = b0 at *
      clear hlt hk
      have l9 : ¬ ((n + 1 : Nat) : Int) ≤ (n : Int) := by omega
      go_wp2_with fail
      go_loopw [9, 12] (fun bb ii wr => ∃ k : Nat, k ≤ m ∧ ii = .int .i64 k ∧ bb = .int .i64 (nxB l d n x k) ∧ w = wr) (fun _ ii _ => m - (intOf ii).toNat)
      case atStart => exact ⟨0, by omega, rfl, by rw [hB0.out], rfl⟩
      case round =>
        obtain ⟨k, hk, rfl, rfl, rfl⟩ := hrel
        by_cases hlt : k < m
        · have c0 := hc.out k hlt
          have l0 : (k : Int) < (m : Int) := by omega
          have hA : Hid (nxB l d n x (k + 1) = if x < gX l k ∧ gX l k < nxB l d n x k then gX l k else nxB l d n x k) := Lib.hid rfl
          generalize gX l k = y at *
          generalize nxB l d n x k = bst at *
          by_cases g1 : x < y
          · have p1 : decide (x < y) = true := decide_eq_true g1
            by_cases g2 : y < bst
            · have p2 : decide (y < bst) = true := decide_eq_true g2
              have hA2 := hA.out
              rw [if_pos ⟨g1, g2⟩] at hA2
              replace hA := Lib.hid hA2
              clear hA2 g1 g2
              go_wp2
              go_roundw
              case rel => exact ⟨k + 1, by omega, by go_num, by rw [hA.out], by first | rfl | trivial⟩
              case measure => simp [intOf]; omega
            · have p2 : decide (y < bst) = false := decide_eq_false g2
              have hA2 := hA.out
              rw [if_neg (fun h => g2 h.2)] at hA2
              replace hA := Lib.hid hA2
              clear hA2 g1 g2
              go_wp2
              go_roundw
              case rel => exact ⟨k + 1, by omega, by go_num, by rw [hA.out], by first | rfl | trivial⟩
              case measure => simp [intOf]; omega
          · have p1 : decide (x < y) = false := decide_eq_false g1
            have hA2 := hA.out
            rw [if_neg (fun h => g1 h.1)] at hA2
            replace hA := Lib.hid hA2
            clear hA2 g1
            go_wp2
            go_roundw
            case rel => exact ⟨k + 1, by omega, by go_num, by rw [hA.out], by first | rfl | trivial⟩
            case measure => simp [intOf]; omega
        · obtain rfl : k = m := by omega
          go_wp2
          go_returns
          exact ⟨rfl, rfl⟩
end Go.Proofs.Ytmdpdpbkbakidaa

namespace Go.Proofs.Ytmdpdpbkbakidaa
open Go.RowKit

def sLen : Value → Nat
  | .slice _ n _ => n
  | _ => 0
theorem rstNext_at (b off m cap : Nat) (l : List (Int × Int)) (d x : Int) (n : Nat) (w : World) (m1 : m ≤ 1000) (hm : Hid (m = l.length)) (d0 : 0 ≤ d) (d2 : d ≤ 100000) (n0 : 1 ≤ n) (n1 : n ≤ 64)
    (hc : Hid (∀ j, j < m → w.cell? ⟨b, off + j * 2, none⟩ = some (.int .i64 (gX l j)))) :
    Calls Try.prog 60 #[.slice (some ⟨b, off, none⟩) m cap, .int .i64 d, .int .i64 n, .int .i64 x] w fun e w' => e = .returned (.int .i64 (nxB l d n x l.length)) ∧ w' = w := by
  rw [← hm.out]
  exact rstNext_some b off m cap l d x n w m1 d0 d2 n0 n1 hc
set_option maxRecDepth 100000 in
set_option maxHeartbeats 16000000 in
theorem rstMrg_some (b off m cap : Nat) (l : List (Int × Int)) (d : Int) (n : Nat) (w : World) (m1 : m ≤ 1000) (hb : b < w.heap.size) (hm : Hid (m = l.length)) (hR : Hid (RP l)) (d0 : 0 ≤ d) (d2 : d ≤ 100000) (n0 : 1 ≤ n) (n1 : n ≤ 64)
    (hc : Hid (∀ j, j < m → w.cell? ⟨b, off + j * 2, none⟩ = some (.int .i64 (gX l j)))) :
    Calls Try.prog 33 #[.slice (some ⟨b, off, none⟩) m cap, .int .i64 d, .int .i64 n] w fun e w' => ∃ u, e = .returned u ∧ Nums w' u (lvL l d n) ∧ Below w.heap.size w w' := by
  obtain ⟨i0, hi, hz0, hz1, hz2⟩ := info_parts info_int
  replace hi := Lib.hid hi
  replace hz0 := Lib.hid hz0
  replace hz1 := Lib.hid hz1
  replace hz2 := Lib.hid hz2
  have HN : Hid (∀ x W, Below w.heap.size w W → Calls Try.prog 60 #[.slice (some ⟨b, off, none⟩) m cap, .int .i64 d, .int .i64 n, .int .i64 x] W fun e w' => e = .returned (.int .i64 (nxB l d n x l.length)) ∧ w' = W) := Lib.hid fun x W hW => rstNext_at b off m cap l d x n W m1 hm d0 d2 n0 n1 (Lib.hid fun j hj => by rw [(bcell hW).1 _ _ hb]; exact hc.out j hj)
  have O0 := Lib.hid (OwnI.lit w w.heap.size 0 (Nat.le_refl _))
  have B0 : Hid (Below w.heap.size w (w.alloc (.cells #[.int .i64 0] 3))) := Lib.hid (bel_alloc (Below.refl _ _))
  go_enter Try.func33, Try.ntmps33
  go_wp2_with fail
  go_loopw [7] (fun v wr => ∃ (L : List Int) (x : Int), Hid (MgP l d n L x) ∧ Hid (OwnI wr w.heap.size v L) ∧ Hid (Below w.heap.size w wr)) (fun v _ => d.toNat + 2 - sLen v)
  case atStart => exact ⟨[0], 0, Lib.hid (MgP.start hR.out d0 n0), O0, B0⟩
  case round =>
    obtain ⟨L, x, hM, hO, hB⟩ := hrel
    have k0 := hM.out.n0
    have ks := hM.out.last
    have kl := hM.out.len
    have kx := hM.out.x1
    obtain ⟨g, cp, rfl, hg, hgs, hcp, hcp2, hcell⟩ := hO.out.form (by omega)
    have e0 := hcell (L.length - 1) (by omega)
    rw [ks] at e0
    clear hcell ks
    have OA := hO
    unfold OwnI at OA
    obtain ⟨K, hK⟩ : ∃ K, L.length = K + 1 := ⟨L.length - 1, by omega⟩
    rw [hK] at OA e0 kl
    rw [show K + 1 - 1 = K from rfl] at e0
    have wk : IntKind.i64.wrap (((K + 1 : Nat) : Int) - 1) = (K : Int) := by rw [wrap_in _ ⟨by omega, by omega⟩]; omega
    have wk1 : IntKind.i64.wrap ((K : Int) + 1 - 1) = (K : Int) := by rw [wrap_in _ ⟨by omega, by omega⟩]; omega
    have wk2 : (K : Int) < ((K + 1 : Nat) : Int) := by omega
    have wk3 : (K : Int) < (K : Int) + 1 := by omega
    have wk4 : K < K + 1 := by omega
    rw [hK]
    by_cases hx : x < d
    · have p1 : decide (x < d) = true := decide_eq_true hx
      have hM2 := Lib.hid (hM.out.step n0 hx)
      generalize hy : nxB l d n x l.length = y at *
      have HN2 := HN.out x wr hB.out
      rw [hy] at HN2
      replace HN2 := Lib.hid HN2
      have HS : Hid (w.heap.size ≤ (wr.alloc (.cells #[.int .i64 y] 3)).heap.size) := Lib.hid (Nat.le_trans hB.out.size (bel_alloc (Below.refl _ _)).size)
      have CN := Lib.hid (cell_oneE wr (.int .i64 y) 3)
      have OB := Lib.hid (World.ownsRow.alloc OA.out (.cells #[.int .i64 y] 3))
      have ll := hM2.out.len
      rw [List.length_append, List.length_singleton, hK] at ll
      have hyd := hM2.out.x1
      clear HN hx
      go_wp2_with fail
      refine HN2.out.mono ?_
      rintro e w3 ⟨rfl, h3⟩
      rw [h3]
      clear h3
      go_wp2_with (at_builtin; refine wpList_append_own_at _ rfl _ _ 25 rfl w.heap.size 3 i0 (.int .i64 0) 1 8 Try.underlying25 hi.out hz0.out hz1.out hz2.out rfl (by omega) _ _ _ rfl OB.out ⟨wr.heap.size, 0, none⟩ 1 1 [.int .i64 y] rfl rfl CN.out (by intro u hu; rw [List.mem_singleton] at hu; rw [hu]; rfl) ?qd4 ?qd5 HS.out ?_)
      case qd4 => unfold maxLen; omega
      case qd5 => omega
      intro v2 w2 hown3 hgrow _ _
      have SN : Hid (OwnI w2 w.heap.size v2 (L ++ [y])) := Lib.hid (OwnI.push hK.symm hown3)
      have B2 := Lib.hid ((bel_trans hB.out (bel_alloc (o := .cells #[.int .i64 y] 3) (Below.refl _ _))).grown hgrow HS.out (fun q hq => (World.ownsRow.lt OA.out q hq).1))
      obtain ⟨g5, cp5, hv2, _⟩ := SN.out.form (by rw [List.length_append, List.length_singleton]; omega)
      have hs2 : sLen v2 = K + 2 := by rw [hv2]; show (L ++ [y]).length = _; rw [List.length_append, List.length_singleton, hK]
      replace hs2 := Lib.hid hs2
      clear hown3 hgrow OA OB CN hv2
      go_wp2
      go_roundw
      case rel => exact ⟨_, _, hM2, SN, B2⟩
      case measure => rw [hs2.out]; show d.toNat + 2 - (K + 2) < d.toNat + 2 - (K + 1); omega
    · have p1 : decide (x < d) = false := decide_eq_false hx
      obtain rfl : x = d := by omega
      have hL := hM.out.done hR.out n0
      have NV := hO.out.nums
      rw [hK, hL] at NV
      replace NV := Lib.hid NV
      clear HN hx
      go_wp2
      go_returns
      exact ⟨_, rfl, NV.out, hB.out⟩
theorem rstLv_bad (v : Value) (E d n : Int) (w : World) (e2 : (E != 0) = true)
    (H1 : Hid (Calls Try.prog 25 #[v] w fun e w' => e = .returned (.int .i64 E) ∧ Below w.heap.size w w')) :
    Calls Try.prog 12 #[v, .int .i64 d, .int .i64 n] w fun e w' => e = .returned (.tuple #[.slice none 0 0, .int .i64 1]) ∧ Below w.heap.size w w' := by
  go_enter Try.func12, Try.ntmps12
  go_wp2_with fail
  refine H1.out.mono ?_
  rintro e w1 ⟨rfl, gg⟩
  have X1 := Lib.hid gg; clear gg
  go_wp2
  go_returns
  exact ⟨rfl, X1.out⟩
theorem rstLv_rng (b off m cap : Nat) (X d n : Int) (w : World) (h : d < 0 ∨ (¬ d < 0 ∧ X < d) ∨ (¬ d < 0 ∧ ¬ X < d ∧ n < 1) ∨ (¬ d < 0 ∧ ¬ X < d ∧ ¬ n < 1 ∧ 64 < n)) (m1 : m + 1 ≤ 1000)
    (hb : b < w.heap.size) (hc : w.cell? ⟨b, off + m * 2, none⟩ = some (.int .i64 X))
    (H1 : Hid (Calls Try.prog 25 #[.slice (some ⟨b, off, none⟩) (m + 1) cap] w fun e w' => e = .returned (.int .i64 0) ∧ Below w.heap.size w w')) :
    Calls Try.prog 12 #[.slice (some ⟨b, off, none⟩) (m + 1) cap, .int .i64 d, .int .i64 n] w fun e w' => e = .returned (.tuple #[.slice none 0 0, .int .i64 2]) ∧ Below w.heap.size w w' := by
  have wk : IntKind.i64.wrap (((m + 1 : Nat) : Int) - 1) = (m : Int) := by rw [wrap_in _ ⟨by omega, by omega⟩]; omega
  have wk1 : IntKind.i64.wrap ((m : Int) + 1 - 1) = (m : Int) := by rw [wrap_in _ ⟨by omega, by omega⟩]; omega
  have wk2 : (m : Int) < ((m + 1 : Nat) : Int) := by omega
  have wk3 : (m : Int) < (m : Int) + 1 := by omega
  have wk4 : m < m + 1 := by omega
  rcases h with h | ⟨h, h1⟩ | ⟨h, h1, h2⟩ | ⟨h, h1, h2, h3⟩
  all_goals
    go_enter Try.func12, Try.ntmps12
    go_wp2_with fail
    refine H1.out.mono ?_
    rintro e w1 ⟨rfl, gg⟩
    have c1 : w1.cell? ⟨b, off + m * 2, none⟩ = some (.int .i64 X) := by rw [(bcell gg).1 _ _ hb]; exact hc
    have X1 := Lib.hid gg; clear gg hc
  · have d1 : decide (d < 0) = true := decide_eq_true h
    go_wp2
    go_returns
    exact ⟨rfl, X1.out⟩
  · have d1 : decide (d < 0) = false := decide_eq_false (by omega)
    have d2 : decide (X < d) = true := decide_eq_true h1
    go_wp2
    go_returns
    exact ⟨rfl, X1.out⟩
  · have d1 : decide (d < 0) = false := decide_eq_false (by omega)
    have d2 : decide (X < d) = false := decide_eq_false (by omega)
    have d3 : decide (n < 1) = true := decide_eq_true h2
    go_wp2
    go_returns
    exact ⟨rfl, X1.out⟩
  · have d1 : decide (d < 0) = false := decide_eq_false (by omega)
    have d2 : decide (X < d) = false := decide_eq_false (by omega)
    have d3 : decide (n < 1) = false := decide_eq_false (by omega)
    have d4 : decide (64 < n) = true := decide_eq_true h3
    go_wp2
    go_returns
    exact ⟨rfl, X1.out⟩
theorem rstLv_ok (b off m cap : Nat) (LV : List Int) (X d : Int) (n : Int) (w : World) (d0 : 0 ≤ d) (d1 : d ≤ X) (n0 : 1 ≤ n) (n1 : n ≤ 64) (m1 : m + 1 ≤ 1000)
    (hb : b < w.heap.size) (hc : w.cell? ⟨b, off + m * 2, none⟩ = some (.int .i64 X))
    (H1 : Hid (Calls Try.prog 25 #[.slice (some ⟨b, off, none⟩) (m + 1) cap] w fun e w' => e = .returned (.int .i64 0) ∧ Below w.heap.size w w'))
    (H2 : Hid (∀ W, Below w.heap.size w W → Calls Try.prog 33 #[.slice (some ⟨b, off, none⟩) (m + 1) cap, .int .i64 d, .int .i64 n] W fun e w' => ∃ u, e = .returned u ∧ Nums w' u LV ∧ Below W.heap.size W w')) :
    Calls Try.prog 12 #[.slice (some ⟨b, off, none⟩) (m + 1) cap, .int .i64 d, .int .i64 n] w fun e w' => ∃ u, e = .returned (.tuple #[u, .int .i64 0]) ∧ Nums w' u LV ∧ Below w.heap.size w w' := by
  have wk : IntKind.i64.wrap (((m + 1 : Nat) : Int) - 1) = (m : Int) := by rw [wrap_in _ ⟨by omega, by omega⟩]; omega
  have wk1 : IntKind.i64.wrap ((m : Int) + 1 - 1) = (m : Int) := by rw [wrap_in _ ⟨by omega, by omega⟩]; omega
  have wk2 : (m : Int) < ((m + 1 : Nat) : Int) := by omega
  have wk3 : (m : Int) < (m : Int) + 1 := by omega
  have wk4 : m < m + 1 := by omega
  have g1 : decide (d < 0) = false := decide_eq_false (by omega)
  have g2 : decide (X < d) = false := decide_eq_false (by omega)
  have g3 : decide (n < 1) = false := decide_eq_false (by omega)
  have g4 : decide (64 < n) = false := decide_eq_false (by omega)
  go_enter Try.func12, Try.ntmps12
  go_wp2_with fail
  refine H1.out.mono ?_
  rintro e w1 ⟨rfl, gg⟩
  have c1 : w1.cell? ⟨b, off + m * 2, none⟩ = some (.int .i64 X) := by rw [(bcell gg).1 _ _ hb]; exact hc
  replace H2 := Lib.hid (H2.out w1 gg)
  have X1 := Lib.hid gg; clear gg hc
  go_wp2_with fail
  refine H2.out.mono ?_
  rintro e w4 ⟨z, rfl, hz, gg⟩
  have Z1 := Lib.hid hz
  have X4 := Lib.hid (bel_trans X1.out gg); clear gg
  obtain ⟨a2, cap2, rfl, _, _⟩ := hz
  generalize LV.length = K at *
  go_wp2
  go_returns
  exact ⟨_, rfl, Z1.out, X4.out⟩
theorem rstLv_any (v : Value) (l : List (Int × Int)) (d n : Int) (w : World) (hv : Pts w v l) :
    Calls Try.prog 12 #[v, .int .i64 d, .int .i64 n] w fun e w' => ∃ u, e = .returned (.tuple #[u, .int .i64 (lvsE l d n)]) ∧ Nums w' u (lvsL l d n) ∧ Below w.heap.size w w' := by
  have HL := Lib.hid (refCk_any v l w hv)
  unfold lvsL
  by_cases h : ckE l = 0
  · rw [h] at HL
    have hR := (ckE_iff l).1 h
    have m0 := hR.n0
    have m1 := hR.n1
    obtain ⟨a, cap, rfl, hcap, hh⟩ := hv
    rcases hh with h0 | ⟨b, off, rfl, hb, hc⟩
    · omega
    obtain ⟨m, hm⟩ : ∃ m, l.length = m + 1 := ⟨l.length - 1, by omega⟩
    have bx := hR.bx (l.length - 1) (by omega)
    have cX := (hc (l.length - 1) (by omega)).1
    rw [show l.length - 1 = m by omega] at cX bx
    rw [hm] at HL ⊢
    by_cases g : d < 0 ∨ gX l m < d ∨ n < 1 ∨ 64 < n
    · have e : lvsE l d n = 2 := by unfold lvsE; rw [if_pos h, if_pos (by rw [show l.length - 1 = m by omega]; exact g)]
      rw [e, if_neg (by omega)]
      refine (rstLv_rng b off m cap _ d n w (by omega) (by omega) hb cX HL).mono ?_
      rintro e w' ⟨rfl, hb⟩
      exact ⟨_, rfl, ⟨none, 0, rfl, by simp, .inl rfl⟩, hb⟩
    · have e : lvsE l d n = 0 := by unfold lvsE; rw [if_pos h, if_neg (by rw [show l.length - 1 = m by omega]; exact g)]
      rw [e, if_pos rfl]
      obtain ⟨k, hk⟩ : ∃ k : Nat, n = k := ⟨n.toNat, by omega⟩
      subst hk
      have H2 : Hid (∀ W, Below w.heap.size w W → _) := Lib.hid fun W hW => rstMrg_some b off (m + 1) cap l d k W (by omega) (Nat.lt_of_lt_of_le hb hW.size) (Lib.hid hm.symm) (Lib.hid hR) (by omega) (by omega) (by omega) (by omega) (Lib.hid fun j hj => by rw [(bcell hW).1 _ _ hb]; exact (hc j (by omega)).1)
      exact rstLv_ok b off m cap _ _ d k w (by omega) (by omega) (by omega) (by omega) (by omega) hb cX HL H2
  · have e : lvsE l d n = 1 := by unfold lvsE; rw [if_neg h]
    rw [e, if_neg (by omega)]
    refine (rstLv_bad v (ckE l) d n w (by simpa using h) HL).mono ?_
    rintro e w' ⟨rfl, hb⟩
    exact ⟨_, rfl, ⟨none, 0, rfl, by simp, .inl rfl⟩, hb⟩
end Go.Proofs.Ytmdpdpbkbakidaa

namespace Go.Proofs.Ytmdpdpbkbakidaa
open Go.RowKit

theorem rstChk_bad (nm : ByteArray) (cps dc : Int) (a : Option Addr) (m cap : Nat) (u : Value) (E : Int) (w : World) (e2 : (E != 0) = true)
    (H1 : Hid (∀ W, Below w.heap.size w W → Calls Try.prog 42 #[.agg #[.string nm, .int .i64 cps, .slice a m cap, .int .i64 dc]] W fun e w' => e = .returned (.int .i64 E) ∧ Below W.heap.size W w')) :
    Calls Try.prog 17 #[.agg #[.string nm, .int .i64 cps, .slice a m cap, .int .i64 dc], u] w fun e w' => e = .returned (.int .i64 E) ∧ Below w.heap.size w w' := by
  have F0 := Lib.hid (Quad.new w (.string nm) (.int .i64 cps) (.slice a m cap) (.int .i64 dc) 24)
  obtain ⟨u0, u1, u2, u3, _, _⟩ := F0.out
  go_enter Try.func17, Try.ntmps17
  go_wp2_with fail
  refine (H1.out _ (bel_alloc (Below.refl _ _))).mono ?_
  rintro e w1 ⟨rfl, gg⟩
  have X1 := Lib.hid (bel_alloc gg); clear gg
  go_wp2
  go_returns
  exact ⟨rfl, X1.out⟩
theorem rstChk_len (nm : ByteArray) (cps dc : Int) (a : Option Addr) (m cap : Nat) (a2 : Option Addr) (n cap2 : Nat) (V : Int) (w : World) (h : (n < 2 ∧ V = 9) ∨ (¬ n < 2 ∧ 128 < n ∧ n ≤ 9223372036854775807 ∧ V = 8))
    (H1 : Hid (∀ W, Below w.heap.size w W → Calls Try.prog 42 #[.agg #[.string nm, .int .i64 cps, .slice a m cap, .int .i64 dc]] W fun e w' => e = .returned (.int .i64 0) ∧ Below W.heap.size W w')) :
    Calls Try.prog 17 #[.agg #[.string nm, .int .i64 cps, .slice a m cap, .int .i64 dc], .slice a2 n cap2] w fun e w' => e = .returned (.int .i64 V) ∧ Below w.heap.size w w' := by
  have F0 := Lib.hid (Quad.new w (.string nm) (.int .i64 cps) (.slice a m cap) (.int .i64 dc) 24)
  obtain ⟨u0, u1, u2, u3, _, _⟩ := F0.out
  rcases h with ⟨h, rfl⟩ | ⟨h, h2, h3, rfl⟩
  all_goals
    go_enter Try.func17, Try.ntmps17
    go_wp2_with fail
    refine (H1.out _ (bel_alloc (Below.refl _ _))).mono ?_
    rintro e w1 ⟨rfl, gg⟩
    have X1 := Lib.hid (bel_alloc gg); clear gg
    go_wp2
    go_returns
    exact ⟨rfl, X1.out⟩
set_option maxRecDepth 100000 in
set_option maxHeartbeats 16000000 in
theorem rstChk_core (nm : ByteArray) (cps dc X : Int) (b off m cap b2 off2 n cap2 : Nat) (l : List (Int × Int)) (ls : List Int) (V : Int) (w : World) (n0 : 1 ≤ n) (n1 : n + 1 ≤ 128) (m1 : m + 1 ≤ 1000) (hb : b < w.heap.size) (hb2 : b2 < w.heap.size) (hn : Hid (ls.length = n + 1)) (hm : Hid (l.length = m + 1)) (hX : Hid (gX l m = X))
    (hv1 : Hid ((∃ i, i < n + 1 ∧ lvOut X (ls.getD i 0) = true) → V = 2))
    (hv2 : Hid ((∀ i, i < n + 1 → lvOut X (ls.getD i 0) = false) → (∃ i, i < n ∧ ls.getD (i + 1) 0 ≤ ls.getD i 0) → V = 5))
    (hv3 : Hid ((∀ i, i < n + 1 → lvOut X (ls.getD i 0) = false) → (∀ i, i < n → ls.getD i 0 < ls.getD (i + 1) 0) → (∃ j, j < m + 1 ∧ lvMis ls (gX l j) = true) → V = 7))
    (hv4 : Hid ((∀ i, i < n + 1 → lvOut X (ls.getD i 0) = false) → (∀ i, i < n → ls.getD i 0 < ls.getD (i + 1) 0) → (∀ j, j < m + 1 → lvMis ls (gX l j) = false) → V = 0))
    (hc : Hid (∀ j, j < m + 1 → w.cell? ⟨b, off + j * 2, none⟩ = some (.int .i64 (gX l j))))
    (hc2 : Hid (∀ j, j < n + 1 → w.cell? ⟨b2, off2 + j, none⟩ = some (.int .i64 (ls.getD j 0))))
    (H1 : Hid (∀ W, Below w.heap.size w W → Calls Try.prog 42 #[.agg #[.string nm, .int .i64 cps, .slice (some ⟨b, off, none⟩) (m + 1) cap, .int .i64 dc]] W fun e w' => e = .returned (.int .i64 0) ∧ Below W.heap.size W w'))
    (H2 : Hid (∀ x W, Below w.heap.size w W → Calls Try.prog 43 #[.slice (some ⟨b2, off2, none⟩) (n + 1) cap2, .int .i64 x] W fun e w' => e = .returned (.bool (ls.any (fun y => y == x))) ∧ w' = W)) :
    Calls Try.prog 17 #[.agg #[.string nm, .int .i64 cps, .slice (some ⟨b, off, none⟩) (m + 1) cap, .int .i64 dc], .slice (some ⟨b2, off2, none⟩) (n + 1) cap2] w fun e w' => e = .returned (.int .i64 V) ∧ Below w.heap.size w w' := by
  have F0 := Lib.hid (Quad.new w (.string nm) (.int .i64 cps) (.slice (some ⟨b, off, none⟩) (m + 1) cap) (.int .i64 dc) 24)
  have wk : IntKind.i64.wrap (((m + 1 : Nat) : Int) - 1) = (m : Int) := by rw [wrap_in _ ⟨by omega, by omega⟩]; omega
  have wk1 : IntKind.i64.wrap ((m : Int) + 1 - 1) = (m : Int) := by rw [wrap_in _ ⟨by omega, by omega⟩]; omega
  have wk2 : (m : Int) < ((m + 1 : Nat) : Int) := by omega
  have wk3 : (m : Int) < (m : Int) + 1 := by omega
  have wn : IntKind.i64.wrap (((n + 1 : Nat) : Int) - 1) = (n : Int) := by rw [wrap_in _ ⟨by omega, by omega⟩]; omega
  have wn1 : IntKind.i64.wrap ((n : Int) + 1 - 1) = (n : Int) := by rw [wrap_in _ ⟨by omega, by omega⟩]; omega
  have wn2 : (n : Int) < ((n + 1 : Nat) : Int) := by omega
  have wn3 : (n : Int) < (n : Int) + 1 := by omega
  go_enter Try.func17, Try.ntmps17
  go_wp2_with fail
  refine (H1.out _ (bel_alloc (Below.refl _ _))).mono ?_
  rintro e w1 ⟨rfl, gg⟩
  obtain ⟨u0, u1, u2, u3, _, _⟩ := F0.out.below gg
  replace H1 := Lib.hid (bel_alloc gg); clear gg F0
  have CP : Hid (∀ W, Below w.heap.size w W → ∀ j, j < m + 1 → W.cell? ⟨b, off + j * 2, none⟩ = some (.int .i64 (gX l j))) := Lib.hid fun W hW j hj => by rw [(bcell hW).1 _ _ hb]; exact hc.out j hj
  have CL : Hid (∀ W, Below w.heap.size w W → ∀ j, j < n + 1 → W.cell? ⟨b2, off2 + j, none⟩ = some (.int .i64 (ls.getD j 0))) := Lib.hid fun W hW j hj => by rw [(bcell hW).1 _ _ hb2]; exact hc2.out j hj
  clear hc hc2
  go_wp2_with fail
  go_loopw [7] (fun ii wr => ∃ k : Nat, k ≤ n + 1 ∧ ii = .int .i64 (k : Int) ∧ Hid (Below w.heap.size w wr) ∧ Hid (∀ i, i < k → lvOut X (ls.getD i 0) = false)) (fun ii _ => n + 1 - (intOf ii).toNat)
  case atStart => exact ⟨0, by omega, rfl, H1, Lib.hid fun i hi => by omega⟩
  case round =>
    clear u0 u1 u2 u3 H1
    obtain ⟨k, hk, rfl, hB, hA⟩ := hrel
    by_cases hlt : k < n + 1
    · have c0 := CL.out wr hB.out k hlt
      have c1 := CP.out wr hB.out m (by omega)
      rw [hX.out] at c1
      have l0 : (k : Int) < ((n + 1 : Nat) : Int) := by omega
      have l1 : (k : Int) < (n : Int) + 1 := by omega
      have BQ1 := Lib.hid (fun q => bel_trans hB.out (bel_drewN wr q))
      have hE : Hid (lvOut X (ls.getD k 0) = (decide (ls.getD k 0 < 0) || decide (X < ls.getD k 0))) := Lib.hid rfl
      cases hq : lvOut X (ls.getD k 0) with
      | true =>
        obtain rfl := hv1.out ⟨k, hlt, hq⟩
        rw [hq] at hE
        clear hv1 hv2 hv3 hv4 hA hX
        generalize ls.getD k 0 = y at *
        cases d1 : decide (y < 0) with
        | true =>
          go_upto_region 12 with fail
          go_quiet (fail)
          go_wp2
          go_returns
          exact ⟨rfl, BQ1.out _⟩
        | false =>
          have d2 : decide (X < y) = true := by have := hE.out; rw [d1, Bool.false_or] at this; exact this.symm
          go_upto_region 12 with fail
          go_quiet (fail)
          go_wp2
          go_returns
          exact ⟨rfl, BQ1.out _⟩
      | false =>
        have hA2 : Hid (∀ i, i < k + 1 → lvOut X (ls.getD i 0) = false) := Lib.hid fun i hi => by
          by_cases e : i = k
          · rw [e]; exact hq
          · exact hA.out i (by omega)
        rw [hq] at hE
        have hE2 := hE.out.symm
        rw [Bool.or_eq_false_iff] at hE2
        obtain ⟨d1, d2⟩ := hE2
        clear hE hq hA
        generalize ls.getD k 0 = y at *
        go_upto_region 12 with fail
        go_quiet (fail)
        go_wp2
        go_roundw
        case rel => exact ⟨k + 1, by omega, by go_num, Lib.hid (BQ1.out _), hA2⟩
        case measure => simp [intOf]; omega
    · obtain rfl : k = n + 1 := by omega
      replace hv2 := Lib.hid (hv2.out hA.out)
      replace hv3 := Lib.hid (hv3.out hA.out)
      replace hv4 := Lib.hid (hv4.out hA.out)
      clear hv1 hA hlt hk
      go_wp2_with fail
      go_loopw [8] (fun ii wr => ∃ k : Nat, k ≤ n ∧ ii = .int .i64 ((k : Int) + 1) ∧ Hid (Below w.heap.size w wr) ∧ Hid (∀ i, i < k → ls.getD i 0 < ls.getD (i + 1) 0)) (fun ii _ => n + 1 - (intOf ii).toNat)
      case atStart => exact ⟨0, by omega, rfl, hB, Lib.hid fun i hi => by omega⟩
      case round =>
        clear hB
        obtain ⟨k, hk, rfl, hB, hA⟩ := hrel
        by_cases hlt : k < n
        · have c0 := CL.out wr hB.out k (by omega)
          have c1 := CL.out wr hB.out (k + 1) (by omega)
          have l0 : (k : Int) + 1 < (n : Int) + 1 := by omega
          have l1 : (k : Int) + 1 < ((n + 1 : Nat) : Int) := by omega
          have l2 : (k : Int) < ((n + 1 : Nat) : Int) := by omega
          have l3 : IntKind.i64.wrap ((k : Int) + 1 - 1) = (k : Int) := by rw [wrap_in _ ⟨by omega, by omega⟩]; omega
          have l4 : ((k : Int) + 1).toNat = k + 1 := by omega
          have l5 : 0 ≤ (k : Int) + 1 := by omega
          have l6 : (k : Int) < (n : Int) + 1 := by omega
          have BQ1 := Lib.hid (fun q => bel_trans hB.out (bel_drewN wr q))
          by_cases hq : ls.getD (k + 1) 0 ≤ ls.getD k 0
          · obtain rfl := hv2.out ⟨k, hlt, hq⟩
            clear hv2 hv3 hv4 hA hX
            generalize ls.getD k 0 = x at *
            generalize ls.getD (k + 1) 0 = y at *
            have d1 : decide (y ≤ x) = true := decide_eq_true hq
            clear hq
            go_upto_region 17 with fail
            go_quiet (fail)
            go_wp2
            go_returns
            exact ⟨rfl, BQ1.out _⟩
          · have hA2 : Hid (∀ i, i < k + 1 → ls.getD i 0 < ls.getD (i + 1) 0) := Lib.hid fun i hi => by
              by_cases e : i = k
              · rw [e]; omega
              · exact hA.out i (by omega)
            clear hA
            generalize ls.getD k 0 = x at *
            generalize ls.getD (k + 1) 0 = y at *
            have d1 : decide (y ≤ x) = false := decide_eq_false hq
            clear hq
            go_upto_region 17 with fail
            go_quiet (fail)
            go_wp2
            go_roundw
            case rel => exact ⟨k + 1, by omega, by go_num, Lib.hid (BQ1.out _), hA2⟩
            case measure => simp [intOf]; omega
        · obtain rfl : k = n := by omega
          replace hv3 := Lib.hid (hv3.out hA.out)
          replace hv4 := Lib.hid (hv4.out hA.out)
          clear hv2 hA hlt hk
          go_wp2_with fail
          go_loopw [9] (fun ii wr => ∃ j : Nat, j ≤ m + 1 ∧ ii = .int .i64 (j : Int) ∧ Hid (Below w.heap.size w wr) ∧ Hid (∀ i, i < j → lvMis ls (gX l i) = false)) (fun ii _ => m + 1 - (intOf ii).toNat)
          case atStart => exact ⟨0, by omega, rfl, hB, Lib.hid fun i hi => by omega⟩
          case round =>
            clear hB
            obtain ⟨j, hj, rfl, hB, hA⟩ := hrel
            by_cases hlt : j < m + 1
            · have c0 := CP.out wr hB.out j hlt
              have c1 := CL.out wr hB.out 0 (by omega)
              rw [Nat.add_zero] at c1
              have c2 := CL.out wr hB.out k (by omega)
              have l0 : (j : Int) < (m : Int) + 1 := by omega
              have l1 : (j : Int) < ((m + 1 : Nat) : Int) := by omega
              have l2 : (0 : Int) < (k : Int) + 1 := by omega
              have l3 : (0 : Int) < ((k + 1 : Nat) : Int) := by omega
              have BQ1 := Lib.hid (fun q => bel_trans hB.out (bel_drewN wr q))
              have HC := Lib.hid (fun q => H2.out (gX l j) (wr.drewN q) (bel_trans hB.out (bel_drewN _ _)))
              have BQ := Lib.hid (fun q => bel_trans hB.out (bel_drewN wr q))
              have hE : Hid (lvMis ls (gX l j) = (decide (ls.getD 0 0 < gX l j) && (decide (gX l j < ls.getD k 0) && !ls.any (fun y => y == gX l j)))) := Lib.hid (by unfold lvMis; rw [hn.out]; rfl)
              generalize hQ : ls.any (fun y => y == gX l j) = Q at *
              cases hq : lvMis ls (gX l j) with
              | true =>
                obtain rfl := hv3.out ⟨j, hlt, hq⟩
                rw [hq] at hE
                have hE2 := hE.out.symm
                rw [Bool.and_eq_true, Bool.and_eq_true, Bool.not_eq_true'] at hE2
                obtain ⟨d1, d2, rfl⟩ := hE2
                clear hv3 hv4 hA hE hq hQ
                generalize gX l j = x at *
                generalize ls.getD 0 0 = p at *
                generalize ls.getD k 0 = z at *
                go_upto_region 22 with fail
                go_quiet ((go_at_call 43; exact Calls.quiet_of_same (HC.out _)))
                go_wp2
                go_returns
                exact ⟨rfl, BQ.out _⟩
              | false =>
                have hA2 : Hid (∀ i, i < j + 1 → lvMis ls (gX l i) = false) := Lib.hid fun i hi => by
                  by_cases e : i = j
                  · rw [e]; exact hq
                  · exact hA.out i (by omega)
                rw [hq] at hE
                clear hA hv3 hv4 hq hQ
                generalize gX l j = x at *
                generalize ls.getD 0 0 = p at *
                generalize ls.getD k 0 = z at *
                cases d1 : decide (p < x) with
                | false =>
                  go_upto_region 22 with fail
                  go_quiet (fail)
                  go_wp2
                  go_roundw
                  case rel => exact ⟨j + 1, by omega, by go_num, Lib.hid (BQ.out _), hA2⟩
                  case measure => simp [intOf]; omega
                | true =>
                  cases d2 : decide (x < z) with
                  | false =>
                    go_upto_region 22 with fail
                    go_quiet (fail)
                    go_wp2
                    go_roundw
                    case rel => exact ⟨j + 1, by omega, by go_num, Lib.hid (BQ.out _), hA2⟩
                    case measure => simp [intOf]; omega
                  | true =>
                    obtain rfl : Q = true := by have := hE.out; rw [d1, d2, Bool.true_and, Bool.true_and] at this; cases Q; cases this; rfl
                    go_upto_region 22 with fail
                    go_quiet ((go_at_call 43; exact Calls.quiet_of_same (HC.out _)))
                    go_wp2
                    go_roundw
                    case rel => exact ⟨j + 1, by omega, by go_num, Lib.hid (BQ.out _), hA2⟩
                    case measure => simp [intOf]; omega
            · obtain rfl : j = m + 1 := by omega
              obtain rfl := hv4.out hA.out
              go_wp2
              go_returns
              exact ⟨rfl, hB.out⟩
theorem rstChk_any (v u : Value) (c : Ck) (ls : List Int) (w : World) (hv : CkV w v c) (hu : Nums w u ls) :
    Calls Try.prog 17 #[v, u] w fun e w' => e = .returned (.int .i64 (stE c ls)) ∧ Below w.heap.size w w' := by
  have H1 : Hid (∀ W, Below w.heap.size w W → _) := Lib.hid fun W hW => rstIs_any v c W (hv.below hW)
  have hv' := hv
  obtain ⟨a, cap, rfl, hp, _⟩ := hv'
  unfold stE
  by_cases h : stSE c = 0
  · rw [if_pos h]
    rw [h] at H1
    obtain ⟨h1, h2⟩ := stSE_zero.1 h
    obtain ⟨_, _, _, hR⟩ := ccE_pf h1
    have m0 := hR.n0
    have m1 := hR.n1
    have hu' := hu
    obtain ⟨a2, cap2, rfl, hcap, hh⟩ := hu'
    unfold svE
    by_cases g1 : ls.length < 2
    · rw [if_pos g1]
      exact rstChk_len _ _ _ a _ cap a2 _ cap2 _ w (.inl ⟨g1, rfl⟩) H1
    · rw [if_neg g1]
      by_cases g2 : 128 < ls.length
      · rw [if_pos g2]
        exact rstChk_len _ _ _ a _ cap a2 _ cap2 _ w (.inr ⟨g1, g2, by omega, rfl⟩) H1
      · rw [if_neg g2]
        rcases hh with h0 | ⟨b, off, rfl, hb, hc⟩
        · omega
        · obtain ⟨bp, op, rfl, hbp, hpc⟩ := hp.at (by omega)
          obtain ⟨q, hq⟩ : ∃ q, ls.length = q + 1 := ⟨ls.length - 1, by omega⟩
          obtain ⟨r, hr⟩ : ∃ r, c.pf.length = r + 1 := ⟨c.pf.length - 1, by omega⟩
          have H2 : Hid (∀ x W, Below w.heap.size w W → Calls Try.prog 43 #[.slice (some ⟨b, off, none⟩) (q + 1) cap2, .int .i64 x] W fun e w' => e = .returned (.bool (ls.any (fun y => y == x))) ∧ w' = W) := Lib.hid fun x W hW => by
            rw [← hq]
            exact rstHas_any _ ls x W ⟨some ⟨b, off, none⟩, cap2, rfl, hcap, .inr ⟨b, off, rfl, Nat.lt_of_lt_of_le hb hW.size, fun j hj => by rw [(bcell hW).1 _ _ hb]; exact hc j hj⟩⟩ (by omega)
          rw [hr] at H1
          have eo : (∀ i, i < q + 1 → lvOut (gX c.pf r) (ls.getD i 0) = false) → ls.any (lvOut (gX c.pf r)) = false := fun h => by
            rw [Bool.eq_false_iff]
            intro hx
            obtain ⟨j, hj, e⟩ := (anyI_iff _ _).1 hx
            rw [h j (by omega)] at e
            cases e
          rw [hq, hr]
          rw [show r + 1 - 1 = r from rfl]
          refine rstChk_core _ _ _ (gX c.pf r) bp op r cap b off q cap2 c.pf ls _ w (by omega) (by omega) (by omega) hbp hb hq hr rfl (Lib.hid fun ⟨i, hi, hx⟩ => ?_) (Lib.hid fun ho ⟨i, hi, hx⟩ => ?_) (Lib.hid fun ho ha ⟨j, hj, hx⟩ => ?_) (Lib.hid fun ho ha hx => ?_) (Lib.hid fun j hj => (hpc j (by omega)).1) (Lib.hid fun j hj => hc j (by omega)) H1 H2
          · rw [if_pos ((anyI_iff _ _).2 ⟨i, by omega, hx⟩)]
          · rw [if_neg (by rw [eo ho]; simp), if_pos]
            rw [Bool.eq_false_iff]
            intro ha
            have := (stAsc_iff ls).1 ha i (by omega)
            omega
          · rw [if_neg (by rw [eo ho]; simp), if_neg (by rw [(stAsc_iff ls).2 (fun i hi => ha i (by omega))]; simp), if_pos ((misB_iff _ _).2 ⟨j, by omega, hx⟩)]
          · rw [if_neg (by rw [eo ho]; simp), if_neg (by rw [(stAsc_iff ls).2 (fun i hi => ha i (by omega))]; simp), if_neg]
            intro hm
            obtain ⟨j, hj, e⟩ := (misB_iff _ _).1 hm
            rw [hx j (by omega)] at e
            cases e
  · rw [if_neg h]
    obtain ⟨a2, cap2, rfl, _⟩ := hu
    exact rstChk_bad _ _ _ a _ cap _ _ w (by simpa using h) H1
end Go.Proofs.Ytmdpdpbkbakidaa

namespace Go.Proofs.Ytmdpdpbkbakidaa.standingLevels
open Go.ChangeShapes Go.WideShapes Go.ChangeAt Go.RowKit
open Go.ChangeMaps (open_string shut_string)
set_option linter.unusedVariables false

set_option maxHeartbeats 32000000 in
set_option maxRecDepth 100000 in
theorem core (d m E E2 : Int) (a : Option Addr) (n cap : Nat) (c : Ck) (a2 : Option Addr) (n2 cap2 : Nat) (ps xs : List Int) (w : World) (B1 : Bool)
    (KB : Hid (CkB w.heap.size (w.alloc (.cells #[.string c.nm, .int .i64 c.ps, .slice a n cap, .int .i64 c.dc] 24)) c)) (NP : Hid (Nums (w.alloc (.cells #[.string c.nm, .int .i64 c.ps, .slice a n cap, .int .i64 c.dc] 24)) (.slice a2 n2 cap2) ps)) (hc : n = c.pf.length) (hpf : Hid (B1 = true → c.pf.length ≤ 1000)) (hps : Hid (B1 = true → ps.length ≤ 1000))
    (FW : Hid (∀ v u W, CkV W v c → Nums W u ps → Calls Try.prog 9 #[v, u] W fun e w' => e = .returned (.bool B1) ∧ Below W.heap.size W w'))
    (H1 : Hid (∀ v W, Pts W v c.pf → Calls Try.prog 10 #[v, .int .i64 d, .int .i64 m] W fun e w' => ∃ u, e = .returned (.tuple #[u, .int .i64 E]) ∧ Nums w' u xs ∧ Below W.heap.size W w'))
    (R1 : Hid (∀ v W, Pts W v c.pf → Calls Try.prog 12 #[v, .int .i64 d, .int .i64 m] W fun e w' => ∃ u, e = .returned (.tuple #[u, .int .i64 E]) ∧ Nums w' u xs ∧ Below W.heap.size W w'))
    (HE : Hid (∀ v u W, Nums W v xs → Nums W u xs → Calls Try.prog 13 #[v, u] W fun e w' => e = .returned (.bool true) ∧ Below W.heap.size W w'))
    (H2 : Hid (∀ v u W, CkV W v c → Nums W u ps → Calls Try.prog 14 #[v, u] W fun e w' => e = .returned (.int .i64 E2) ∧ Below W.heap.size W w'))
    (R2 : Hid (∀ v u W, CkV W v c → Nums W u ps → Calls Try.prog 17 #[v, u] W fun e w' => e = .returned (.int .i64 E2) ∧ Below W.heap.size W w')) :
    Calls Try.prog 3 #[.agg #[.string c.nm, .int .i64 c.ps, .slice a n cap, .int .i64 c.dc], .int .i64 d, .int .i64 m, .slice a2 n2 cap2] w fun e w' => e = .returned (.bool true) ∧ Below w.heap.size w w' := by
  subst hc
  have HA := Lib.hid (fun W => awake_any W)
  have HB := Lib.hid ((Below.refl w.heap.size w).alloc (Nat.le_refl _) (.cells #[.string c.nm, .int .i64 c.ps, .slice a c.pf.length cap, .int .i64 c.dc] 24))
  go_enter Try.func3, Try.ntmps3
  go_wp2_with fail
  refine (HA.out _).mono ?_
  rintro e w5 ⟨rfl, h1⟩
  replace HB := Lib.hid (bel_trans HB.out h1)
  replace NP := Lib.hid (NP.out.below h1)
  replace KB := Lib.hid (KB.out.below h1); clear h1
  obtain ⟨a3, cap3, c0, c1, c2, c3, kv⟩ := KB.out.val
  have FO := Lib.hid (FW.out _ _ w5 kv NP.out)
  clear kv
  generalize hL : c.pf.length = LN at *
  go_wp2_with fail
  refine FO.out.mono ?_
  rintro e w6 ⟨rfl, h1⟩
  replace HB := Lib.hid (bel_trans HB.out h1)
  replace NP := Lib.hid (NP.out.below h1)
  replace KB := Lib.hid (KB.out.below h1); clear h1
  clear FO c0 c1 c2 c3
  cases B1 with
  | false =>
    go_wp2
    go_returns
    exact ⟨rfl, HB.out⟩
  | true =>
    have OW : Hid (∀ v W, CkV W v c → Calls Try.prog 15 #[v] W fun e w' => ∃ u, e = .returned u ∧ CkV w' u c ∧ Below W.heap.size W w') := Lib.hid fun v W h => own_any v c W h (by rw [hL]; exact hpf.out rfl)
    have CW : Hid (∀ W, Nums W (.slice a2 n2 cap2) ps → Calls Try.prog 16 #[.slice a2 n2 cap2] W fun e w' => ∃ u, e = .returned u ∧ Nums w' u ps ∧ Below W.heap.size W w') := Lib.hid fun W h => clone_nums _ ps W h (hps.out rfl)
    have PW : Hid (∀ v W, Pts W v c.pf → Calls Try.prog 11 #[v] W fun e w' => ∃ u, e = .returned u ∧ Pts w' u c.pf ∧ Below W.heap.size W w') := Lib.hid fun v W h => clone_p v c.pf W h (by rw [hL]; exact hpf.out rfl)
    have KV : Hid (∀ W, CkB w.heap.size W c → ∃ a cap, W.cell? ⟨w.heap.size, 0, none⟩ = some (.string c.nm) ∧ W.cell? ⟨w.heap.size, 1, none⟩ = some (.int .i64 c.ps) ∧ W.cell? ⟨w.heap.size, 2, none⟩ = some (.slice a LN cap) ∧ W.cell? ⟨w.heap.size, 3, none⟩ = some (.int .i64 c.dc) ∧ CkV W (.agg #[.string c.nm, .int .i64 c.ps, .slice a LN cap, .int .i64 c.dc]) c ∧ Pts W (.slice a LN cap) c.pf) := Lib.hid fun W h => by
      obtain ⟨a, cap, h1, h2, h3⟩ := h
      rw [hL] at h1 h2
      obtain ⟨q0, q1, q2, q3, _, _⟩ := h1
      exact ⟨a, cap, q0, q1, q2, q3, ⟨a, cap, by rw [hL], by rw [hL]; exact h2, h3⟩, h2⟩
    obtain ⟨a4, cap4, c0, c1, c2, c3, kv, kp⟩ := KV.out _ KB.out
    replace kv := Lib.hid kv
    go_wp2_with fail
    refine (PW.out _ _ kp).mono ?_
    rintro e w3 ⟨V1, rfl, hx, h1⟩
    replace KB := Lib.hid (KB.out.below h1)
    replace NP := Lib.hid (NP.out.below h1)
    replace HB := Lib.hid (bel_trans HB.out h1); clear h1
    have N1 := Lib.hid hx; clear hx
    clear c0 c1 c2 c3 kp kv
    go_wp2_with fail
    refine (H1.out _ _ N1.out).mono ?_
    rintro e w4 ⟨U1, rfl, hx, h1⟩
    replace KB := Lib.hid (KB.out.below h1)
    replace NP := Lib.hid (NP.out.below h1)
    replace N1 := Lib.hid (N1.out.below h1)
    replace HB := Lib.hid (bel_trans HB.out h1); clear h1
    have X1 := Lib.hid hx; clear hx
    clear N1
    obtain ⟨a5, cap5, c0, c1, c2, c3, kv, kp⟩ := KV.out _ KB.out
    go_wp2_with fail
    refine (R1.out _ _ kp).mono ?_
    rintro e w6 ⟨U2, rfl, hx, h1⟩
    replace KB := Lib.hid (KB.out.below h1)
    replace NP := Lib.hid (NP.out.below h1)
    replace X1 := Lib.hid (X1.out.below h1)
    replace HB := Lib.hid (bel_trans HB.out h1); clear h1
    have X2 := Lib.hid hx; clear hx
    clear c0 c1 c2 c3 kv kp
    have kb6 := KB.out
    obtain ⟨a6, cap6, hq6, hp6, hw6⟩ := kb6
    rw [hL] at hq6 hp6
    have FQ := Lib.hid (hq6.below (bel_drew (w6)))
    have kvH : Hid (CkV (w6).drew (.agg #[.string c.nm, .int .i64 c.ps, .slice a6 LN cap6, .int .i64 c.dc]) c) := Lib.hid (CkV.below (⟨a6, cap6, by rw [hL], by rw [hL]; exact hp6, hw6⟩ : CkV (w6) (.agg #[.string c.nm, .int .i64 c.ps, .slice a6 LN cap6, .int .i64 c.dc]) c) (bel_drew (w6)))
    replace NP := Lib.hid (NP.out.below (bel_drew (w6)))
    replace X1 := Lib.hid (X1.out.below (bel_drew (w6)))
    replace X2 := Lib.hid (X2.out.below (bel_drew (w6)))
    replace HB := Lib.hid (bel_trans HB.out (bel_drew (w6)))
    obtain ⟨c0, c1, c2, c3, _, _⟩ := hq6
    have he1 : (E == E) = true := by simp
    have he2 : (E2 == E2) = true := by simp
    clear hp6 hw6 KB KV PW H1 R1 HA FW
    go_wp2_with fail
    go_region_held3 (fun w' => w'.cell? ⟨w.heap.size, 0, none⟩ = some (.string c.nm) ∧ w'.cell? ⟨w.heap.size, 1, none⟩ = some (.int .i64 c.ps) ∧ w'.cell? ⟨w.heap.size, 2, none⟩ = some (.slice a6 LN cap6) ∧ w'.cell? ⟨w.heap.size, 3, none⟩ = some (.int .i64 c.dc)) (go_keep) (first
      | (go_at_call 13; (with_reducible refine (HE.out _ _ _ X1.out X2.out).mono ?_); rintro e wA ⟨rfl, gg⟩; replace FQ := Lib.hid (FQ.out.below gg); replace kvH := Lib.hid (kvH.out.below gg); replace NP := Lib.hid (NP.out.below gg); (try (replace NO := Lib.hid (NO.out.below gg))); (try (replace NC := Lib.hid (NC.out.below gg))); replace HB := Lib.hid (bel_trans HB.out gg); obtain ⟨q0, q1, q2, q3, _, _⟩ := FQ.out; clear gg)
      | (go_at_call 15; (with_reducible refine (OW.out _ _ kvH.out).mono ?_); rintro e wA ⟨uo, rfl, ho, gg⟩; replace FQ := Lib.hid (FQ.out.below gg); replace kvH := Lib.hid (kvH.out.below gg); replace NP := Lib.hid (NP.out.below gg); (try (replace NO := Lib.hid (NO.out.below gg))); (try (replace NC := Lib.hid (NC.out.below gg))); replace HB := Lib.hid (bel_trans HB.out gg); obtain ⟨q0, q1, q2, q3, _, _⟩ := FQ.out; clear gg; have NO := Lib.hid ho; clear ho)
      | (go_at_call 16; (with_reducible refine (CW.out _ NP.out).mono ?_); rintro e wA ⟨uc, rfl, ho, gg⟩; replace FQ := Lib.hid (FQ.out.below gg); replace kvH := Lib.hid (kvH.out.below gg); replace NP := Lib.hid (NP.out.below gg); (try (replace NO := Lib.hid (NO.out.below gg))); (try (replace NC := Lib.hid (NC.out.below gg))); replace HB := Lib.hid (bel_trans HB.out gg); obtain ⟨q0, q1, q2, q3, _, _⟩ := FQ.out; clear gg; have NC := Lib.hid ho; clear ho)
      | (go_at_call 14; (with_reducible refine (H2.out _ _ _ NO.out NC.out).mono ?_); rintro e wA ⟨rfl, gg⟩; replace FQ := Lib.hid (FQ.out.below gg); replace kvH := Lib.hid (kvH.out.below gg); replace NP := Lib.hid (NP.out.below gg); (try (replace NO := Lib.hid (NO.out.below gg))); (try (replace NC := Lib.hid (NC.out.below gg))); replace HB := Lib.hid (bel_trans HB.out gg); obtain ⟨q0, q1, q2, q3, _, _⟩ := FQ.out; clear gg)
      | (go_at_call 17; (with_reducible refine (R2.out _ _ _ kvH.out NP.out).mono ?_); rintro e wA ⟨rfl, gg⟩; replace FQ := Lib.hid (FQ.out.below gg); replace kvH := Lib.hid (kvH.out.below gg); replace NP := Lib.hid (NP.out.below gg); (try (replace NO := Lib.hid (NO.out.below gg))); (try (replace NC := Lib.hid (NC.out.below gg))); replace HB := Lib.hid (bel_trans HB.out gg); obtain ⟨q0, q1, q2, q3, _, _⟩ := FQ.out; clear gg))
    all_goals go_wp2
    all_goals go_returns
    all_goals exact ⟨rfl, HB.out⟩
theorem walk (z : Value) (c : Ck) (d m : Int) (u : Value) (ps : List Int) (w : World) (hv : CkV w z c) (hd : -9223372036854775808 ≤ d ∧ d ≤ 9223372036854775807) (hm : -9223372036854775808 ≤ m ∧ m ≤ 9223372036854775807) (hu : Nums w u ps) (hz : ∀ z ∈ ps, (Lit.int .i64 z).wf = true) :
    Calls Try.prog 3 #[z, .int .i64 d, .int .i64 m, u] w fun e w' => e = .returned (.bool true) ∧ Below w.heap.size w w' := by
  obtain ⟨a, cap, rfl, hp, hw⟩ := hv
  have KB := Lib.hid (CkB.new hp hw)
  have hu' := hu
  obtain ⟨a2, cap2, rfl, hc2, _⟩ := hu'
  refine core d m (lvsE c.pf d m) (stE c ps) a _ cap c a2 _ cap2 ps (lvsL c.pf d m) w (fewC c && decide (ps.length ≤ 129)) KB (Lib.hid (hu.below (bel_alloc (Below.refl _ _)))) rfl (Lib.hid fun h => ?_) (Lib.hid fun h => ?_) (Lib.hid fun v u W h1 h2 => fewE_any v u c ps W h1 h2) (Lib.hid fun v W h => stLv_any v c.pf d m W h) (Lib.hid fun v W h => rstLv_any v c.pf d m W h) (Lib.hid fun v u W h1 h2 => ?_) (Lib.hid fun v u W h1 h2 => stChk_any v u c ps W h1 h2) (Lib.hid fun v u W h1 h2 => rstChk_any v u c ps W h1 h2)
  · rw [Bool.and_eq_true] at h
    have := fewC_pf h.1
    omega
  · rw [Bool.and_eq_true] at h
    have := h.2
    rw [decide_eq_true_eq] at this
    omega
  · have := equal_any v u _ _ W h1 h2
    rwa [beq_self_eq_true] at this

set_option maxRecDepth 100000 in
theorem lifted (os : Os) (started : os.Started) (H : Type) (enc : TypeId × Value → H) :
    ReturnsInHanded {} Try.checked os 3 .any (Rows.standingLevelsSpec.pre6 enc Try.prog Try.f3 Rows.standingLevelsRow.domain false) (Rows.standingLevelsSpec.post enc Try.prog Try.f3 false true false false) := by
  refine returnsInHanded_of_change (C := Try.checked) own started (by kernel_rfl) Try.func3
    (ChangeSpec.witness6 (enc := enc) (C := Try.checked) false ⟨#[], #[.agg #[.string ByteArray.empty, .int .i64 0, .slice none 0 0, .int .i64 0], .int .i64 0, .int .i64 0, .slice none 0 0], []⟩ 8 (by kernel_rfl) (by kernel_rfl) (by kernel_rfl) (by kernel_rfl)) ?_
  intro W base args ds gs before hval0 hW hcnd _
  have hval : ∀ (j : Nat) t v, Try.f3.params[j]? = some t → args[j]? = some v → Value.okWide Try.prog W .any base t v := hval0
  clear hval0
  have hW' := hW
  obtain ⟨p, q, hA0, hV, rfl, hfz, hnd⟩ := hW
  have hA : DataW.TrodAll enc Try.prog W 0 (fun _ => true) true Try.f3.params.toList args.toList ds p := hA0
  rw [Try.params3] at hA hval
  obtain ⟨v0, vs0, d0, ds0, p0, q0, hargs, rfl, rfl, h0, r0⟩ := trodAll_cons hA
  obtain ⟨v1, vs1, d1, ds1, p1, q1, rfl, rfl, rfl, h1, r1⟩ := trodAll_cons r0
  obtain ⟨v2, vs2, d2, ds2, p2, q2, rfl, rfl, rfl, h2, r2⟩ := trodAll_cons r1
  obtain ⟨v3, vs3, d3, ds3, p3, q3, rfl, rfl, rfl, h3, r3⟩ := trodAll_cons r2
  obtain ⟨rfl, rfl, rfl⟩ := trodAll_nil r3
  obtain rfl : args = #[v0, v1, v2, v3] := by cases args; simp_all
  obtain ⟨rfl, rfl⟩ := trodVars_none hV
  have k0 := h0
  have lt0 : ∀ x ∈ p0, x.block < W.heap.size := by obtain ⟨m, hm⟩ := k0; exact DataW.trod_lt m _ _ _ hm
  have k1 := h1
  have lt1 : ∀ x ∈ p1, x.block < W.heap.size := by obtain ⟨m, hm⟩ := k1; exact DataW.trod_lt m _ _ _ hm
  have k2 := h2
  have lt2 : ∀ x ∈ p2, x.block < W.heap.size := by obtain ⟨m, hm⟩ := k2; exact DataW.trod_lt m _ _ _ hm
  have k3 := h3
  have lt3 : ∀ x ∈ p3, x.block < W.heap.size := by obtain ⟨m, hm⟩ := k3; exact DataW.trod_lt m _ _ _ hm
  obtain ⟨z0, w0⟩ := open_ck (hval 0 24 v0 rfl rfl) h0
  obtain ⟨a1, rfl, rfl, rfl, w1⟩ := open_int Try.underlying3 (hval 1 3 v1 rfl rfl) h1
  obtain ⟨a2, rfl, rfl, rfl, w2⟩ := open_int Try.underlying3 (hval 2 3 v2 rfl rfl) h2
  obtain ⟨z3, w3, b3⟩ := open_intSlice Try.underlying25 Try.underlying3 (by kernel_rfl) (hval 3 25 v3 rfl rfl) h3
  clear hA0
  refine (walk v0 z0 a1 a2 v3 z3 W w0 (wf_bd w1) (wf_bd w2) w3 b3).mono fun e W' ⟨he, bel⟩ => ?_
  subst he
  exact ⟨_, rfl, _, _, _, [], _, [], hW', trodAll_mk1 (shut_bool Try.underlying4 _), (trodAll_cons_mk (Below.trod laidOut (by kernel_rfl) (of_decide_eq_true (by kernel_rfl)) k0 bel lt0) (trodAll_cons_mk (Below.trod laidOut (by kernel_rfl) (of_decide_eq_true (by kernel_rfl)) k1 bel lt1) (trodAll_cons_mk (Below.trod laidOut (by kernel_rfl) (of_decide_eq_true (by kernel_rfl)) k2 bel lt2) (trodAll_cons_mk (Below.trod laidOut (by kernel_rfl) (of_decide_eq_true (by kernel_rfl)) k3 bel lt3) trodAll_mk0)))), rfl, bel.frame _, fun h => by cases h⟩

theorem over : Rows.standingLevelsRow.holds Try.pinned (OpenSpec.ofChange Rows.standingLevelsSpec) :=
  OpenClaim.holds_of_wide 3 Try.f3 rfl rfl rfl rfl rfl rfl rfl ⟨rfl, rfl, rfl, rfl, rfl⟩ rfl rfl rfl rfl rfl (by kernel_rfl) Try.func3 (by kernel_rfl)
    (of_decide_eq_true (by kernel_rfl)) (by unfold Func.isWrapper; first | (rw [if_pos (by decide +kernel)]; kernel_rfl) | (rw [if_neg (by decide +kernel)]; exact ⟨rfl, rfl⟩))
    (fun os started H enc _ => lifted os started H enc)

theorem proved : Rows.StandingLevelsSaid := over
#print axioms proved
end Go.Proofs.Ytmdpdpbkbakidaa.standingLevels
