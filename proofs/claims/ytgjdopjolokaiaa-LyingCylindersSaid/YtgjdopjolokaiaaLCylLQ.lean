/-
  The statement LyingCylinders of spile/spilelaw11 holds: for every input the call returns true, and each argument reads afterwards as it read before.
-/
import Derived.Test.YtgjdopjolokaiaaM2
import Derived.Test.YtgjdopjolokaiaaM5
import Derived.Test.YtgjdopjolokaiaaM3
import Derived.Below
import Derived.Carry
set_option linter.unusedVariables false
set_option linter.unusedSimpArgs false
namespace Go.Proofs.Ytgjdopjolokaiaa.lyingCylinders
open Go.ChangeShapes Go.WideShapes Go.ChangeAt Go.RowKit
open Go.ChangeMaps (open_string shut_string)
set_option linter.unusedVariables false

theorem nlen {W : World} {a : Option Addr} {n cap : Nat} {zs : List Int} (h : Nums W (.slice a n cap) zs) : n = zs.length := by
  obtain ⟨a', c', e, _⟩ := h
  simp only [Value.slice.injEq] at e
  exact e.2.1
def cyC (X r : Int) : Ck := ⟨⟨#[99]⟩, 1, [(0, r), (X, r)], 0⟩
set_option maxHeartbeats 4000000 in
theorem lens (r : Int) (a2 : Option Addr) (n2 cap2 : Nat) (a3 : Option Addr) (n3 cap3 : Nat) (w : World) (m2 : n2 ≤ 9223372036854775807) (m3 : n3 ≤ 9223372036854775807) (h : n2 < 2 ∨ (2 ≤ n2 ∧ 65 < n2) ∨ (2 ≤ n2 ∧ n2 ≤ 65 ∧ 66 < n3)) :
    Calls Try.prog 7 #[.int .i64 r, .slice a2 n2 cap2, .slice a3 n3 cap3] w fun e w' => e = .returned (.bool true) ∧ Below w.heap.size w w' := by
  have HA := Lib.hid (fun W => awake_any W)
  rcases h with h | ⟨h, h2⟩ | ⟨h, h2, h3⟩
  all_goals
    go_enter Try.func7, Try.ntmps7
    go_wp2_with fail
    refine (HA.out _).mono ?_
    rintro e w5 ⟨rfl, h1⟩
    have HB := Lib.hid h1; clear h1
  · have d1 : decide ((n2 : Int) < 2) = true := decide_eq_true (by omega)
    go_wp2
    go_returns
    exact ⟨rfl, HB.out⟩
  · have d1 : decide ((n2 : Int) < 2) = false := decide_eq_false (by omega)
    have d2 : decide (65 < (n2 : Int)) = true := decide_eq_true (by omega)
    go_wp2
    go_returns
    exact ⟨rfl, HB.out⟩
  · have d1 : decide ((n2 : Int) < 2) = false := decide_eq_false (by omega)
    have d2 : decide (65 < (n2 : Int)) = false := decide_eq_false (by omega)
    have d3 : decide (66 < (n3 : Int)) = true := decide_eq_true (by omega)
    go_wp2
    go_returns
    exact ⟨rfl, HB.out⟩
set_option maxHeartbeats 32000000 in
set_option maxRecDepth 100000 in
theorem core (r X L H E AL AH : Int) (b2 off2 k2 cap2 : Nat) (a3 : Option Addr) (n3 cap3 : Nat) (ps hs : List Int) (w : World) (g0 : 1 ≤ k2) (g1 : k2 ≤ 64) (g2 : n3 ≤ 66) (hb2 : b2 < w.heap.size) (hX : w.cell? ⟨b2, off2 + k2, none⟩ = some (.int .i64 X)) (bX : -9223372036854775808 ≤ X ∧ X ≤ 9223372036854775807) (br : -9223372036854775808 ≤ r ∧ r ≤ 9223372036854775807)
    (NPl : Hid (Nums w (.slice (some ⟨b2, off2, none⟩) (k2 + 1) cap2) ps)) (NHl : Hid (Nums w (.slice a3 n3 cap3) hs))
    (hE : ((E == 0) = false ∧ (E != 0) = true ∧ L = 0 ∧ H = 0) ∨ (E = 0 ∧ IntKind.i64.wrap (X * AL) = X * AL ∧ IntKind.i64.wrap (X * AH) = X * AH ∧ L = X * AL ∧ H = X * AH))
    (H1 : Hid (∀ v u h W, CkV W v (cyC X r) → Nums W u ps → Nums W h hs → Calls Try.prog 18 #[v, u, h] W fun e w' => e = .returned (.tuple #[.agg #[.int .i64 L, .int .i64 H], .int .i64 E]) ∧ Below W.heap.size W w'))
    (H2 : Hid (E = 0 → ∀ v W, Nums W v hs → Calls Try.prog 29 #[.int .i64 r, .int .i64 r, v] W fun e w' => e = .returned (.tuple #[.agg #[.int .i64 AL, .int .i64 AH], .int .i64 0]) ∧ Below W.heap.size W w'))
    (H3 : Hid (E = 0 → ∀ v W, Pts W v (cyC X r).pf → Calls Try.prog 30 #[v] W fun e w' => e = .returned (.int .i64 0) ∧ Below W.heap.size W w')) :
    Calls Try.prog 7 #[.int .i64 r, .slice (some ⟨b2, off2, none⟩) (k2 + 1) cap2, .slice a3 n3 cap3] w fun e w' => e = .returned (.bool true) ∧ Below w.heap.size w w' := by
  have HA := Lib.hid (fun W => awake_any W)
  have Q1 : ∀ (p q : Int) W, (binOp .eql 40 (.agg #[.int .i64 p, .int .i64 q]) (.agg #[.int .i64 p, .int .i64 q])).run Try.prog W = .ok (.bool true) W := fun p q W => by rw [run_eql_bounds, show samB p q p q = true by simp [samB]]
  have lp := nlen NPl.out
  have lh := nlen NHl.out
  have d1 : decide ((k2 : Int) + 1 < 2) = false := decide_eq_false (by omega)
  have d2 : decide (65 < (k2 : Int) + 1) = false := decide_eq_false (by omega)
  have d3 : decide (66 < (n3 : Int)) = false := decide_eq_false (by omega)
  have w1' : IntKind.i64.wrap ((k2 : Int) + 1 - 1) = (k2 : Int) := by rw [wrap_in _ ⟨by omega, by omega⟩]; omega
  have w2' : IntKind.i64.wrap (k2 : Int) = (k2 : Int) := wrap_in _ ⟨by omega, by omega⟩
  have l1' : (k2 : Int) < (k2 : Int) + 1 := by omega
  go_enter Try.func7, Try.ntmps7
  go_wp2_with fail
  refine (HA.out _).mono ?_
  rintro e w5 ⟨rfl, h1⟩
  have HB := Lib.hid h1
  replace NPl := Lib.hid (NPl.out.below h1)
  replace NHl := Lib.hid (NHl.out.below h1)
  have cX : w5.cell? ⟨b2, off2 + k2, none⟩ = some (.int .i64 X) := cell_bel hX h1
  clear h1 HA
  have CP : Hid (∀ W, Nums W (.slice (some ⟨b2, off2, none⟩) (k2 + 1) cap2) ps → Calls Try.prog 16 #[.slice (some ⟨b2, off2, none⟩) (k2 + 1) cap2] W fun e w' => ∃ u, e = .returned u ∧ Nums w' u ps ∧ Below W.heap.size W w') := Lib.hid fun W h => clone_nums _ ps W h (by omega)
  have CH : Hid (∀ W, Nums W (.slice a3 n3 cap3) hs → Calls Try.prog 16 #[.slice a3 n3 cap3] W fun e w' => ∃ u, e = .returned u ∧ Nums w' u hs ∧ Below W.heap.size W w') := Lib.hid fun W h => clone_nums _ hs W h (by omega)
  clear lp lh
  go_upto_region 7 with fail
  obtain ⟨q, hq⟩ : ∃ q, q = w5.heap.size + 1 := ⟨_, rfl⟩
  obtain ⟨a1, ha1⟩ : ∃ a1 : Option Addr, a1 = some ⟨w5.heap.size, 0, none⟩ := ⟨_, rfl⟩
  obtain ⟨W0, hW0⟩ : ∃ W0, W0 = (w5.alloc (.cells #[.int .i64 0, .int .i64 r, .int .i64 X, .int .i64 r] 33)).alloc (.cells #[.string ⟨#[99]⟩, .int .i64 1, .slice a1 2 2, .int .i64 0] 24) := ⟨_, rfl⟩
  have PP : Pts (w5.alloc (.cells #[.int .i64 0, .int .i64 r, .int .i64 X, .int .i64 r] 33)) (.slice a1 2 2) (cyC X r).pf := by
    rw [ha1]
    exact pts_lit w5 [(0, r), (X, r)] _ rfl (by show 2 ≤ 1000; decide)
  have QQ := Quad.new (w5.alloc (.cells #[.int .i64 0, .int .i64 r, .int .i64 X, .int .i64 r] 33)) (.string ⟨#[99]⟩) (.int .i64 1) (.slice a1 2 2) (.int .i64 0) 24
  rw [World.size_alloc, ← hq, ← hW0] at QQ
  have BW : Below w.heap.size w W0 := by rw [hW0]; exact bel_al2 (bel_al2 HB.out _) _
  have BV : Below w5.heap.size w5 W0 := by rw [hW0]; exact bel_alloc (bel_alloc (Below.refl _ _))
  have PW : Pts W0 (.slice a1 2 2) (cyC X r).pf := by rw [hW0]; exact PP.alloc _
  have S0 : Hid (LwS w q (cyC X r) a1 2 2 (.slice (some ⟨b2, off2, none⟩) (k2 + 1) cap2) (.slice a3 n3 cap3) ps hs W0) := Lib.hid ⟨BW, QQ, ⟨a1, 2, rfl, PW, by show (1 : Nat) ≤ _; decide, ⟨by show (-9223372036854775808 : Int) ≤ 1; decide, by show (1 : Int) ≤ 9223372036854775807; decide⟩, ⟨by show (-9223372036854775808 : Int) ≤ 0; decide, by show (0 : Int) ≤ 9223372036854775807; decide⟩⟩, NPl.out.below BV, NHl.out.below BV⟩
  have PC := Lib.hid PW
  rw [← ha1, ← hq, ← hW0]
  clear PP QQ BW BV PW NPl NHl cX hW0 HB
  replace CP := Lib.hid (fun W (h : LwS w q (cyC X r) a1 2 2 (.slice (some ⟨b2, off2, none⟩) (k2 + 1) cap2) (.slice a3 n3 cap3) ps hs W) => CP.out W h.2.2.2.1)
  replace CH := Lib.hid (fun W (h : LwS w q (cyC X r) a1 2 2 (.slice (some ⟨b2, off2, none⟩) (k2 + 1) cap2) (.slice a3 n3 cap3) ps hs W) => CH.out W h.2.2.2.2)
  have CH2 := CH
  have HBw := Lib.hid (fun W u h (hs' : LwS w q (cyC X r) a1 2 2 (.slice (some ⟨b2, off2, none⟩) (k2 + 1) cap2) (.slice a3 n3 cap3) ps hs W) (hu : Nums W u ps) (hh : Nums W h hs) => H1.out _ u h W hs'.2.2.1 hu hh)
  clear hq ha1
  have G0 : Hid (W0.heap.size = W0.heap.size) := rfl
  obtain ⟨c0, c1, c2, c3, c4, c5⟩ := S0.out.cells
  go_cut [9, 10] from 84 (fun s t wx => ∃ p : Nat, s = .pointer (some ⟨p, 0, none⟩) ∧ t = .int .i64 E ∧ Hid (Below W0.heap.size W0 wx) ∧ Hid (Two p wx (.int .i64 L) (.int .i64 H)))
  case first =>
    go_region_held3 (fun w' => w'.cell? ⟨q, 0, none⟩ = some (.string (cyC X r).nm) ∧ w'.cell? ⟨q, 1, none⟩ = some (.int .i64 (cyC X r).ps) ∧ w'.cell? ⟨q, 2, none⟩ = some (.slice a1 2 2) ∧ w'.cell? ⟨q, 3, none⟩ = some (.int .i64 (cyC X r).dc)) (go_keep) (first
        | (go_at_call 16; (with_reducible refine (CP.out _ (S0.out.below (bel_drew _))).mono ?_); rintro e w4 ⟨uu, rfl, ho, gg⟩; have BX := Lib.hid (bel_trans (bel_drew W0) gg); obtain ⟨q0, q1, q2, q3, q4, q5⟩ := (S0.out.below BX.out).cells; (try (replace P1 := Lib.hid (P1.out.below gg))); (try (obtain ⟨p0, p1, p2, p3, _⟩ := P1.out)); have NP := Lib.hid ho; clear ho; clear gg)
        | (go_at_call 16; (with_reducible refine (CP.out _ (S0.out.below (bel_alloc (bel_drew _)))).mono ?_); rintro e w4 ⟨uu, rfl, ho, gg⟩; have BX := Lib.hid (bel_trans (bel_alloc (bel_drew (W0.alloc (.cells #[.int .i64 0, .int .i64 0] 40)))) gg); obtain ⟨q0, q1, q2, q3, q4, q5⟩ := (S0.out.below BX.out).cells; have P1 := Lib.hid ((Two.new W0 (.int .i64 0) (.int .i64 0) 40).below (bel_trans (bel_drew _) gg)); (try (obtain ⟨p0, p1, p2, p3, _⟩ := P1.out)); have NP := Lib.hid ho; clear ho; clear gg)
        | (go_at_call 16; (with_reducible refine (CP.out _ (S0.out.below BX.out)).mono ?_); rintro e w4 ⟨uu, rfl, ho, gg⟩; have BX := Lib.hid (bel_trans BX.out gg); obtain ⟨q0, q1, q2, q3, q4, q5⟩ := (S0.out.below BX.out).cells; (try (replace NH := Lib.hid (NH.out.below gg))); (try (replace P1 := Lib.hid (P1.out.below gg))); (try (obtain ⟨p0, p1, p2, p3, _⟩ := P1.out)); have NP := Lib.hid ho; clear ho; clear gg)
        | (go_at_call 16; (with_reducible refine (CP.out _ (S0.out.below (bel_al2 BX.out _))).mono ?_); rintro e w4 ⟨uu, rfl, ho, gg⟩; have PS := Lib.hid BX.out.size; have BX := Lib.hid (bel_trans (bel_al2 BX.out _) gg); obtain ⟨q0, q1, q2, q3, q4, q5⟩ := (S0.out.below BX.out).cells; (try (replace NH := Lib.hid (NH.out.below (bel_alloc gg)))); have P1 := Lib.hid ((Two.new _ (.int .i64 0) (.int .i64 0) 40).below gg); (try (obtain ⟨p0, p1, p2, p3, _⟩ := P1.out)); have NP := Lib.hid ho; clear ho; clear gg)
        | (go_at_call 16; (with_reducible refine (CH.out _ (S0.out.below (bel_drew _))).mono ?_); rintro e w4 ⟨uu, rfl, ho, gg⟩; have BX := Lib.hid (bel_trans (bel_drew W0) gg); obtain ⟨q0, q1, q2, q3, q4, q5⟩ := (S0.out.below BX.out).cells; (try (replace P1 := Lib.hid (P1.out.below gg))); (try (obtain ⟨p0, p1, p2, p3, _⟩ := P1.out)); have NH := Lib.hid ho; clear ho; clear gg)
        | (go_at_call 16; (with_reducible refine (CH.out _ (S0.out.below (bel_alloc (bel_drew _)))).mono ?_); rintro e w4 ⟨uu, rfl, ho, gg⟩; have BX := Lib.hid (bel_trans (bel_alloc (bel_drew (W0.alloc (.cells #[.int .i64 0, .int .i64 0] 40)))) gg); obtain ⟨q0, q1, q2, q3, q4, q5⟩ := (S0.out.below BX.out).cells; have P1 := Lib.hid ((Two.new W0 (.int .i64 0) (.int .i64 0) 40).below (bel_trans (bel_drew _) gg)); (try (obtain ⟨p0, p1, p2, p3, _⟩ := P1.out)); have NH := Lib.hid ho; clear ho; clear gg)
        | (go_at_call 16; (with_reducible refine (CH.out _ (S0.out.below BX.out)).mono ?_); rintro e w4 ⟨uu, rfl, ho, gg⟩; have BX := Lib.hid (bel_trans BX.out gg); obtain ⟨q0, q1, q2, q3, q4, q5⟩ := (S0.out.below BX.out).cells; (try (replace NP := Lib.hid (NP.out.below gg))); (try (replace P1 := Lib.hid (P1.out.below gg))); (try (obtain ⟨p0, p1, p2, p3, _⟩ := P1.out)); have NH := Lib.hid ho; clear ho; clear gg)
        | (go_at_call 16; (with_reducible refine (CH.out _ (S0.out.below (bel_al2 BX.out _))).mono ?_); rintro e w4 ⟨uu, rfl, ho, gg⟩; have PS := Lib.hid BX.out.size; have BX := Lib.hid (bel_trans (bel_al2 BX.out _) gg); obtain ⟨q0, q1, q2, q3, q4, q5⟩ := (S0.out.below BX.out).cells; (try (replace NP := Lib.hid (NP.out.below (bel_alloc gg)))); have P1 := Lib.hid ((Two.new _ (.int .i64 0) (.int .i64 0) 40).below gg); (try (obtain ⟨p0, p1, p2, p3, _⟩ := P1.out)); have NH := Lib.hid ho; clear ho; clear gg)
        | (go_at_call 18; (with_reducible refine (HBw.out _ _ _  (S0.out.below BX.out) NP.out NH.out).mono ?_); rintro e w6 ⟨rfl, gg⟩; have BX := Lib.hid (bel_trans BX.out gg); obtain ⟨q0, q1, q2, q3, q4, q5⟩ := (S0.out.below BX.out).cells; (try (replace P1 := Lib.hid (P1.out.below gg))); (try (obtain ⟨p0, p1, p2, p3, _⟩ := P1.out)); clear gg)
        | (go_at_call 18; (with_reducible refine (HBw.out _ _ _  (S0.out.below (bel_al2 BX.out _)) (NP.out.alloc _) (NH.out.alloc _)).mono ?_); rintro e w6 ⟨rfl, gg⟩; have PS := Lib.hid BX.out.size; have BX := Lib.hid (bel_trans (bel_al2 BX.out _) gg); obtain ⟨q0, q1, q2, q3, q4, q5⟩ := (S0.out.below BX.out).cells; have P1 := Lib.hid ((Two.new _ (.int .i64 0) (.int .i64 0) 40).below gg); (try (obtain ⟨p0, p1, p2, p3, _⟩ := P1.out)); clear gg))
    all_goals go_wp2_with fail
    all_goals go_meet
    all_goals first
      | exact ⟨_, rfl, rfl, Lib.hid (bel_al2 BX.out _), Lib.hid (Two.new _ _ _ _)⟩
      | exact ⟨_, rfl, rfl, Lib.hid ((BX.out.setCell (p := ⟨W0.heap.size, 0, none⟩) (Nat.le_refl _) _).setCell (p := ⟨W0.heap.size, 1, none⟩) (Nat.le_refl _) _), Lib.hid (P1.out.both _ _)⟩
      | exact ⟨_, rfl, rfl, Lib.hid ((BX.out.setCell (p := ⟨_, 0, none⟩) PS.out _).setCell (p := ⟨_, 1, none⟩) PS.out _), Lib.hid (P1.out.both _ _)⟩
  case rest =>
    obtain ⟨p, rfl, rfl, hB, hT⟩ := hcut
    have S1 := Lib.hid (S0.out.below hB.out)
    have PC1 := Lib.hid (PC.out.below hB.out)
    clear c0 c1 c2 c3 c4 c5
    obtain ⟨t0, t1, _, _, _⟩ := hT.out
    rcases hE with ⟨e1, e2, rfl, rfl⟩ | ⟨rfl, k1, k3, rfl, rfl⟩
    · go_wp2
      go_returns
      exact ⟨rfl, S1.out.1⟩
    · clear t0 t1
      go_wp2_with fail
      refine (CH2.out _ S1.out).mono ?_
      rintro e w8 ⟨uh, rfl, ho, h1⟩
      replace S1 := Lib.hid (S1.out.below h1)
      replace PC1 := Lib.hid (PC1.out.below h1)
      replace hT := Lib.hid (hT.out.below h1)
      clear h1
      go_wp2_with fail
      refine (H2.out (by trivial) _ _ ho).mono ?_
      rintro e w9 ⟨rfl, h1⟩
      replace S1 := Lib.hid ((S1.out.below h1).below (bel_alloc (o := .cells #[.int .i64 AL, .int .i64 AH] 40) (Below.refl _ _)))
      replace PC1 := Lib.hid ((PC1.out.below h1).alloc (.cells #[.int .i64 AL, .int .i64 AH] 40))
      replace hT := Lib.hid ((hT.out.below h1).alloc (.cells #[.int .i64 AL, .int .i64 AH] 40))
      have hA := Lib.hid (Two.new w9 (.int .i64 AL) (.int .i64 AH) 40)
      clear h1 ho
      obtain ⟨c0, c1, c2, c3, c4, c5⟩ := S1.out.cells
      go_wp2_with fail
      refine (H3.out (by trivial) _ _ PC1.out).mono ?_
      rintro e w10 ⟨rfl, h1⟩
      replace S1 := Lib.hid (S1.out.below h1)
      replace hT := Lib.hid (hT.out.below h1)
      replace hA := Lib.hid (hA.out.below h1)
      clear h1 c0 c1 c2 c3 c4 c5
      obtain ⟨t0, t1, _, _, _⟩ := hT.out
      obtain ⟨x0, x1, _, _, _⟩ := hA.out
      go_wp2
      go_returns
      exact ⟨rfl, S1.out.1⟩
theorem walk (r : Int) (u : Value) (ps : List Int) (h : Value) (hs : List Int) (w : World) (hr : -9223372036854775808 ≤ r ∧ r ≤ 9223372036854775807) (hu : Nums w u ps) (hz : ∀ z ∈ ps, (Lit.int .i64 z).wf = true) (hh : Nums w h hs) (hz2 : ∀ z ∈ hs, (Lit.int .i64 z).wf = true) :
    Calls Try.prog 7 #[.int .i64 r, u, h] w fun e w' => e = .returned (.bool true) ∧ Below w.heap.size w w' := by
  have hu' := hu
  have hh' := hh
  obtain ⟨a2, cap2, rfl, hc2, hp⟩ := hu'
  obtain ⟨a3, cap3, rfl, hc3, _⟩ := hh'
  by_cases g : ps.length < 2 ∨ (2 ≤ ps.length ∧ 65 < ps.length) ∨ (2 ≤ ps.length ∧ ps.length ≤ 65 ∧ 66 < hs.length)
  · exact lens r a2 _ cap2 a3 _ cap3 w (by omega) (by omega) g
  · rcases hp with hp | ⟨b2, off2, rfl, hb2, hp⟩
    · omega
    obtain ⟨k, hk⟩ : ∃ k, ps.length = k + 1 := ⟨ps.length - 1, by omega⟩
    have wX := bounds_i64 (hz (ps.getD k 0) (by rw [List.getD_eq_getElem?_getD, List.getElem?_eq_getElem (by omega), Option.getD_some]; exact List.getElem_mem _))
    rw [hk] at hu ⊢
    refine core r (ps.getD k 0) (btwL (cyC (ps.getD k 0) r) ps hs) (btwH (cyC (ps.getD k 0) r) ps hs) (lrE (cyC (ps.getD k 0) r) ps hs) (arL r r hs) (arH r r hs) b2 off2 k cap2 a3 _ cap3 ps hs w (by omega) (by omega) (by omega) hb2 (hp k (by omega)) (by omega) hr (Lib.hid hu) (Lib.hid hh) ?_ (Lib.hid fun v u h W h1 h2 h3 => lyBw_any v u h _ ps hs W h1 h2 h3) (Lib.hid fun he v W hv => ?_) (Lib.hid fun he v W hv => ?_)
    · by_cases e : lrE (cyC (ps.getD k 0) r) ps hs = 0
      · right
        obtain ⟨⟨⟨h1, h2⟩, h3, h4⟩, h5⟩ := lrE_zero.1 e
        obtain ⟨_, _, _, hR⟩ := ccE_pf h1
        have n0 := h5.n0
        have bx : gX (cyC (ps.getD k 0) r).pf 1 = ps.getD k 0 ∧ gR (cyC (ps.getD k 0) r).pf 1 = r := ⟨rfl, rfl⟩
        have x1 := hR.bx 1 (by show 1 < 2; omega)
        have x2 := hR.br 1 (by show 1 < 2; omega)
        have x3 := hR.asc 0 (by show 0 + 1 < 2; omega)
        have x4 := hR.x0
        have x5 : gX (cyC (ps.getD k 0) r).pf (0 + 1) = ps.getD k 0 := rfl
        have gr : bgR (cyC (ps.getD k 0) r).pf = r := by
          have hl := bg_lt (cyC (ps.getD k 0) r).pf 2
          unfold bgR
          show gR (cyC (ps.getD k 0) r).pf (bg (cyC (ps.getD k 0) r).pf 2) = r
          have : bg (cyC (ps.getD k 0) r).pf 2 = 0 ∨ bg (cyC (ps.getD k 0) r).pf 2 = 1 := by omega
          rcases this with e | e <;> rw [e] <;> rfl
        have tc := tb_cyl (c := r) (ps := ps) (hs := hs) (X := ps.getD k 0) (r := r) (by omega) (by omega) hR h3 (hs.length - 1) (ps.length - 1) (by omega)
        have lb : lenB r = true := (lenB_iff r).2 ⟨by omega, by omega⟩
        have e0 := (hcE_iff hs).2 h5
        have aA : arL r r hs = prL r r hs (hs.length - 1) ∧ arH r r hs = prH r r hs (hs.length - 1) := by
          unfold arL arH arE
          simp [lb, e0]
        have b1 : btwL (cyC (ps.getD k 0) r) ps hs = ps.getD k 0 * arL r r hs := by
          unfold btwL
          rw [if_pos e, gr, aA.1]
          have := tc.1
          rw [show ps.length - 1 = k by omega] at this ⊢
          exact this
        have b2' : btwH (cyC (ps.getD k 0) r) ps hs = ps.getD k 0 * arH r r hs := by
          unfold btwH
          rw [if_pos e, gr, aA.2]
          have := tc.2
          rw [show ps.length - 1 = k by omega] at this ⊢
          exact this
        have pb := pr_both (c := r) (r := r) (s := r) (by omega) (Int.le_refl _) (by omega) h5 (hs.length - 1) (by omega)
        have m0 := Int.mul_nonneg (show 0 ≤ ps.getD k 0 by omega) pb.1
        have m1 := Int.mul_nonneg (show 0 ≤ ps.getD k 0 by omega) (show 0 ≤ prH r r hs (hs.length - 1) by omega)
        have m2 : ps.getD k 0 * prH r r hs (hs.length - 1) ≤ 100000 * 40000000000 := Int.mul_le_mul (by omega) pb.2.2 (by omega) (by omega)
        have m3 := Int.mul_le_mul_of_nonneg_left pb.2.1 (show 0 ≤ ps.getD k 0 by omega)
        refine ⟨e, wrap_in _ ?_, wrap_in _ ?_, b1, b2'⟩
        · rw [aA.1]; constructor <;> omega
        · rw [aA.2]; constructor <;> omega
      · left
        exact ⟨by simpa using e, by simpa using e, by unfold btwL; rw [if_neg e], by unfold btwH; rw [if_neg e]⟩
    · obtain ⟨⟨⟨h1, h2⟩, h3, h4⟩, h5⟩ := lrE_zero.1 he
      obtain ⟨_, _, _, hR⟩ := ccE_pf h1
      have x2 := hR.br 1 (by show 1 < 2; omega)
      have x2' : gR (cyC (ps.getD k 0) r).pf 1 = r := rfl
      have lb : lenB r = true := (lenB_iff r).2 ⟨by omega, by omega⟩
      have e0 := (hcE_iff hs).2 h5
      have := area_any r r v hs W hv
      rwa [show arE r r hs = 0 by unfold arE; simp [lb, e0]] at this
    · obtain ⟨⟨⟨h1, h2⟩, h3, h4⟩, h5⟩ := lrE_zero.1 he
      obtain ⟨_, _, _, hR⟩ := ccE_pf h1
      have := refCk_any v (cyC (ps.getD k 0) r).pf W hv
      rwa [(ckE_iff _).2 hR] at this

set_option maxRecDepth 100000 in
theorem lifted (os : Os) (started : os.Started) (H : Type) (enc : TypeId × Value → H) :
    ReturnsInHanded {} Try.checked os 7 .any (Rows.lyingCylindersSpec.pre6 enc Try.prog Try.f7 Rows.lyingCylindersRow.domain false) (Rows.lyingCylindersSpec.post enc Try.prog Try.f7 false true false false) := by
  refine returnsInHanded_of_change (C := Try.checked) own started (by kernel_rfl) Try.func7
    (ChangeSpec.witness6 (enc := enc) (C := Try.checked) false ⟨#[], #[.int .i64 0, .slice none 0 0, .slice none 0 0], []⟩ 8 (by kernel_rfl) (by kernel_rfl) (by kernel_rfl) (by kernel_rfl)) ?_
  intro W base args ds gs before hval0 hW hcnd _
  have hval : ∀ (j : Nat) t v, Try.f7.params[j]? = some t → args[j]? = some v → Value.okWide Try.prog W .any base t v := hval0
  clear hval0
  have hW' := hW
  obtain ⟨p, q, hA0, hV, rfl, hfz, hnd⟩ := hW
  have hA : DataW.TrodAll enc Try.prog W 0 (fun _ => true) true Try.f7.params.toList args.toList ds p := hA0
  rw [Try.params7] at hA hval
  obtain ⟨v0, vs0, d0, ds0, p0, q0, hargs, rfl, rfl, h0, r0⟩ := trodAll_cons hA
  obtain ⟨v1, vs1, d1, ds1, p1, q1, rfl, rfl, rfl, h1, r1⟩ := trodAll_cons r0
  obtain ⟨v2, vs2, d2, ds2, p2, q2, rfl, rfl, rfl, h2, r2⟩ := trodAll_cons r1
  obtain ⟨rfl, rfl, rfl⟩ := trodAll_nil r2
  obtain rfl : args = #[v0, v1, v2] := by cases args; simp_all
  obtain ⟨rfl, rfl⟩ := trodVars_none hV
  have k0 := h0
  have lt0 : ∀ x ∈ p0, x.block < W.heap.size := by obtain ⟨m, hm⟩ := k0; exact DataW.trod_lt m _ _ _ hm
  have k1 := h1
  have lt1 : ∀ x ∈ p1, x.block < W.heap.size := by obtain ⟨m, hm⟩ := k1; exact DataW.trod_lt m _ _ _ hm
  have k2 := h2
  have lt2 : ∀ x ∈ p2, x.block < W.heap.size := by obtain ⟨m, hm⟩ := k2; exact DataW.trod_lt m _ _ _ hm
  obtain ⟨a0, rfl, rfl, rfl, w0⟩ := open_int Try.underlying3 (hval 0 3 v0 rfl rfl) h0
  obtain ⟨z1, w1, b1⟩ := open_intSlice Try.underlying25 Try.underlying3 (by kernel_rfl) (hval 1 25 v1 rfl rfl) h1
  obtain ⟨z2, w2, b2⟩ := open_intSlice Try.underlying25 Try.underlying3 (by kernel_rfl) (hval 2 25 v2 rfl rfl) h2
  clear hA0
  refine (walk a0 v1 z1 v2 z2 W (wf_bd w0) w1 b1 w2 b2).mono fun e W' ⟨he, bel⟩ => ?_
  subst he
  exact ⟨_, rfl, _, _, _, [], _, [], hW', trodAll_mk1 (shut_bool Try.underlying4 _), (trodAll_cons_mk (Below.trod laidOut (by kernel_rfl) (of_decide_eq_true (by kernel_rfl)) k0 bel lt0) (trodAll_cons_mk (Below.trod laidOut (by kernel_rfl) (of_decide_eq_true (by kernel_rfl)) k1 bel lt1) (trodAll_cons_mk (Below.trod laidOut (by kernel_rfl) (of_decide_eq_true (by kernel_rfl)) k2 bel lt2) trodAll_mk0))), rfl, bel.frame _, fun h => by cases h⟩

theorem over : Rows.lyingCylindersRow.holds Try.pinned (OpenSpec.ofChange Rows.lyingCylindersSpec) :=
  OpenClaim.holds_of_wide 7 Try.f7 rfl rfl rfl rfl rfl rfl rfl ⟨rfl, rfl, rfl, rfl, rfl⟩ rfl rfl rfl rfl rfl (by kernel_rfl) Try.func7 (by kernel_rfl)
    (of_decide_eq_true (by kernel_rfl)) (by unfold Func.isWrapper; first | (rw [if_pos (by decide +kernel)]; kernel_rfl) | (rw [if_neg (by decide +kernel)]; exact ⟨rfl, rfl⟩))
    (fun os started H enc _ => lifted os started H enc)

theorem proved : Rows.LyingCylindersSaid := over
#print axioms proved
end Go.Proofs.Ytgjdopjolokaiaa.lyingCylinders

