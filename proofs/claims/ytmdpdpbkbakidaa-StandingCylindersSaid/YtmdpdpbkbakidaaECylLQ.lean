/-
  The statement StandingCylinders of spile/spilelaw12 holds: for every input the call returns true, and each argument reads afterwards as it read before.
-/
import Derived.Test.YtmdpdpbkbakidaaM2
import Derived.Test.YtmdpdpbkbakidaaM1
import Derived.Test.YtmdpdpbkbakidaaM4
import Derived.Below
import Derived.Carry
set_option linter.unusedVariables false
set_option linter.unusedSimpArgs false
namespace Go.Proofs.Ytmdpdpbkbakidaa.standingCylinders
open Go.ChangeShapes Go.WideShapes Go.ChangeAt Go.RowKit
open Go.ChangeMaps (open_string shut_string)
set_option linter.unusedVariables false

theorem nlen {W : World} {a : Option Addr} {n cap : Nat} {zs : List Int} (h : Nums W (.slice a n cap) zs) : n = zs.length := by
  obtain ⟨a', c', e, _⟩ := h
  simp only [Value.slice.injEq] at e
  exact e.2.1
def cyC (X r : Int) : Ck := ⟨⟨#[99]⟩, 2, [(0, r), (X, r)], 0⟩
theorem cyW (X r : Int) : CkW (cyC X r) := ⟨by show (1 : Nat) ≤ _; decide, ⟨by show (-9223372036854775808 : Int) ≤ 2; decide, by show (2 : Int) ≤ 9223372036854775807; decide⟩, ⟨by show (-9223372036854775808 : Int) ≤ 0; decide, by show (0 : Int) ≤ 9223372036854775807; decide⟩⟩
set_option maxHeartbeats 4000000 in
theorem long (r X : Int) (a : Option Addr) (n cap : Nat) (w : World) (h2 : n ≤ 9223372036854775807) (h : 129 < n) :
    Calls Try.prog 7 #[.int .i64 r, .int .i64 X, .slice a n cap] w fun e w' => e = .returned (.bool true) ∧ Below w.heap.size w w' := by
  have HA := Lib.hid (fun W => awake_any W)
  have d1 : decide (129 < (n : Int)) = true := decide_eq_true (by omega)
  go_enter Try.func7, Try.ntmps7
  go_wp2_with fail
  refine (HA.out _).mono ?_
  rintro e w5 ⟨rfl, h1⟩
  have HB := Lib.hid h1; clear h1
  go_wp2
  go_returns
  exact ⟨rfl, HB.out⟩
set_option maxHeartbeats 32000000 in
set_option maxRecDepth 100000 in
theorem core (r X E : Int) (a : Option Addr) (n cap : Nat) (ls : List Int) (L : List (Int × Int)) (w : World) (g2 : n ≤ 129)
    (NL : Hid (Nums w (.slice a n cap) ls))
    (hE : ((E == 0) = false ∧ (E != 0) = true ∧ L = []) ∨ (E = 0 ∧ L.length + 1 = n ∧ 2 ≤ n ∧ (1 ≤ r ∧ r ≤ 100000) ∧ (∀ i, i < n → 0 ≤ ls.getD i 0 ∧ ls.getD i 0 ≤ 100000) ∧ ∀ i, i + 1 < n → 0 ≤ ls.getD (i + 1) 0 - ls.getD 0 0 ∧ gX L i = 3 * r * r * (ls.getD (i + 1) 0 - ls.getD 0 0) ∧ gR L i = 3 * r * r * (ls.getD (i + 1) 0 - ls.getD 0 0)))
    (H1 : Hid (∀ v u W, CkV W v (cyC X r) → Nums W u ls → Calls Try.prog 18 #[v, u] W fun e w' => ∃ z, e = .returned (.tuple #[z, .int .i64 E]) ∧ Pts w' z L ∧ Below W.heap.size W w'))
    (H3 : Hid (E = 0 → ∀ v W, Pts W v (cyC X r).pf → Calls Try.prog 25 #[v] W fun e w' => e = .returned (.int .i64 0) ∧ Below W.heap.size W w')) :
    Calls Try.prog 7 #[.int .i64 r, .int .i64 X, .slice a n cap] w fun e w' => e = .returned (.bool true) ∧ Below w.heap.size w w' := by
  have HA := Lib.hid (fun W => awake_any W)
  have ll := nlen NL.out
  have d1 : decide (129 < (n : Int)) = false := decide_eq_false (by omega)
  go_enter Try.func7, Try.ntmps7
  go_wp2_with fail
  refine (HA.out _).mono ?_
  rintro e w5 ⟨rfl, h1⟩
  have HB := Lib.hid h1
  replace NL := Lib.hid (NL.out.below h1)
  clear h1 HA
  have CP : Hid (∀ W, Nums W (.slice a n cap) ls → Calls Try.prog 16 #[.slice a n cap] W fun e w' => ∃ u, e = .returned u ∧ Nums w' u ls ∧ Below W.heap.size W w') := Lib.hid fun W h => clone_nums _ ls W h (by omega)
  replace ll := Lib.hid ll
  go_upto_region 6 with fail
  obtain ⟨q, hq⟩ : ∃ q, q = w5.heap.size + 1 := ⟨_, rfl⟩
  obtain ⟨a1, ha1⟩ : ∃ a1 : Option Addr, a1 = some ⟨w5.heap.size, 0, none⟩ := ⟨_, rfl⟩
  obtain ⟨W0, hW0⟩ : ∃ W0, W0 = (w5.alloc (.cells #[.int .i64 0, .int .i64 r, .int .i64 X, .int .i64 r] 33)).alloc (.cells #[.string ⟨#[99]⟩, .int .i64 2, .slice a1 2 2, .int .i64 0] 24) := ⟨_, rfl⟩
  have PP : Pts (w5.alloc (.cells #[.int .i64 0, .int .i64 r, .int .i64 X, .int .i64 r] 33)) (.slice a1 2 2) (cyC X r).pf := by
    rw [ha1]
    exact pts_lit w5 [(0, r), (X, r)] _ rfl (by show 2 ≤ 1000; decide)
  have QQ := Quad.new (w5.alloc (.cells #[.int .i64 0, .int .i64 r, .int .i64 X, .int .i64 r] 33)) (.string ⟨#[99]⟩) (.int .i64 2) (.slice a1 2 2) (.int .i64 0) 24
  rw [World.size_alloc, ← hq, ← hW0] at QQ
  have BW : Below w.heap.size w W0 := by rw [hW0]; exact bel_al2 (bel_al2 HB.out _) _
  have BV : Below w5.heap.size w5 W0 := by rw [hW0]; exact bel_alloc (bel_alloc (Below.refl _ _))
  have PW : Pts W0 (.slice a1 2 2) (cyC X r).pf := by rw [hW0]; exact PP.alloc _
  have S0 : Hid (LwS w q (cyC X r) a1 2 2 (.slice a n cap) (.slice a n cap) ls ls W0) := Lib.hid ⟨BW, QQ, ⟨a1, 2, rfl, PW, cyW X r⟩, NL.out.below BV, NL.out.below BV⟩
  have PC := Lib.hid PW
  rw [← ha1, ← hq, ← hW0]
  clear PP QQ BW BV PW NL hW0 HB
  replace CP := Lib.hid (fun W (h : LwS w q (cyC X r) a1 2 2 (.slice a n cap) (.slice a n cap) ls ls W) => CP.out W h.2.2.2.1)
  have HS := Lib.hid (fun W u (hs' : LwS w q (cyC X r) a1 2 2 (.slice a n cap) (.slice a n cap) ls ls W) (hu : Nums W u ls) => H1.out _ u W hs'.2.2.1 hu)
  clear hq ha1
  obtain ⟨c0, c1, c2, c3, c4, c5⟩ := S0.out.cells
  go_region_held3 (fun w' => w'.cell? ⟨q, 0, none⟩ = some (.string (cyC X r).nm) ∧ w'.cell? ⟨q, 1, none⟩ = some (.int .i64 (cyC X r).ps) ∧ w'.cell? ⟨q, 2, none⟩ = some (.slice a1 2 2) ∧ w'.cell? ⟨q, 3, none⟩ = some (.int .i64 (cyC X r).dc)) (go_keep) (first
        | (go_at_call 16; (with_reducible refine (CP.out _ (S0.out.below (bel_drew _))).mono ?_); rintro e w4 ⟨uu, rfl, ho, gg⟩; have BX := Lib.hid (bel_trans (bel_drew W0) gg); obtain ⟨q0, q1, q2, q3, q4, q5⟩ := (S0.out.below BX.out).cells; have NP := Lib.hid ho; clear ho; clear gg)
        | (go_at_call 18; (with_reducible refine (HS.out _ _ (S0.out.below BX.out) NP.out).mono ?_); rintro e w6 ⟨zz, rfl, hz, gg⟩; have BY := Lib.hid (bel_trans BX.out gg); obtain ⟨r0, r1, r2, r3, r4, r5⟩ := (S0.out.below BY.out).cells; have PZ := Lib.hid hz; obtain ⟨a9, cp9, rfl, _, _⟩ := hz.shape; clear hz; clear gg))
  rcases hE with ⟨e1, e2, rfl⟩ | ⟨rfl, hl, n2, hr, hbd, hval⟩
  · go_wp2
    go_returns
    exact ⟨rfl, bel_trans S0.out.1 BY.out⟩
  · obtain ⟨m, hm⟩ : ∃ m, L.length = m + 1 := ⟨L.length - 1, by omega⟩
    have hn : n = m + 2 := by omega
    have S1 := Lib.hid (S0.out.below BY.out)
    have PC1 := Lib.hid (PC.out.below BY.out)
    have hval' := Lib.hid hval
    have hbd' := Lib.hid hbd
    obtain ⟨aa, cc, ee, hcc, hx⟩ := S1.out.2.2.2.1
    simp only [Value.slice.injEq] at ee
    obtain ⟨rfl, _, rfl⟩ := ee
    rcases hx with hx | ⟨b, off, rfl, hb, hcl⟩
    · have := ll.out; omega
    have HCL := Lib.hid hcl
    rw [hm] at PZ ⊢
    obtain ⟨bz, oz, rfl, hbz, hcz⟩ := PZ.out.at (by omega)
    have HCZ := Lib.hid hcz
    replace ll := Lib.hid (show ls.length = m + 2 by rw [← ll.out]; exact hn)
    subst hn
    have XB := Lib.hid S1.out.1
    clear hval hbd hcl hcz hl c0 c1 c2 c3 c4 c5 q0 q1 q2 q3 q4 q5 BX BY NP CP HS H1 hcc hm
    have w1' : IntKind.i64.wrap (((m + 2 : Nat) : Int) - 1) = (m : Int) + 1 := by rw [wrap_in _ ⟨by omega, by omega⟩]; omega
    have w2' : IntKind.i64.wrap ((m : Int) + 2 - 1) = (m : Int) + 1 := by rw [wrap_in _ ⟨by omega, by omega⟩]; omega
    have w3' : IntKind.i64.wrap ((m : Int) + 1) = (m : Int) + 1 := wrap_in _ ⟨by omega, by omega⟩
    go_wp2_with fail
    refine (H3.out (by trivial) _ _ PC1.out).mono ?_
    rintro e w7 ⟨rfl, h1⟩
    replace HCL := Lib.hid (fun j hj => cell_bel (HCL.out j hj) h1)
    replace HCZ := Lib.hid (fun j (hj : j < m + 1) => And.intro (cell_bel (HCZ.out j hj).1 h1) (cell_bel (HCZ.out j hj).2 h1))
    have hb7 := Nat.lt_of_lt_of_le hb h1.size
    have hz7 := Nat.lt_of_lt_of_le hbz h1.size
    replace XB := Lib.hid (bel_trans XB.out h1)
    clear h1 r0 r1 r2 r3 r4 r5 hb hbz PC1 S1 PZ
    have Q1 : ∀ (p q : Int) W, (binOp .neq 43 (.agg #[.int .i64 p, .int .i64 q]) (.agg #[.int .i64 p, .int .i64 q])).run Try.prog W = .ok (.bool false) W := fun p q W => by rw [run_neq_bounds, show samB p q p q = true by simp [samB]]; rfl
    go_wp2_with fail
    go_loopw [51] (fun ii wr => ∃ j : Nat, j ≤ m + 1 ∧ ii = .int .i64 (j : Int) ∧ Hid (Below w7.heap.size w7 wr)) (fun ii _ => m + 1 - (intOf ii).toNat)
    case atStart => exact ⟨0, by omega, rfl, Below.refl _ _⟩
    case round =>
      obtain ⟨j, hj, rfl, hB⟩ := hrel
      by_cases hlt : j < m + 1
      · have z0 : wr.cell? ⟨bz, oz + j * 2, none⟩ = some (.int .i64 (gX L j)) := by rw [(bcell hB.out).1 _ _ hz7]; exact (HCZ.out j hlt).1
        have z1 : wr.cell? ⟨bz, oz + j * 2 + 1, none⟩ = some (.int .i64 (gR L j)) := by rw [(bcell hB.out).1 _ _ hz7]; exact (HCZ.out j hlt).2
        have y0 : wr.cell? ⟨b, off, none⟩ = some (.int .i64 (ls.getD 0 0)) := by rw [(bcell hB.out).1 _ _ hb7]; exact HCL.out 0 (by have := ll.out; omega)
        have y1 : wr.cell? ⟨b, off + (j + 1), none⟩ = some (.int .i64 (ls.getD (j + 1) 0)) := by rw [(bcell hB.out).1 _ _ hb7]; exact HCL.out (j + 1) (by have := ll.out; omega)
        obtain ⟨v0, v1, v2⟩ := hval'.out j (by omega)
        have b0 := hbd'.out 0 (by omega)
        have b1 := hbd'.out (j + 1) (by omega)
        rw [v1] at z0
        rw [v2] at z1
        generalize ls.getD 0 0 = x0 at *
        generalize ls.getD (j + 1) 0 = x1 at *
        have m0 : 0 ≤ 3 * r * r ∧ 3 * r * r ≤ 300000 * 100000 := ⟨Int.mul_nonneg (by omega) (by omega), Int.mul_le_mul (by omega) hr.2 (by omega) (by omega)⟩
        have m1 : 0 ≤ 3 * r * r * (x1 - x0) ∧ 3 * r * r * (x1 - x0) ≤ 300000 * 100000 * 100000 := ⟨Int.mul_nonneg m0.1 v0, Int.mul_le_mul m0.2 (by omega) v0 (by omega)⟩
        have p0 : IntKind.i64.wrap (3 * r) = 3 * r := wrap_in _ ⟨by omega, by omega⟩
        have p1 : IntKind.i64.wrap (3 * r * r) = 3 * r * r := wrap_in _ ⟨by omega, by omega⟩
        have p2 : IntKind.i64.wrap (x1 - x0) = x1 - x0 := wrap_in _ ⟨by omega, by omega⟩
        have p3 : IntKind.i64.wrap (3 * r * r * (x1 - x0)) = 3 * r * r * (x1 - x0) := wrap_in _ ⟨by omega, by omega⟩
        have p4 : IntKind.i64.wrap ((j : Int) + 1) = (j : Int) + 1 := wrap_in _ ⟨by omega, by omega⟩
        have l0 : (j : Int) < (m : Int) + 1 := by omega
        have l1 : (j : Int) + 1 < ((m + 2 : Nat) : Int) := by omega
        have l2 : (j : Int) + 1 < (m : Int) + 2 := by omega
        have l3 : 0 ≤ (j : Int) + 1 := by omega
        have l4 : ((j : Int) + 1).toNat = j + 1 := by omega
        have bw := Nat.lt_of_lt_of_le hb7 hB.out.size
        have u0 : (wr.alloc (.cells #[.int .i64 (3 * r * r * (x1 - x0)), .int .i64 (3 * r * r * (x1 - x0))] 43)).cell? ⟨b, off, none⟩ = some (.int .i64 x0) := by rw [World.cell?_alloc_lt wr _ _ bw]; exact y0
        have u1 : (wr.alloc (.cells #[.int .i64 (3 * r * r * (x1 - x0)), .int .i64 (3 * r * r * (x1 - x0))] 43)).cell? ⟨b, off + (j + 1), none⟩ = some (.int .i64 x1) := by rw [World.cell?_alloc_lt wr _ _ bw]; exact y1
        have X2 : Hid (∀ m', Below w7.heap.size w7 ((wr.alloc (.cells #[.int .i64 (3 * r * r * (x1 - x0)), .int .i64 (3 * r * r * (x1 - x0))] 43)).drewN m')) := Lib.hid fun m' => by
          have := bel_trans hB.out (bel_alloc (o := .cells #[.int .i64 (3 * r * r * (x1 - x0)), .int .i64 (3 * r * r * (x1 - x0))] 43) (Below.refl _ _))
          exact ⟨this.os, this.tape, this.output, this.size, this.block⟩
        clear m0 m1 v0 v1 v2 b0 b1
        go_wp2_with fail
        go_quiet (fail)
        go_wp2
        go_roundw
        case rel => exact ⟨j + 1, by omega, by go_num, X2.out _⟩
        case measure => simp [intOf]; omega
      · obtain rfl : j = m + 1 := by omega
        go_wp2
        go_returns
        exact ⟨rfl, bel_trans XB.out hB.out⟩
theorem walk (r X : Int) (v : Value) (ls : List Int) (w : World) (hr : -9223372036854775808 ≤ r ∧ r ≤ 9223372036854775807) (hX : -9223372036854775808 ≤ X ∧ X ≤ 9223372036854775807) (hv : Nums w v ls) (_ : ∀ z ∈ ls, (Lit.int .i64 z).wf = true) :
    Calls Try.prog 7 #[.int .i64 r, .int .i64 X, v] w fun e w' => e = .returned (.bool true) ∧ Below w.heap.size w w' := by
  have hv' := hv
  obtain ⟨a, cap, rfl, hc, _⟩ := hv'
  by_cases g : 129 < ls.length
  · exact long r X a _ cap w (by omega) g
  · refine core r X (stE (cyC X r) ls) a _ cap ls (smL (cyC X r) ls) w (by omega) (Lib.hid hv) ?_ (Lib.hid fun v u W h1 h2 => stSm_any v u (cyC X r) ls W h1 h2) (Lib.hid fun h => ?_)
    · by_cases h : stE (cyC X r) ls = 0
      · right
        obtain ⟨⟨h1, h2⟩, hL⟩ := stE_zero.1 h
        obtain ⟨_, _, _, hR⟩ := ccE_pf h1
        have hr2 := hR.br 0 (by show 0 < 2; omega)
        have hx2 := hR.bx 1 (by show 1 < 2; omega)
        have ha2 := hR.asc 0 (by show 0 + 1 < 2; omega)
        have hXX : 0 < X ∧ X ≤ 100000 := ⟨ha2, hx2.2⟩
        have hrr : 1 ≤ r ∧ r ≤ 100000 := hr2
        have e : smL (cyC X r) ls = smS (cyC X r).pf ls (ls.length - 1) := by unfold smL; rw [if_pos h]
        have n0 := hL.n0
        rw [e, smS_len]
        have bd : ∀ i, i < ls.length → 0 ≤ ls.getD i 0 ∧ ls.getD i 0 ≤ 100000 := fun i hi => by
          have := hL.bd i hi
          have e2 : gX (cyC X r).pf ((cyC X r).pf.length - 1) = X := rfl
          rw [e2] at this
          omega
        refine ⟨h, by omega, by omega, hrr, bd, fun i hi => ?_⟩
        obtain ⟨s0, s1⟩ := smS_at (l := (cyC X r).pf) (ls := ls) (k := ls.length - 1) (i := i) (by omega)
        obtain ⟨c0, c1⟩ := en_cyl hXX hrr hR hL (i + 1) hi
        have a0 := asc_le hL.asc (Nat.zero_le (i + 1)) hi
        exact ⟨by omega, s0.trans c0, s1.trans c1⟩
      · left
        exact ⟨by simpa using h, by simpa using h, by unfold smL; rw [if_neg h]⟩
    · obtain ⟨⟨h1, h2⟩, hL⟩ := stE_zero.1 h
      obtain ⟨_, _, _, hR⟩ := ccE_pf h1
      intro v W hp
      have := refCk_any v _ W hp
      rwa [(ckE_iff _).2 hR] at this

set_option maxRecDepth 100000 in
theorem lifted (os : Os) (started : os.Started) (H : Type) (enc : TypeId × Value → H) :
    ReturnsInHanded {} Try.checked os 7 .any (Rows.standingCylindersSpec.pre6 enc Try.prog Try.f7 Rows.standingCylindersRow.domain false) (Rows.standingCylindersSpec.post enc Try.prog Try.f7 false true false false) := by
  refine returnsInHanded_of_change (C := Try.checked) own started (by kernel_rfl) Try.func7
    (ChangeSpec.witness6 (enc := enc) (C := Try.checked) false ⟨#[], #[.int .i64 0, .int .i64 0, .slice none 0 0], []⟩ 8 (by kernel_rfl) (by kernel_rfl) (by kernel_rfl) (by kernel_rfl)) ?_
  intro W base args ds gs before hval0 hW hcnd _
  have hval : ∀ (j : Nat) t v, Try.f7.params[j]? = some t → args[j]? = some v → Value.okWide Try.prog W .any base t v := hval0
  clear hval0
  have hW' := hW
  obtain ⟨p, q, hA0, hV, rfl, hfz, hnd⟩ := hW
  have hA : DataW.TrodAll enc Try.prog W 0 (fun _ => true) true Try.f7.params.toList args.toList ds p := hA0
  rw [Try.params7] at hA hval
  obtain ⟨v0, vs0, d0, ds0, p0, q0, hargs, rfl, rfl, h0, r0⟩ := trodAll_cons hA
  obtain ⟨v1, vs1, d1, ds1, p1, q1, rfl, rfl, rfl, h1, r1⟩ := trodAll_cons r0
  obtain ⟨v2, vs2, d2, ds2, p2, q2, rfl, rfl, rfl, h2, r2⟩ := trodAll_cons r1
  obtain ⟨rfl, rfl, rfl⟩ := trodAll_nil r2
  obtain rfl : args = #[v0, v1, v2] := by cases args; simp_all
  obtain ⟨rfl, rfl⟩ := trodVars_none hV
  have k0 := h0
  have lt0 : ∀ x ∈ p0, x.block < W.heap.size := by obtain ⟨m, hm⟩ := k0; exact DataW.trod_lt m _ _ _ hm
  have k1 := h1
  have lt1 : ∀ x ∈ p1, x.block < W.heap.size := by obtain ⟨m, hm⟩ := k1; exact DataW.trod_lt m _ _ _ hm
  have k2 := h2
  have lt2 : ∀ x ∈ p2, x.block < W.heap.size := by obtain ⟨m, hm⟩ := k2; exact DataW.trod_lt m _ _ _ hm
  obtain ⟨a0, rfl, rfl, rfl, w0⟩ := open_int Try.underlying3 (hval 0 3 v0 rfl rfl) h0
  obtain ⟨a1, rfl, rfl, rfl, w1⟩ := open_int Try.underlying3 (hval 1 3 v1 rfl rfl) h1
  obtain ⟨z2, w2, b2⟩ := open_intSlice Try.underlying25 Try.underlying3 (by kernel_rfl) (hval 2 25 v2 rfl rfl) h2
  clear hA0
  refine (walk a0 a1 v2 z2 W (wf_bd w0) (wf_bd w1) w2 b2).mono fun e W' ⟨he, bel⟩ => ?_
  subst he
  exact ⟨_, rfl, _, _, _, [], _, [], hW', trodAll_mk1 (shut_bool Try.underlying4 _), (trodAll_cons_mk (Below.trod laidOut (by kernel_rfl) (of_decide_eq_true (by kernel_rfl)) k0 bel lt0) (trodAll_cons_mk (Below.trod laidOut (by kernel_rfl) (of_decide_eq_true (by kernel_rfl)) k1 bel lt1) (trodAll_cons_mk (Below.trod laidOut (by kernel_rfl) (of_decide_eq_true (by kernel_rfl)) k2 bel lt2) trodAll_mk0))), rfl, bel.frame _, fun h => by cases h⟩

theorem over : Rows.standingCylindersRow.holds Try.pinned (OpenSpec.ofChange Rows.standingCylindersSpec) :=
  OpenClaim.holds_of_wide 7 Try.f7 rfl rfl rfl rfl rfl rfl rfl ⟨rfl, rfl, rfl, rfl, rfl⟩ rfl rfl rfl rfl rfl (by kernel_rfl) Try.func7 (by kernel_rfl)
    (of_decide_eq_true (by kernel_rfl)) (by unfold Func.isWrapper; first | (rw [if_pos (by decide +kernel)]; kernel_rfl) | (rw [if_neg (by decide +kernel)]; exact ⟨rfl, rfl⟩))
    (fun os started H enc _ => lifted os started H enc)

theorem proved : Rows.StandingCylindersSaid := over
#print axioms proved
end Go.Proofs.Ytmdpdpbkbakidaa.standingCylinders

