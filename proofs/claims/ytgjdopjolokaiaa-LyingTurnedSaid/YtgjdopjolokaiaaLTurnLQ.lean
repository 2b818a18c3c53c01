/-
  The statement LyingTurned of spile/spilelaw11 holds: for every input the call returns true, and each argument reads afterwards as it read before.
-/
import Derived.Test.YtgjdopjolokaiaaM5
import Derived.Test.YtgjdopjolokaiaaM2
import Derived.Below
import Derived.Carry
set_option linter.unusedVariables false
set_option linter.unusedSimpArgs false
namespace Go.Proofs.Ytgjdopjolokaiaa.lyingTurned
open Go.ChangeShapes Go.WideShapes Go.ChangeAt Go.RowKit
open Go.ChangeMaps (open_string shut_string)
set_option linter.unusedVariables false

set_option maxHeartbeats 32000000 in
set_option maxRecDepth 100000 in
theorem core (X L H E : Int) (a : Option Addr) (n cap : Nat) (c : Ck) (a2 : Option Addr) (n2 cap2 : Nat) (a3 : Option Addr) (n3 cap3 : Nat) (ps hs : List Int) (d : Ck) (w : World) (B1 : Bool)
    (KB : Hid (CkB w.heap.size (w.alloc (.cells #[.string c.nm, .int .i64 c.ps, .slice a n cap, .int .i64 c.dc] 24)) c)) (NP : Hid (Nums (w.alloc (.cells #[.string c.nm, .int .i64 c.ps, .slice a n cap, .int .i64 c.dc] 24)) (.slice a2 n2 cap2) ps)) (NH : Hid (Nums (w.alloc (.cells #[.string c.nm, .int .i64 c.ps, .slice a n cap, .int .i64 c.dc] 24)) (.slice a3 n3 cap3) hs))
    (hc : n = c.pf.length) (hl2 : Hid (ps.length = n2)) (hpf : Hid (B1 = true → c.pf.length ≤ 1000)) (hps : Hid (B1 = true → ps.length ≤ 1000)) (hhs : Hid (B1 = true → hs.length ≤ 1000)) (hn2 : n2 ≤ 9223372036854775807) (hn3 : n3 ≤ 9223372036854775807)
    (hd : Hid (d.nm = c.nm ∧ d.ps = c.ps ∧ d.dc = c.dc))
    (hE : ((E == 0) = false ∧ (E != 0) = true ∧ L = 0 ∧ H = 0) ∨ (E = 0 ∧ n2 ≠ 0 ∧ (0 ≤ X ∧ X ≤ 100000) ∧ Hid (ps.getD (n2 - 1) 0 = X) ∧ Hid (∀ j, j < n2 → 0 ≤ ps.reverse.getD j 0 ∧ ps.reverse.getD j 0 ≤ 100000)))
    (FW : Hid (∀ v u W, CkV W v c → Lns W u [n2, n3] → Calls Try.prog 9 #[v, u] W fun e w' => e = .returned (.bool B1) ∧ Below W.heap.size W w'))
    (H1 : Hid (∀ v u h W, CkV W v c → Nums W u ps → Nums W h hs → Calls Try.prog 18 #[v, u, h] W fun e w' => e = .returned (.tuple #[.agg #[.int .i64 L, .int .i64 H], .int .i64 E]) ∧ Below W.heap.size W w'))
    (H2 : Hid (E = 0 → ∀ v W, Pts W v c.pf → Calls Try.prog 27 #[v] W fun e w' => ∃ u, e = .returned (.tuple #[u, .int .i64 0]) ∧ Pts w' u d.pf ∧ Below W.heap.size W w'))
    (H3 : Hid (E = 0 → ∀ v u h W, CkV W v d → Nums W u (tuP ps) → Nums W h hs → Calls Try.prog 18 #[v, u, h] W fun e w' => e = .returned (.tuple #[.agg #[.int .i64 L, .int .i64 H], .int .i64 0]) ∧ Below W.heap.size W w')) :
    Calls Try.prog 6 #[.agg #[.string c.nm, .int .i64 c.ps, .slice a n cap, .int .i64 c.dc], .slice a2 n2 cap2, .slice a3 n3 cap3] w fun e w' => e = .returned (.bool true) ∧ Below w.heap.size w w' := by
  subst hc
  have HA := Lib.hid (fun W => awake_any W)
  have Q1 : ∀ (p q : Int) W, (binOp .eql 40 (.agg #[.int .i64 p, .int .i64 q]) (.agg #[.int .i64 p, .int .i64 q])).run Try.prog W = .ok (.bool true) W := fun p q W => by rw [run_eql_bounds, show samB p q p q = true by simp [samB]]
  have HB := Lib.hid ((Below.refl w.heap.size w).alloc (Nat.le_refl _) (.cells #[.string c.nm, .int .i64 c.ps, .slice a c.pf.length cap, .int .i64 c.dc] 24))
  go_enter Try.func6, Try.ntmps6
  go_wp2_with fail
  refine (HA.out _).mono ?_
  rintro e w5 ⟨rfl, h1⟩
  replace HB := Lib.hid (bel_trans HB.out h1)
  replace NP := Lib.hid (NP.out.below h1)
  replace NH := Lib.hid (NH.out.below h1)
  replace KB := Lib.hid (KB.out.below h1); clear h1
  obtain ⟨a4, cap4, c0, c1, c2, c3, kv⟩ := KB.out.val
  have FO := Lib.hid (FW.out _ _ (w5.alloc (.cells #[.slice a2 n2 cap2, .slice a3 n3 cap3] 25)) (kv.alloc _) (lns_two w5 a2 a3 n2 cap2 n3 cap3 _ hn2 hn3))
  clear kv
  generalize hL : c.pf.length = LN at *
  go_wp2_with fail
  refine FO.out.mono ?_
  rintro e w6 ⟨rfl, h1⟩
  replace h1 := bel_alloc h1
  replace HB := Lib.hid (bel_trans HB.out h1)
  replace NP := Lib.hid (NP.out.below h1)
  replace NH := Lib.hid (NH.out.below h1)
  replace KB := Lib.hid (KB.out.below h1); clear h1
  clear FO c0 c1 c2 c3
  cases B1 with
  | false =>
    go_wp2
    go_returns
    exact ⟨rfl, HB.out⟩
  | true =>
    have OW : Hid (∀ v W, CkV W v c → Calls Try.prog 15 #[v] W fun e w' => ∃ u, e = .returned u ∧ CkV w' u c ∧ Below W.heap.size W w') := Lib.hid fun v W h => own_any v c W h (by rw [hL]; exact hpf.out rfl)
    have CW : Hid (∀ W, Nums W (.slice a2 n2 cap2) ps → Calls Try.prog 16 #[.slice a2 n2 cap2] W fun e w' => ∃ u, e = .returned u ∧ Nums w' u ps ∧ Below W.heap.size W w') := Lib.hid fun W h => clone_nums _ ps W h (hps.out rfl)
    have CH : Hid (∀ W, Nums W (.slice a3 n3 cap3) hs → Calls Try.prog 16 #[.slice a3 n3 cap3] W fun e w' => ∃ u, e = .returned u ∧ Nums w' u hs ∧ Below W.heap.size W w') := Lib.hid fun W h => clone_nums _ hs W h (hhs.out rfl)
    have PW : Hid (∀ v W, Pts W v c.pf → Calls Try.prog 11 #[v] W fun e w' => ∃ u, e = .returned u ∧ Pts w' u c.pf ∧ Below W.heap.size W w') := Lib.hid fun v W h => clone_p v c.pf W h (by rw [hL]; exact hpf.out rfl)
    obtain ⟨a4, cap4, c0, c1, c2, c3, kv⟩ := KB.out.val
    rw [hL] at c2 kv
    go_wp2_with fail
    refine (OW.out _ _ kv).mono ?_
    rintro e w3 ⟨V1, rfl, hx, h1⟩
    replace KB := Lib.hid (KB.out.below h1)
    replace NP := Lib.hid (NP.out.below h1)
    replace NH := Lib.hid (NH.out.below h1)
    replace HB := Lib.hid (bel_trans HB.out h1); clear h1
    have N1 := Lib.hid hx; clear hx
    clear c0 c1 c2 c3 kv
    go_wp2_with fail
    refine (CW.out _ NP.out).mono ?_
    rintro e w4 ⟨V2, rfl, hx, h1⟩
    replace KB := Lib.hid (KB.out.below h1)
    replace NP := Lib.hid (NP.out.below h1)
    replace NH := Lib.hid (NH.out.below h1)
    replace N1 := Lib.hid (N1.out.below h1)
    replace HB := Lib.hid (bel_trans HB.out h1); clear h1
    have N2 := Lib.hid hx; clear hx
    go_wp2_with fail
    refine (CH.out _ NH.out).mono ?_
    rintro e w5 ⟨V3, rfl, hx, h1⟩
    replace KB := Lib.hid (KB.out.below h1)
    replace NP := Lib.hid (NP.out.below h1)
    replace NH := Lib.hid (NH.out.below h1)
    replace N1 := Lib.hid (N1.out.below h1)
    replace N2 := Lib.hid (N2.out.below h1)
    replace HB := Lib.hid (bel_trans HB.out h1); clear h1
    have N3 := Lib.hid hx; clear hx
    go_wp2_with fail
    refine (H1.out _ _ _ _ N1.out N2.out N3.out).mono ?_
    rintro e w6 ⟨rfl, h1⟩
    replace KB := Lib.hid ((KB.out.below h1).alloc (.cells #[.int .i64 L, .int .i64 H] 40))
    replace NP := Lib.hid ((NP.out.below h1).alloc (.cells #[.int .i64 L, .int .i64 H] 40))
    replace NH := Lib.hid ((NH.out.below h1).alloc (.cells #[.int .i64 L, .int .i64 H] 40))
    replace N1 := Lib.hid ((N1.out.below h1).alloc (.cells #[.int .i64 L, .int .i64 H] 40))
    replace N2 := Lib.hid ((N2.out.below h1).alloc (.cells #[.int .i64 L, .int .i64 H] 40))
    replace N3 := Lib.hid ((N3.out.below h1).alloc (.cells #[.int .i64 L, .int .i64 H] 40))
    replace HB := Lib.hid ((bel_trans HB.out h1).alloc (bel_trans HB.out h1).size (.cells #[.int .i64 L, .int .i64 H] 40)); clear h1
    have T1 := Lib.hid (Two.new w6 (.int .i64 L) (.int .i64 H) 40)
    clear N1 N2 N3
    rcases hE with ⟨e1, e2, rfl, rfl⟩ | ⟨rfl, n0, bX, hX, bx⟩
    · skip
      obtain ⟨T10, T11, T12, T13, T14⟩ := T1.out
      go_wp2
      go_returns
      exact ⟨rfl, HB.out⟩
    · obtain ⟨k2, rfl⟩ : ∃ k2, n2 = k2 + 1 := ⟨n2 - 1, by omega⟩
      have hk : k2 ≤ 999 := by have h1 := hps.out (by trivial); have h2 := hl2.out; omega
      have kb5 := KB.out
      obtain ⟨a5, cap5, hq5, hp5, hw5⟩ := kb5
      rw [hL] at hq5 hp5
      obtain ⟨c0, c1, c2, c3, _, _⟩ := hq5
      have HW5 := Lib.hid hw5; clear hw5
      go_wp2_with fail
      refine (PW.out _ _ hp5).mono ?_
      rintro e w9 ⟨V4, rfl, hx, h1⟩
      replace KB := Lib.hid (KB.out.below h1)
      replace NP := Lib.hid (NP.out.below h1)
      replace NH := Lib.hid (NH.out.below h1)
      replace T1 := Lib.hid (T1.out.below h1)
      replace HB := Lib.hid (bel_trans HB.out h1); clear h1
      have N4 := Lib.hid hx; clear hx
      clear c0 c1 c2 c3 hp5
      go_wp2_with fail
      refine (H2.out (by trivial) _ _ N4.out).mono ?_
      rintro e w10 ⟨U, rfl, hx, h1⟩
      replace KB := Lib.hid (KB.out.below h1)
      replace NP := Lib.hid (NP.out.below h1)
      replace NH := Lib.hid (NH.out.below h1)
      replace T1 := Lib.hid (T1.out.below h1)
      replace N4 := Lib.hid (N4.out.below h1)
      replace HB := Lib.hid (bel_trans HB.out h1); clear h1
      have ND := Lib.hid hx; clear hx
      clear N4
      have nd := ND.out
      obtain ⟨au, capu, rfl, _, _⟩ := nd
      have e0 : ((k2 : Int) + 1 == 0) = false := by simp; omega
      obtain ⟨a6, cap6, c0, c1, c2, c3, kv⟩ := KB.out.val
      rw [hL] at c2 kv
      go_wp2_with fail
      refine (OW.out _ _ kv).mono ?_
      rintro e w12 ⟨V5, rfl, hx, h1⟩
      replace KB := Lib.hid (KB.out.below h1)
      replace NP := Lib.hid (NP.out.below h1)
      replace NH := Lib.hid (NH.out.below h1)
      replace T1 := Lib.hid (T1.out.below h1)
      replace ND := Lib.hid (ND.out.below h1)
      replace HB := Lib.hid (bel_trans HB.out h1); clear h1
      have N5 := Lib.hid hx; clear hx
      clear c0 c1 c2 c3 kv
      have n5 := N5.out
      obtain ⟨a7, cap7, rfl, _, _⟩ := n5
      go_upto_region 13 with fail
      obtain ⟨b2, off2, rfl, hb2, hcell⟩ := LTQ.nums_at NP.out (by omega)
      obtain ⟨q, hq⟩ : ∃ q, q = ((w12)).heap.size := ⟨_, rfl⟩
      obtain ⟨W1, hW1⟩ : ∃ W1, W1 = ((w12)).alloc (.cells #[.string c.nm, .int .i64 c.ps, .slice au d.pf.length capu, .int .i64 c.dc] 24) := ⟨_, rfl⟩
      have QD := Quad.new ((w12)) (.string c.nm) (.int .i64 c.ps) (.slice au d.pf.length capu) (.int .i64 c.dc) 24
      rw [← hW1, ← hq] at QD
      have BW : Below ((w12)).heap.size ((w12)) W1 := by rw [hW1]; exact bel_alloc (Below.refl _ _)
      replace HB := Lib.hid (bel_trans HB.out BW)
      replace NP := Lib.hid (NP.out.below BW)
      replace NH := Lib.hid (NH.out.below BW)
      replace T1 := Lib.hid (T1.out.below BW)
      replace ND := Lib.hid (ND.out.below BW)
      have hb3 : b2 < W1.heap.size := Nat.lt_of_lt_of_le hb2 BW.size
      have hcX : Hid (∀ W, Below W1.heap.size W1 W → W.cell? ⟨b2, off2 + k2, none⟩ = some (.int .i64 X)) := fun W hW => by
        rw [(bcell hW).1 _ _ hb3, (bcell BW).1 _ _ hb2, hcell k2 (by omega)]
        have := hX.out
        rw [Nat.add_sub_cancel] at this
        rw [this]
      replace QD := Lib.hid QD
      rw [← hq, ← hW1]
      have CR : Hid (∀ W, Nums W (.slice (some ⟨b2, off2, none⟩) (k2 + 1) cap2) ps → Calls Try.prog 16 #[.slice (some ⟨b2, off2, none⟩) (k2 + 1) cap2] W fun e w' => ∃ g cap, e = .returned (.slice (some ⟨g, 0, none⟩) (k2 + 1) cap) ∧ (k2 + 1 ≤ cap ∧ cap ≤ 9223372036854775807) ∧ W.heap.size ≤ g ∧ g < w'.heap.size ∧ TRow w' g (k2 + 1) 0 0 (fun j => ps.getD j 0) ∧ Below W.heap.size W w') := Lib.hid fun W h => by
        have := clone_row _ ps W h (by have := hl2.out; omega) (hps.out (by trivial))
        rwa [hl2.out] at this
      have RR : Hid (∀ W g cap, g < W.heap.size → TRow W g (k2 + 1) 0 0 (fun j => ps.getD j 0) → Calls Try.prog 28 #[.slice (some ⟨g, 0, none⟩) (k2 + 1) cap] W fun e w' => e = .returned (.tuple #[]) ∧ g < w'.heap.size ∧ TRow w' g (k2 + 1) 0 X (fun j => ps.reverse.getD j 0) ∧ Below g W w') := Lib.hid fun W g cap h1 h2 => by
        have := rev_row g cap ps W h1 (hps.out (by trivial)) (by rw [hl2.out]; exact h2) X
        rwa [hl2.out] at this
      clear hq hW1 BW hcell hb2 hb3 KB N5 FW H1 H2 OW CW PW HA e0
      go_wp2_with fail
      refine (CR.out _ NP.out).mono ?_
      rintro e wa ⟨g, gc, rfl, hgc, hg1, hg2, ht, h1⟩
      have HT0 := Lib.hid ht
      have BA := Lib.hid h1
      clear ht h1
      go_wp2_with fail
      refine (RR.out _ g gc hg2 HT0.out).mono ?_
      rintro e wb ⟨rfl, hg3, ht, h1⟩
      have HT := Lib.hid ht
      replace BA := Lib.hid (BA.out.trans (h1.mono hg1))
      clear ht h1 HT0 hg2 CR RR
      have w1' : IntKind.i64.wrap ((k2 : Int) + 1 - 1) = (k2 : Int) := by rw [wrap_in _ ⟨by omega, by omega⟩]; omega
      have w2' : IntKind.i64.wrap (k2 : Int) = (k2 : Int) := wrap_in _ ⟨by omega, by omega⟩
      have l1' : (k2 : Int) < (k2 : Int) + 1 := by omega
      go_wp2_with fail
      go_loopw [13, 63] (fun _ ii wr => ∃ j : Nat, j ≤ k2 + 1 ∧ ii = .int .i64 j ∧ Hid (Below W1.heap.size W1 wr) ∧ Hid (TRow wr g (k2 + 1) j X (fun j => ps.reverse.getD j 0)) ∧ g < wr.heap.size) (fun _ ii _ => k2 + 1 - (intOf ii).toNat)
      case atStart => exact ⟨0, Nat.zero_le _, rfl, BA, HT, hg3⟩
      case round =>
        obtain ⟨j, hj, rfl, hB, hT, hgr⟩ := hrel
        by_cases hlt : j < k2 + 1
        · obtain ⟨t0, f0⟩ := hT.out j hlt
          rw [if_neg (by omega)] at t0
          have bk := bx.out j hlt
          have T2 := Lib.hid (hT.out.drew.step hlt)
          have B2 : Hid (Below W1.heap.size W1 (wr.drew.setCell ⟨g, j, none⟩ (.int .i64 (X - ps.reverse.getD j 0)))) := (bel_trans hB.out (bel_drew wr)).setCell (p := ⟨g, j, none⟩) hg1 _
          have cX : wr.drew.cell? ⟨b2, off2 + k2, none⟩ = some (.int .i64 X) := hcX.out _ (bel_trans hB.out (bel_drew wr))
          have cX2 : wr.cell? ⟨b2, off2 + k2, none⟩ = some (.int .i64 X) := hcX.out _ hB.out
          have l1 : (j : Int) < (k2 : Int) + 1 := by omega
          have l2 : g < (wr.drew.setCell ⟨g, j, none⟩ (.int .i64 (X - ps.reverse.getD j 0))).heap.size := by simpa [World.setCell] using hgr
          obtain ⟨x, hx⟩ : ∃ x, ps.reverse.getD j 0 = x := ⟨_, rfl⟩
          rw [hx] at bk T2 B2 l2
          replace t0 : wr.cell? ⟨g, j, none⟩ = some (.int .i64 x) := by rw [← hx]; exact t0
          have ws : IntKind.i64.wrap (X - x) = X - x := wrap_in _ ⟨by omega, by omega⟩
          clear hx
          go_wp2_with fail
          refine still_tail 14 (by kernel_rfl) (by kernel_rfl) ?_
          simp only [List.take_succ_cons, List.take_zero, List.drop_succ_cons, List.drop_zero]
          repeat still_step
          refine wpStill_nil ?_
          go_wp2
          go_roundw
          case rel => exact ⟨j + 1, by omega, by go_num, B2, T2, l2⟩
          case measure => simp [intOf]; omega
        · obtain rfl : j = k2 + 1 := by omega
          have S0 : Hid (LwS w q d au d.pf.length capu (.slice (some ⟨g, 0, none⟩) (k2 + 1) gc) (.slice a3 n3 cap3) (tuP ps) hs wr) := by
            obtain ⟨e1, e2, e3⟩ := hd.out
            refine ⟨bel_trans HB.out hB.out, ?_, ⟨au, capu, rfl, ND.out.below hB.out, ?_⟩, hT.out.nums ?_ ?_ hgr hgc, NH.out.below hB.out⟩
            · rw [e1, e2, e3]; exact QD.out.below hB.out
            · rw [e1, e2, e3]; exact HW5.out
            · rw [tuP_len]; exact hl2.out.symm
            · intro i hi
              have hl := hl2.out
              rw [tuP_at (by omega), show ps.length - 1 = k2 + 1 - 1 by omega, hX.out]
              congr 1
              rw [List.getD_eq_getElem?_getD, List.getD_eq_getElem?_getD, List.getElem?_reverse (by omega)]
              congr 2
              omega
          have T3 := Lib.hid (T1.out.below hB.out)
          have CH2 := Lib.hid (fun W (h : LwS w q d au d.pf.length capu (.slice (some ⟨g, 0, none⟩) (k2 + 1) gc) (.slice a3 n3 cap3) (tuP ps) hs W) => CH.out W h.2.2.2.2)
          have HBw := Lib.hid (fun W h (hs' : LwS w q d au d.pf.length capu (.slice (some ⟨g, 0, none⟩) (k2 + 1) gc) (.slice a3 n3 cap3) (tuP ps) hs W) (hh : Nums W h hs) => H3.out (by trivial) _ _ h W hs'.2.2.1 hs'.2.2.2.1 hh)
          clear H3 CH hT hB NP NH ND QD T1 HT BA HB hcX hX bx
          replace CH := CH2
          clear CH2
          go_upto_region 20 with fail
          obtain ⟨c0, c1, c2, c3, c4, c5⟩ := S0.out.cells
          go_cut [14, 15] from 96 (fun s t wx => ∃ p : Nat, s = .pointer (some ⟨p, 0, none⟩) ∧ t = .int .i64 0 ∧ Hid (Below wr.heap.size wr wx) ∧ Hid (Two p wx (.int .i64 L) (.int .i64 H)))
          case first =>
            go_region_held3 (fun w' => w'.cell? ⟨q, 0, none⟩ = some (.string d.nm) ∧ w'.cell? ⟨q, 1, none⟩ = some (.int .i64 d.ps) ∧ w'.cell? ⟨q, 2, none⟩ = some (.slice au d.pf.length capu) ∧ w'.cell? ⟨q, 3, none⟩ = some (.int .i64 d.dc)) (go_keep) (first
              | (go_at_call 16; (with_reducible refine (CH.out _ (S0.out.below (bel_drew _))).mono ?_); rintro e w4 ⟨uu, rfl, ho, gg⟩; have BX := Lib.hid (bel_trans (bel_drew wr) gg); obtain ⟨q0, q1, q2, q3, q4, q5⟩ := (S0.out.below BX.out).cells; (try (replace P1 := Lib.hid (P1.out.below gg))); (try (obtain ⟨p0, p1, p2, p3, _⟩ := P1.out)); have NH := Lib.hid ho; clear ho; clear gg)
              | (go_at_call 16; (with_reducible refine (CH.out _ (S0.out.below (bel_alloc (bel_drew _)))).mono ?_); rintro e w4 ⟨uu, rfl, ho, gg⟩; have BX := Lib.hid (bel_trans (bel_alloc (bel_drew (wr.alloc (.cells #[.int .i64 0, .int .i64 0] 40)))) gg); obtain ⟨q0, q1, q2, q3, q4, q5⟩ := (S0.out.below BX.out).cells; have P1 := Lib.hid ((Two.new wr (.int .i64 0) (.int .i64 0) 40).below (bel_trans (bel_drew _) gg)); (try (obtain ⟨p0, p1, p2, p3, _⟩ := P1.out)); have NH := Lib.hid ho; clear ho; clear gg)
              | (go_at_call 16; (with_reducible refine (CH.out _ (S0.out.below BX.out)).mono ?_); rintro e w4 ⟨uu, rfl, ho, gg⟩; have BX := Lib.hid (bel_trans BX.out gg); obtain ⟨q0, q1, q2, q3, q4, q5⟩ := (S0.out.below BX.out).cells; (try (replace P1 := Lib.hid (P1.out.below gg))); (try (obtain ⟨p0, p1, p2, p3, _⟩ := P1.out)); have NH := Lib.hid ho; clear ho; clear gg)
              | (go_at_call 16; (with_reducible refine (CH.out _ (S0.out.below (bel_al2 BX.out _))).mono ?_); rintro e w4 ⟨uu, rfl, ho, gg⟩; have PS := Lib.hid BX.out.size; have BX := Lib.hid (bel_trans (bel_al2 BX.out _) gg); obtain ⟨q0, q1, q2, q3, q4, q5⟩ := (S0.out.below BX.out).cells; have P1 := Lib.hid ((Two.new _ (.int .i64 0) (.int .i64 0) 40).below gg); (try (obtain ⟨p0, p1, p2, p3, _⟩ := P1.out)); have NH := Lib.hid ho; clear ho; clear gg)
              | (go_at_call 18; (with_reducible refine (HBw.out _ _  (S0.out.below BX.out) NH.out).mono ?_); rintro e w6 ⟨rfl, gg⟩; have BX := Lib.hid (bel_trans BX.out gg); obtain ⟨q0, q1, q2, q3, q4, q5⟩ := (S0.out.below BX.out).cells; (try (replace P1 := Lib.hid (P1.out.below gg))); (try (obtain ⟨p0, p1, p2, p3, _⟩ := P1.out)); clear gg)
              | (go_at_call 18; (with_reducible refine (HBw.out _ _  (S0.out.below (bel_al2 BX.out _)) (NH.out.alloc _)).mono ?_); rintro e w6 ⟨rfl, gg⟩; have PS := Lib.hid BX.out.size; have BX := Lib.hid (bel_trans (bel_al2 BX.out _) gg); obtain ⟨q0, q1, q2, q3, q4, q5⟩ := (S0.out.below BX.out).cells; have P1 := Lib.hid ((Two.new _ (.int .i64 0) (.int .i64 0) 40).below gg); (try (obtain ⟨p0, p1, p2, p3, _⟩ := P1.out)); clear gg))
            all_goals go_wp2_with fail
            all_goals go_meet
            all_goals first
              | exact ⟨_, rfl, rfl, Lib.hid (bel_al2 BX.out _), Lib.hid (Two.new _ _ _ _)⟩
              | exact ⟨_, rfl, rfl, Lib.hid ((BX.out.setCell (p := ⟨wr.heap.size, 0, none⟩) (Nat.le_refl _) _).setCell (p := ⟨wr.heap.size, 1, none⟩) (Nat.le_refl _) _), Lib.hid (P1.out.both _ _)⟩
              | exact ⟨_, rfl, rfl, Lib.hid ((BX.out.setCell (p := ⟨_, 0, none⟩) PS.out _).setCell (p := ⟨_, 1, none⟩) PS.out _), Lib.hid (P1.out.both _ _)⟩
          case rest =>
            obtain ⟨p, rfl, rfl, hB, hT⟩ := hcut
            have S1 := Lib.hid (S0.out.below hB.out)
            replace T3 := Lib.hid (T3.out.below hB.out)
            clear c0 c1 c2 c3 c4 c5
            obtain ⟨t0, t1, _, _, _⟩ := hT.out
            obtain ⟨x0, x1, _, _, _⟩ := T3.out
            go_wp2
            go_returns
            exact ⟨rfl, S1.out.1⟩
theorem walk (z : Value) (c : Ck) (u : Value) (ps : List Int) (h : Value) (hs : List Int) (w : World) (hv : CkV w z c) (hu : Nums w u ps) (hz : ∀ z ∈ ps, (Lit.int .i64 z).wf = true) (hh : Nums w h hs) (hz2 : ∀ z ∈ hs, (Lit.int .i64 z).wf = true) :
    Calls Try.prog 6 #[z, u, h] w fun e w' => e = .returned (.bool true) ∧ Below w.heap.size w w' := by
  obtain ⟨a, cap, rfl, hp, hw⟩ := hv
  have KB := Lib.hid (CkB.new hp hw)
  have hu' := hu
  have hh' := hh
  obtain ⟨a2, cap2, rfl, hc2, _⟩ := hu'
  obtain ⟨a3, cap3, rfl, hc3, _⟩ := hh'
  have fw : (fewC c && lnB [ps.length, hs.length]) = true → c.pf.length ≤ 1000 ∧ ps.length ≤ 1000 ∧ hs.length ≤ 1000 := fun h => by
    rw [Bool.and_eq_true] at h
    have h1 := fewC_pf h.1
    have h2 := h.2
    simp [lnB] at h2
    omega
  refine core (ps.getD (ps.length - 1) 0) (btwL c ps hs) (btwH c ps hs) (lrE c ps hs) a _ cap c a2 _ cap2 a3 _ cap3 ps hs ⟨c.nm, c.ps, tuL c.pf, c.dc⟩ w (fewC c && lnB [ps.length, hs.length]) KB (Lib.hid (hu.alloc _)) (Lib.hid (hh.alloc _)) rfl rfl (Lib.hid fun h => (fw h).1) (Lib.hid fun h => (fw h).2.1) (Lib.hid fun h => (fw h).2.2) (by omega) (by omega) ⟨rfl, rfl, rfl⟩ ?_ (Lib.hid fun v u W h1 h2 => fewL_any v u c _ W h1 h2) (Lib.hid fun v u h W h1 h2 h3 => lyBw_any v u h c ps hs W h1 h2 h3) (Lib.hid fun he v W hv => ?_) (Lib.hid fun he v u h W h1 h2 h3 => ?_)
  · by_cases e : lrE c ps hs = 0
    · right
      obtain ⟨⟨⟨h1, h2⟩, h3, h4⟩, h5⟩ := lrE_zero.1 e
      obtain ⟨_, _, _, hR⟩ := ccE_pf h1
      have n0 := h3.n0
      have bd : ∀ j, j < ps.length → 0 ≤ ps.getD j 0 ∧ ps.getD j 0 ≤ 100000 := fun j hj => by
        have hx := hR.bx (c.pf.length - 1) (by have := hR.n0; omega)
        have hz0 := h3.z
        have he0 := h3.e
        have u1 : ps.getD 0 0 ≤ ps.getD j 0 := by
          rcases Nat.eq_zero_or_pos j with e | e
          · rw [e]; exact Int.le_refl _
          · exact Int.le_of_lt (asc_lt h3.asc e hj)
        have u2 : ps.getD j 0 ≤ ps.getD (ps.length - 1) 0 := by
          by_cases e : j = ps.length - 1
          · rw [← e]; exact Int.le_refl _
          · exact Int.le_of_lt (asc_lt h3.asc (show j < ps.length - 1 by omega) (by omega))
        omega
      refine ⟨e, by omega, bd _ (by omega), rfl, fun j hj => ?_⟩
      have := bd (ps.length - 1 - j) (by omega)
      rwa [List.getD_eq_getElem?_getD, List.getElem?_reverse (by omega), ← List.getD_eq_getElem?_getD]
    · left
      exact ⟨by simpa using e, by simpa using e, by unfold btwL; rw [if_neg e], by unfold btwH; rw [if_neg e]⟩
  · obtain ⟨⟨⟨h1, h2⟩, h3, h4⟩, h5⟩ := lrE_zero.1 he
    obtain ⟨_, _, _, hR⟩ := ccE_pf h1
    have c0 : ckE c.pf = 0 := (ckE_iff _).2 hR
    have := turn_any v c.pf W hv
    unfold tuR at this
    rwa [if_pos c0, c0] at this
  · obtain ⟨⟨⟨g1, g2⟩, g3, g4⟩, g5⟩ := lrE_zero.1 he
    obtain ⟨q1, q2, q3, hR⟩ := ccE_pf g1
    have e2 : lrE ⟨c.nm, c.ps, tuL c.pf, c.dc⟩ (tuP ps) hs = 0 := by
      refine lrE_zero.2 ⟨⟨⟨?_, g2⟩, tuP_right hR g3, by rw [tuP_len]; exact g4⟩, g5⟩
      unfold ccE
      rw [if_pos q1, if_neg (by show ¬((c.ps ≠ 1 ∧ c.ps ≠ 2) ∨ c.dc < 0 ∨ 1073741824 < c.dc); omega)]
      exact (ckE_iff _).2 (tu_right hR)
    have t := tb_turned (hs := hs) (c := bgR c.pf) hR g3 (hs.length - 1)
    have bl : btwL ⟨c.nm, c.ps, tuL c.pf, c.dc⟩ (tuP ps) hs = btwL c ps hs := by
      unfold btwL
      rw [if_pos e2, if_pos he]
      show tbL (tuL c.pf) (bgR (tuL c.pf)) _ _ _ _ = _
      rw [tu_bgR hR]; exact t.1
    have bh : btwH ⟨c.nm, c.ps, tuL c.pf, c.dc⟩ (tuP ps) hs = btwH c ps hs := by
      unfold btwH
      rw [if_pos e2, if_pos he]
      show tbH (tuL c.pf) (bgR (tuL c.pf)) _ _ _ _ = _
      rw [tu_bgR hR]; exact t.2
    have := lyBw_any v u h ⟨c.nm, c.ps, tuL c.pf, c.dc⟩ (tuP ps) hs W h1 h2 h3
    rwa [bl, bh, e2] at this

set_option maxRecDepth 100000 in
theorem lifted (os : Os) (started : os.Started) (H : Type) (enc : TypeId × Value → H) :
    ReturnsInHanded {} Try.checked os 6 .any (Rows.lyingTurnedSpec.pre6 enc Try.prog Try.f6 Rows.lyingTurnedRow.domain false) (Rows.lyingTurnedSpec.post enc Try.prog Try.f6 false true false false) := by
  refine returnsInHanded_of_change (C := Try.checked) own started (by kernel_rfl) Try.func6
    (ChangeSpec.witness6 (enc := enc) (C := Try.checked) false ⟨#[], #[.agg #[.string ByteArray.empty, .int .i64 0, .slice none 0 0, .int .i64 0], .slice none 0 0, .slice none 0 0], []⟩ 8 (by kernel_rfl) (by kernel_rfl) (by kernel_rfl) (by kernel_rfl)) ?_
  intro W base args ds gs before hval0 hW hcnd _
  have hval : ∀ (j : Nat) t v, Try.f6.params[j]? = some t → args[j]? = some v → Value.okWide Try.prog W .any base t v := hval0
  clear hval0
  have hW' := hW
  obtain ⟨p, q, hA0, hV, rfl, hfz, hnd⟩ := hW
  have hA : DataW.TrodAll enc Try.prog W 0 (fun _ => true) true Try.f6.params.toList args.toList ds p := hA0
  rw [Try.params6] at hA hval
  obtain ⟨v0, vs0, d0, ds0, p0, q0, hargs, rfl, rfl, h0, r0⟩ := trodAll_cons hA
  obtain ⟨v1, vs1, d1, ds1, p1, q1, rfl, rfl, rfl, h1, r1⟩ := trodAll_cons r0
  obtain ⟨v2, vs2, d2, ds2, p2, q2, rfl, rfl, rfl, h2, r2⟩ := trodAll_cons r1
  obtain ⟨rfl, rfl, rfl⟩ := trodAll_nil r2
  obtain rfl : args = #[v0, v1, v2] := by cases args; simp_all
  obtain ⟨rfl, rfl⟩ := trodVars_none hV
  have k0 := h0
  have lt0 : ∀ x ∈ p0, x.block < W.heap.size := by obtain ⟨m, hm⟩ := k0; exact DataW.trod_lt m _ _ _ hm
  have k1 := h1
  have lt1 : ∀ x ∈ p1, x.block < W.heap.size := by obtain ⟨m, hm⟩ := k1; exact DataW.trod_lt m _ _ _ hm
  have k2 := h2
  have lt2 : ∀ x ∈ p2, x.block < W.heap.size := by obtain ⟨m, hm⟩ := k2; exact DataW.trod_lt m _ _ _ hm
  obtain ⟨z0, w0⟩ := open_ck (hval 0 24 v0 rfl rfl) h0
  obtain ⟨z1, w1, b1⟩ := open_intSlice Try.underlying25 Try.underlying3 (by kernel_rfl) (hval 1 25 v1 rfl rfl) h1
  obtain ⟨z2, w2, b2⟩ := open_intSlice Try.underlying25 Try.underlying3 (by kernel_rfl) (hval 2 25 v2 rfl rfl) h2
  clear hA0
  refine (walk v0 z0 v1 z1 v2 z2 W w0 w1 b1 w2 b2).mono fun e W' ⟨he, bel⟩ => ?_
  subst he
  exact ⟨_, rfl, _, _, _, [], _, [], hW', trodAll_mk1 (shut_bool Try.underlying4 _), (trodAll_cons_mk (Below.trod laidOut (by kernel_rfl) (of_decide_eq_true (by kernel_rfl)) k0 bel lt0) (trodAll_cons_mk (Below.trod laidOut (by kernel_rfl) (of_decide_eq_true (by kernel_rfl)) k1 bel lt1) (trodAll_cons_mk (Below.trod laidOut (by kernel_rfl) (of_decide_eq_true (by kernel_rfl)) k2 bel lt2) trodAll_mk0))), rfl, bel.frame _, fun h => by cases h⟩

theorem over : Rows.lyingTurnedRow.holds Try.pinned (OpenSpec.ofChange Rows.lyingTurnedSpec) :=
  OpenClaim.holds_of_wide 6 Try.f6 rfl rfl rfl rfl rfl rfl rfl ⟨rfl, rfl, rfl, rfl, rfl⟩ rfl rfl rfl rfl rfl (by kernel_rfl) Try.func6 (by kernel_rfl)
    (of_decide_eq_true (by kernel_rfl)) (by unfold Func.isWrapper; first | (rw [if_pos (by decide +kernel)]; kernel_rfl) | (rw [if_neg (by decide +kernel)]; exact ⟨rfl, rfl⟩))
    (fun os started H enc _ => lifted os started H enc)

theorem proved : Rows.LyingTurnedSaid := over
#print axioms proved
end Go.Proofs.Ytgjdopjolokaiaa.lyingTurned

