/-
  The statement StandingRises of spile/spilelaw12 holds: for every input the call returns true, and each argument reads afterwards as it read before.
-/
import Derived.Test.YtmdpdpbkbakidaaM2
import Derived.Test.YtmdpdpbkbakidaaM4
import Derived.Below
import Derived.Carry
set_option linter.unusedVariables false
set_option linter.unusedSimpArgs false
namespace Go.Proofs.Ytmdpdpbkbakidaa.standingRises
open Go.ChangeShapes Go.WideShapes Go.ChangeAt Go.RowKit
open Go.ChangeMaps (open_string shut_string)
set_option linter.unusedVariables false

theorem take_nums {W : World} {b off n cap : Nat} {ls : List Int} (h : Nums W (.slice (some ⟨b, off, none⟩) n cap) ls) {k : Nat} (k0 : 1 ≤ k) (hk : k ≤ n) : Nums W (.slice (some ⟨b, off, none⟩) k cap) (ls.take k) := by
  have hl := LTQ.nlen h
  obtain ⟨b', o', e, hb, hc⟩ := LTQ.nums_at h (by omega)
  simp only [Option.some.injEq, Addr.mk.injEq, and_true] at e
  obtain ⟨rfl, rfl⟩ := e
  obtain ⟨a', c', e', hcap, _⟩ := h
  simp only [Value.slice.injEq] at e'
  obtain ⟨_, _, rfl⟩ := e'
  have ln : (ls.take k).length = k := by rw [List.length_take]; omega
  refine ⟨_, cap, by rw [ln], by omega, .inr ⟨b, off, rfl, hb, fun j hj => ?_⟩⟩
  rw [ln] at hj
  rw [hc j (by omega), List.getD_eq_getElem?_getD, List.getD_eq_getElem?_getD, List.getElem?_take_of_lt hj]
set_option maxHeartbeats 32000000 in
set_option maxRecDepth 100000 in
theorem core (E : Int) (a : Option Addr) (n cap : Nat) (c : Ck) (a2 : Option Addr) (n2 cap2 : Nat) (ls : List Int) (L : List (Int × Int)) (f g : Nat → Int) (w : World) (B1 : Bool)
    (KB : Hid (CkB w.heap.size (w.alloc (.cells #[.string c.nm, .int .i64 c.ps, .slice a n cap, .int .i64 c.dc] 24)) c)) (NP : Hid (Nums (w.alloc (.cells #[.string c.nm, .int .i64 c.ps, .slice a n cap, .int .i64 c.dc] 24)) (.slice a2 n2 cap2) ls))
    (hc : n = c.pf.length) (hpf : Hid (B1 = true → c.pf.length ≤ 1000)) (hps : Hid (B1 = true → n2 ≤ 1000)) (hcp : Hid (n2 ≤ cap2 ∧ cap2 ≤ 9223372036854775807))
    (hE : ((E == 0) = false ∧ (E != 0) = true ∧ L = []) ∨ (E = 0 ∧ 2 ≤ n2 ∧ Hid (L.length + 1 = n2) ∧ Hid (f 0 = 0 ∧ g 0 = 0) ∧ Hid (∀ i, i + 1 < n2 → gX L i = f (i + 1) ∧ gR L i = g (i + 1)) ∧ Hid (∀ i, i + 1 < n2 → (0 ≤ f i ∧ f i ≤ f (i + 1) ∧ f (i + 1) ≤ g (i + 1) ∧ g (i + 1) ≤ 3000000000000000 ∧ g i ≤ g (i + 1) ∧ 0 ≤ g i))))
    (FW : Hid (∀ v u W, CkV W v c → Nums W u ls → Calls Try.prog 9 #[v, u] W fun e w' => e = .returned (.bool B1) ∧ Below W.heap.size W w'))
    (H1 : Hid (∀ v u W, CkV W v c → Nums W u ls → Calls Try.prog 18 #[v, u] W fun e w' => ∃ z, e = .returned (.tuple #[z, .int .i64 E]) ∧ Pts w' z L ∧ Below W.heap.size W w'))
    (H2 : Hid (E = 0 → ∀ k v u W, k + 1 < n2 → CkV W v c → Nums W u (ls.take (k + 2)) → Calls Try.prog 19 #[v, u] W fun e w' => e = .returned (.tuple #[.agg #[.int .i64 (f (k + 1) * 333 / 318), .int .i64 ((g (k + 1) * 355 + 338) / 339)], .int .i64 0]) ∧ Below W.heap.size W w')) :
    Calls Try.prog 4 #[.agg #[.string c.nm, .int .i64 c.ps, .slice a n cap, .int .i64 c.dc], .slice a2 n2 cap2] w fun e w' => e = .returned (.bool true) ∧ Below w.heap.size w w' := by
  subst hc
  have HA := Lib.hid (fun W => awake_any W)
  have HB := Lib.hid ((Below.refl w.heap.size w).alloc (Nat.le_refl _) (.cells #[.string c.nm, .int .i64 c.ps, .slice a c.pf.length cap, .int .i64 c.dc] 24))
  go_enter Try.func4, Try.ntmps4
  go_wp2_with fail
  refine (HA.out _).mono ?_
  rintro e w5 ⟨rfl, h1⟩
  replace HB := Lib.hid (bel_trans HB.out h1)
  replace NP := Lib.hid (NP.out.below h1)
  replace KB := Lib.hid (KB.out.below h1); clear h1
  obtain ⟨a4, cap4, c0, c1, c2, c3, kv⟩ := KB.out.val
  have FO := Lib.hid (FW.out _ _ w5 kv NP.out)
  clear kv
  generalize hL : c.pf.length = LN at *
  go_wp2_with fail
  refine FO.out.mono ?_
  rintro e w6 ⟨rfl, h1⟩
  replace HB := Lib.hid (bel_trans HB.out h1)
  replace NP := Lib.hid (NP.out.below h1)
  replace KB := Lib.hid (KB.out.below h1); clear h1
  clear FO c0 c1 c2 c3
  cases B1 with
  | false =>
    go_wp2
    go_returns
    exact ⟨rfl, HB.out⟩
  | true =>
    have OW : Hid (∀ v W, CkV W v c → Calls Try.prog 15 #[v] W fun e w' => ∃ u, e = .returned u ∧ CkV w' u c ∧ Below W.heap.size W w') := Lib.hid fun v W h => own_any v c W h (by rw [hL]; exact hpf.out rfl)
    have hn1 : n2 ≤ 1000 := hps.out rfl
    have CW : Hid (∀ W, Nums W (.slice a2 n2 cap2) ls → Calls Try.prog 16 #[.slice a2 n2 cap2] W fun e w' => ∃ u, e = .returned u ∧ Nums w' u ls ∧ Below W.heap.size W w') := Lib.hid fun W h => clone_nums _ ls W h (by have := LTQ.nlen h; omega)
    obtain ⟨a4, cap4, c0, c1, c2, c3, kv⟩ := KB.out.val
    rw [hL] at c2 kv
    go_wp2_with fail
    refine (OW.out _ _ kv).mono ?_
    rintro e w3 ⟨V1, rfl, hx, h1⟩
    replace KB := Lib.hid (KB.out.below h1)
    replace NP := Lib.hid (NP.out.below h1)
    replace HB := Lib.hid (bel_trans HB.out h1); clear h1
    have N1 := Lib.hid hx; clear hx
    clear c0 c1 c2 c3 kv
    go_wp2_with fail
    refine (CW.out _ NP.out).mono ?_
    rintro e w4 ⟨V2, rfl, hx, h1⟩
    replace KB := Lib.hid (KB.out.below h1)
    replace NP := Lib.hid (NP.out.below h1)
    replace N1 := Lib.hid (N1.out.below h1)
    replace HB := Lib.hid (bel_trans HB.out h1); clear h1
    have N2 := Lib.hid hx; clear hx
    go_wp2_with fail
    refine (H1.out _ _ _ N1.out N2.out).mono ?_
    rintro e w5 ⟨Z1, rfl, hx, h1⟩
    replace KB := Lib.hid (KB.out.below h1)
    replace NP := Lib.hid (NP.out.below h1)
    replace N1 := Lib.hid (N1.out.below h1)
    replace N2 := Lib.hid (N2.out.below h1)
    replace HB := Lib.hid (bel_trans HB.out h1); clear h1
    have NZ := Lib.hid hx; clear hx
    clear N1 N2
    clear FW HA H1
    obtain ⟨az, cz, rfl, _, _⟩ := NZ.out.shape
    rcases hE with ⟨e1, e2, rfl⟩ | ⟨rfl, n0, hLl, hf0, hLv, hfg⟩
    · go_wp2
      go_returns
      exact ⟨rfl, HB.out⟩
    · obtain ⟨m, rfl⟩ : ∃ m, n2 = m + 2 := ⟨n2 - 2, by omega⟩
      have hm : L.length = m + 1 := by have := hLl.out; omega
      obtain ⟨b2, off2, rfl, hb2, hcell⟩ := LTQ.nums_at NP.out (by omega)
      clear hcell
      rw [hm] at NZ ⊢
      obtain ⟨bz, oz, rfl, hbz, hcz⟩ := NZ.out.at (by omega)
      have HCZ := Lib.hid hcz
      clear hcz hm NZ
      have w1' : IntKind.i64.wrap (((m + 2 : Nat) : Int) - 1) = (m : Int) + 1 := by rw [wrap_in _ ⟨by omega, by omega⟩]; omega
      have w2' : IntKind.i64.wrap ((m : Int) + 2 - 1) = (m : Int) + 1 := by rw [wrap_in _ ⟨by omega, by omega⟩]; omega
      have w3' : IntKind.i64.wrap ((m : Int) + 1) = (m : Int) + 1 := wrap_in _ ⟨by omega, by omega⟩
      have TB0 := Two.new (w5) (.int .i64 0) (.int .i64 0) 43
      have TB : Hid (Two ((w5)).heap.size (((w5)).alloc (.cells #[.int .i64 0, .int .i64 0] 43)) (.int .i64 (f 0)) (.int .i64 (g 0))) := Lib.hid (by rw [hf0.out.1, hf0.out.2]; exact TB0)
      clear TB0
      obtain ⟨bs, hbs⟩ : ∃ bs, bs = ((w5)).heap.size := ⟨_, rfl⟩
      have hbz2 : bz < bs := by rw [hbs]; exact hbz
      have HB0 := Lib.hid HB.out.size
      have hbs0 : w.heap.size ≤ bs := by rw [hbs]; exact HB0.out
      have BQ : Hid (Below ((w5)).heap.size ((w5)) (((w5)).alloc (.cells #[.int .i64 0, .int .i64 0] 43))) := Lib.hid (bel_alloc (Below.refl _ _))
      rw [← hbs] at TB
      go_wp2_with fail
      rw [← hbs]
      generalize hWs : (w5) = Ws at *
      clear hWs
      replace hbs := Lib.hid hbs
      go_loopw [40] (fun ii wr => ∃ k : Nat, k ≤ m + 1 ∧ ii = .int .i64 k ∧ Hid (Below Ws.heap.size Ws wr) ∧ Hid (Two bs wr (.int .i64 (f k)) (.int .i64 (g k)))) (fun ii _ => m + 1 - (intOf ii).toNat)
      case atStart => exact ⟨0, by omega, rfl, BQ, TB⟩
      case round =>
        obtain ⟨k, hk, rfl, hB, hT⟩ := hrel
        by_cases hlt : k < m + 1
        · have z0 : wr.cell? ⟨bz, oz + k * 2, none⟩ = some (.int .i64 (f (k + 1))) := by rw [(bcell hB.out).1 _ _ hbz, ← (hLv.out k (by omega)).1]; exact (HCZ.out k hlt).1
          have z1 : wr.cell? ⟨bz, oz + k * 2 + 1, none⟩ = some (.int .i64 (g (k + 1))) := by rw [(bcell hB.out).1 _ _ hbz, ← (hLv.out k (by omega)).2]; exact (HCZ.out k hlt).2
          obtain ⟨v0, v1, v2, v3, v4, v5⟩ := hfg.out k (by omega)
          have HBt := Lib.hid (fun v u W h1 h2 => H2.out (by trivial) k v u W (by omega) h1 h2)
          generalize hF : f (k + 1) = F at *
          generalize hG : g (k + 1) = G at *
          replace hF := Lib.hid hF
          replace hG := Lib.hid hG
          generalize f k = F0 at *
          generalize g k = G0 at *
          have d1 : decide (G < F) = false := decide_eq_false (by omega)
          have d2 : decide (F < F0) = false := decide_eq_false (by omega)
          have d3 : decide (G < G0) = false := decide_eq_false (by omega)
          have lk : (k : Int) < (m : Int) + 1 := by omega
          have hT2 := Lib.hid (hT.out.alloc (.cells #[.int .i64 F, .int .i64 G] 43))
          have hP2 := Lib.hid (Two.new wr (.int .i64 F) (.int .i64 G) 43)
          have hX2 : Hid (Below Ws.heap.size Ws (wr.alloc (.cells #[.int .i64 F, .int .i64 G] 43))) := Lib.hid (bel_trans hB.out (bel_alloc (Below.refl _ _)))
          have hbw : bs < wr.heap.size := hT.out.2.2.2.2
          have n1 : bs ≠ wr.heap.size := by omega
          have n2 : wr.heap.size ≠ bs := by omega
          obtain ⟨t0, t1, t2, t3, _⟩ := hT2.out
          by_cases h8 : k % 8 = 0
          · have d8 : ((k : Int) % 8 == 0) = true := by simp; omega
            go_upto_region 17 with fail
            have NP7 := Lib.hid ((NP.out.below hB.out).below (bel_alloc (o := .cells #[.int .i64 F, .int .i64 G] 43) (Below.refl _ _)))
            have KB7 := Lib.hid ((KB.out.below hB.out).alloc (.cells #[.int .i64 F, .int .i64 G] 43))
            have NH7 := Lib.hid (take_nums NP7.out (k := k + 2) (by omega) (by omega))
            have hX7 := Lib.hid (bel_trans HB.out hX2.out)
            have hp1 : Hid (Two wr.heap.size (wr.alloc (.cells #[.int .i64 F, .int .i64 G] 43)) (.int .i64 F) (.int .i64 G)) := hP2
            obtain ⟨W7, hW7⟩ : ∃ W7, W7 = wr.alloc (.cells #[.int .i64 F, .int .i64 G] 43) := ⟨_, rfl⟩
            obtain ⟨P7, hP7⟩ : ∃ P7, P7 = wr.heap.size := ⟨_, rfl⟩
            rw [← hW7] at NP7 KB7 NH7 hX7 hp1 hX2 hT2 hP2
            rw [← hP7] at hp1 hP2 n1 n2
            obtain ⟨a7, cap7, c0, c1, c2, c3, kv⟩ := KB7.out.val
            rw [hL] at c2 kv
            have hlt7 : w.heap.size < W7.heap.size := by obtain ⟨_, _, hq, _⟩ := KB7.out; exact hq.2.2.2.2.2
            have S0 : Hid (LwS w w.heap.size c a7 LN cap7 (.slice (some ⟨b2, off2, none⟩) (m + 2) cap2) (.slice (some ⟨b2, off2, none⟩) (k + 2) cap2) ls (ls.take (k + 2)) W7) := Lib.hid ⟨hX7.out, ⟨c0, c1, c2, c3, by obtain ⟨_, _, hq, _⟩ := KB7.out; exact hq.2.2.2.2⟩, kv, NP7.out, NH7.out⟩
            clear c0 c1 c2 c3 kv NP7 KB7 NH7 hX7 t0 t1 t2 t3 z0 z1
            replace OW := Lib.hid (fun W (h : LwS w w.heap.size c a7 LN cap7 (.slice (some ⟨b2, off2, none⟩) (m + 2) cap2) (.slice (some ⟨b2, off2, none⟩) (k + 2) cap2) ls (ls.take (k + 2)) W) => OW.out _ W h.2.2.1)
            have CH := Lib.hid (fun W (h : LwS w w.heap.size c a7 LN cap7 (.slice (some ⟨b2, off2, none⟩) (m + 2) cap2) (.slice (some ⟨b2, off2, none⟩) (k + 2) cap2) ls (ls.take (k + 2)) W) => clone_nums _ _ W h.2.2.2.2 (by rw [List.length_take]; omega))
            have l1 : IntKind.i64.wrap ((k : Int) + 2) = (k : Int) + 2 := wrap_in _ ⟨by omega, by omega⟩
            have l2 : ((k : Int) + 2).toNat = k + 2 := by omega
            have l3 : (k : Int) + 2 ≤ (cap2 : Int) := by have := hcp.out; omega
            have l4 : 0 ≤ (k : Int) + 2 := by omega
            obtain ⟨p0, p1, p2, p3, _⟩ := hp1.out
            obtain ⟨c0, c1, c2, c3, c4, c5⟩ := S0.out.cells
            rw [← hW7, ← hP7]
            clear hW7 hP7
            have HBw := Lib.hid (fun W u h (hs' : LwS w w.heap.size c a7 LN cap7 (.slice (some ⟨b2, off2, none⟩) (m + 2) cap2) (.slice (some ⟨b2, off2, none⟩) (k + 2) cap2) ls (ls.take (k + 2)) W) (hu : CkV W u c) (hh : Nums W h (ls.take (k + 2))) => HBt.out u h W hu hh)
            clear H2 HBt CW hB hT hcp
            go_cut [10, 11] from 78 (fun s t wx => ∃ p : Nat, s = .pointer (some ⟨p, 0, none⟩) ∧ t = .int .i64 0 ∧ Hid (Below W7.heap.size W7 wx) ∧ Hid (Two p wx (.int .i64 (F * 333 / 318)) (.int .i64 ((G * 355 + 338) / 339))))
            case first =>
              go_region_held3 (fun w' => w'.cell? ⟨w.heap.size, 0, none⟩ = some (.string c.nm) ∧ w'.cell? ⟨w.heap.size, 1, none⟩ = some (.int .i64 c.ps) ∧ w'.cell? ⟨w.heap.size, 2, none⟩ = some (.slice a7 LN cap7) ∧ w'.cell? ⟨w.heap.size, 3, none⟩ = some (.int .i64 c.dc)) (go_keep) (first
                  | (go_at_call 15; (with_reducible refine (OW.out _ (S0.out.below (bel_drew _))).mono ?_); rintro e w4 ⟨uu, rfl, ho, gg⟩; have BX := Lib.hid (bel_trans (bel_drew W7) gg); obtain ⟨q0, q1, q2, q3, q4, q5⟩ := (S0.out.below BX.out).cells; (try (replace P1 := Lib.hid (P1.out.below gg))); (try (obtain ⟨p0, p1, p2, p3, _⟩ := P1.out)); have NPo := Lib.hid ho; clear ho; clear gg)
                  | (go_at_call 15; (with_reducible refine (OW.out _ (S0.out.below (bel_alloc (bel_drew _)))).mono ?_); rintro e w4 ⟨uu, rfl, ho, gg⟩; have BX := Lib.hid (bel_trans (bel_alloc (bel_drew (W7.alloc (.cells #[.int .i64 0, .int .i64 0] 43)))) gg); obtain ⟨q0, q1, q2, q3, q4, q5⟩ := (S0.out.below BX.out).cells; have P1 := Lib.hid ((Two.new W7 (.int .i64 0) (.int .i64 0) 43).below (bel_trans (bel_drew _) gg)); (try (obtain ⟨p0, p1, p2, p3, _⟩ := P1.out)); have NPo := Lib.hid ho; clear ho; clear gg)
                  | (go_at_call 16; (with_reducible refine (CH.out _ (S0.out.below BX.out)).mono ?_); rintro e w4' ⟨uc, rfl, ho, gg⟩; have BX := Lib.hid (bel_trans BX.out gg); obtain ⟨q0, q1, q2, q3, q4, q5⟩ := (S0.out.below BX.out).cells; (try (replace P1 := Lib.hid (P1.out.below gg))); (try (obtain ⟨p0, p1, p2, p3, _⟩ := P1.out)); replace NPo := Lib.hid (NPo.out.below gg); have NHo := Lib.hid ho; clear ho; clear gg)
                  | (go_at_call 16; (with_reducible refine (CH.out _ (S0.out.below (bel_al2 BX.out _))).mono ?_); rintro e w4' ⟨uc, rfl, ho, gg⟩; have PS := Lib.hid BX.out.size; have BX := Lib.hid (bel_trans (bel_al2 BX.out _) gg); obtain ⟨q0, q1, q2, q3, q4, q5⟩ := (S0.out.below BX.out).cells; have P1 := Lib.hid ((Two.new _ (.int .i64 0) (.int .i64 0) 43).below gg); (try (obtain ⟨p0, p1, p2, p3, _⟩ := P1.out)); replace NPo := Lib.hid (NPo.out.below (bel_alloc gg)); have NHo := Lib.hid ho; clear ho; clear gg)
                  | (go_at_call 19; (with_reducible refine (HBw.out _ _ _ (S0.out.below BX.out) NPo.out NHo.out).mono ?_); rintro e w6' ⟨rfl, gg⟩; have BX := Lib.hid (bel_trans BX.out gg); obtain ⟨q0, q1, q2, q3, q4, q5⟩ := (S0.out.below BX.out).cells; (try (replace P1 := Lib.hid (P1.out.below gg))); (try (obtain ⟨p0, p1, p2, p3, _⟩ := P1.out)); clear gg)
                  | (go_at_call 19; (with_reducible refine (HBw.out _ _ _ (S0.out.below (bel_al2 BX.out _)) (NPo.out.alloc _) (NHo.out.below (bel_alloc (Below.refl _ _)))).mono ?_); rintro e w6' ⟨rfl, gg⟩; have PS := Lib.hid BX.out.size; have BX := Lib.hid (bel_trans (bel_al2 BX.out _) gg); obtain ⟨q0, q1, q2, q3, q4, q5⟩ := (S0.out.below BX.out).cells; have P1 := Lib.hid ((Two.new _ (.int .i64 0) (.int .i64 0) 43).below gg); (try (obtain ⟨p0, p1, p2, p3, _⟩ := P1.out)); clear gg))
              all_goals go_wp2_with fail
              all_goals go_meet
              all_goals first
                | exact ⟨_, rfl, rfl, Lib.hid (bel_al2 BX.out _), Lib.hid (Two.new _ _ _ _)⟩
                | exact ⟨_, rfl, rfl, Lib.hid ((BX.out.setCell (p := ⟨W7.heap.size, 0, none⟩) (Nat.le_refl _) _).setCell (p := ⟨W7.heap.size, 1, none⟩) (Nat.le_refl _) _), Lib.hid ((P1.out.set0 _).set1 _)⟩
                | exact ⟨_, rfl, rfl, Lib.hid ((BX.out.setCell (p := ⟨_, 0, none⟩) PS.out _).setCell (p := ⟨_, 1, none⟩) PS.out _), Lib.hid ((P1.out.set0 _).set1 _)⟩
            case rest =>
              obtain ⟨p, rfl, rfl, hBx, hTx⟩ := hcut
              clear c0 c1 c2 c3 c4 c5 p0 p1 p2 p3
              have hT3 := Lib.hid (hT2.out.below hBx.out)
              have hP3 := Lib.hid (hp1.out.below hBx.out)
              have hX3 := Lib.hid (bel_trans hX2.out hBx.out)
              have n3 : bs ≠ P7 := n1
              have n4 : P7 ≠ bs := n2
              obtain ⟨t0, t1, t2, t3, _⟩ := hT3.out
              obtain ⟨p0, p1, p2, p3, _⟩ := hP3.out
              obtain ⟨x0, x1, x2, x3, _⟩ := hTx.out
              generalize hyL : F * 333 / 318 = yL at *
              generalize hyH : (G * 355 + 338) / 339 = yH at *
              have m0 : decide (yH < yL) = false := decide_eq_false (by omega)
              have m1 : IntKind.i64.wrap (318 * yL) = 318 * yL := wrap_in _ ⟨by omega, by omega⟩
              have m2 : IntKind.i64.wrap (333 * F) = 333 * F := wrap_in _ ⟨by omega, by omega⟩
              have m3 : decide (333 * F < 318 * yL) = false := decide_eq_false (by omega)
              have m4 : IntKind.i64.wrap (339 * yH) = 339 * yH := wrap_in _ ⟨by omega, by omega⟩
              have m5 : IntKind.i64.wrap (355 * G) = 355 * G := wrap_in _ ⟨by omega, by omega⟩
              have m6 : decide (339 * yH < 355 * G) = false := decide_eq_false (by omega)
              have hbs1 : Ws.heap.size ≤ bs := Nat.le_of_eq hbs.out.symm
              clear hyL hyH
              go_wp2
              go_roundw
              case rel => exact ⟨k + 1, by omega, by go_num, Lib.hid ((hX3.out.setCell (p := ⟨bs, 0, none⟩) hbs1 _).setCell (p := ⟨bs, 1, none⟩) hbs1 _), Lib.hid (by rw [hF.out, hG.out]; exact (hT3.out.set0 _).set1 _)⟩
              case measure => simp [intOf]; omega
          · have d8 : ((k : Int) % 8 == 0) = false := by simp; omega
            have hbs1 : Ws.heap.size ≤ bs := Nat.le_of_eq hbs.out.symm
            obtain ⟨s0, s1, s2, s3, _⟩ := hT.out
            go_wp2
            go_roundw
            case rel => exact ⟨k + 1, by omega, by go_num, Lib.hid (bel_al2 ((hB.out.setCell (p := ⟨bs, 0, none⟩) hbs1 _).setCell (p := ⟨bs, 1, none⟩) hbs1 _) _), Lib.hid (by rw [hF.out, hG.out]; exact ((hT.out.set0 _).set1 _).alloc _)⟩
            case measure => simp [intOf]; omega
        · obtain rfl : k = m + 1 := by omega
          go_wp2
          go_returns
          exact ⟨rfl, bel_trans HB.out hB.out⟩
theorem walk (z : Value) (c : Ck) (u : Value) (ls : List Int) (w : World) (hv : CkV w z c) (hu : Nums w u ls) (hz : ∀ z ∈ ls, (Lit.int .i64 z).wf = true) :
    Calls Try.prog 4 #[z, u] w fun e w' => e = .returned (.bool true) ∧ Below w.heap.size w w' := by
  obtain ⟨a, cap, rfl, hp, hw⟩ := hv
  have KB := Lib.hid (CkB.new hp hw)
  have hu' := hu
  obtain ⟨a2, cap2, rfl, hc2, _⟩ := hu'
  refine core (stE c ls) a _ cap c a2 _ cap2 ls (smL c ls) (enL c.pf ls) (enH c.pf ls) w (fewC c && decide (ls.length ≤ 129)) KB (Lib.hid (hu.below (bel_alloc (Below.refl _ _)))) rfl (Lib.hid fun h => ?_) (Lib.hid fun h => ?_) (Lib.hid hc2) ?_ (Lib.hid fun v u W h1 h2 => fewE_any v u c ls W h1 h2) (Lib.hid fun v u W h1 h2 => stSm_any v u c ls W h1 h2) (Lib.hid fun h k v u W hk hv hu => ?_)
  · rw [Bool.and_eq_true] at h
    have := fewC_pf h.1
    omega
  · rw [Bool.and_eq_true, decide_eq_true_eq] at h
    omega
  · by_cases e : stE c ls = 0
    · right
      obtain ⟨⟨h1, _⟩, hL⟩ := stE_zero.1 e
      obtain ⟨_, _, _, hR⟩ := ccE_pf h1
      have n0 := hL.n0
      have eL : smL c ls = smS c.pf ls (ls.length - 1) := by unfold smL; rw [if_pos e]
      rw [eL]
      refine ⟨e, n0, Lib.hid (by rw [smS_len]; omega), Lib.hid ⟨rfl, rfl⟩, Lib.hid fun i hi => smS_at (by omega), Lib.hid fun i hi => ?_⟩
      have a0 := en_top hR hL i (by omega)
      have a1 := en_top hR hL (i + 1) hi
      have a2 := en_grows hR hL i hi
      omega
    · left
      exact ⟨by simpa using e, by simpa using e, by unfold smL; rw [if_neg e]⟩
  · obtain ⟨⟨h1, h2⟩, hL⟩ := stE_zero.1 h
    obtain ⟨_, _, _, hR⟩ := ccE_pf h1
    obtain ⟨hT, hl, hat⟩ := hL.take (k := k + 2) (by omega) (by omega)
    have e0 : stE c (ls.take (k + 2)) = 0 := stE_zero.2 ⟨⟨h1, h2⟩, hT⟩
    have := stBw_any v u c (ls.take (k + 2)) W hv hu
    have es := en_same (l := c.pf) (ls := ls) (ms := ls.take (k + 2)) (k + 1) (fun i hi => hat i (by omega))
    have e1 : bwL c (ls.take (k + 2)) = enL c.pf ls (k + 1) * 333 / 318 := by unfold bwL; rw [if_pos e0, hl, show k + 2 - 1 = k + 1 by omega, es.1]
    have e2 : bwH c (ls.take (k + 2)) = (enH c.pf ls (k + 1) * 355 + 338) / 339 := by unfold bwH; rw [if_pos e0, hl, show k + 2 - 1 = k + 1 by omega, es.2]
    rwa [e0, e1, e2] at this

set_option maxRecDepth 100000 in
theorem lifted (os : Os) (started : os.Started) (H : Type) (enc : TypeId × Value → H) :
    ReturnsInHanded {} Try.checked os 4 .any (Rows.standingRisesSpec.pre6 enc Try.prog Try.f4 Rows.standingRisesRow.domain false) (Rows.standingRisesSpec.post enc Try.prog Try.f4 false true false false) := by
  refine returnsInHanded_of_change (C := Try.checked) own started (by kernel_rfl) Try.func4
    (ChangeSpec.witness6 (enc := enc) (C := Try.checked) false ⟨#[], #[.agg #[.string ByteArray.empty, .int .i64 0, .slice none 0 0, .int .i64 0], .slice none 0 0], []⟩ 8 (by kernel_rfl) (by kernel_rfl) (by kernel_rfl) (by kernel_rfl)) ?_
  intro W base args ds gs before hval0 hW hcnd _
  have hval : ∀ (j : Nat) t v, Try.f4.params[j]? = some t → args[j]? = some v → Value.okWide Try.prog W .any base t v := hval0
  clear hval0
  have hW' := hW
  obtain ⟨p, q, hA0, hV, rfl, hfz, hnd⟩ := hW
  have hA : DataW.TrodAll enc Try.prog W 0 (fun _ => true) true Try.f4.params.toList args.toList ds p := hA0
  rw [Try.params4] at hA hval
  obtain ⟨v0, vs0, d0, ds0, p0, q0, hargs, rfl, rfl, h0, r0⟩ := trodAll_cons hA
  obtain ⟨v1, vs1, d1, ds1, p1, q1, rfl, rfl, rfl, h1, r1⟩ := trodAll_cons r0
  obtain ⟨rfl, rfl, rfl⟩ := trodAll_nil r1
  obtain rfl : args = #[v0, v1] := by cases args; simp_all
  obtain ⟨rfl, rfl⟩ := trodVars_none hV
  have k0 := h0
  have lt0 : ∀ x ∈ p0, x.block < W.heap.size := by obtain ⟨m, hm⟩ := k0; exact DataW.trod_lt m _ _ _ hm
  have k1 := h1
  have lt1 : ∀ x ∈ p1, x.block < W.heap.size := by obtain ⟨m, hm⟩ := k1; exact DataW.trod_lt m _ _ _ hm
  obtain ⟨z0, w0⟩ := open_ck (hval 0 24 v0 rfl rfl) h0
  obtain ⟨z1, w1, b1⟩ := open_intSlice Try.underlying25 Try.underlying3 (by kernel_rfl) (hval 1 25 v1 rfl rfl) h1
  clear hA0
  refine (walk v0 z0 v1 z1 W w0 w1 b1).mono fun e W' ⟨he, bel⟩ => ?_
  subst he
  exact ⟨_, rfl, _, _, _, [], _, [], hW', trodAll_mk1 (shut_bool Try.underlying4 _), (trodAll_cons_mk (Below.trod laidOut (by kernel_rfl) (of_decide_eq_true (by kernel_rfl)) k0 bel lt0) (trodAll_cons_mk (Below.trod laidOut (by kernel_rfl) (of_decide_eq_true (by kernel_rfl)) k1 bel lt1) trodAll_mk0)), rfl, bel.frame _, fun h => by cases h⟩

theorem over : Rows.standingRisesRow.holds Try.pinned (OpenSpec.ofChange Rows.standingRisesSpec) :=
  OpenClaim.holds_of_wide 4 Try.f4 rfl rfl rfl rfl rfl rfl rfl ⟨rfl, rfl, rfl, rfl, rfl⟩ rfl rfl rfl rfl rfl (by kernel_rfl) Try.func4 (by kernel_rfl)
    (of_decide_eq_true (by kernel_rfl)) (by unfold Func.isWrapper; first | (rw [if_pos (by decide +kernel)]; kernel_rfl) | (rw [if_neg (by decide +kernel)]; exact ⟨rfl, rfl⟩))
    (fun os started H enc _ => lifted os started H enc)

theorem proved : Rows.StandingRisesSaid := over
#print axioms proved
end Go.Proofs.Ytmdpdpbkbakidaa.standingRises

