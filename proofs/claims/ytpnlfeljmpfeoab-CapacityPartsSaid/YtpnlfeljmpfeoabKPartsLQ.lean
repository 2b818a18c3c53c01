/-
  The statement CapacityParts of spile/spilelaw10 holds: for every input the call returns true, and each argument reads afterwards as it read before.
-/
import Derived.Test.YtpnlfeljmpfeoabM3
import Derived.Below
import Derived.Carry
set_option linter.unusedVariables false
set_option linter.unusedSimpArgs false
namespace Go.Proofs.Ytpnlfeljmpfeoab.capacityParts
open Go.ChangeShapes Go.WideShapes Go.ChangeAt Go.RowKit
open Go.ChangeMaps (open_string shut_string)
set_option linter.unusedVariables false

set_option maxHeartbeats 4000000 in
theorem long (y : Int) (a : Option Addr) (n cap : Nat) (w : World)
    (FW : Hid (∀ W, Below w.heap.size w W → Calls Try.prog 11 #[.slice a n cap] W fun e w' => e = .returned (.bool false) ∧ w' = W)) :
    Calls Try.prog 8 #[.slice a n cap, .int .u8 y] w fun e w' => e = .returned (.bool true) ∧ Below w.heap.size w w' := by
  have HA := Lib.hid (fun W => awake_any W)
  have HB := Lib.hid (Below.refl w.heap.size w)
  go_enter Try.func8, Try.ntmps8
  go_wp2_with fail
  refine (HA.out _).mono ?_
  rintro e w2 ⟨rfl, h1⟩
  replace HB := Lib.hid (bel_trans HB.out h1); clear h1
  go_wp2_with fail
  refine (FW.out _ HB.out).mono ?_
  rintro e w90 ⟨rfl, hw⟩
  subst hw
  go_wp2
  go_returns
  exact ⟨rfl, HB.out⟩
set_option maxHeartbeats 8000000 in
theorem bad (y E S : Int) (a : Option Addr) (n cap : Nat) (l : List (Int × Int)) (w : World) (hz : Hid (l.length ≤ 1000)) (NV : Hid (Pts w (.slice a n cap) l)) (hq : ((E == 0) = false ∧ (E != 0) = true ∧ S = 0) ∨ (E = 0 ∧ n < 3))
    (FW : Hid (∀ W, Below w.heap.size w W → Calls Try.prog 11 #[.slice a n cap] W fun e w' => e = .returned (.bool true) ∧ w' = W))
    (H1 : Hid (∀ v W, Pts W v l → Calls Try.prog 12 #[v] W fun e w' => e = .returned (.tuple #[.int .i64 S, .int .i64 E]) ∧ Below W.heap.size W w')) :
    Calls Try.prog 8 #[.slice a n cap, .int .u8 y] w fun e w' => e = .returned (.bool true) ∧ Below w.heap.size w w' := by
  have HA := Lib.hid (fun W => awake_any W)
  have HB := Lib.hid (Below.refl w.heap.size w)
  go_enter Try.func8, Try.ntmps8
  go_wp2_with fail
  refine (HA.out _).mono ?_
  rintro e w5 ⟨rfl, h1⟩
  replace NV := Lib.hid (NV.out.below h1)
  replace HB := Lib.hid (bel_trans HB.out h1); clear h1
  go_wp2_with fail
  refine (FW.out _ HB.out).mono ?_
  rintro e w90 ⟨rfl, hw⟩
  subst hw
  clear FW
  go_wp2_with fail
  refine (clone_p _ l _ NV.out hz.out).mono ?_
  rintro e w6 ⟨V1, rfl, hx, h1⟩
  replace NV := Lib.hid (NV.out.below h1)
  replace HB := Lib.hid (bel_trans HB.out h1); clear h1
  have N1 := Lib.hid hx; clear hx
  go_wp2_with fail
  refine (H1.out _ _ N1.out).mono ?_
  rintro e w7 ⟨rfl, h1⟩
  replace NV := Lib.hid (NV.out.below h1)
  replace N1 := Lib.hid (N1.out.below h1)
  replace HB := Lib.hid (bel_trans HB.out h1); clear h1
  rcases hq with ⟨e1, e2, rfl⟩ | ⟨rfl, hn⟩
  · go_wp2
    go_returns
    exact ⟨rfl, HB.out⟩
  · have d1 : decide ((n : Int) < 3) = true := decide_eq_true (by omega)
    go_wp2
    go_returns
    exact ⟨rfl, HB.out⟩
set_option maxHeartbeats 16000000 in
set_option maxRecDepth 100000 in
theorem good (y x A B : Int) (b off n c cap : Nat) (l : List (Int × Int)) (w : World) (n0 : 3 ≤ n) (n1 : n ≤ 32) (hn : Hid (n = l.length)) (y0 : 0 ≤ y ∧ y ≤ 255) (hk : 1 + y % ((n : Int) - 2) = c) (c0 : 1 ≤ c) (c1 : c + 1 < n) (hx : Hid (gX l c = x)) (bx : Hid (∀ j, j < l.length → 0 ≤ gX l j ∧ gX l j ≤ 100000)) (hA : 0 ≤ A ∧ A ≤ 3000000000000000) (hB : 0 ≤ B ∧ B ≤ 3000000000000000) (NV : Hid (Pts w (.slice (some ⟨b, off, none⟩) n cap) l)) (hcap : n ≤ cap ∧ cap ≤ 9223372036854775807)
    (FW : Hid (∀ W, Below w.heap.size w W → Calls Try.prog 11 #[.slice (some ⟨b, off, none⟩) n cap] W fun e w' => e = .returned (.bool true) ∧ w' = W))
    (H1 : Hid (∀ v W, Pts W v l → Calls Try.prog 12 #[v] W fun e w' => e = .returned (.tuple #[.int .i64 (A + B), .int .i64 0]) ∧ Below W.heap.size W w'))
    (H2 : Hid (∀ v W, Pts W v (hdL l c) → Calls Try.prog 12 #[v] W fun e w' => e = .returned (.tuple #[.int .i64 A, .int .i64 0]) ∧ Below W.heap.size W w'))
    (H3 : Hid (∀ v W, Pts W v (tlL l c) → Calls Try.prog 12 #[v] W fun e w' => e = .returned (.tuple #[.int .i64 B, .int .i64 0]) ∧ Below W.heap.size W w')) :
    Calls Try.prog 8 #[.slice (some ⟨b, off, none⟩) n cap, .int .u8 y] w fun e w' => e = .returned (.bool true) ∧ Below w.heap.size w w' := by
  have HA := Lib.hid (fun W => awake_any W)
  have d1 : decide ((n : Int) < 3) = false := decide_eq_false (by omega)
  have w1 : IntKind.i64.wrap ((n : Int) - 2) = (n : Int) - 2 := wrap_in _ ⟨by omega, by omega⟩
  have w2 : IntKind.i64.wrap (y % ((n : Int) - 2)) = y % ((n : Int) - 2) := wrap_in _ ⟨by have := Int.emod_nonneg y (show (n : Int) - 2 ≠ 0 by omega); omega, by have := Int.emod_lt_of_pos y (show 0 < (n : Int) - 2 by omega); omega⟩
  have w3 : IntKind.i64.wrap (1 + y % ((n : Int) - 2)) = (c : Int) := by rw [hk]; exact wrap_in _ ⟨by omega, by omega⟩
  have w4 : IntKind.i64.wrap y = y := wrap_in _ ⟨by omega, by omega⟩
  have w5 : IntKind.i64.wrap ((c : Int) + 1) = (c : Int) + 1 := wrap_in _ ⟨by omega, by omega⟩
  have w6 : IntKind.i64.wrap (A + B) = A + B := wrap_in _ ⟨by omega, by omega⟩
  have z1 : ((n : Int) - 2 == 0) = false := by rw [beq_eq_false_iff_ne]; omega
  have z2 : (n : Int) - 2 ≠ 0 := by omega
  have tm : y.tmod ((n : Int) - 2) = y % ((n : Int) - 2) := Int.tmod_eq_emod_of_nonneg y0.1
  have HB := Lib.hid (Below.refl w.heap.size w)
  go_enter Try.func8, Try.ntmps8
  go_wp2_with fail
  refine (HA.out _).mono ?_
  rintro e w10 ⟨rfl, h1⟩
  replace NV := Lib.hid (NV.out.below h1)
  replace HB := Lib.hid (bel_trans HB.out h1); clear h1
  go_wp2_with fail
  refine (FW.out _ HB.out).mono ?_
  rintro e w90 ⟨rfl, hw⟩
  subst hw
  clear FW
  go_wp2_with fail
  refine (clone_p _ l _ NV.out (by have := hn.out; omega)).mono ?_
  rintro e w11 ⟨V1, rfl, hx, h1⟩
  replace NV := Lib.hid (NV.out.below h1)
  replace HB := Lib.hid (bel_trans HB.out h1); clear h1
  have N1 := Lib.hid hx; clear hx
  go_wp2_with fail
  refine (H1.out _ _ N1.out).mono ?_
  rintro e w12 ⟨rfl, h1⟩
  replace NV := Lib.hid (NV.out.below h1)
  replace N1 := Lib.hid (N1.out.below h1)
  replace HB := Lib.hid (bel_trans HB.out h1); clear h1
  clear N1
  have LN : (l.drop c).length = n - c := by rw [List.length_drop, hn.out]
  have P1 := Lib.hid (NV.out.from (k := c) (by omega))
  have CW : Hid (∀ W, Below (w12).heap.size (w12) W → Calls Try.prog 13 #[.slice (some ⟨b, off + c * 2, none⟩) (n - c) (cap - c)] W fun e w' => ∃ g cap, e = .returned (.slice (some ⟨g, 0, none⟩) (n - c) cap) ∧ (n - c ≤ cap ∧ cap ≤ 9223372036854775807) ∧ W.heap.size ≤ g ∧ g < w'.heap.size ∧ CC w' g (n - c) (gX (l.drop c)) (gR (l.drop c)) ∧ Below W.heap.size W w') := fun W hW => by
    have := clone_w _ (l.drop c) W (P1.out.below hW) (by omega) (by omega)
    rwa [LN] at this
  obtain ⟨bb, oo, ee, hbb, _⟩ := NV.out.at (by omega)
  simp only [Option.some.injEq, Addr.mk.injEq] at ee
  obtain ⟨rfl, rfl, _⟩ := ee
  go_wp2_with fail
  have HB0 : Hid (w.heap.size ≤ (w12).heap.size) := Lib.hid HB.out.size
  refine (CW.out _ (Below.refl _ _)).mono ?_
  rintro e w20 ⟨g, cp, rfl, hcp, hgb, hgl, hC, h1⟩
  replace NV := Lib.hid (NV.out.below h1)
  replace HB := Lib.hid (bel_trans HB.out h1)
  have hbg : b ≠ g := by omega
  have hwg : Hid (w.heap.size ≤ g) := Lib.hid (Nat.le_trans HB0.out hgb)
  have C0 : Hid (CC w20 g (n - c) (fun j => if j < 0 then gX l (c + j) - x else gX l (c + j)) (fun j => gR l (c + j))) := Lib.hid (hC.congr fun j hj => by
    have gx : gX (l.drop c) j = gX l (c + j) ∧ gR (l.drop c) j = gR l (c + j) := by unfold gX gR; simp only [List.getD_eq_getElem?_getD, List.getElem?_drop]; exact ⟨trivial, trivial⟩
    rw [gx.1, gx.2, if_neg (by omega)]
    exact ⟨rfl, rfl⟩)
  clear hC h1 CW P1 LN hgb hbb
  go_wp2_with fail
  go_loopw [9, 51] (fun _ ii wr => ∃ k : Nat, k ≤ n - c ∧ ii = .int .i64 k ∧ Hid (Below w.heap.size w wr) ∧ Hid (Pts wr (.slice (some ⟨b, off, none⟩) n cap) l) ∧ Hid (CC wr g (n - c) (fun j => if j < k then gX l (c + j) - x else gX l (c + j)) (fun j => gR l (c + j))) ∧ g < wr.heap.size) (fun _ ii _ => n - c - (intOf ii).toNat)
  case atStart => exact ⟨0, Nat.zero_le _, rfl, HB, NV, C0, hgl⟩
  case round =>
    obtain ⟨k, hk2, rfl, hB2, hN, hT, hgr⟩ := hrel
    by_cases hlt : k < n - c
    · obtain ⟨⟨e0, e1⟩, f0, f1⟩ := hT.out k hlt
      replace e0 : wr.cell? ⟨g, k * 2, none⟩ = some (.int .i64 (gX l (c + k))) := by simpa using e0
      replace e1 : wr.cell? ⟨g, k * 2 + 1, none⟩ = some (.int .i64 (gR l (c + k))) := e1
      obtain ⟨b', off', ee, _, hcx⟩ := hN.out.at (by omega)
      simp only [Option.some.injEq, Addr.mk.injEq] at ee
      obtain ⟨rfl, rfl, _⟩ := ee
      have cx := (hcx c (by omega)).1
      rw [hx.out] at cx
      have bk := bx.out (c + k) (by have := hn.out; omega)
      have bc := bx.out c (by have := hn.out; omega)
      rw [hx.out] at bc
      have hTd : CC wr.drew g (n - c) _ _ := hT.out
      have T2 := Lib.hid ((hTd.setX hlt (gX l (c + k) - x)).congr (F' := fun j => if j < k + 1 then gX l (c + j) - x else gX l (c + j)) (R' := fun j => gR l (c + j)) (fun j hj => by
        refine ⟨?_, rfl⟩
        by_cases e : j = k
        · subst e; simp
        · rw [if_neg e]
          by_cases e2 : j < k
          · rw [if_pos e2, if_pos (by omega)]
          · rw [if_neg e2, if_neg (by omega)]))
      have N2 := Lib.hid ((hN.out.below (bel_drew wr)).far (g := g) (i := k * 2) (z := .int .i64 (gX l (c + k) - x)) hbg)
      have B2 : Hid (Below w.heap.size w (wr.drew.setCell ⟨g, k * 2, none⟩ (.int .i64 (gX l (c + k) - x)))) := Lib.hid ((bel_trans hB2.out (bel_drew wr)).setCell (p := ⟨g, k * 2, none⟩) hwg.out _)
      have l1 : (k : Int) < ((n - c : Nat) : Int) := by omega
      have l1b : k < n - c := hlt
      have l2 : g < (wr.drew.setCell ⟨g, k * 2, none⟩ (.int .i64 (gX l (c + k) - x))).heap.size := by simpa [World.setCell] using hgr
      have l3 : (c : Int) < (n : Int) := by omega
      have l4 : c < n := by omega
      obtain ⟨z, hz⟩ : ∃ z, gX l (c + k) = z := ⟨_, rfl⟩
      rw [hz] at e0 bk T2 N2 B2 l2
      have ws : IntKind.i64.wrap (z - x) = z - x := wrap_in _ ⟨by omega, by omega⟩
      clear hT hN hTd hcx hB2 bk bc
      go_wp2_with fail
      go_still_tail 11, (by kernel_rfl)
      change wpList _ _ _ _ _ wr.drew
      go_wp2
      go_roundw
      case rel => exact ⟨k + 1, by omega, by go_num, B2, N2, T2, l2⟩
      case measure => simp [intOf]; omega
    · obtain rfl : k = n - c := by omega
      replace HB := hB2
      replace NV := hN
      have ltl : (tlL l c).length = n - c := by rw [tl_len, hn.out]
      have NT : Hid (Pts wr (.slice (some ⟨g, 0, none⟩) (n - c) cp) (tlL l c)) := Lib.hid (hT.out.pts hgr ltl hcp (fun j hj => by
        have := tl_at (l := l) (k := c) (j := j) (by have := hn.out; omega)
        rw [this.1, this.2, if_pos hj, hx.out]
        exact ⟨rfl, rfl⟩))
      have NU := Lib.hid (NV.out.upto (k := c) (by omega))
      have hl2 : Hid ((l.take (c + 1)).length ≤ 1000) := Lib.hid (by rw [List.length_take]; omega)
      clear hN hT hB2 C0
      go_wp2_with fail
      refine (clone_p _ (l.take (c + 1)) _ NU.out hl2.out).mono ?_
      rintro e w30 ⟨V5, rfl, hx5, h1⟩
      replace NT := Lib.hid (NT.out.below h1)
      replace HB := Lib.hid (bel_trans HB.out h1); clear h1
      have N5 := Lib.hid hx5; clear hx5
      go_wp2_with fail
      refine (H2.out _ _ N5.out).mono ?_
      rintro e w31 ⟨rfl, h1⟩
      replace NT := Lib.hid (NT.out.below h1)
      replace HB := Lib.hid (bel_trans HB.out h1); clear h1
      go_wp2_with fail
      refine (H3.out _ _ NT.out).mono ?_
      rintro e w32 ⟨rfl, h1⟩
      replace HB := Lib.hid (bel_trans HB.out h1); clear h1
      go_wp2
      go_returns
      exact ⟨rfl, HB.out⟩
theorem walk (z : Value) (l : List (Int × Int)) (y : Int) (w : World) (hv : Pts w z l) (hy : 0 ≤ y ∧ y ≤ 255) :
    Calls Try.prog 8 #[z, .int .u8 y] w fun e w' => e = .returned (.bool true) ∧ Below w.heap.size w w' := by
  have hv2 := hv
  obtain ⟨a, cap, rfl, _, _⟩ := hv.shape
  by_cases h : l.length ≤ 33
  · have FW : ∀ W, Below w.heap.size w W → Calls Try.prog 11 #[.slice a l.length cap] W fun e w' => e = .returned (.bool true) ∧ w' = W := fun W hW => by
      have := few_any _ l W (hv2.below hW)
      rwa [decide_eq_true h] at this
    by_cases e : ckE l = 0
    · have hR := (ckE_iff l).1 e
      have n0 := hR.n0
      have n1 := hR.n1
      have e1 : fuQ l = frS l := by unfold fuQ; rw [if_pos e]
      by_cases h3 : l.length < 3
      · refine bad y 0 (frS l) a l.length cap l w (Lib.hid (by omega)) hv2 (.inr ⟨rfl, h3⟩) FW (fun v W hp => ?_)
        have := cFru_any v l W hp
        rwa [e1, e] at this
      · obtain ⟨b, off, rfl, _, _⟩ := hv.at (by omega)
        have r0 := Int.emod_nonneg y (show (l.length : Int) - 2 ≠ 0 by omega)
        have r1 := Int.emod_lt_of_pos y (show 0 < (l.length : Int) - 2 by omega)
        obtain ⟨c, hc⟩ : ∃ c : Nat, 1 + y % ((l.length : Int) - 2) = c := ⟨(1 + y % ((l.length : Int) - 2)).toNat, by omega⟩
        have c1 : c + 1 < l.length := by omega
        have c0 : 1 ≤ c := by omega
        have RA := hd_right hR c0 (show c < l.length by omega)
        have RB := tl_right hR c1
        have kA := (ckE_iff _).2 RA
        have kB := (ckE_iff _).2 RB
        have fA : fuQ (hdL l c) = frS (hdL l c) := by unfold fuQ; rw [if_pos kA]
        have fB : fuQ (tlL l c) = frS (tlL l c) := by unfold fuQ; rw [if_pos kB]
        have sm := frS_parts (l := l) (k := c) (by omega)
        obtain ⟨_, _, _, hcp, _⟩ := hv2
        refine good y (gX l c) (frS (hdL l c)) (frS (tlL l c)) b off l.length c cap l w (by omega) n1 (Lib.hid rfl) hy hc c0 c1 (Lib.hid rfl) (Lib.hid hR.bx) (frS_bd RA) (frS_bd RB) hv (by obtain ⟨_, _, e9, h9, _⟩ := hv; simp only [Value.slice.injEq] at e9; omega) FW (fun v W hp => ?_) (fun v W hp => ?_) (fun v W hp => ?_)
        · have := cFru_any v l W hp
          rwa [e1, e, ← sm] at this
        · have := cFru_any v _ W hp
          rwa [fA, kA] at this
        · have := cFru_any v _ W hp
          rwa [fB, kB] at this
    · have e1 : fuQ l = 0 := by unfold fuQ; rw [if_neg e]
      refine bad y (ckE l) 0 a l.length cap l w (Lib.hid (by omega)) hv2 (.inl ⟨by simpa using e, by simpa using e, rfl⟩) FW (fun v W hp => ?_)
      have := cFru_any v l W hp
      rwa [e1] at this
  · refine long y a l.length cap w (Lib.hid fun W hW => ?_)
    have := few_any _ l W (hv2.below hW)
    rwa [decide_eq_false h] at this

set_option maxRecDepth 100000 in
theorem lifted (os : Os) (started : os.Started) (H : Type) (enc : TypeId × Value → H) :
    ReturnsInHanded {} Try.checked os 8 .any (Rows.capacityPartsSpec.pre6 enc Try.prog Try.f8 Rows.capacityPartsRow.domain false) (Rows.capacityPartsSpec.post enc Try.prog Try.f8 false true false false) := by
  refine returnsInHanded_of_change (C := Try.checked) own started (by kernel_rfl) Try.func8
    (ChangeSpec.witness6 (enc := enc) (C := Try.checked) false ⟨#[], #[.slice none 0 0, .int .u8 0], []⟩ 8 (by kernel_rfl) (by kernel_rfl) (by kernel_rfl) (by kernel_rfl)) ?_
  intro W base args ds gs before hval0 hW hcnd _
  have hval : ∀ (j : Nat) t v, Try.f8.params[j]? = some t → args[j]? = some v → Value.okWide Try.prog W .any base t v := hval0
  clear hval0
  have hW' := hW
  obtain ⟨p, q, hA0, hV, rfl, hfz, hnd⟩ := hW
  have hA : DataW.TrodAll enc Try.prog W 0 (fun _ => true) true Try.f8.params.toList args.toList ds p := hA0
  rw [Try.params8] at hA hval
  obtain ⟨v0, vs0, d0, ds0, p0, q0, hargs, rfl, rfl, h0, r0⟩ := trodAll_cons hA
  obtain ⟨v1, vs1, d1, ds1, p1, q1, rfl, rfl, rfl, h1, r1⟩ := trodAll_cons r0
  obtain ⟨rfl, rfl, rfl⟩ := trodAll_nil r1
  obtain rfl : args = #[v0, v1] := by cases args; simp_all
  obtain ⟨rfl, rfl⟩ := trodVars_none hV
  have k0 := h0
  have lt0 : ∀ x ∈ p0, x.block < W.heap.size := by obtain ⟨m, hm⟩ := k0; exact DataW.trod_lt m _ _ _ hm
  have k1 := h1
  have lt1 : ∀ x ∈ p1, x.block < W.heap.size := by obtain ⟨m, hm⟩ := k1; exact DataW.trod_lt m _ _ _ hm
  obtain ⟨z0, w0⟩ := open_pts (hval 0 22 v0 rfl rfl) h0
  obtain ⟨a1, rfl, rfl, rfl, w1⟩ := open_int Try.underlying5 (hval 1 5 v1 rfl rfl) h1
  clear hA0
  refine (walk v0 z0 a1 W w0 (wf_u8 w1)).mono fun e W' ⟨he, bel⟩ => ?_
  subst he
  exact ⟨_, rfl, _, _, _, [], _, [], hW', trodAll_mk1 (shut_bool Try.underlying4 _), (trodAll_cons_mk (Below.trod laidOut (by kernel_rfl) (of_decide_eq_true (by kernel_rfl)) k0 bel lt0) (trodAll_cons_mk (Below.trod laidOut (by kernel_rfl) (of_decide_eq_true (by kernel_rfl)) k1 bel lt1) trodAll_mk0)), rfl, bel.frame _, fun h => by cases h⟩

theorem over : Rows.capacityPartsRow.holds Try.pinned (OpenSpec.ofChange Rows.capacityPartsSpec) :=
  OpenClaim.holds_of_wide 8 Try.f8 rfl rfl rfl rfl rfl rfl rfl ⟨rfl, rfl, rfl, rfl, rfl⟩ rfl rfl rfl rfl rfl (by kernel_rfl) Try.func8 (by kernel_rfl)
    (of_decide_eq_true (by kernel_rfl)) (by unfold Func.isWrapper; first | (rw [if_pos (by decide +kernel)]; kernel_rfl) | (rw [if_neg (by decide +kernel)]; exact ⟨rfl, rfl⟩))
    (fun os started H enc _ => lifted os started H enc)

theorem proved : Rows.CapacityPartsSaid := over
#print axioms proved
end Go.Proofs.Ytpnlfeljmpfeoab.capacityParts
