/-
  The statement CaskChecks of spile/spilelaw09 holds: for every input the call returns true, and each argument reads afterwards as it read before. (The listed package variables hold what the program lays: the card ties them.)
-/
import Derived.Test.YtpnlfeljmpfeoaaGreatDoorM4
import Derived.Deep.RegionHeld3
import Derived.Test.YtpnlfeljmpfeoaaGreatDoorCards
import Derived.Test.YtpnlfeljmpfeoaaGreatDoorTie
import Derived.Below
import Derived.Carry
import Derived.Lib.LaidTab
import Derived.Deep.DeepHandedRow
import Derived.SevenTiedPlain
import Derived.Lay
set_option linter.unusedVariables false
set_option linter.unusedSimpArgs false

namespace Go.Proofs.YtpnlfeljmpfeoaaGreatDoor.caskChecks
open Go.ChangeShapes Go.WideShapes Go.ChangeAt Go.RowKit
open Go.ChangeMaps (open_string shut_string)
set_option linter.unusedVariables false

/-- a cask's cells in a box, and what lies below -/
def BxS (w : World) (x : Nat) (u : Value) (l : List Ck) (c : Ck) (a : Option Addr) (cap : Nat) (W : World) : Prop :=
  Below w.heap.size w W ∧ Cks W u l ∧ CkV W (.agg #[.string c.nm, .int .i64 c.ps, .slice a c.pf.length cap, .int .i64 c.dc]) c ∧
  (W.cell? ⟨x, 0, none⟩ = some (.string c.nm) ∧ W.cell? ⟨x, 1, none⟩ = some (.int .i64 c.ps) ∧ W.cell? ⟨x, 2, none⟩ = some (.slice a c.pf.length cap) ∧ W.cell? ⟨x, 3, none⟩ = some (.int .i64 c.dc))
theorem BxS.below {w : World} {x : Nat} {u : Value} {l : List Ck} {c : Ck} {a : Option Addr} {cap : Nat} {W W' : World} (h : BxS w x u l c a cap W) (hb : Below W.heap.size W W') : BxS w x u l c a cap W' := by
  obtain ⟨h1, h2, h3, h4, h5, h6, h7⟩ := h
  exact ⟨bel_trans h1 hb, h2.below hb, h3.below hb, cell_bel h4 hb, cell_bel h5 hb, cell_bel h6 hb, cell_bel h7 hb⟩
set_option maxRecDepth 100000 in
set_option maxHeartbeats 16000000 in
theorem core (a : Option Addr) (n cap : Nat) (nm : ByteArray) (B1 : Bool) (E F : Int) (c : Ck) (l : List Ck) (w : World)
    (hn : Hid (n = l.length)) (hB : Hid (B1 = true → n ≤ 33)) (hnm : nm.size ≤ 70)
    (HV : Hid (Cks w (.slice a n cap) l))
    (HA : Hid (Calls Tryz.prog 10 #[] w fun e w' => e = .returned (.bool true) ∧ Below w.heap.size w w'))
    (HF : Hid (∀ W, Below w.heap.size w W → Calls Tryz.prog 11 #[.slice a n cap] W fun e w' => e = .returned (.bool B1) ∧ w' = W))
    (HC : Hid (B1 = true → ∀ W, Below w.heap.size w W → Calls Tryz.prog 13 #[.slice a n cap] W fun e w' => ∃ u, e = .returned u ∧ Cks w' u l ∧ Below W.heap.size W w'))
    (H1 : Hid (∀ v W, Cks W v l → Calls Tryz.prog 12 #[v, .string nm] W fun e w' => ∃ a cap, e = .returned (.tuple #[.agg #[.string c.nm, .int .i64 c.ps, .slice a c.pf.length cap, .int .i64 c.dc], .int .i64 F]) ∧ CkV w' (.agg #[.string c.nm, .int .i64 c.ps, .slice a c.pf.length cap, .int .i64 c.dc]) c ∧ Below W.heap.size W w'))
    (H2 : Hid (∀ v W, Cks W v l → Calls Tryz.prog 14 #[v, .string nm] W fun e w' => ∃ a cap, e = .returned (.tuple #[.agg #[.string c.nm, .int .i64 c.ps, .slice a c.pf.length cap, .int .i64 c.dc], .int .i64 F]) ∧ CkV w' (.agg #[.string c.nm, .int .i64 c.ps, .slice a c.pf.length cap, .int .i64 c.dc]) c ∧ Below W.heap.size W w'))
    (H3 : Hid (∀ v u W, CkV W v c → CkV W u c → Calls Tryz.prog 15 #[v, u] W fun e w' => e = .returned (.bool true) ∧ Below W.heap.size W w'))
    (H4 : Hid (∀ v W, Cks W v l → Calls Tryz.prog 16 #[v] W fun e w' => e = .returned (.int .i64 E) ∧ Below W.heap.size W w'))
    (H5 : Hid (∀ v W, Cks W v l → Calls Tryz.prog 17 #[v] W fun e w' => e = .returned (.int .i64 E) ∧ Below W.heap.size W w'))
    (H6 : Hid (∀ d v W, CkV W v d → Calls Tryz.prog 18 #[v] W fun e w' => e = .returned (.tuple #[.int .i64 (deQ d), .int .i64 (ccE d)]) ∧ Below W.heap.size W w'))
    (H7 : Hid (∀ d v W, CkV W v d → Calls Tryz.prog 19 #[v] W fun e w' => e = .returned (.tuple #[.int .i64 (deQ d), .int .i64 (ccE d)]) ∧ Below W.heap.size W w'))
    (H8 : Hid (∀ d v W, CkV W v d → Calls Tryz.prog 20 #[v] W fun e w' => e = .returned (.int .i64 (ccE d)) ∧ Below W.heap.size W w'))
    (H9 : Hid (∀ d v W, CkV W v d → Calls Tryz.prog 21 #[v] W fun e w' => e = .returned (.int .i64 (ccE d)) ∧ Below W.heap.size W w')) :
    Calls Tryz.prog 3 #[.slice a n cap, .string nm] w fun e w' => e = .returned (.bool true) ∧ Below w.heap.size w w' := by
  have e2 : ((E != E) = false) := by simp
  have e3 : ((F != F) = false) := by simp
  have e5 : ¬ (70 : Int) < (nm.size : Int) := by omega
  go_enter Tryz.func3, Tryz.ntmps3
  go_wp2_with fail
  refine HA.out.mono ?_
  rintro e w1 ⟨rfl, gg⟩
  have X := Lib.hid gg; clear gg HA
  go_wp2_with fail
  refine (HF.out _ X.out).mono ?_
  rintro e w2 ⟨rfl, hw⟩
  subst hw
  clear HF
  cases B1 with
  | false =>
    go_wp2
    go_returns
    exact ⟨rfl, X.out⟩
  | true =>
    have K0 := Lib.hid (fun W => HC.out rfl W)
    replace hB := Lib.hid (hB.out rfl)
    clear HC
    go_wp2_with fail
    refine (K0.out _ X.out).mono ?_
    rintro e w3 ⟨u, rfl, hu, gg⟩
    replace X := Lib.hid (bel_trans X.out gg); clear gg
    have C1 := Lib.hid hu
    obtain ⟨a2, cap2, rfl, hz⟩ := hu
    clear hz
    go_wp2_with fail
    refine (H1.out _ _ C1.out).mono ?_
    rintro e w4 ⟨a3, cap3, rfl, hk, gg⟩
    replace X := Lib.hid (bel_trans X.out gg); clear gg C1 H1
    have T1 : Hid (BxS w w4.heap.size (.slice a n cap) l c a3 cap3 (w4.alloc (.cells #[.string c.nm, .int .i64 c.ps, .slice a3 c.pf.length cap3, .int .i64 c.dc] 27))) := Lib.hid ⟨X.out.alloc X.out.size _, (HV.out.below X.out).below (bel_alloc (Below.refl _ _)), hk.alloc _, by simp [go_sem], by simp [go_sem], by simp [go_sem], by simp [go_sem]⟩
    clear hk X
    go_wp2_with fail
    refine (H2.out _ _ T1.out.2.1).mono ?_
    rintro e w5 ⟨a4, cap4, rfl, hk, gg⟩
    replace T1 := Lib.hid (T1.out.below gg); clear gg H2
    have T2 : Hid (BxS w w5.heap.size (.slice a n cap) l c a4 cap4 (w5.alloc (.cells #[.string c.nm, .int .i64 c.ps, .slice a4 c.pf.length cap4, .int .i64 c.dc] 27))) := Lib.hid ⟨T1.out.1.alloc T1.out.1.size _, T1.out.2.1.below (bel_alloc (Below.refl _ _)), hk.alloc _, by simp [go_sem], by simp [go_sem], by simp [go_sem], by simp [go_sem]⟩
    replace T1 := Lib.hid (T1.out.below (bel_alloc (o := .cells #[.string c.nm, .int .i64 c.ps, .slice a4 c.pf.length cap4, .int .i64 c.dc] 27) (Below.refl _ _)))
    clear hk
    obtain ⟨x0, x1, x2, x3⟩ := T1.out.2.2.2
    obtain ⟨y0, y1, y2, y3⟩ := T2.out.2.2.2
    go_wp2_with fail
    refine (H3.out _ _ _ T1.out.2.2.1 T2.out.2.2.1).mono ?_
    rintro e w6 ⟨rfl, gg⟩
    have X := Lib.hid (bel_trans T2.out.1 gg); clear gg H3 T1 T2 x0 x1 x2 x3 y0 y1 y2 y3
    go_wp2_with fail
    refine (K0.out _ X.out).mono ?_
    rintro e w7 ⟨u, rfl, hu, gg⟩
    replace X := Lib.hid (bel_trans X.out gg); clear gg
    have C1 := Lib.hid hu
    obtain ⟨a5, cap5, rfl, hz⟩ := hu
    clear hz
    go_wp2_with fail
    refine (H4.out _ _ C1.out).mono ?_
    rintro e w8 ⟨rfl, gg⟩
    replace X := Lib.hid (bel_trans X.out gg); clear gg C1 H4
    go_wp2_with fail
    refine (H5.out _ _ (HV.out.below X.out)).mono ?_
    rintro e w9 ⟨rfl, gg⟩
    replace X := Lib.hid (bel_trans X.out gg); clear gg H5
    go_wp2_with fail
    refine (K0.out _ X.out).mono ?_
    rintro e w10 ⟨u, rfl, hu, gg⟩
    replace X := Lib.hid (bel_trans X.out gg); clear gg K0
    have C1 := Lib.hid hu
    obtain ⟨a6, cap6, rfl, hz⟩ := hu
    clear hz
    have hl33 : l.length ≤ 33 := by have := hB.out; have := hn.out; omega
    go_wp2_with fail
    go_loopw [58] (fun ii wr => ∃ k : Nat, k ≤ l.length ∧ ii = .int .i64 k ∧ Hid (Below w.heap.size w wr) ∧ Hid (Cks wr (.slice a6 l.length cap6) l)) (fun ii _ => l.length - (intOf ii).toNat)
    case atStart => exact ⟨0, by omega, rfl, X, C1⟩
    case round =>
      obtain ⟨k, hk, rfl, hX, hC⟩ := hrel
      by_cases hlt : k < l.length
      · obtain ⟨a', cap', ea, hcap, hh⟩ := hC.out
        simp only [Value.slice.injEq, true_and] at ea
        obtain ⟨rfl, rfl⟩ := ea
        rcases hh with hh | ⟨b, off, rfl, hb, hcs⟩
        · omega
        · obtain ⟨x0, x1, x2, x3, c0, c1, c2, c3, hv⟩ := hcs k hlt
          obtain ⟨a7, cap7, ev, hrest⟩ := hv
          have hv : CkV wr (.agg #[.string l[k].nm, .int .i64 l[k].ps, .slice a7 l[k].pf.length cap7, .int .i64 l[k].dc]) l[k] := ⟨a7, cap7, rfl, hrest⟩
          simp only [Value.agg.injEq, Array.mk.injEq, List.cons.injEq, and_true] at ev
          obtain ⟨rfl, rfl, rfl, rfl⟩ := ev
          clear hrest hcs hcap
          have B0 : Hid (BxS w wr.heap.size (.slice (some ⟨b, off, none⟩) l.length cap6) l l[k] a7 cap7 (wr.alloc (.cells #[.string l[k].nm, .int .i64 l[k].ps, .slice a7 l[k].pf.length cap7, .int .i64 l[k].dc] 27))) := Lib.hid ⟨hX.out.alloc hX.out.size _, hC.out.below (bel_alloc (Below.refl _ _)), hv.alloc _, by simp [go_sem], by simp [go_sem], by simp [go_sem], by simp [go_sem]⟩
          clear hv
          have K6 := Lib.hid (H6.out l[k])
          have K7 := Lib.hid (H7.out l[k])
          have K8 := Lib.hid (H8.out l[k])
          have K9 := Lib.hid (H9.out l[k])
          generalize l[k] = d at *
          generalize deQ d = D at *
          generalize ccE d = G at *
          have g1 : ((D != D) = false) := by simp
          have g2 : ((G != G) = false) := by simp
          have l2 : (k : Int) < (l.length : Int) := by omega
          obtain ⟨y0, y1, y2, y3⟩ := B0.out.2.2.2
          clear H6 H7 H8 H9
          go_wp2_with fail
          refine (K6.out _ _ B0.out.2.2.1).mono ?_
          rintro e w20 ⟨rfl, gg⟩
          clear y0 y1 y2 y3 c0 c1 c2 c3
          replace B0 := Lib.hid (B0.out.below gg); clear gg
          obtain ⟨y0, y1, y2, y3⟩ := B0.out.2.2.2
          go_wp2_with fail
          refine (K7.out _ _ B0.out.2.2.1).mono ?_
          rintro e w21 ⟨rfl, gg⟩
          clear y0 y1 y2 y3
          replace B0 := Lib.hid (B0.out.below gg); clear gg
          have KK : Hid (∀ W, BxS w wr.heap.size (.slice (some ⟨b, off, none⟩) l.length cap6) l d a7 cap7 W → Calls Tryz.prog 20 #[.agg #[.string d.nm, .int .i64 d.ps, .slice a7 d.pf.length cap7, .int .i64 d.dc]] W fun e w' => e = .returned (.int .i64 G) ∧ BxS w wr.heap.size (.slice (some ⟨b, off, none⟩) l.length cap6) l d a7 cap7 w') := Lib.hid fun W h => (K8.out _ _ h.2.2.1).mono fun e w' ⟨h1, h3⟩ => ⟨h1, h.below h3⟩
          have KR : Hid (∀ W, BxS w wr.heap.size (.slice (some ⟨b, off, none⟩) l.length cap6) l d a7 cap7 W → Calls Tryz.prog 21 #[.agg #[.string d.nm, .int .i64 d.ps, .slice a7 d.pf.length cap7, .int .i64 d.dc]] W fun e w' => e = .returned (.int .i64 G) ∧ BxS w wr.heap.size (.slice (some ⟨b, off, none⟩) l.length cap6) l d a7 cap7 w') := Lib.hid fun W h => (K9.out _ _ h.2.2.1).mono fun e w' ⟨h1, h3⟩ => ⟨h1, h.below h3⟩
          have A0 : Hid (BxS w wr.heap.size (.slice (some ⟨b, off, none⟩) l.length cap6) l d a7 cap7 w21.drew) := Lib.hid (B0.out.below (bel_drew _))
          clear B0 K6 K7 K8 K9
          obtain ⟨y0, y1, y2, y3⟩ := A0.out.2.2.2
          go_wp2_with fail
          go_region_held3 (fun w' => w'.cell? ⟨wr.heap.size, 0, none⟩ = some (.string d.nm) ∧ w'.cell? ⟨wr.heap.size, 1, none⟩ = some (.int .i64 d.ps) ∧ w'.cell? ⟨wr.heap.size, 2, none⟩ = some (.slice a7 d.pf.length cap7) ∧ w'.cell? ⟨wr.heap.size, 3, none⟩ = some (.int .i64 d.dc)) (go_keep)
            (first | (go_at_call 20; (with_reducible refine (KK.out _ (by first | exact A0.out | exact A2.out)).mono ?_); rintro e w22 ⟨rfl, A1⟩; obtain ⟨y0, y1, y2, y3⟩ := A1.2.2.2; replace A1 := Lib.hid A1) | (go_at_call 21; (with_reducible refine (KR.out _ (by first | exact A1.out | exact A0.out)).mono ?_); rintro e w23 ⟨rfl, A2⟩; obtain ⟨y0, y1, y2, y3⟩ := A2.2.2.2; replace A2 := Lib.hid A2))
          all_goals
            go_wp2
            go_roundw
            case rel => exact ⟨k + 1, by omega, by go_num, Lib.hid (by first | exact A2.out.1 | exact A1.out.1), Lib.hid (by first | exact A2.out.2.1 | exact A1.out.2.1)⟩
            case measure => simp [intOf]; omega
      · obtain rfl : k = l.length := by omega
        go_wp2
        go_returns
        exact ⟨rfl, hX.out⟩
set_option maxRecDepth 100000 in
set_option maxHeartbeats 8000000 in
theorem long (a : Option Addr) (n cap : Nat) (nm : ByteArray) (B1 : Bool) (w : World) (hnm : 70 < nm.size) (hmx : nm.size ≤ 9223372036854775807)
    (HA : Hid (Calls Tryz.prog 10 #[] w fun e w' => e = .returned (.bool true) ∧ Below w.heap.size w w'))
    (HF : Hid (∀ W, Below w.heap.size w W → Calls Tryz.prog 11 #[.slice a n cap] W fun e w' => e = .returned (.bool B1) ∧ w' = W)) :
    Calls Tryz.prog 3 #[.slice a n cap, .string nm] w fun e w' => e = .returned (.bool true) ∧ Below w.heap.size w w' := by
  have e5 : (70 : Int) < (nm.size : Int) := by omega
  go_enter Tryz.func3, Tryz.ntmps3
  go_wp2_with fail
  refine HA.out.mono ?_
  rintro e w1 ⟨rfl, gg⟩
  have X := Lib.hid gg; clear gg HA
  go_wp2_with fail
  refine (HF.out _ X.out).mono ?_
  rintro e w2 ⟨rfl, hw⟩
  subst hw
  clear HF
  cases B1 with
  | false =>
    go_wp2
    go_returns
    exact ⟨rfl, X.out⟩
  | true =>
    go_wp2
    go_returns
    exact ⟨rfl, X.out⟩
theorem fiC_small (l : List Ck) (nm : ByteArray) : (fiC l nm).pf.length ≤ 1000 := by
  unfold fiC
  by_cases h : liE l = 0
  · rw [if_pos h]
    cases e : l.find? (fun c => c.nm.toList == nm.toList) with
    | none => show (zCk).pf.length ≤ 1000; exact Nat.zero_le _
    | some c => exact (liE_pf h).2 c (List.mem_of_find?_eq_some e)
  · rw [if_neg h]; exact Nat.zero_le _
theorem sameK_self (c : Ck) : sameK c c = true := by simp [sameK]
theorem walk (v : Value) (l : List Ck) (nm : ByteArray) (w : World) (hv : Cks w v l) (hn : nm.size ≤ maxLen) (hw : CV w) :
    Calls Tryz.prog 3 #[v, .string nm] w fun e w' => e = .returned (.bool true) ∧ Below w.heap.size w w' := by
  have HA := Lib.hid (awake_any w hw)
  have hv' := hv
  obtain ⟨a, cap, rfl, _⟩ := hv'
  by_cases h : nm.size ≤ 70
  · refine core a l.length cap nm (fewB l) (liE l) (fiE l nm) (fiC l nm) l w (Lib.hid rfl) (Lib.hid fun h => (fewB_small h).1) h (Lib.hid hv) HA (Lib.hid fun W hW => refFew_any _ l W (hv.below hW)) (Lib.hid fun h W hW => copy_is _ l W (hv.below hW) h)
      (Lib.hid fun u W hu => (cFi_any u l nm W hu (by omega)).mono ?_) (Lib.hid fun u W hu => (refFind_any u l nm W hu).mono ?_)
      (Lib.hid fun u1 u2 W h1 h2 => ?_) (Lib.hid fun u W hu => cLi_any u l W hu) (Lib.hid fun u W hu => refList_any u l W hu)
      (Lib.hid fun d u W hu => cDe_any u d W hu) (Lib.hid fun d u W hu => refDep_any u d W hu) (Lib.hid fun d u W hu => ckk_any u d W hu) (Lib.hid fun d u W hu => refCkk_any u d W hu)
    · rintro e w' ⟨x, h1, ⟨a2, cap2, rfl, hr⟩, h3⟩
      exact ⟨a2, cap2, h1, ⟨a2, cap2, rfl, hr⟩, h3⟩
    · rintro e w' ⟨x, h1, ⟨a2, cap2, rfl, hr⟩, h3⟩
      exact ⟨a2, cap2, h1, ⟨a2, cap2, rfl, hr⟩, h3⟩
    · have := refSC_any u1 u2 _ _ W h1 h2 (fiC_small l nm)
      rwa [sameK_self] at this
  · exact long a l.length cap nm (fewB l) w (by omega) (by unfold maxLen at hn; omega) HA (Lib.hid fun W hW => refFew_any _ l W (hv.below hW))

set_option maxRecDepth 100000 in
theorem contract (H : Type) (enc : TypeId × Value → H) (W : World) (base : Nat) (args : Array Value) (ds gs : List (DataW H)) (before : List MemPlace)
    (hval : ∀ (j : Nat) t v, Tryz.f3.params[j]? = some t → args[j]? = some v → Value.okWide Tryz.prog W .any base t v)
    (hW : DataW.Whole enc Tryz.prog Tryz.f3.params.toList Rows.caskChecksSpec.vars false W args.toList ds gs before) (hL : laidMetH Tryz.prog Rows.caskChecksRow.laid W) (hSh : W.ShapedOpen Tryz.prog) :
    Calls Tryz.prog 3 args W fun e W' => ∃ v, e = .returned v ∧ Rows.caskChecksSpec.post enc Tryz.prog Tryz.f3 false true false false W args v W' := by
  have hW' := hW
  obtain ⟨p, q, hA0, hV, rfl, hfz, hnd⟩ := hW
  have hA : DataW.TrodAll enc Tryz.prog W 0 (fun _ => true) true Tryz.f3.params.toList args.toList ds p := hA0
  rw [Tryz.params3] at hA hval
  obtain ⟨v0, vs0, d0, ds0, p0, q0, hargs, rfl, rfl, h0, r0⟩ := trodAll_cons hA
  obtain ⟨v1, vs1, d1, ds1, p1, q1, rfl, rfl, rfl, h1, r1⟩ := trodAll_cons r0
  obtain ⟨rfl, rfl, rfl⟩ := trodAll_nil r1
  obtain rfl : args = #[v0, v1] := by cases args; simp_all
  obtain ⟨rfl, rfl⟩ := trodVars_none hV
  have k0 := h0
  have lt0 : ∀ x ∈ p0, x.block < W.heap.size := by obtain ⟨m, hm⟩ := k0; exact DataW.trod_lt m _ _ _ hm
  have k1 := h1
  have lt1 : ∀ x ∈ p1, x.block < W.heap.size := by obtain ⟨m, hm⟩ := k1; exact DataW.trod_lt m _ _ _ hm
  obtain ⟨z0, w0⟩ := open_cks (hval 0 22 v0 rfl rfl) h0
  obtain ⟨a1, rfl, rfl, rfl, w1⟩ := open_string Tryz.underlying9 (hval 1 9 v1 rfl rfl) h1
  clear hA0
  refine (walk v0 z0 a1 W w0 w1 (laid_of rfl hL hSh)).mono fun e W' ⟨he, bel⟩ => ?_
  subst he
  exact ⟨_, rfl, _, _, _, [], _, [], hW', trodAll_mk1 (shut_bool Tryz.underlying4 _), (trodAll_cons_mk (Below.trod laidOut (by kernel_rfl) (of_decide_eq_true (by kernel_rfl)) k0 bel lt0) (trodAll_cons_mk (Below.trod laidOut (by kernel_rfl) (of_decide_eq_true (by kernel_rfl)) k1 bel lt1) trodAll_mk0)), rfl, bel.frame _, fun h => by cases h⟩

noncomputable def laidWorld (os : Os) : World := World.laidAll Tryz.prog os Rows.caskChecksRow.laid
theorem laid_met (os : Os) : laidMet Tryz.prog Rows.caskChecksRow.laid ((laidWorld os).forCall (fun _ _ => 0) ⟨#[], #[.slice none 0 0, .string ByteArray.empty], []⟩).memory :=
  laidMet_laidAll _ (by kernel_rfl) (by kernel_rfl)
theorem reads (os : Os) {H : Type} (enc : TypeId × Value → H) : ∃ places, DataW.whole enc Tryz.prog ((laidWorld os).forCall (fun _ _ => 0) ⟨#[], #[.slice none 0 0, .string ByteArray.empty], []⟩).memory Tryz.f3.params.toList Rows.caskChecksSpec.vars false (#[.slice none 0 0, .string ByteArray.empty] : Array Value).toList 8 = some ([.nil, .lit (.string [])], [], places) :=
  ⟨[], by kernel_rfl⟩

set_option maxRecDepth 100000 in
theorem lifted (os : Os) (started : os.Started) (H : Type) (enc : TypeId × Value → H) (F : Stop.Interp) :
    ReturnsInHanded {} Tryz.checked os 3 .any ((OpenSpec.ofChange Rows.caskChecksSpec).preRow enc Tryz.prog Tryz.f3 Rows.caskChecksRow.domain false Rows.caskChecksRow.laid) (((OpenSpec.ofChange Rows.caskChecksSpec).at F).post enc Tryz.prog Tryz.f3 false true false false) := by
  obtain ⟨places, hx⟩ := reads os enc
  refine returnsInHanded_of_row (C := Tryz.checked) (s := OpenSpec.ofChange Rows.caskChecksSpec) own started (by kernel_rfl) Tryz.func3
    (witness_row_at (enc := enc) (C := Tryz.checked) false (laidWorld os) #[.slice none 0 0, .string ByteArray.empty] (World.laidAll_os _ _ _) (by kernel_rfl) (by kernel_rfl) (by kernel_rfl)
      (OpenSpec.preRow_of_cond 8 hx (by kernel_rfl) (fun k hk => by cases hk) (by kernel_rfl) (laid_met os))) ?_
  intro W base args ds gs before hval hW _ _ _ hL hSh _
  exact contract H enc W base args ds gs before hval hW hL hSh

theorem said : Rows.CaskChecksSaid :=
  OpenClaim.holds_of_cond 3 Tryz.f3 rfl rfl rfl rfl rfl rfl rfl ⟨rfl, rfl, rfl, rfl, rfl⟩ rfl rfl rfl rfl rfl (by kernel_rfl) Tryz.func3 (by kernel_rfl)
    (of_decide_eq_true (by kernel_rfl)) (by unfold Func.isWrapper; first | (rw [if_pos (by decide +kernel)]; kernel_rfl) | (rw [if_neg (by decide +kernel)]; exact ⟨rfl, rfl⟩))
    (fun os started H enc _ F => by rw [OpenClaim.pre_eq_preRow]; exact lifted os started H enc F)

theorem plain (f : FuncId) (fn : Func) (hf : Tryz.pinned.checked.prog.funcNamed "spile/spilelaw09.CaskChecks" = some f) (hfn : Tryz.pinned.checked.prog.funcs[f]? = some fn) :
    true = Tryz.pinned.checked.prog.looks [] ∧ ∀ (j : Nat) t, fn.params[j]? = some t → Tryz.pinned.checked.prog.wantsStandIn t = false := by
  obtain rfl : f = 3 := Option.some.inj ((show Tryz.prog.funcNamed "spile/spilelaw09.CaskChecks" = some 3 by kernel_rfl).symm.trans hf) |>.symm
  obtain rfl : fn = Tryz.f3 := (Option.some.inj (Tryz.func3.symm.trans hfn)).symm
  refine ⟨by kernel_rfl, fun j t ht => ?_⟩
  rw [Tryz.params3] at ht
  rcases j with _ | _ | j
  · obtain rfl : t = 22 := by simpa using ht.symm
    exact (show Tryz.prog.wantsStandIn 22 = false by kernel_rfl)
  · obtain rfl : t = 9 := by simpa using ht.symm
    exact (show Tryz.prog.wantsStandIn 9 = false by kernel_rfl)
  · simp at ht

theorem proved : Rows.CaskChecksCardSaid :=
  Claim7.holds_tied_plain_at .later [] _ _ _ _ said (fun _ h => by cases h) (by kernel_rfl) (fun _ h => by cases h) caskChecks_row_tie rfl ⟨rfl, rfl⟩ (by kernel_rfl) rfl plain (by kernel_rfl)
#print axioms proved
end Go.Proofs.YtpnlfeljmpfeoaaGreatDoor.caskChecks
