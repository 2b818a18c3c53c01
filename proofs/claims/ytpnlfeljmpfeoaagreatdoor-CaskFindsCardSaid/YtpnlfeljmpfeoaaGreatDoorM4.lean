/- Texts that the proofs of this seat share, one behind the other: CAX, CAW, PO0, KO, COZ, CBD, CBE, CBF. -/
import Derived.Test.YtpnlfeljmpfeoaaGreatDoorM3
import Derived.Deep.RegionHeld3
import Derived.Deep.RegionLaw
import Derived.Test.YtpnlfeljmpfeoaaGreatDoorRows
import Derived.Test.YtpnlfeljmpfeoaaGreatDoorM1
import Derived.ProofKit
import Derived.OpenShut
import Derived.ShutString
import Derived.ChangeOld
import Derived.Lib.SmallJoins
import Derived.MakeChecks
import Derived.Deep.Slices
import Derived.Deep.Fields
import Derived.ChangeSame
import Derived.Deep.SlicePairs
import Derived.Lib.LaidTab
import Derived.OneCell
import Derived.HandedShaped

set_option linter.unusedVariables false
set_option linter.unusedSimpArgs false

/- The statements about layer 9: the example. -/
namespace Go.Proofs.YtpnlfeljmpfeoaaGreatDoor
open Go.RowKit

def l0 : List (Int × Int) := [(0, 300), (500, 400), (1000, 300)]
def bar : Ck := ⟨⟨#[65, 45, 49]⟩, 1, l0, 500⟩
def txB : List UInt8 := [99, 97, 115, 107, 32, 65, 45, 49, 32, 108, 121, 105, 110, 103, 32, 100, 101, 99, 108, 97, 114, 101, 100, 32, 53, 48, 48, 10, 97, 116, 32, 48, 32, 114, 97, 100, 105, 117, 115, 32, 51, 48, 48, 10, 97, 116, 32, 53, 48, 48, 32, 114, 97, 100, 105, 117, 115, 32, 52, 48, 48, 10, 97, 116, 32, 49, 48, 48, 48, 32, 114, 97, 100, 105, 117, 115, 32, 51, 48, 48, 10, 101, 110, 100, 10]
theorem bar_ok : ccE bar = 0 := by decide +kernel
theorem bar_deep : deQ bar = 800 := by decide +kernel
theorem bar_text : prT [bar] = txB := by decide +kernel
theorem bar_read : paS txB = (some [bar], 0) := by
  rw [← bar_text]
  refine paS_prT (fun c hc => ?_)
  rw [List.mem_singleton] at hc
  rw [hc]
  exact right_tx bar_ok
theorem li_one {c : Ck} (h : ccE c = 0) : liE [c] = 0 := by
  have e : fE [c] = 0 := by unfold fE; rw [if_pos h]; rfl
  unfold liE
  rw [if_neg (by simp), if_pos e, if_neg]
  rintro ⟨i, k, hi, hk, _⟩
  simp at hi
  omega
theorem bar_list : liE [bar] = 0 := li_one bar_ok
theorem bar_find : fiE [bar] ⟨#[65, 45, 49]⟩ = 0 ∧ fiC [bar] ⟨#[65, 45, 49]⟩ = bar := by
  refine ⟨?_, ?_⟩
  · unfold fiE; rw [if_pos bar_list, if_pos ⟨bar, by simp, by kernel_rfl⟩]
  · unfold fiC; rw [if_pos bar_list, List.find?_cons_of_pos (by kernel_rfl)]; rfl
def barV (g : Nat) : Value := .agg #[.string ⟨#[65, 45, 49]⟩, .int .i64 1, .slice (some ⟨g, 0, none⟩) 3 3, .int .i64 500]
theorem barrel_any (w : World) : Calls Tryz.prog 31 #[] w fun e w' => ∃ g, e = .returned (.agg #[.string ⟨#[65, 45, 49]⟩, .int .i64 1, .slice (some ⟨g, 0, none⟩) 3 3, .int .i64 500]) ∧ CkV w' (barV g) bar ∧ Below w.heap.size w w' := by
  have P : ∀ o, Pts ((w.alloc o).alloc (.cells #[.int .i64 0, .int .i64 300, .int .i64 500, .int .i64 400, .int .i64 1000, .int .i64 300] 46)) (.slice (some ⟨w.heap.size + 1, 0, none⟩) 3 3) l0 := fun o => by
    have := pts_lit (w.alloc o) l0 (flat l0) rfl (by decide)
    simp only [World.size_alloc] at this
    exact this
  go_enter Tryz.func31, Tryz.ntmps31
  go_wp2
  refine bodyPost_ret (v := .agg #[.string ⟨#[65, 45, 49]⟩, .int .i64 1, .slice (some ⟨w.heap.size + 1, 0, none⟩) 3 3, .int .i64 500]) (by simp [results, Tryz.results31, go_sem]) rfl ?_
  exact ⟨_, rfl, ⟨_, 3, rfl, P _, by decide, by decide, by decide⟩, bel_alloc (bel_alloc (Below.refl _ _))⟩
/-- a list of one cask, laid now -/
theorem cks_now {W : World} {a : Option Addr} {cap : Nat} {c : Ck} (h : CkV W (.agg #[.string c.nm, .int .i64 c.ps, .slice a c.pf.length cap, .int .i64 c.dc]) c) : Cks (W.alloc (.cells #[.string c.nm, .int .i64 c.ps, .slice a c.pf.length cap, .int .i64 c.dc] 27)) (.slice (some ⟨W.heap.size, 0, none⟩) 1 1) [c] := by
  have h' := h.alloc (.cells #[.string c.nm, .int .i64 c.ps, .slice a c.pf.length cap, .int .i64 c.dc] 27)
  refine ⟨_, 1, rfl, by simp, .inr ⟨W.heap.size, 0, rfl, by simp, fun j hj => ?_⟩⟩
  obtain rfl : j = 0 := by simpa using hj
  exact ⟨_, _, _, _, by simp [go_sem], by simp [go_sem], by simp [go_sem], by simp [go_sem], h'⟩
theorem bars_now {W : World} {g : Nat} (h : CkV W (barV g) bar) : Cks (W.alloc (.cells #[.string ⟨#[65, 45, 49]⟩, .int .i64 1, .slice (some ⟨g, 0, none⟩) 3 3, .int .i64 500] 27)) (.slice (some ⟨W.heap.size, 0, none⟩) 1 1) [bar] := cks_now (c := bar) h
end Go.Proofs.YtpnlfeljmpfeoaaGreatDoor

/- The statements about layer 9: the example is right. -/
namespace Go.Proofs.YtpnlfeljmpfeoaaGreatDoor
open Go.RowKit

/-- what is known while the last condition is reckoned -/
def AwS (w : World) (x : Nat) (a3 : Option Addr) (cap3 : Nat) (a : Option Addr) (cap : Nat) (W : World) : Prop :=
  Below w.heap.size w W ∧ Cks W (.slice a3 1 cap3) [bar] ∧ CkV W (.agg #[.string ⟨#[65, 45, 49]⟩, .int .i64 1, .slice a 3 cap, .int .i64 500]) bar ∧
  (W.cell? ⟨x, 0, none⟩ = some (.string ⟨#[65, 45, 49]⟩) ∧ W.cell? ⟨x, 1, none⟩ = some (.int .i64 1) ∧ W.cell? ⟨x, 2, none⟩ = some (.slice a 3 cap) ∧ W.cell? ⟨x, 3, none⟩ = some (.int .i64 500))
theorem AwS.below {w : World} {x : Nat} {a3 : Option Addr} {cap3 : Nat} {a : Option Addr} {cap : Nat} {W W' : World} (h : AwS w x a3 cap3 a cap W) (hb : Below W.heap.size W W') : AwS w x a3 cap3 a cap W' := by
  obtain ⟨h1, h2, h3, h4, h5, h6, h7⟩ := h
  exact ⟨bel_trans h1 hb, h2.below hb, h3.below hb, cell_bel h4 hb, cell_bel h5 hb, cell_bel h6 hb, cell_bel h7 hb⟩
theorem AwS.al {w : World} {x : Nat} {a3 : Option Addr} {cap3 : Nat} {a : Option Addr} {cap : Nat} {W : World} (h : AwS w x a3 cap3 a cap W) (o : Obj) : AwS w x a3 cap3 a cap (W.alloc o) := h.below (bel_alloc (Below.refl _ _))
set_option maxRecDepth 100000 in
set_option maxHeartbeats 16000000 in
theorem awake_any (w : World) (hw : CV w) : Calls Tryz.prog 10 #[] w fun e w' => e = .returned (.bool true) ∧ Below w.heap.size w w' := by
  have BA := Lib.hid (fun W => barrel_any W)
  have HP : Hid (∀ v W, Below w.heap.size w W → Cks W v [bar] → Calls Tryz.prog 22 #[v] W fun e w' => e = .returned (.tuple #[.string ⟨txB.toArray⟩, .int .i64 0]) ∧ Below W.heap.size W w') := Lib.hid fun v W hW hv => by
    have := cPr_any v [bar] W (hw.below hW) hv
    rw [bar_list] at this
    have e : prS [bar] = txB := by unfold prS; rw [if_pos bar_list]; exact bar_text
    rw [e] at this
    exact this
  have HR : Hid (∀ W, Below w.heap.size w W → Calls Tryz.prog 24 #[.string ⟨txB.toArray⟩] W fun e w' => ∃ v, e = .returned (.tuple #[v, .int .i64 0, .int .i64 0]) ∧ Cks w' v [bar] ∧ Below W.heap.size W w') := Lib.hid fun W hW => (cPar_any ⟨txB.toArray⟩ W (hw.below hW)).mono fun e w' ⟨v, n, E, h1, h2, h3⟩ => by
    have hp := (h2.1 (by decide)).2 [bar] 0 (by rw [show (⟨txB.toArray⟩ : ByteArray).data.toList = txB from rfl]; exact bar_read)
    rw [bar_list] at hp
    obtain ⟨rfl, rfl, hp⟩ := hp
    exact ⟨v, h1, hp rfl, h3⟩
  have HD : Hid (∀ v W, CkV W v bar → Calls Tryz.prog 18 #[v] W fun e w' => e = .returned (.tuple #[.int .i64 800, .int .i64 0]) ∧ Below W.heap.size W w') := Lib.hid fun v W hv => by
    have := cDe_any v bar W hv
    rwa [bar_deep, bar_ok] at this
  have HF : Hid (∀ v W, Cks W v [bar] → Calls Tryz.prog 12 #[v, .string ⟨#[65, 45, 49]⟩] W fun e w' => ∃ a cap, e = .returned (.tuple #[.agg #[.string ⟨#[65, 45, 49]⟩, .int .i64 1, .slice a 3 cap, .int .i64 500], .int .i64 0]) ∧ CkV w' (.agg #[.string ⟨#[65, 45, 49]⟩, .int .i64 1, .slice a 3 cap, .int .i64 500]) bar ∧ Below W.heap.size W w') := Lib.hid fun v W hv => (cFi_any v [bar] ⟨#[65, 45, 49]⟩ W hv (by decide)).mono fun e w' ⟨u, h1, h2, h3⟩ => by
    rw [bar_find.1] at h1
    rw [bar_find.2] at h2
    obtain ⟨a, cap, rfl, h4⟩ := h2
    exact ⟨a, cap, h1, ⟨a, cap, rfl, h4⟩, h3⟩
  have HS : Hid (∀ v u W, Cks W v [bar] → Cks W u [bar] → Calls Tryz.prog 26 #[v, u] W fun e w' => e = .returned (.bool true) ∧ Below W.heap.size W w') := Lib.hid fun v u W hv hu => by
    have := refSame_any v u [bar] [bar] W hv hu (by decide) (fun c hc => by rw [List.mem_singleton] at hc; rw [hc]; decide)
    simpa using this
  have HC : Hid (∀ v u W, CkV W v bar → CkV W u bar → Calls Tryz.prog 15 #[v, u] W fun e w' => e = .returned (.bool true) ∧ Below W.heap.size W w') := Lib.hid fun v u W hv hu => by
    have := refSC_any v u bar bar W hv hu (by decide)
    rwa [show sameK bar bar = true by kernel_rfl] at this
  have HK : Hid (∀ v W, CkV W v bar → Calls Tryz.prog 20 #[v] W fun e w' => e = .returned (.int .i64 0) ∧ Below W.heap.size W w') := Lib.hid fun v W hv => by
    have := ckk_any v bar W hv
    rwa [bar_ok] at this
  have HL : Hid (∀ v W, Cks W v [bar] → Calls Tryz.prog 16 #[v] W fun e w' => e = .returned (.int .i64 0) ∧ Below W.heap.size W w') := Lib.hid fun v W hv => by
    have := cLi_any v [bar] W hv
    rwa [bar_list] at this
  have eT : ((⟨txB.toArray⟩ : ByteArray).toList == txB) = true := by kernel_rfl
  obtain ⟨TB, hTB⟩ : ∃ TB : ByteArray, TB = ⟨txB.toArray⟩ := ⟨_, rfl⟩
  rw [← hTB] at HP HR eT
  unfold txB at eT
  clear hTB
  have HB := Lib.hid (Below.refl w.heap.size w)
  go_enter Tryz.func10, Tryz.ntmps10
  go_wp2_with fail
  refine (BA.out _).mono ?_
  rintro e w1 ⟨g, rfl, hx, h1⟩
  have B1 := Lib.hid (bel_trans HB.out h1); clear h1
  have L1 := Lib.hid (bars_now hx)
  clear hx
  go_wp2_with fail
  refine (HP.out _ _ (B1.out.alloc B1.out.size _) L1.out).mono ?_
  rintro e w2 ⟨rfl, h1⟩
  have B2 := Lib.hid (bel_trans (B1.out.alloc B1.out.size _) h1); clear h1 B1 L1
  go_wp2_with fail
  refine (HR.out _ B2.out).mono ?_
  rintro e w3 ⟨v, rfl, hl, h1⟩
  obtain ⟨a3, cap3, rfl, hl2⟩ := hl
  have hl : Cks w3 (.slice a3 1 cap3) [bar] := ⟨a3, cap3, rfl, hl2⟩
  simp only [List.length_singleton]
  clear hl2
  have B3 := Lib.hid (bel_trans B2.out h1); clear h1 B2
  have L3 := Lib.hid hl; clear hl
  go_wp2_with fail
  refine (BA.out _).mono ?_
  rintro e w4 ⟨g, rfl, hx, h1⟩
  have B4 := Lib.hid (bel_trans B3.out h1)
  have L4 := Lib.hid (L3.out.below h1); clear h1 B3 L3
  have K4 := Lib.hid hx; clear hx
  go_wp2_with fail
  refine (HD.out _ _ K4.out).mono ?_
  rintro e w5 ⟨rfl, h1⟩
  have B5 := Lib.hid (bel_trans B4.out h1)
  have L5 := Lib.hid (L4.out.below h1); clear h1 B4 L4 K4
  go_wp2_with fail
  refine (BA.out _).mono ?_
  rintro e w6 ⟨g, rfl, hx, h1⟩
  have B6 := Lib.hid (bel_trans B5.out h1)
  have L6 := Lib.hid (L5.out.below h1); clear h1 B5 L5
  have N6 := Lib.hid (bars_now hx); clear hx
  go_wp2_with fail
  refine (HF.out _ _ N6.out).mono ?_
  rintro e w7 ⟨a, cap, rfl, hx, h1⟩
  have B7 := Lib.hid (bel_trans (B6.out.alloc B6.out.size _) h1)
  have L7 := Lib.hid ((L6.out.below (bel_alloc (Below.refl _ _))).below h1); clear h1 B6 L6 N6
  have K7 := Lib.hid hx; clear hx
  have A0 : Hid (AwS w w7.heap.size a3 cap3 a cap ((w7.alloc (.cells #[.string ⟨#[65, 45, 49]⟩, .int .i64 1, .slice a 3 cap, .int .i64 500] 27)).drew)) := Lib.hid ⟨bel_trans (B7.out.alloc B7.out.size _) (bel_drew _), (L7.out.below (bel_alloc (Below.refl _ _))).below (bel_drew _), (K7.out.below (bel_alloc (Below.refl _ _))).below (bel_drew _), by simp [go_sem], by simp [go_sem], by simp [go_sem], by simp [go_sem]⟩
  have KB : Hid (∀ W, AwS w w7.heap.size a3 cap3 a cap W → Calls Tryz.prog 31 #[] W fun e w' => ∃ g, e = .returned (.agg #[.string ⟨#[65, 45, 49]⟩, .int .i64 1, .slice (some ⟨g, 0, none⟩) 3 3, .int .i64 500]) ∧ CkV w' (barV g) bar ∧ AwS w w7.heap.size a3 cap3 a cap w') := Lib.hid fun W h => (BA.out W).mono fun e w' ⟨g, h1, h2, h3⟩ => ⟨g, h1, h2, h.below h3⟩
  have KS : Hid (∀ W g, AwS w w7.heap.size a3 cap3 a cap W → CkV W (barV g) bar → Calls Tryz.prog 26 #[.slice a3 1 cap3, .slice (some ⟨W.heap.size, 0, none⟩) 1 1] (W.alloc (.cells #[.string ⟨#[65, 45, 49]⟩, .int .i64 1, .slice (some ⟨g, 0, none⟩) 3 3, .int .i64 500] 27)) fun e w' => e = .returned (.bool true) ∧ AwS w w7.heap.size a3 cap3 a cap w') := Lib.hid fun W g h k => (HS.out _ _ _ (h.al _).2.1 (bars_now k)).mono fun e w' ⟨h1, h3⟩ => ⟨h1, (h.al _).below h3⟩
  have KC : Hid (∀ W g, AwS w w7.heap.size a3 cap3 a cap W → CkV W (barV g) bar → Calls Tryz.prog 15 #[.agg #[.string ⟨#[65, 45, 49]⟩, .int .i64 1, .slice a 3 cap, .int .i64 500], .agg #[.string ⟨#[65, 45, 49]⟩, .int .i64 1, .slice (some ⟨g, 0, none⟩) 3 3, .int .i64 500]] W fun e w' => e = .returned (.bool true) ∧ AwS w w7.heap.size a3 cap3 a cap w') := Lib.hid fun W g h k => (HC.out _ _ _ h.2.2.1 k).mono fun e w' ⟨h1, h3⟩ => ⟨h1, h.below h3⟩
  have KK : Hid (∀ W g, AwS w w7.heap.size a3 cap3 a cap W → CkV W (barV g) bar → Calls Tryz.prog 20 #[.agg #[.string ⟨#[65, 45, 49]⟩, .int .i64 1, .slice (some ⟨g, 0, none⟩) 3 3, .int .i64 500]] W fun e w' => e = .returned (.int .i64 0) ∧ AwS w w7.heap.size a3 cap3 a cap w') := Lib.hid fun W g h k => (HK.out _ _ k).mono fun e w' ⟨h1, h3⟩ => ⟨h1, h.below h3⟩
  have KL : Hid (∀ W, AwS w w7.heap.size a3 cap3 a cap W → Calls Tryz.prog 16 #[.slice a3 1 cap3] W fun e w' => e = .returned (.int .i64 0) ∧ AwS w w7.heap.size a3 cap3 a cap w') := Lib.hid fun W h => (HL.out _ _ h.2.1).mono fun e w' ⟨h1, h3⟩ => ⟨h1, h.below h3⟩
  clear BA HP HR HD HF HS HC HK HL HB
  go_wp2_with fail
  obtain ⟨x0, x1, x2, x3⟩ := A0.out.2.2.2
  have CA : Hid (∀ (W : World) (g : Nat) (x : Addr) (v : Value), W.cell? x = some v → (W.alloc (.cells #[.string ⟨#[65, 45, 49]⟩, .int .i64 1, .slice (some ⟨g, 0, none⟩) 3 3, .int .i64 500] 27)).cell? x = some v) := Lib.hid fun W g x v h => cell_al _ h
  go_region_held3 (fun w' => w'.cell? ⟨w7.heap.size, 0, none⟩ = some (.string ⟨#[65, 45, 49]⟩) ∧ w'.cell? ⟨w7.heap.size, 1, none⟩ = some (.int .i64 1) ∧ w'.cell? ⟨w7.heap.size, 2, none⟩ = some (.slice a 3 cap) ∧ w'.cell? ⟨w7.heap.size, 3, none⟩ = some (.int .i64 500)) (go_keep)
    (first | (go_at_call 31; (with_reducible refine (KB.out _ (by first | exact A0.out | exact A2.out | exact A4.out)).mono ?_); rintro e w8 ⟨g8, rfl, hb, ha⟩; obtain ⟨x0, x1, x2, x3⟩ := ha.2.2.2; have y0 := CA.out _ g8 _ _ x0; have y1 := CA.out _ g8 _ _ x1; have y2 := CA.out _ g8 _ _ x2; have y3 := CA.out _ g8 _ _ x3; replace hb := Lib.hid hb; replace ha := Lib.hid ha) | (go_at_call 26; (with_reducible refine (KS.out _ _ ha.out hb.out).mono ?_); rintro e w9 ⟨rfl, A2⟩; obtain ⟨x0, x1, x2, x3⟩ := A2.2.2.2; replace A2 := Lib.hid A2) | (go_at_call 15; (with_reducible refine (KC.out _ _ ha.out hb.out).mono ?_); rintro e w10 ⟨rfl, A4⟩; obtain ⟨x0, x1, x2, x3⟩ := A4.2.2.2; replace A4 := Lib.hid A4) | (go_at_call 20; (with_reducible refine (KK.out _ _ ha.out hb.out).mono ?_); rintro e w11 ⟨rfl, A6⟩; obtain ⟨x0, x1, x2, x3⟩ := A6.2.2.2; replace A6 := Lib.hid A6) | (go_at_call 16; (with_reducible refine (KL.out _ A6.out).mono ?_); rintro e w12 ⟨rfl, A9⟩; obtain ⟨x0, x1, x2, x3⟩ := A9.2.2.2; replace A9 := Lib.hid A9))
  all_goals
    go_wp2
    go_returns
    exact ⟨rfl, A9.out.1⟩
end Go.Proofs.YtpnlfeljmpfeoaaGreatDoor

/- How arguments are opened: slices of points. -/
namespace Go.Proofs.YtpnlfeljmpfeoaaGreatDoor
open Go.ChangeShapes Go.WideShapes Go.ChangeAt Go.RowKit Go.Joins

theorem own : ownKnob Tryz.prog.godebug = none := by kernel_rfl
theorem laidOut : laidOutB Tryz.prog = true := by kernel_rfl
theorem wf_bd {n : Int} (h : (Lit.int .i64 n).wf = true) : -9223372036854775808 ≤ n ∧ n ≤ 9223372036854775807 := by
  have := bounds_i64 h
  omega
set_option maxRecDepth 100000 in
theorem open_pts_at {H : Type} {enc : TypeId × Value → H} {w : World} {base fuel : Nat} {spare : Nat → Bool} {held : Bool} {v : Value} {y : DataW H × List MemPlace} (hs : ∀ k, spare k = true)
    (hf : DataW.trod enc Tryz.prog w base spare held fuel 25 [v] = some y) :
    ∃ l : List (Int × Int), Pts w v l := by
  rcases Deep.open_slice_pairs Tryz.underlying25 Tryz.underlying46 (by kernel_rfl) rfl rfl (by kernel_rfl) (by kernel_rfl) hf with ⟨hcs, _⟩ | ⟨x, len0, cap0, m, n, V0, V1, D0, D1, P0, P1, hcs, _, hl, hm, hmm, _, hi⟩
  · simp only [List.cons.injEq, and_true] at hcs
    subst hcs
    exact ⟨[], none, 0, rfl, ⟨by simp, by omega⟩, .inl rfl⟩
  · simp only [List.cons.injEq, and_true] at hcs
    subst hcs
    unfold maxLen at hm
    rw [hs] at hmm
    simp only [if_true] at hmm
    subst hmm
    have hint : ∀ i, i < len0 → ∃ q : Int × Int, w.cell? (x.add (i * 2)) = some (.int .i64 q.1) ∧ w.cell? (x.add (i * 2 + 1)) = some (.int .i64 q.2) := by
      intro i hlt
      obtain ⟨h0, h1, h2, h3⟩ := hi i (by omega)
      obtain ⟨a, ea, _, _⟩ := DataW.trod_int (k := .i64) Tryz.underlying3 h2
      obtain ⟨b, eb, _, _⟩ := DataW.trod_int (k := .i64) Tryz.underlying3 h3
      simp only [List.cons.injEq, and_true] at ea eb
      exact ⟨(a, b), by rw [h0, ea], by rw [h1, eb]⟩
    let f : Nat → Int × Int := fun i => if hlt : i < len0 then (hint i hlt).choose else (0, 0)
    have hf2 : ∀ i, i < len0 → w.cell? (x.add (i * 2)) = some (.int .i64 (f i).1) ∧ w.cell? (x.add (i * 2 + 1)) = some (.int .i64 (f i).2) := by
      intro i hlt
      have := (hint i hlt).choose_spec
      simp only [f, dif_pos hlt]
      exact this
    have hlen : ((List.range len0).map f).length = len0 := by simp
    refine ⟨(List.range len0).map f, some x, m, by rw [hlen], by rw [hlen]; omega, ?_⟩
    rw [hlen]
    by_cases h0 : len0 = 0
    · exact .inl h0
    · right
      obtain ⟨b, off, spot⟩ := x
      have hspot : spot = none := by simpa [Addr.add] using World.cell?_spot (hf2 0 (by omega)).1
      subst hspot
      have hb := World.block_lt_of_cell? w _ (hf2 0 (by omega)).1
      refine ⟨b, off, rfl, by simpa [Addr.add] using hb, fun j hj => ?_⟩
      obtain ⟨g0, g1⟩ := hf2 j hj
      rw [Go.WideShapes.add_plain] at g0 g1
      unfold gX gR
      rw [List.getD_eq_getElem?_getD, List.getElem?_map, List.getElem?_range hj]
      exact ⟨g0, by rw [Nat.add_assoc]; exact g1⟩
set_option maxRecDepth 100000 in
theorem open_pts {H : Type} {enc : TypeId × Value → H} {w : World} {r : Reach} {b0 : Nat} {v : Value} {d : DataW H} {p : List MemPlace}
    (hv : Value.okWide Tryz.prog w r b0 25 v) (h : DataW.Trod enc Tryz.prog w 0 (fun _ => true) true 25 v d p) :
    ∃ l : List (Int × Int), Pts w v l := by
  obtain ⟨a0, len0, cap0, rfl⟩ := okWide_slice Tryz.underlying25 hv
  obtain ⟨fuel, hf⟩ := h
  exact open_pts_at (fun _ => rfl) hf
end Go.Proofs.YtpnlfeljmpfeoaaGreatDoor

/- How arguments are opened: casks, slices of casks. -/
namespace Go.Proofs.YtpnlfeljmpfeoaaGreatDoor
open Go.ChangeShapes Go.WideShapes Go.ChangeAt Go.RowKit Go.Joins

set_option maxRecDepth 100000 in
/-- a cask's four cells -/
theorem open_ck_at {H : Type} {enc : TypeId × Value → H} {w : World} {base n : Nat} {spare : Nat → Bool} {held : Bool} {v0 v1 v2 v3 : Value} {y0 y1 y2 y3 : DataW H × List MemPlace} (hs : ∀ k, spare k = true)
    (h0 : DataW.trod enc Tryz.prog w base spare held n 9 [v0] = some y0) (h1 : DataW.trod enc Tryz.prog w base spare held n 3 [v1] = some y1) (h2 : DataW.trod enc Tryz.prog w base spare held n 25 [v2] = some y2) (h3 : DataW.trod enc Tryz.prog w base spare held n 3 [v3] = some y3) :
    ∃ c, CkV w (.agg #[v0, v1, v2, v3]) c := by
  obtain ⟨s, e0, _, ws⟩ := DataW.trod_string Tryz.underlying9 h0
  obtain ⟨a, e1, _, wa⟩ := DataW.trod_int (k := .i64) Tryz.underlying3 h1
  obtain ⟨b, e3, _, wb⟩ := DataW.trod_int (k := .i64) Tryz.underlying3 h3
  obtain ⟨l, hl⟩ := open_pts_at hs h2
  simp only [List.cons.injEq, and_true] at e0 e1 e3
  subst e0 e1 e3
  obtain ⟨ad, cap, rfl, _, _⟩ := hl.shape
  unfold maxLen at ws
  exact ⟨⟨s, a, l, b⟩, ad, cap, rfl, hl, by omega, wf_bd wa, wf_bd wb⟩
set_option maxRecDepth 100000 in
/-- a cask by value -/
theorem open_ck {H : Type} {enc : TypeId × Value → H} {w : World} {r : Reach} {b0 : Nat} {v : Value} {d : DataW H} {p : List MemPlace}
    (hv : Value.okWide Tryz.prog w r b0 27 v) (h : DataW.Trod enc Tryz.prog w 0 (fun _ => true) true 27 v d p) : ∃ c, CkV w v c := by
  obtain ⟨v0, v1, v2, v3, y0, y1, y2, y3, n, rfl, _, _, h0, h1, h2, h3⟩ := open_agg4 Tryz.underlying27 (by kernel_rfl) (by kernel_rfl) hv h
  exact open_ck_at (fun _ => rfl) h0 h1 h2 h3
set_option maxRecDepth 100000 in
/-- a slice of casks -/
theorem open_cks {H : Type} {enc : TypeId × Value → H} {w : World} {r : Reach} {b0 : Nat} {v : Value} {d : DataW H} {p : List MemPlace}
    (hv : Value.okWide Tryz.prog w r b0 22 v) (h : DataW.Trod enc Tryz.prog w 0 (fun _ => true) true 22 v d p) : ∃ l : List Ck, Cks w v l := by
  obtain ⟨a0, len0, cap0, rfl⟩ := okWide_slice Tryz.underlying22 hv
  obtain ⟨fuel, hf⟩ := h
  rcases Deep.open_slice Tryz.underlying22 hf with ⟨hcs, _⟩ | ⟨x, l, c, m, n, D, Pl, hcs, _, hl, hm, hmm, _, hi⟩
  · simp [Value.cells] at hcs
    obtain ⟨rfl, rfl, rfl⟩ := hcs
    exact ⟨[], none, 0, rfl, ⟨by simp, by omega⟩, .inl rfl⟩
  · simp [Value.cells] at hcs
    obtain ⟨rfl, rfl, rfl⟩ := hcs
    unfold maxLen at hm
    simp only [if_true] at hmm
    subst hmm
    have ce : Tryz.prog.cellsOf 27 = 4 := by kernel_rfl
    rw [ce] at hi
    have hint : ∀ i, i < len0 → ∃ c : Ck, ∃ x0 x1 x2 x3, w.cell? (x.add (i * 4)) = some x0 ∧ w.cell? (x.add (i * 4 + 1)) = some x1 ∧ w.cell? (x.add (i * 4 + 2)) = some x2 ∧ w.cell? (x.add (i * 4 + 3)) = some x3 ∧ CkV w (.agg #[x0, x1, x2, x3]) c := by
      intro i hlt
      obtain ⟨cs', h1, h2⟩ := hi i (by omega)
      obtain ⟨_, hlen, hcell⟩ := World.cells?_some h1
      obtain ⟨y0, y1, y2, y3, k, _, _, g0, g1, g2, g3⟩ := trod_struct4 Tryz.underlying27 h2
      match cs', hlen with
      | [v0, v1, v2, v3], _ =>
        have e0 := hcell 0 (by omega)
        have e1 := hcell 1 (by omega)
        have e2 := hcell 2 (by omega)
        have e3 := hcell 3 (by omega)
        rw [Deep.add_add] at e0 e1 e2 e3
        have c0 : Tryz.prog.cellsOf 9 = 1 := by kernel_rfl
        have c1 : Tryz.prog.cellsOf 3 = 1 := by kernel_rfl
        have c2 : Tryz.prog.cellsOf 25 = 1 := by kernel_rfl
        simp only [c0, c1, c2] at g0 g1 g2 g3
        obtain ⟨q, hq⟩ := open_ck_at (fun _ => rfl) g0 g1 g2 g3
        exact ⟨q, v0, v1, v2, v3, by simpa using e0, by simpa using e1, by simpa using e2, by simpa using e3, hq⟩
    let f : Nat → Ck := fun i => if hlt : i < len0 then (hint i hlt).choose else ⟨ByteArray.empty, 0, [], 0⟩
    have hf2 : ∀ i, i < len0 → ∃ x0 x1 x2 x3, w.cell? (x.add (i * 4)) = some x0 ∧ w.cell? (x.add (i * 4 + 1)) = some x1 ∧ w.cell? (x.add (i * 4 + 2)) = some x2 ∧ w.cell? (x.add (i * 4 + 3)) = some x3 ∧ CkV w (.agg #[x0, x1, x2, x3]) (f i) := by
      intro i hlt
      have := (hint i hlt).choose_spec
      simp only [f, dif_pos hlt]
      exact this
    have hlen : ((List.range len0).map f).length = len0 := by simp
    refine ⟨(List.range len0).map f, some x, m, by rw [hlen], by rw [hlen]; omega, ?_⟩
    by_cases h0 : len0 = 0
    · exact .inl (by rw [hlen]; exact h0)
    · right
      obtain ⟨b, off, spot⟩ := x
      obtain ⟨z0, _, _, _, q0, _⟩ := hf2 0 (by omega)
      have hspot : spot = none := by simpa [Addr.add] using World.cell?_spot q0
      subst hspot
      have hb := World.block_lt_of_cell? w _ q0
      refine ⟨b, off, rfl, by simpa [Addr.add] using hb, fun j hj => ?_⟩
      obtain ⟨x0, x1, x2, x3, g0, g1, g2, g3, g⟩ := hf2 j (by omega)
      rw [Go.WideShapes.add_plain] at g0 g1 g2 g3
      have e : ((List.range len0).map f)[j] = f j := by simp
      rw [e]
      exact ⟨x0, x1, x2, x3, g0, by rw [Nat.add_assoc]; exact g1, by rw [Nat.add_assoc]; exact g2, by rw [Nat.add_assoc]; exact g3, g⟩
end Go.Proofs.YtpnlfeljmpfeoaaGreatDoor

/- How the arguments of the statements about layer 9 are opened; the listed variables. -/
namespace Go.Proofs.YtpnlfeljmpfeoaaGreatDoor
open Go.ChangeShapes Go.WideShapes Go.ChangeAt Go.RowKit Go.Joins

theorem strs_of_elems {H : Type} {enc : TypeId × Value → H} {P : Program} {w : World} {base : Nat} {spare : Nat → Bool} {held : Bool} {e : TypeId} (he : P.underlying e = some .string) (hC : P.cellsOf e = 1)
    (m : Nat) : ∀ (cs : List Value) (xs : List (DataW H × List MemPlace)) (ls : List (List UInt8)), cs.length = xs.length → xs.map (·.1) = ls.map (fun l => DataW.lit (.string l)) → (∀ i, i < xs.length → DataW.trod enc P w base spare held m e ((cs.drop (i * P.cellsOf e)).take (P.cellsOf e)) = xs[i]?) →
      cs = ls.map str
  | [], xs, ls, hl, hm, _ => by
    have : xs = [] := List.length_eq_zero_iff.1 (by simpa using hl.symm)
    subst this
    cases ls with
    | nil => rfl
    | cons _ _ => simp at hm
  | c :: cs, [], _, h, _, _ => by simp at h
  | c :: cs, x :: xs, [], _, hm, _ => by simp at hm
  | c :: cs, x :: xs, l :: ls, hl, hm, h => by
    have h0 := h 0 (by simp)
    rw [hC] at h0
    simp only [Nat.zero_mul, List.drop_zero, List.take_succ_cons, List.take_zero, List.getElem?_cons_zero] at h0
    obtain ⟨s, e0, hx, _⟩ := DataW.trod_string he h0
    simp only [List.cons.injEq, and_true] at e0
    subst e0
    simp only [List.map_cons, List.cons.injEq] at hm
    have hs : s.data.toList = l := by
      have := hm.1
      rw [hx] at this
      simpa using this
    have ih := strs_of_elems he hC m cs xs ls (by simpa using hl) hm.2 (fun i hi => by
      have := h (i + 1) (by simp; omega)
      rw [hC] at this ⊢
      simpa using this)
    rw [List.map_cons, ← ih, ← hs]
    rfl

theorem trod_if {H : Type} {enc : TypeId × Value → H} {P : Program} {w : World} {base : Nat} {spare : Nat → Bool} {held : Bool} {t : TypeId} {ms : Array (String × TypeId)} {cs : List Value} {d : DataW H} {p : List MemPlace} (ht : P.underlying t = some (.interface ms)) :
    ∀ fuel, DataW.trod enc P w base spare held fuel t cs = some (d, p) → ∃ ev, cs = [ev] ∧ (ev = .nilIface ∨ ∃ te pe, ev = .iface te pe)
  | 0, h => by simp [DataW.trod] at h
  | fuel + 1, h => by
    match cs with
    | [] => simp [DataW.trod, ht] at h
    | [v] =>
      refine ⟨v, rfl, ?_⟩
      cases v with
      | nilIface => exact .inl rfl
      | iface te pe => exact .inr ⟨_, _, rfl⟩
      | _ => simp [DataW.trod, ht] at h
    | a :: b :: c => cases a <;> simp [DataW.trod, ht] at h
theorem err_of {W : World} {n : String} {g : Nat} {d : DataW Unit} (h : Lib.VarReads Tryz.prog W n d) (hg : Tryz.prog.globalNamed n = some g) (ht : (Tryz.prog.globals[g]?).map (·.type) = some 67) :
    ∃ ev, W.cell? ⟨g, 0, none⟩ = some ev ∧ (ev = .nilIface ∨ ∃ te pe, ev = .iface te pe) := by
  obtain ⟨g', t', cs, fuel, p, hg', ht', hvar, hd⟩ := h
  obtain rfl := Option.some.inj (hg.symm.trans hg')
  obtain rfl := Option.some.inj (ht.symm.trans ht')
  obtain ⟨ev, he, hv⟩ := trod_if Tryz.underlying67 _ hd
  refine ⟨ev, ?_, hv⟩
  have hc := World.var?_cell hg hvar 0
  rw [hc]
  have : cs = #[ev] := by rw [← he]
  rw [this]; rfl
theorem gPos : Tryz.prog.globalNamed "spile/cask.positions" = some 0 := by kernel_rfl
theorem gPow : Tryz.prog.globalNamed "internal/strconv.uint64pow10" = some 1 := by kernel_rfl
theorem pos_of {W : World} (h : Lib.VarReads Tryz.prog W "spile/cask.positions" Rows.laid_spile_cask_positions) :
    W.cell? ⟨0, 0, none⟩ = some (str []) ∧ W.cell? ⟨0, 1, none⟩ = some (str wLy) ∧ W.cell? ⟨0, 2, none⟩ = some (str wSt) := by
  obtain ⟨g', t', cs, fuel, p, hg', ht', hvar, hd⟩ := h
  obtain rfl := Option.some.inj (gPos.symm.trans hg')
  obtain rfl := Option.some.inj ((show (Tryz.prog.globals[0]?).map (·.type) = some 71 by kernel_rfl).symm.trans ht')
  obtain ⟨xs, m, _, hx, hl, hl2, hel⟩ := DataW.trod_array Tryz.underlying71 hd
  have hcs := strs_of_elems Tryz.underlying9 (by kernel_rfl) m cs.toList xs [[], wLy, wSt] (by rw [hl, hl2]; kernel_rfl) (by
    have := congrArg Prod.fst hx
    simp only [Rows.laid_spile_cask_positions] at this
    simpa [wLy, wSt] using this.symm) (fun i hi => hel i (by omega))
  have hcell := World.var?_cell gPos hvar
  have e : cs = ([[], wLy, wSt].map str).toArray := by rw [← hcs]
  rw [hcell 0, hcell 1, hcell 2, e]
  exact ⟨rfl, rfl, rfl⟩
theorem laid_of {W : World} {l : List (String × DataW Unit)} (hp : l = [("math/bits.deBruijn32tab", Rows.laid_math_bits_deBruijn32tab), ("math/bits.deBruijn64tab", Rows.laid_math_bits_deBruijn64tab), ("internal/strconv.uint64pow10", Rows.laid_internal_strconv_uint64pow10), ("unicode/utf8.acceptRanges", Rows.laid_unicode_utf8_acceptRanges), ("strconv.ErrRange", Rows.laid_strconv_ErrRange), ("strconv.ErrSyntax", Rows.laid_strconv_ErrSyntax), ("spile/cask.positions", Rows.laid_spile_cask_positions), ("unicode/utf8.first", Rows.laid_unicode_utf8_first)]) (h : laidMetH Tryz.prog l W) (hS : W.ShapedOpen Tryz.prog) : CV W := by
  subst hp
  rw [MakeChecks.laidMetH_plain _ _ _ (by kernel_rfl)] at h
  obtain ⟨p0, p1, p2⟩ := pos_of (Lib.laidMet.reads h (.tail _ (.tail _ (.tail _ (.tail _ (.tail _ (.tail _ (.head _))))))))
  exact ⟨tab_of h (.tail _ (.tail _ (.head _))) (by kernel_rfl) gPow (by kernel_rfl) (t := 131) Tryz.underlying131 Tryz.underlying119 (by kernel_rfl) (by kernel_rfl),
    p1, p2, p0,
    err_of (Lib.laidMet.reads h (.tail _ (.tail _ (.tail _ (.tail _ (.tail _ (.head _))))))) (by kernel_rfl) (by kernel_rfl),
    err_of (Lib.laidMet.reads h (.tail _ (.tail _ (.tail _ (.tail _ (.head _)))))) (by kernel_rfl) (by kernel_rfl),
    Tryz.laysM146.s1_3 W hS⟩
end Go.Proofs.YtpnlfeljmpfeoaaGreatDoor

/- Plain facts for the statements about layer 9: what Parse answers; how much a right list holds. -/
namespace Go.Proofs.YtpnlfeljmpfeoaaGreatDoor
open Go.RowKit

theorem liE_sm {l : List Ck} (h : liE l = 0) : l.length ≤ 32 ∧ ∀ c ∈ l, ccE c = 0 := by
  unfold liE at h
  split at h
  · omega
  · split at h
    · rename_i h1 h2
      exact ⟨by omega, (fE_zero l).1 h2⟩
    · rename_i h1 h2; exact absurd h h2
theorem liE_pf {l : List Ck} (h : liE l = 0) : l.length ≤ 1000 ∧ ∀ c ∈ l, c.pf.length ≤ 1000 := by
  obtain ⟨h1, h2⟩ := liE_sm h
  exact ⟨by omega, fun c hc => by have := (ccE_pf (h2 c hc)).2.2.2.n1; omega⟩
/-- what Parse answers -/
noncomputable def paL (s : ByteArray) : List Ck := match paS s.data.toList with | (some l, _) => if liE l = 0 then l else [] | (none, _) => []
noncomputable def paN (s : ByteArray) : Int := match paS s.data.toList with | (some _, _) => 0 | (none, m) => m
noncomputable def paE (s : ByteArray) : Int := match paS s.data.toList with | (some l, _) => liE l | (none, _) => 3
theorem cks_nil0 (w : World) : Cks w (.slice none 0 0) [] := ⟨none, 0, rfl, by simp, .inl rfl⟩
theorem PaF.is {s : ByteArray} {v : Value} {n E : Int} {w : World} (h : PaF s v n E w) (hs : s.size ≤ 65536) : n = paN s ∧ E = paE s ∧ Cks w v (paL s) := by
  have hp := h.1 hs
  have hv := h.2.2
  unfold paN paE paL
  rcases e : paS s.data.toList with ⟨_ | l, k⟩
  · obtain ⟨h1, h2⟩ := hp.1 k e
    exact ⟨h1, h2, by rw [hv (by omega)]; exact cks_nil0 w⟩
  · obtain ⟨h1, h2, h3⟩ := hp.2 l k e
    refine ⟨h1, h2, ?_⟩
    simp only
    by_cases hz : liE l = 0
    · rw [if_pos hz]; exact h3 hz
    · rw [if_neg hz, hv (by omega)]; exact cks_nil0 w
theorem paL_small (s : ByteArray) : (paL s).length ≤ 1000 ∧ ∀ c ∈ paL s, c.pf.length ≤ 1000 := by
  unfold paL
  rcases paS s.data.toList with ⟨_ | l, k⟩
  · simp
  · simp only
    by_cases hz : liE l = 0
    · rw [if_pos hz]; exact liE_pf hz
    · rw [if_neg hz]; simp
theorem parse_is (s : ByteArray) (w : World) (hw : CV w) (hs : s.size ≤ 65536) : Calls Tryz.prog 24 #[.string s] w fun e w' => ∃ v, e = .returned (.tuple #[v, .int .i64 (paN s), .int .i64 (paE s)]) ∧ Cks w' v (paL s) ∧ Below w.heap.size w w' :=
  (cPar_any s w hw).mono fun e w' ⟨v, n, E, h1, h2, h3⟩ => by
    obtain ⟨rfl, rfl, h4⟩ := h2.is hs
    exact ⟨v, h1, h4, h3⟩
theorem refParse_is (s : ByteArray) (w : World) (hs : s.size ≤ 65536) : Calls Tryz.prog 25 #[.string s] w fun e w' => ∃ v, e = .returned (.tuple #[v, .int .i64 (paN s), .int .i64 (paE s)]) ∧ Cks w' v (paL s) ∧ Below w.heap.size w w' :=
  (refPar_any s w).mono fun e w' ⟨v, n, E, h1, h2, h3⟩ => by
    obtain ⟨rfl, rfl, h4⟩ := h2.is hs
    exact ⟨v, h1, h4, h3⟩
end Go.Proofs.YtpnlfeljmpfeoaaGreatDoor

/- Copies in the statements about layer 9. -/
namespace Go.Proofs.YtpnlfeljmpfeoaaGreatDoor
open Go.RowKit

theorem fewB_small {l : List Ck} (h : fewB l = true) : l.length ≤ 33 ∧ ∀ c ∈ l, c.pf.length ≤ 1000 := by
  unfold fewB at h
  simp only [Bool.and_eq_true, decide_eq_true_eq, List.all_eq_true] at h
  exact ⟨h.2, fun c hc => by
    have := h.1 c hc
    unfold fewC at this
    simp at this
    omega⟩
theorem cks_bounds {w : World} {v : Value} {l : List Ck} (h : Cks w v l) : ∀ c ∈ l, c.nm.size ≤ 9223372036854775807 ∧ (-9223372036854775808 ≤ c.ps ∧ c.ps ≤ 9223372036854775807) ∧ (-9223372036854775808 ≤ c.dc ∧ c.dc ≤ 9223372036854775807) := by
  obtain ⟨a, cap, rfl, _, hh⟩ := h
  intro c hc
  obtain ⟨j, hj, rfl⟩ := List.getElem_of_mem hc
  rcases hh with hh | ⟨b, off, rfl, hb, hcs⟩
  · omega
  · obtain ⟨x0, x1, x2, x3, _, _, _, _, hk⟩ := hcs j hj
    obtain ⟨_, _, _, _, h1, h2, h3⟩ := hk
    exact ⟨h1, h2, h3⟩
theorem own_reads {W w' : World} {B : Nat} {u v : Value} {l : List Ck} (hu : OwnC w' B u l) (hv : Cks W v l) : Cks w' u l := hu.cks (cks_bounds hv)
theorem copy_is (v : Value) (l : List Ck) (W : World) (hv : Cks W v l) (h : fewB l = true) : Calls Tryz.prog 13 #[v] W fun e w' => ∃ u, e = .returned u ∧ Cks w' u l ∧ Below W.heap.size W w' := by
  obtain ⟨h1, h2⟩ := fewB_small h
  refine (refCopy_any v l W hv (by omega) h2).mono ?_
  rintro e w' ⟨u, rfl, hu, gg⟩
  exact ⟨u, rfl, own_reads hu hv, gg⟩
end Go.Proofs.YtpnlfeljmpfeoaaGreatDoor

/- Plain facts for the statements about layer 9: texts that come back. -/
namespace Go.Proofs.YtpnlfeljmpfeoaaGreatDoor
open Go.RowKit

theorem ptN_le2 (x r : Int) (hx : 0 ≤ x ∧ x ≤ 1000000) (hr : 0 ≤ r ∧ r ≤ 1000000) : (ptN (x, r)).length ≤ 55 := by
  have : (jn (ptW (x, r))).length ≤ 54 := by
    refine Nat.le_trans (jn_le _) ?_
    have i1 := Lib.itoa_length_le x (by omega) (by omega)
    have i2 := Lib.itoa_length_le r (by omega) (by omega)
    simp only [ptW, List.map_cons, List.map_nil, List.sum_cons, List.sum_nil]
    have e1 : wAt.length = 2 := rfl
    have e2 : wRa.length = 6 := rfl
    omega
  unfold ptN
  rw [List.length_append]; simp; omega
theorem ptT_le2 {c : Ck} (h : ccE c = 0) (j : Nat) (hj : j ≤ c.pf.length) : (ptT c j).length ≤ 55 * j := by
  induction j with
  | zero => simp [ptT]
  | succ j ih =>
    rw [ptT_succ c j hj, List.length_append]
    obtain ⟨a, b⟩ := pf_bd h j hj
    have := ptN_le2 _ _ a b
    have := ih (by omega)
    omega
theorem prT_le2 {l : List Ck} (h : ∀ c ∈ l, ccE c = 0) (k : Nat) (hk : k ≤ l.length) : (prT (l.take k)).length ≤ 2048 * k := by
  induction k with
  | zero => simp [prT, lnA]
  | succ k ih =>
    have hc := h _ (List.getElem_mem (l := l) hk)
    rw [prT_succ l k hk, List.length_append, List.length_append, List.length_append]
    have := (hd_le hc).2
    have := ptT_le2 hc _ (Nat.le_refl _)
    have := (ccE_pf hc).2.2.2.n1
    have := ih (by omega)
    have e : enT.length = 4 := rfl
    omega
theorem prT_fits {l : List Ck} (h : liE l = 0) : (prT l).length ≤ 65536 := by
  obtain ⟨h1, h2⟩ := liE_sm h
  have := prT_le2 h2 l.length (Nat.le_refl _)
  rw [List.take_length] at this
  omega
theorem back {l : List Ck} (h : liE l = 0) : (⟨(prS l).toArray⟩ : ByteArray).size ≤ 65536 ∧ paN ⟨(prS l).toArray⟩ = 0 ∧ paE ⟨(prS l).toArray⟩ = 0 ∧ paL ⟨(prS l).toArray⟩ = l := by
  have e : prS l = prT l := by unfold prS; rw [if_pos h]
  have e2 : paS (⟨(prS l).toArray⟩ : ByteArray).data.toList = (some l, 0) := by
    rw [e]
    exact paS_prT (fun c hc => right_tx ((liE_sm h).2 c hc))
  refine ⟨by rw [str_size, e]; exact prT_fits h, ?_, ?_, ?_⟩
  · unfold paN; rw [e2]
  · unfold paE; rw [e2]; exact h
  · unfold paL; rw [e2]; simp only; rw [if_pos h]
theorem ckE_n3 (l : List (Int × Int)) : ckE l ≠ 3 := by unfold ckE; repeat' split <;> first | decide | skip
theorem ccE_n3 (c : Ck) : ccE c ≠ 3 := by
  unfold ccE
  split
  · split
    · decide
    · exact ckE_n3 _
  · decide
theorem fE_n3 (l : List Ck) : fE l ≠ 3 := by
  induction l with
  | nil => decide
  | cons c l ih =>
    unfold fE
    split
    · exact ih
    · exact ccE_n3 c
theorem liE_n3 (l : List Ck) : liE l ≠ 3 := by
  unfold liE
  split
  · decide
  · split
    · split <;> decide
    · exact fE_n3 l
/-- what is read is printed as it was -/
theorem again (s : ByteArray) : (paE s = 0 → liE (paL s) = 0 ∧ (⟨(prS (paL s)).toArray⟩ : ByteArray) = s ∧ paN s = 0) ∧ (paE s ≠ 0 → paL s = [] ∧ (decide (0 < paN s) = decide (paE s = 3))) := by
  unfold paE paL paN
  rcases e : paS s.data.toList with ⟨_ | l, k⟩
  · have hk := paS_bad e
    refine ⟨fun h => by simp at h, fun _ => ⟨by simp, ?_⟩⟩
    simp; omega
  · obtain ⟨h1, rfl⟩ := prT_paS e
    refine ⟨fun h => ?_, fun h => ?_⟩
    · simp only at h ⊢
      rw [if_pos h]
      exact ⟨h, by unfold prS; rw [if_pos h, h1], by simp⟩
    · simp only at h ⊢
      rw [if_neg h]
      exact ⟨rfl, by have := liE_n3 l; simp [this]⟩
end Go.Proofs.YtpnlfeljmpfeoaaGreatDoor
