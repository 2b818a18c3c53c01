/-
  The statement DensityFaults of spile/spilelaw16 holds: for every input the call returns true, and each argument reads afterwards as it read before. (The listed package variables hold what the program lays: the card ties them.)
-/
import Derived.Test.YtnoagfpffdalnaaDoorM1
import Derived.Test.YtnoagfpffdalnaaDoorCards
import Derived.Test.YtnoagfpffdalnaaDoorTie
import Derived.Below
import Derived.Carry
import Derived.Lib.LaidTab
import Derived.Deep.DeepHandedRow
import Derived.SevenTiedPlain
import Derived.Lay
set_option linter.unusedVariables false
set_option linter.unusedSimpArgs false
namespace Go.Proofs.YtnoagfpffdalnaaDoor.densityFaults
open Go.ChangeShapes Go.WideShapes Go.ChangeAt Go.RowKit
open Go.ChangeMaps (open_string shut_string)
set_option linter.unusedVariables false

/-- rows with one strength or density put in -/
def putX (l : List (Int × Int)) (k : Nat) (z : Int) : List (Int × Int) := l.set k (z, gR l k)
def putR (l : List (Int × Int)) (k : Nat) (z : Int) : List (Int × Int) := l.set k (gX l k, z)
theorem put_at (l : List (Int × Int)) (k : Nat) (q : Int × Int) (j : Nat) (hj : j < l.length) : gX (l.set k q) j = (if j = k then q.1 else gX l j) ∧ gR (l.set k q) j = (if j = k then q.2 else gR l j) := by
  unfold gX gR
  simp only [List.getD_eq_getElem?_getD, List.getElem?_set]
  by_cases e : k = j
  · subst e; simp [hj]
  · have e2 : ¬ j = k := fun h => e h.symm
    simp [e, e2]
theorem flt_up {l : List (Int × Int)} (h : DR l) {k : Nat} (k0 : 1 ≤ k) (k1 : k < l.length) : dnI (putR l k (gR l (k - 1) + 1)) = k ∧ dnE (putR l k (gR l (k - 1) + 1)) = if 120000 < gR l (k - 1) + 1 then 2 else 18 := by
  have n0 := h.n0
  have n1 := h.n1
  have len : (putR l k (gR l (k - 1) + 1)).length = l.length := by simp [putR]
  have at_ := fun j hj => put_at l k (gX l k, gR l (k - 1) + 1) j hj
  have f0 : ∀ j, j < k → dnF (putR l k (gR l (k - 1) + 1)) j = 0 := fun j hj => by
    unfold putR
    rw [dnF_zero, (at_ j (by omega)).1, (at_ j (by omega)).2, (at_ (j - 1) (by omega)).1, (at_ (j - 1) (by omega)).2, if_neg (by omega), if_neg (by omega), if_neg (by omega), if_neg (by omega)]
    exact ⟨h.b j (by omega), fun e => h.lt (by omega) (by omega), fun e => h.ge (by omega) (by omega)⟩
  have b0 := h.b (k - 1) (by omega)
  have b1 := h.b k k1
  have lt := h.lt (j := k - 1) (i := k) (by omega) k1
  have fk : dnF (putR l k (gR l (k - 1) + 1)) k = if 120000 < gR l (k - 1) + 1 then 2 else 18 := by
    unfold putR dnF
    rw [(at_ k k1).1, (at_ k k1).2, (at_ (k - 1) (by omega)).1, (at_ (k - 1) (by omega)).2, if_pos rfl, if_pos rfl, if_neg (show ¬ k - 1 = k by omega), if_neg (show ¬ k - 1 = k by omega)]
    simp only []
    by_cases q : 120000 < gR l (k - 1) + 1
    · rw [if_pos q]
      cases ho : outB (gX l k) (gR l (k - 1) + 1) with
      | true => exact if_pos rfl
      | false => have := outB_false.1 ho; omega
    · rw [if_neg q, outB_false.2 ⟨b1.1, b1.2.1, by omega, by omega⟩, if_neg (by simp), if_neg (show ¬ (k ≠ 0 ∧ gX l k ≤ gX l (k - 1)) by omega), if_pos ⟨by omega, by omega⟩]
  have := dnE_at (l := putR l k (gR l (k - 1) + 1)) (k := k) (by omega) (by omega) (by omega) f0 (by rw [fk]; split <;> decide)
  exact ⟨this.2, by rw [this.1, fk]⟩
theorem flt_dn {l : List (Int × Int)} (h : DR l) {k : Nat} (k0 : 1 ≤ k) (k1 : k < l.length) : dnI (putX l k (gX l (k - 1))) = k ∧ dnE (putX l k (gX l (k - 1))) = 5 := by
  have n0 := h.n0
  have n1 := h.n1
  have len : (putX l k (gX l (k - 1))).length = l.length := by simp [putX]
  have at_ := fun j hj => put_at l k (gX l (k - 1), gR l k) j hj
  have f0 : ∀ j, j < k → dnF (putX l k (gX l (k - 1))) j = 0 := fun j hj => by
    unfold putX
    rw [dnF_zero, (at_ j (by omega)).1, (at_ j (by omega)).2, (at_ (j - 1) (by omega)).1, (at_ (j - 1) (by omega)).2, if_neg (by omega), if_neg (by omega), if_neg (by omega), if_neg (by omega)]
    exact ⟨h.b j (by omega), fun e => h.lt (by omega) (by omega), fun e => h.ge (by omega) (by omega)⟩
  have b0 := h.b (k - 1) (by omega)
  have b1 := h.b k k1
  have fk : dnF (putX l k (gX l (k - 1))) k = 5 := by
    unfold putX dnF
    rw [(at_ k k1).1, (at_ k k1).2, (at_ (k - 1) (by omega)).1, (at_ (k - 1) (by omega)).2, if_pos rfl, if_pos rfl, if_neg (show ¬ k - 1 = k by omega), if_neg (show ¬ k - 1 = k by omega)]
    simp only []
    rw [outB_false.2 ⟨b0.1, b0.2.1, b1.2.2.1, b1.2.2.2⟩, if_neg (by simp), if_pos ⟨by omega, by omega⟩]
  have := dnE_at (l := putX l k (gX l (k - 1))) (k := k) (by omega) (by omega) (by omega) f0 (by rw [fk]; decide)
  exact ⟨this.2, by rw [this.1, fk]⟩
set_option maxHeartbeats 8000000 in
set_option maxRecDepth 100000 in
theorem long (a : Option Addr) (n cap : Nat) (q : Int) (u : Bool) (l : List (Int × Int)) (w : World) (HV : Hid (CV w)) (NV : Hid (Pts w (.slice a n cap) l)) (hf : fwB l.length = false) :
    Calls Tryd.prog 9 #[.slice a n cap, .int .u8 q, .bool u] w fun e w' => e = .returned (.bool true) ∧ Below w.heap.size w w' := by
  have FW := Lib.hid (fun v W h => few_any v l W h)
  rw [hf] at FW
  have HB := Lib.hid (Below.refl w.heap.size w)
  go_enter Tryd.func9, Tryd.ntmps9
  go_wp2_with fail
  refine (nawake_any w HV.out).mono ?_
  rintro e w0 ⟨rfl, h1⟩
  replace NV := Lib.hid (NV.out.below h1)
  replace HB := Lib.hid (bel_trans HB.out h1); clear h1
  go_wp2_with fail
  refine (FW.out _ _ NV.out).mono ?_
  rintro e w90 ⟨rfl, hw⟩
  subst hw
  go_wp2
  go_returns
  exact ⟨rfl, HB.out⟩
set_option maxHeartbeats 8000000 in
set_option maxRecDepth 100000 in
theorem bad (a : Option Addr) (n cap : Nat) (q I E : Int) (u : Bool) (l : List (Int × Int)) (w : World) (HV : Hid (CV w)) (NV : Hid (Pts w (.slice a n cap) l)) (hf : fwB l.length = true) (hE : (E != 0) = true)
    (C1 : Hid (∀ W, Pts W (.slice a n cap) l → Calls Tryd.prog 12 #[.slice a n cap] W fun e w' => e = .returned (.tuple #[.int .i64 I, .int .i64 E]) ∧ Below W.heap.size W w')) :
    Calls Tryd.prog 9 #[.slice a n cap, .int .u8 q, .bool u] w fun e w' => e = .returned (.bool true) ∧ Below w.heap.size w w' := by
  have FW := Lib.hid (fun v W h => few_any v l W h)
  rw [hf] at FW
  have HB := Lib.hid (Below.refl w.heap.size w)
  go_enter Tryd.func9, Tryd.ntmps9
  go_wp2_with fail
  refine (nawake_any w HV.out).mono ?_
  rintro e w0 ⟨rfl, h1⟩
  replace NV := Lib.hid (NV.out.below h1)
  replace HB := Lib.hid (bel_trans HB.out h1); clear h1
  go_wp2_with fail
  refine (FW.out _ _ NV.out).mono ?_
  rintro e w90 ⟨rfl, hw⟩
  subst hw
  go_wp2_with fail
  refine (C1.out _ NV.out).mono ?_
  rintro e w7 ⟨rfl, h1⟩
  replace NV := Lib.hid (NV.out.below h1)
  replace HB := Lib.hid (bel_trans HB.out h1); clear h1
  go_wp2
  go_returns
  exact ⟨rfl, HB.out⟩
set_option maxHeartbeats 8000000 in
set_option maxRecDepth 100000 in
theorem short (a : Option Addr) (n cap : Nat) (q I : Int) (u : Bool) (l : List (Int × Int)) (w : World) (HV : Hid (CV w)) (NV : Hid (Pts w (.slice a n cap) l)) (hf : fwB l.length = true) (hn : decide ((n : Int) < 3) = true)
    (C1 : Hid (∀ W, Pts W (.slice a n cap) l → Calls Tryd.prog 12 #[.slice a n cap] W fun e w' => e = .returned (.tuple #[.int .i64 I, .int .i64 0]) ∧ Below W.heap.size W w')) :
    Calls Tryd.prog 9 #[.slice a n cap, .int .u8 q, .bool u] w fun e w' => e = .returned (.bool true) ∧ Below w.heap.size w w' := by
  have FW := Lib.hid (fun v W h => few_any v l W h)
  rw [hf] at FW
  have HB := Lib.hid (Below.refl w.heap.size w)
  go_enter Tryd.func9, Tryd.ntmps9
  go_wp2_with fail
  refine (nawake_any w HV.out).mono ?_
  rintro e w0 ⟨rfl, h1⟩
  replace NV := Lib.hid (NV.out.below h1)
  replace HB := Lib.hid (bel_trans HB.out h1); clear h1
  go_wp2_with fail
  refine (FW.out _ _ NV.out).mono ?_
  rintro e w90 ⟨rfl, hw⟩
  subst hw
  go_wp2_with fail
  refine (C1.out _ NV.out).mono ?_
  rintro e w11 ⟨rfl, h1⟩
  replace NV := Lib.hid (NV.out.below h1)
  replace HB := Lib.hid (bel_trans HB.out h1); clear h1
  go_wp2
  go_returns
  exact ⟨rfl, HB.out⟩
set_option maxHeartbeats 16000000 in
set_option maxRecDepth 100000 in
theorem upB (a : Option Addr) (n cap : Nat) (q I X1 : Int) (i g : Nat) (m : List (Int × Int)) (l : List (Int × Int)) (w : World) (HV : Hid (CV w)) (NV : Hid (Pts w (.slice a n cap) l)) (hf : fwB l.length = true) (bq : 0 ≤ q ∧ q ≤ 255) (h3 : 3 ≤ n ∧ n ≤ 133) (hi : 1 + q % ((n : Int) - 2) = (i : Int)) (i0 : 1 ≤ i) (i1 : i < n) (hX : gR l (i - 1) = X1) (bX : -1000000 ≤ X1 ∧ X1 ≤ 1000000) (hm : m.length = n) (d1 : decide (120000 < X1 + 1) = true)
    (C1 : Hid (∀ W, Pts W (.slice a n cap) l → Calls Tryd.prog 12 #[.slice a n cap] W fun e w' => e = .returned (.tuple #[.int .i64 I, .int .i64 0]) ∧ Below W.heap.size W w'))
    (CL : Hid (∀ W, Pts W (.slice a n cap) l → Calls Tryd.prog 30 #[.slice a n cap] W fun e w' => ∃ g cap, e = .returned (.slice (some ⟨g, 0, none⟩) n cap) ∧ (n ≤ cap ∧ cap ≤ 9223372036854775807) ∧ W.heap.size ≤ g ∧ g < w'.heap.size ∧ CC w' g n (gX l) (gR l) ∧ Below W.heap.size W w'))
    (CM : Hid (∀ v W, Pts W v m → Calls Tryd.prog 12 #[v] W fun e w' => e = .returned (.tuple #[.int .i64 (i : Int), .int .i64 2]) ∧ Below W.heap.size W w'))
    (hM : Hid (∀ j, j < n → gX l j = gX m j ∧ (if j = i then X1 + 1 else gR l j) = gR m j)) :
    Calls Tryd.prog 9 #[.slice a n cap, .int .u8 q, .bool true] w fun e w' => e = .returned (.bool true) ∧ Below w.heap.size w w' := by
  have dn : decide ((n : Int) < 3) = false := decide_eq_false (by omega)
  have w1 : IntKind.i64.wrap q = q := wrap_in _ ⟨by omega, by omega⟩
  have w2 : IntKind.i64.wrap ((n : Int) - 2) = (n : Int) - 2 := wrap_in _ ⟨by omega, by omega⟩
  have nz : ((n : Int) - 2 == 0) = false := by rw [beq_eq_false_iff_ne]; omega
  have nz2 : ¬ (n : Int) - 2 = 0 := by omega
  have w3 : q.tmod ((n : Int) - 2) = (i : Int) - 1 := by rw [Int.tmod_eq_emod_of_nonneg (by omega)]; omega
  have w3' : q % ((n : Int) - 2) = (i : Int) - 1 := by omega
  have w4 : IntKind.i64.wrap (1 + ((i : Int) - 1)) = (i : Int) := by rw [wrap_in _ ⟨by omega, by omega⟩]; omega
  have w5 : (1 : Int) + ((i : Int) - 1) = (i : Int) := by omega
  have w6 : IntKind.i64.wrap ((i : Int) - 1) = ((i - 1 : Nat) : Int) := by rw [wrap_in _ ⟨by omega, by omega⟩]; omega
  have w7 : IntKind.i64.wrap (X1 + 1) = X1 + 1 := wrap_in _ ⟨by omega, by omega⟩
  have e6 : ((i : Int) - 1) = ((i - 1 : Nat) : Int) := by omega
  have l0 : ((i - 1 : Nat) : Int) < (n : Int) := by omega
  have l1 : (i : Int) < (n : Int) := by omega
  have FW := Lib.hid (fun v W h => few_any v l W h)
  rw [hf] at FW
  have HB := Lib.hid (Below.refl w.heap.size w)
  go_enter Tryd.func9, Tryd.ntmps9
  go_wp2_with fail
  refine (nawake_any w HV.out).mono ?_
  rintro e w0 ⟨rfl, h1⟩
  replace NV := Lib.hid (NV.out.below h1)
  replace HB := Lib.hid (bel_trans HB.out h1); clear h1
  go_wp2_with fail
  refine (FW.out _ _ NV.out).mono ?_
  rintro e w90 ⟨rfl, hw⟩
  subst hw
  go_wp2_with fail
  refine (C1.out _ NV.out).mono ?_
  rintro e w15 ⟨rfl, h1⟩
  replace NV := Lib.hid (NV.out.below h1)
  replace HB := Lib.hid (bel_trans HB.out h1); clear h1
  go_wp2_with fail
  refine (CL.out _ NV.out).mono ?_
  rintro e w80 ⟨g, cap2, rfl, hcap, hg, hgl, hcc, h1⟩
  replace NV := Lib.hid (NV.out.below h1)
  have HB0 := Lib.hid HB.out
  replace HB := Lib.hid (bel_trans HB.out h1)
  have H80 := Lib.hid h1; clear h1
  obtain ⟨b, off, rfl, hb, hc⟩ := NV.out.at (by omega)
  have c0 := (hc (i - 1) (by omega)).2
  rw [hX] at c0
  clear hc
  have CW := Lib.hid hcc; clear hcc
  obtain ⟨⟨k0, k1⟩, k2, k3⟩ := CW.out i (by omega)
  have gw : Hid (w.heap.size ≤ g) := Lib.hid (Nat.le_trans HB0.out.size hg)
  have X := Lib.hid (HB.out.setCell (p := ⟨g, i * 2 + 1, none⟩) gw.out (.int .i64 (X1 + 1)))
  have CS := Lib.hid (CW.out.setR (k := i) (by omega) (X1 + 1))
  have PM := Lib.hid (CC.pts (l := m) CS.out (by simpa [World.setCell] using hgl) hm hcap (fun j hj => by have := hM.out j hj; exact this))
  have ks := World.cell?_setCell_same w80 ⟨g, i * 2 + 1, none⟩ (.int .i64 (X1 + 1)) k1
  go_wp2_with fail
  refine (CM.out _ _ PM.out).mono ?_
  rintro e w81 ⟨rfl, h1⟩
  replace HB := Lib.hid (bel_trans X.out h1); clear h1
  go_wp2
  go_returns
  exact ⟨rfl, HB.out⟩
set_option maxHeartbeats 16000000 in
set_option maxRecDepth 100000 in
theorem upS (a : Option Addr) (n cap : Nat) (q I X1 : Int) (i g : Nat) (m : List (Int × Int)) (l : List (Int × Int)) (w : World) (HV : Hid (CV w)) (NV : Hid (Pts w (.slice a n cap) l)) (hf : fwB l.length = true) (bq : 0 ≤ q ∧ q ≤ 255) (h3 : 3 ≤ n ∧ n ≤ 133) (hi : 1 + q % ((n : Int) - 2) = (i : Int)) (i0 : 1 ≤ i) (i1 : i < n) (hX : gR l (i - 1) = X1) (bX : -1000000 ≤ X1 ∧ X1 ≤ 1000000) (hm : m.length = n) (d1 : decide (120000 < X1 + 1) = false)
    (C1 : Hid (∀ W, Pts W (.slice a n cap) l → Calls Tryd.prog 12 #[.slice a n cap] W fun e w' => e = .returned (.tuple #[.int .i64 I, .int .i64 0]) ∧ Below W.heap.size W w'))
    (CL : Hid (∀ W, Pts W (.slice a n cap) l → Calls Tryd.prog 30 #[.slice a n cap] W fun e w' => ∃ g cap, e = .returned (.slice (some ⟨g, 0, none⟩) n cap) ∧ (n ≤ cap ∧ cap ≤ 9223372036854775807) ∧ W.heap.size ≤ g ∧ g < w'.heap.size ∧ CC w' g n (gX l) (gR l) ∧ Below W.heap.size W w'))
    (CM : Hid (∀ v W, Pts W v m → Calls Tryd.prog 12 #[v] W fun e w' => e = .returned (.tuple #[.int .i64 (i : Int), .int .i64 18]) ∧ Below W.heap.size W w'))
    (hM : Hid (∀ j, j < n → gX l j = gX m j ∧ (if j = i then X1 + 1 else gR l j) = gR m j)) :
    Calls Tryd.prog 9 #[.slice a n cap, .int .u8 q, .bool true] w fun e w' => e = .returned (.bool true) ∧ Below w.heap.size w w' := by
  have dn : decide ((n : Int) < 3) = false := decide_eq_false (by omega)
  have w1 : IntKind.i64.wrap q = q := wrap_in _ ⟨by omega, by omega⟩
  have w2 : IntKind.i64.wrap ((n : Int) - 2) = (n : Int) - 2 := wrap_in _ ⟨by omega, by omega⟩
  have nz : ((n : Int) - 2 == 0) = false := by rw [beq_eq_false_iff_ne]; omega
  have nz2 : ¬ (n : Int) - 2 = 0 := by omega
  have w3 : q.tmod ((n : Int) - 2) = (i : Int) - 1 := by rw [Int.tmod_eq_emod_of_nonneg (by omega)]; omega
  have w3' : q % ((n : Int) - 2) = (i : Int) - 1 := by omega
  have w4 : IntKind.i64.wrap (1 + ((i : Int) - 1)) = (i : Int) := by rw [wrap_in _ ⟨by omega, by omega⟩]; omega
  have w5 : (1 : Int) + ((i : Int) - 1) = (i : Int) := by omega
  have w6 : IntKind.i64.wrap ((i : Int) - 1) = ((i - 1 : Nat) : Int) := by rw [wrap_in _ ⟨by omega, by omega⟩]; omega
  have w7 : IntKind.i64.wrap (X1 + 1) = X1 + 1 := wrap_in _ ⟨by omega, by omega⟩
  have e6 : ((i : Int) - 1) = ((i - 1 : Nat) : Int) := by omega
  have l0 : ((i - 1 : Nat) : Int) < (n : Int) := by omega
  have l1 : (i : Int) < (n : Int) := by omega
  have FW := Lib.hid (fun v W h => few_any v l W h)
  rw [hf] at FW
  have HB := Lib.hid (Below.refl w.heap.size w)
  go_enter Tryd.func9, Tryd.ntmps9
  go_wp2_with fail
  refine (nawake_any w HV.out).mono ?_
  rintro e w0 ⟨rfl, h1⟩
  replace NV := Lib.hid (NV.out.below h1)
  replace HB := Lib.hid (bel_trans HB.out h1); clear h1
  go_wp2_with fail
  refine (FW.out _ _ NV.out).mono ?_
  rintro e w90 ⟨rfl, hw⟩
  subst hw
  go_wp2_with fail
  refine (C1.out _ NV.out).mono ?_
  rintro e w19 ⟨rfl, h1⟩
  replace NV := Lib.hid (NV.out.below h1)
  replace HB := Lib.hid (bel_trans HB.out h1); clear h1
  go_wp2_with fail
  refine (CL.out _ NV.out).mono ?_
  rintro e w80 ⟨g, cap2, rfl, hcap, hg, hgl, hcc, h1⟩
  replace NV := Lib.hid (NV.out.below h1)
  have HB0 := Lib.hid HB.out
  replace HB := Lib.hid (bel_trans HB.out h1)
  have H80 := Lib.hid h1; clear h1
  obtain ⟨b, off, rfl, hb, hc⟩ := NV.out.at (by omega)
  have c0 := (hc (i - 1) (by omega)).2
  rw [hX] at c0
  clear hc
  have CW := Lib.hid hcc; clear hcc
  obtain ⟨⟨k0, k1⟩, k2, k3⟩ := CW.out i (by omega)
  have gw : Hid (w.heap.size ≤ g) := Lib.hid (Nat.le_trans HB0.out.size hg)
  have X := Lib.hid (HB.out.setCell (p := ⟨g, i * 2 + 1, none⟩) gw.out (.int .i64 (X1 + 1)))
  have CS := Lib.hid (CW.out.setR (k := i) (by omega) (X1 + 1))
  have PM := Lib.hid (CC.pts (l := m) CS.out (by simpa [World.setCell] using hgl) hm hcap (fun j hj => by have := hM.out j hj; exact this))
  have ks := World.cell?_setCell_same w80 ⟨g, i * 2 + 1, none⟩ (.int .i64 (X1 + 1)) k1
  go_wp2_with fail
  refine (CM.out _ _ PM.out).mono ?_
  rintro e w81 ⟨rfl, h1⟩
  replace HB := Lib.hid (bel_trans X.out h1); clear h1
  go_wp2
  go_returns
  exact ⟨rfl, HB.out⟩
set_option maxHeartbeats 16000000 in
set_option maxRecDepth 100000 in
theorem down (a : Option Addr) (n cap : Nat) (q I X1 : Int) (i g : Nat) (m : List (Int × Int)) (l : List (Int × Int)) (w : World) (HV : Hid (CV w)) (NV : Hid (Pts w (.slice a n cap) l)) (hf : fwB l.length = true) (bq : 0 ≤ q ∧ q ≤ 255) (h3 : 3 ≤ n ∧ n ≤ 133) (hi : 1 + q % ((n : Int) - 2) = (i : Int)) (i0 : 1 ≤ i) (i1 : i < n) (hX : gX l (i - 1) = X1) (bX : -1000000 ≤ X1 ∧ X1 ≤ 1000000) (hm : m.length = n)
    (C1 : Hid (∀ W, Pts W (.slice a n cap) l → Calls Tryd.prog 12 #[.slice a n cap] W fun e w' => e = .returned (.tuple #[.int .i64 I, .int .i64 0]) ∧ Below W.heap.size W w'))
    (CL : Hid (∀ W, Pts W (.slice a n cap) l → Calls Tryd.prog 30 #[.slice a n cap] W fun e w' => ∃ g cap, e = .returned (.slice (some ⟨g, 0, none⟩) n cap) ∧ (n ≤ cap ∧ cap ≤ 9223372036854775807) ∧ W.heap.size ≤ g ∧ g < w'.heap.size ∧ CC w' g n (gX l) (gR l) ∧ Below W.heap.size W w'))
    (CM : Hid (∀ v W, Pts W v m → Calls Tryd.prog 12 #[v] W fun e w' => e = .returned (.tuple #[.int .i64 (i : Int), .int .i64 5]) ∧ Below W.heap.size W w'))
    (hM : Hid (∀ j, j < n → (if j = i then X1 else gX l j) = gX m j ∧ gR l j = gR m j)) :
    Calls Tryd.prog 9 #[.slice a n cap, .int .u8 q, .bool false] w fun e w' => e = .returned (.bool true) ∧ Below w.heap.size w w' := by
  have dn : decide ((n : Int) < 3) = false := decide_eq_false (by omega)
  have w1 : IntKind.i64.wrap q = q := wrap_in _ ⟨by omega, by omega⟩
  have w2 : IntKind.i64.wrap ((n : Int) - 2) = (n : Int) - 2 := wrap_in _ ⟨by omega, by omega⟩
  have nz : ((n : Int) - 2 == 0) = false := by rw [beq_eq_false_iff_ne]; omega
  have nz2 : ¬ (n : Int) - 2 = 0 := by omega
  have w3 : q.tmod ((n : Int) - 2) = (i : Int) - 1 := by rw [Int.tmod_eq_emod_of_nonneg (by omega)]; omega
  have w3' : q % ((n : Int) - 2) = (i : Int) - 1 := by omega
  have w4 : IntKind.i64.wrap (1 + ((i : Int) - 1)) = (i : Int) := by rw [wrap_in _ ⟨by omega, by omega⟩]; omega
  have w5 : (1 : Int) + ((i : Int) - 1) = (i : Int) := by omega
  have w6 : IntKind.i64.wrap ((i : Int) - 1) = ((i - 1 : Nat) : Int) := by rw [wrap_in _ ⟨by omega, by omega⟩]; omega
  have w7 : IntKind.i64.wrap (X1 + 1) = X1 + 1 := wrap_in _ ⟨by omega, by omega⟩
  have e6 : ((i : Int) - 1) = ((i - 1 : Nat) : Int) := by omega
  have l0 : ((i - 1 : Nat) : Int) < (n : Int) := by omega
  have l1 : (i : Int) < (n : Int) := by omega
  have FW := Lib.hid (fun v W h => few_any v l W h)
  rw [hf] at FW
  have HB := Lib.hid (Below.refl w.heap.size w)
  go_enter Tryd.func9, Tryd.ntmps9
  go_wp2_with fail
  refine (nawake_any w HV.out).mono ?_
  rintro e w0 ⟨rfl, h1⟩
  replace NV := Lib.hid (NV.out.below h1)
  replace HB := Lib.hid (bel_trans HB.out h1); clear h1
  go_wp2_with fail
  refine (FW.out _ _ NV.out).mono ?_
  rintro e w90 ⟨rfl, hw⟩
  subst hw
  go_wp2_with fail
  refine (C1.out _ NV.out).mono ?_
  rintro e w23 ⟨rfl, h1⟩
  replace NV := Lib.hid (NV.out.below h1)
  replace HB := Lib.hid (bel_trans HB.out h1); clear h1
  go_wp2_with fail
  refine (CL.out _ NV.out).mono ?_
  rintro e w80 ⟨g, cap2, rfl, hcap, hg, hgl, hcc, h1⟩
  replace NV := Lib.hid (NV.out.below h1)
  have HB0 := Lib.hid HB.out
  replace HB := Lib.hid (bel_trans HB.out h1)
  have H80 := Lib.hid h1; clear h1
  obtain ⟨b, off, rfl, hb, hc⟩ := NV.out.at (by omega)
  have c0 := (hc (i - 1) (by omega)).1
  rw [hX] at c0
  clear hc
  have CW := Lib.hid hcc; clear hcc
  obtain ⟨⟨k0, k1⟩, k2, k3⟩ := CW.out i (by omega)
  have gw : Hid (w.heap.size ≤ g) := Lib.hid (Nat.le_trans HB0.out.size hg)
  have X := Lib.hid (HB.out.setCell (p := ⟨g, i * 2, none⟩) gw.out (.int .i64 X1))
  have CS := Lib.hid (CW.out.setX (k := i) (by omega) X1)
  have PM := Lib.hid (CC.pts (l := m) CS.out (by simpa [World.setCell] using hgl) hm hcap (fun j hj => by have := hM.out j hj; exact this))
  go_wp2_with fail
  refine (CM.out _ _ PM.out).mono ?_
  rintro e w81 ⟨rfl, h1⟩
  replace HB := Lib.hid (bel_trans X.out h1); clear h1
  go_wp2
  go_returns
  exact ⟨rfl, HB.out⟩
theorem walk (v : Value) (l : List (Int × Int)) (q : Int) (u : Bool) (w : World) (hv : Pts w v l) (bq : 0 ≤ q ∧ q ≤ 255) (hw : CV w) :
    Calls Tryd.prog 9 #[v, .int .u8 q, .bool u] w fun e w' => e = .returned (.bool true) ∧ Below w.heap.size w w' := by
  have hv2 := Lib.hid hv
  have hw2 := Lib.hid hw
  obtain ⟨a, cap, rfl, _, _⟩ := hv.shape
  cases h : fwB l.length with
  | false => exact long a l.length cap q u l w hw2 hv2 h
  | true =>
    have C1 := fun W h => dnChk_any (.slice a l.length cap) l W h
    by_cases he : dnE l = 0
    · have hD := dnE_zero.1 he
      have n1 := hD.n1
      rw [he] at C1
      by_cases h3 : l.length < 3
      · exact short a l.length cap q _ u l w hw2 hv2 h (decide_eq_true (by omega)) (Lib.hid C1)
      have CL := fun W h => clone_w (.slice a l.length cap) l W h (by omega) (by omega)
      have m0 := Int.emod_nonneg q (show (l.length : Int) - 2 ≠ 0 by omega)
      have m1 := Int.emod_lt_of_pos q (show 0 < (l.length : Int) - 2 by omega)
      obtain ⟨i, hi⟩ : ∃ i : Nat, 1 + q % ((l.length : Int) - 2) = (i : Int) := ⟨(1 + q % ((l.length : Int) - 2)).toNat, by omega⟩
      have i0 : 1 ≤ i := by omega
      have i1 : i < l.length := by omega
      have b0 := hD.b (i - 1) (by omega)
      cases u with
      | true =>
        obtain ⟨f1, f2⟩ := flt_up hD i0 i1
        have CM := fun v W h => dnChk_any v (putR l i (gR l (i - 1) + 1)) W h
        rw [f1, f2] at CM
        by_cases hq : 120000 < gR l (i - 1) + 1
        · rw [if_pos hq] at CM
          exact upB a l.length cap q _ _ i 0 (putR l i (gR l (i - 1) + 1)) l w hw2 hv2 h bq ⟨by omega, by omega⟩ hi i0 i1 rfl ⟨by omega, by omega⟩ (by simp [putR]) (decide_eq_true hq) (Lib.hid C1) (Lib.hid CL) (Lib.hid CM) (Lib.hid fun j hj => by
            obtain ⟨e1, e2⟩ := put_at l i (gX l i, gR l (i - 1) + 1) j hj
            unfold putR
            rw [e1, e2]
            by_cases e : j = i
            · subst e; simp
            · simp [e])
        · rw [if_neg hq] at CM
          exact upS a l.length cap q _ _ i 0 (putR l i (gR l (i - 1) + 1)) l w hw2 hv2 h bq ⟨by omega, by omega⟩ hi i0 i1 rfl ⟨by omega, by omega⟩ (by simp [putR]) (decide_eq_false hq) (Lib.hid C1) (Lib.hid CL) (Lib.hid CM) (Lib.hid fun j hj => by
            obtain ⟨e1, e2⟩ := put_at l i (gX l i, gR l (i - 1) + 1) j hj
            unfold putR
            rw [e1, e2]
            by_cases e : j = i
            · subst e; simp
            · simp [e])
      | false =>
        obtain ⟨f1, f2⟩ := flt_dn hD i0 i1
        have CM := fun v W h => dnChk_any v (putX l i (gX l (i - 1))) W h
        rw [f1, f2] at CM
        exact down a l.length cap q _ _ i 0 (putX l i (gX l (i - 1))) l w hw2 hv2 h bq ⟨by omega, by omega⟩ hi i0 i1 rfl ⟨by omega, by omega⟩ (by simp [putX]) (Lib.hid C1) (Lib.hid CL) (Lib.hid CM) (Lib.hid fun j hj => by
          obtain ⟨e1, e2⟩ := put_at l i (gX l (i - 1), gR l i) j hj
          unfold putX
          rw [e1, e2]
          by_cases e : j = i
          · subst e; simp
          · simp [e])
    · exact bad a l.length cap q _ _ u l w hw2 hv2 h (by simpa using he) (Lib.hid C1)

set_option maxRecDepth 100000 in
theorem contract (H : Type) (enc : TypeId × Value → H) (W : World) (base : Nat) (args : Array Value) (ds gs : List (DataW H)) (before : List MemPlace)
    (hval : ∀ (j : Nat) t v, Tryd.f9.params[j]? = some t → args[j]? = some v → Value.okWide Tryd.prog W .any base t v)
    (hW : DataW.Whole enc Tryd.prog Tryd.f9.params.toList Rows.densityFaultsSpec.vars false W args.toList ds gs before) (hL : laidMetH Tryd.prog Rows.densityFaultsRow.laid W) (hSh : W.ShapedOpen Tryd.prog) :
    Calls Tryd.prog 9 args W fun e W' => ∃ v, e = .returned v ∧ Rows.densityFaultsSpec.post enc Tryd.prog Tryd.f9 false true false false W args v W' := by
  have hW' := hW
  obtain ⟨p, q, hA0, hV, rfl, hfz, hnd⟩ := hW
  have hA : DataW.TrodAll enc Tryd.prog W 0 (fun _ => true) true Tryd.f9.params.toList args.toList ds p := hA0
  rw [Tryd.params9] at hA hval
  obtain ⟨v0, vs0, d0, ds0, p0, q0, hargs, rfl, rfl, h0, r0⟩ := trodAll_cons hA
  obtain ⟨v1, vs1, d1, ds1, p1, q1, rfl, rfl, rfl, h1, r1⟩ := trodAll_cons r0
  obtain ⟨v2, vs2, d2, ds2, p2, q2, rfl, rfl, rfl, h2, r2⟩ := trodAll_cons r1
  obtain ⟨rfl, rfl, rfl⟩ := trodAll_nil r2
  obtain rfl : args = #[v0, v1, v2] := by cases args; simp_all
  obtain ⟨rfl, rfl⟩ := trodVars_none hV
  have k0 := h0
  have lt0 : ∀ x ∈ p0, x.block < W.heap.size := by obtain ⟨m, hm⟩ := k0; exact DataW.trod_lt m _ _ _ hm
  have k1 := h1
  have lt1 : ∀ x ∈ p1, x.block < W.heap.size := by obtain ⟨m, hm⟩ := k1; exact DataW.trod_lt m _ _ _ hm
  have k2 := h2
  have lt2 : ∀ x ∈ p2, x.block < W.heap.size := by obtain ⟨m, hm⟩ := k2; exact DataW.trod_lt m _ _ _ hm
  obtain ⟨z0, w0⟩ := open_pts (hval 0 22 v0 rfl rfl) h0
  obtain ⟨a1, rfl, rfl, rfl, w1⟩ := open_int Tryd.underlying5 (hval 1 5 v1 rfl rfl) h1
  obtain ⟨a2, rfl, rfl, rfl⟩ := open_bool Tryd.underlying4 (hval 2 4 v2 rfl rfl) h2
  clear hA0
  refine (walk v0 z0 a1 a2 W w0 (wf_u8 w1) (laid_of rfl hL hSh)).mono fun e W' ⟨he, bel⟩ => ?_
  subst he
  exact ⟨_, rfl, _, _, _, [], _, [], hW', trodAll_mk1 (shut_bool Tryd.underlying4 _), (trodAll_cons_mk (Below.trod laidOut (by kernel_rfl) (of_decide_eq_true (by kernel_rfl)) k0 bel lt0) (trodAll_cons_mk (Below.trod laidOut (by kernel_rfl) (of_decide_eq_true (by kernel_rfl)) k1 bel lt1) (trodAll_cons_mk (Below.trod laidOut (by kernel_rfl) (of_decide_eq_true (by kernel_rfl)) k2 bel lt2) trodAll_mk0))), rfl, bel.frame _, fun h => by cases h⟩

noncomputable def laidWorld (os : Os) : World := World.laidAll Tryd.prog os Rows.densityFaultsRow.laid
theorem laid_met (os : Os) : laidMet Tryd.prog Rows.densityFaultsRow.laid ((laidWorld os).forCall (fun _ _ => 0) ⟨#[], #[.slice none 0 0, .int .u8 0, .bool false], []⟩).memory :=
  laidMet_laidAll _ (by kernel_rfl) (by kernel_rfl)
theorem reads (os : Os) {H : Type} (enc : TypeId × Value → H) : ∃ places, DataW.whole enc Tryd.prog ((laidWorld os).forCall (fun _ _ => 0) ⟨#[], #[.slice none 0 0, .int .u8 0, .bool false], []⟩).memory Tryd.f9.params.toList Rows.densityFaultsSpec.vars false (#[.slice none 0 0, .int .u8 0, .bool false] : Array Value).toList 8 = some ([.nil, .lit (.int .u8 0), .lit (.bool false)], [], places) :=
  ⟨[], by kernel_rfl⟩

set_option maxRecDepth 100000 in
theorem lifted (os : Os) (started : os.Started) (H : Type) (enc : TypeId × Value → H) (F : Stop.Interp) :
    ReturnsInHanded {} Tryd.checked os 9 .any ((OpenSpec.ofChange Rows.densityFaultsSpec).preRow enc Tryd.prog Tryd.f9 Rows.densityFaultsRow.domain false Rows.densityFaultsRow.laid) (((OpenSpec.ofChange Rows.densityFaultsSpec).at F).post enc Tryd.prog Tryd.f9 false true false false) := by
  obtain ⟨places, hx⟩ := reads os enc
  refine returnsInHanded_of_row (C := Tryd.checked) (s := OpenSpec.ofChange Rows.densityFaultsSpec) own started (by kernel_rfl) Tryd.func9
    (witness_row_at (enc := enc) (C := Tryd.checked) false (laidWorld os) #[.slice none 0 0, .int .u8 0, .bool false] (World.laidAll_os _ _ _) (by kernel_rfl) (by kernel_rfl) (by kernel_rfl)
      (OpenSpec.preRow_of_cond 8 hx (by kernel_rfl) (fun k hk => by cases hk) (by kernel_rfl) (laid_met os))) ?_
  intro W base args ds gs before hval hW _ _ _ hL hSh _
  exact contract H enc W base args ds gs before hval hW hL hSh

theorem said : Rows.DensityFaultsSaid :=
  OpenClaim.holds_of_cond 9 Tryd.f9 rfl rfl rfl rfl rfl rfl rfl ⟨rfl, rfl, rfl, rfl, rfl⟩ rfl rfl rfl rfl rfl (by kernel_rfl) Tryd.func9 (by kernel_rfl)
    (of_decide_eq_true (by kernel_rfl)) (by unfold Func.isWrapper; first | (rw [if_pos (by decide +kernel)]; kernel_rfl) | (rw [if_neg (by decide +kernel)]; exact ⟨rfl, rfl⟩))
    (fun os started H enc _ F => by rw [OpenClaim.pre_eq_preRow]; exact lifted os started H enc F)

theorem plain (f : FuncId) (fn : Func) (hf : Tryd.pinned.checked.prog.funcNamed "spile/spilelaw16.DensityFaults" = some f) (hfn : Tryd.pinned.checked.prog.funcs[f]? = some fn) :
    true = Tryd.pinned.checked.prog.looks [] ∧ ∀ (j : Nat) t, fn.params[j]? = some t → Tryd.pinned.checked.prog.wantsStandIn t = false := by
  obtain rfl : f = 9 := Option.some.inj ((show Tryd.prog.funcNamed "spile/spilelaw16.DensityFaults" = some 9 by kernel_rfl).symm.trans hf) |>.symm
  obtain rfl : fn = Tryd.f9 := (Option.some.inj (Tryd.func9.symm.trans hfn)).symm
  refine ⟨by kernel_rfl, fun j t ht => ?_⟩
  rw [Tryd.params9] at ht
  rcases j with _ | _ | _ | j
  · obtain rfl : t = 22 := by simpa using ht.symm
    exact (show Tryd.prog.wantsStandIn 22 = false by kernel_rfl)
  · obtain rfl : t = 5 := by simpa using ht.symm
    exact (show Tryd.prog.wantsStandIn 5 = false by kernel_rfl)
  · obtain rfl : t = 4 := by simpa using ht.symm
    exact (show Tryd.prog.wantsStandIn 4 = false by kernel_rfl)
  · simp at ht

theorem proved : Rows.DensityFaultsCardSaid :=
  Claim7.holds_tied_plain_at .later [] _ _ _ _ said (fun _ h => by cases h) (by kernel_rfl) (fun _ h => by cases h) densityFaults_row_tie rfl ⟨rfl, rfl⟩ (by kernel_rfl) rfl plain (by kernel_rfl)
#print axioms proved
end Go.Proofs.YtnoagfpffdalnaaDoor.densityFaults

