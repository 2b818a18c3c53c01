/- Texts that the proofs of this seat share, one behind the other: CRD, CRA, CRG, CTQ, CPW, CPL, CNU, CPP, CKA, PKept, TailIn, Ups, PPB, PPC, PPD, PPA, PPEC, CKB, CRO, CRI, CRJ, CRK, CRL. -/
import Derived.Test.YtpnlfeljmpfeoaaGreatDoorM1
import Derived.Shelf.Strings.BuilderK
import Derived.Lib.AppendIntMem
import Derived.Lib.ItoaLen
import Derived.Laws.Concat
import Derived.Lib.AtoiAllCases
import Derived.Shelf.GgClosure.StringsRunes
import Derived.Laws.RangeAny
import Derived.RangeFuncNested
import Derived.RangeFuncBound
import Derived.RangeFuncCalls
import Derived.RangeFuncLeaves
import Derived.RangeFuncBox
import Derived.StillTail
import Derived.StillTactics
import Derived.OrdersIn
import Derived.TacticsIn
import Derived.Lib.Hide
import Derived.Shelf.Abstract
import Derived.Shelf.RegionOpen
import Derived.OwnWalkIn
import Derived.TacticsInMore
import Derived.LoopNIn
import Derived.LoopIn
import Derived.Deep.RegionHeld3
import Derived.Laws.EntriesVeiled
import Derived.FnLit
import Derived.Deep.RegionLaw
import Derived.Laws.AppendOwn

set_option linter.unusedVariables false
set_option linter.unusedSimpArgs false

/- The reference of layer 9: Few. -/
namespace Go.Proofs.YtpnlfeljmpfeoaaGreatDoor
open Go.RowKit

def fewC (c : Ck) : Bool := decide (c.pf.length ≤ 33) && decide (c.nm.size ≤ 70)
def fewB (l : List Ck) : Bool := l.all fewC && decide (l.length ≤ 33)
set_option maxHeartbeats 8000000 in
theorem refFew_some (b off n cap : Nat) (l : List Ck) (B : Bool) (w : World) (hn : Hid (n = l.length)) (nc : n ≤ 9223372036854775807) (hb : b < w.heap.size)
    (hc : Hid (∀ j (hj : j < l.length), CkAt w b off j l[j]))
    (h1 : Hid ((∃ c ∈ l, fewC c = false) → B = false)) (h2 : Hid ((∀ c ∈ l, fewC c = true) → B = decide (n ≤ 33))) :
    Calls Tryz.prog 11 #[.slice (some ⟨b, off, none⟩) n cap] w fun e w' => e = .returned (.bool B) ∧ w' = w := by
  go_enter Tryz.func11, Tryz.ntmps11
  go_wp2_with fail
  go_loopw [3] (fun ii wr => ∃ k : Nat, k ≤ n ∧ ii = .int .i64 k ∧ wr = w ∧ Hid (∀ j (hj : j < l.length), j < k → fewC l[j] = true)) (fun ii _ => n - (intOf ii).toNat)
  case atStart => exact ⟨0, by omega, rfl, rfl, fun j hj h => by omega⟩
  case round =>
    obtain ⟨k, hk, rfl, rfl, ha⟩ := hrel
    by_cases hlt : k < n
    · have hkl : k < l.length := by rw [← hn.out]; exact hlt
      obtain ⟨a, cp, c0, c1, c2, c3, hP, hs, _⟩ := hc.out k hkl
      have HT : Hid (fewC l[k] = true → ∀ j (hj : j < l.length), j < k + 1 → fewC l[j] = true) := fun h j hj hj2 => by
        by_cases e : j = k
        · subst e; exact h
        · exact ha.out j hj (by omega)
      have HF : Hid (fewC l[k] = false → B = false) := fun h => h1.out ⟨_, List.getElem_mem hkl, h⟩
      have FW := Lib.hid (few_any _ _ wr hP)
      have HP := Lib.hid hP
      have l1 : (k : Int) < (n : Int) := by omega
      generalize l[k] = c at *
      unfold fewC at HT HF
      clear ha h1 h2 hc
      by_cases q1 : c.pf.length ≤ 33
      · rw [decide_eq_true q1] at FW HT HF
        have fe := FW
        clear hP
        by_cases q2 : c.nm.size ≤ 70
        · have d0 : decide ((70 : Int) < (c.nm.size : Int)) = false := decide_eq_false (by omega)
          rw [decide_eq_true q2] at HT
          have hx := Lib.hid (HT.out rfl)
          clear HT HF q1 q2
          generalize c.pf.length = L at *
          go_wp2_with fail
          refine FW.out.mono ?_
          rintro e w1 ⟨rfl, hw⟩
          subst hw
          go_wp2
          go_roundw
          case rel => exact ⟨k + 1, by omega, by go_num, by first | rfl | trivial, hx⟩
          case measure => simp [intOf]; omega
        · have d0 : decide ((70 : Int) < (c.nm.size : Int)) = true := decide_eq_true (by omega)
          rw [decide_eq_false q2] at HF
          obtain rfl := HF.out rfl
          clear HT HF q1 q2
          generalize c.pf.length = L at *
          go_wp2_with fail
          refine FW.out.mono ?_
          rintro e w1 ⟨rfl, hw⟩
          subst hw
          go_wp2
          go_returns
          exact ⟨rfl, rfl⟩
      · rw [decide_eq_false q1] at FW HF
        obtain rfl := HF.out rfl
        clear HT HF q1 hP
        generalize c.pf.length = L at *
        go_wp2_with fail
        refine FW.out.mono ?_
        rintro e w1 ⟨rfl, hw⟩
        subst hw
        go_wp2
        go_returns
        exact ⟨rfl, rfl⟩
    · obtain rfl : k = n := by omega
      have hB := h2.out (fun c hc => by
        obtain ⟨j, hj, rfl⟩ := List.getElem_of_mem hc
        exact ha.out j hj (by rw [hn.out]; exact hj))
      have hB2 : B = decide ((k : Int) ≤ 33) := by rw [hB]; exact decide_eq_decide.2 (by omega)
      clear hB h1 h2 ha hc
      subst hB2
      go_wp2
      go_returns
      exact ⟨by first | rfl | simp, rfl⟩
theorem refFew_nil (a : Option Addr) (cap : Nat) (w : World) :
    Calls Tryz.prog 11 #[.slice a 0 cap] w fun e w' => e = .returned (.bool true) ∧ w' = w := by
  go_enter Tryz.func11, Tryz.ntmps11
  go_wp2_with fail
  go_loopw [3] (fun ii wr => ii = .int .i64 0 ∧ wr = w) (fun _ _ => 0)
  case atStart => exact ⟨rfl, rfl⟩
  case round =>
    obtain ⟨rfl, rfl⟩ := hrel
    go_wp2
    go_returns
    exact ⟨rfl, rfl⟩
theorem refFew_any (v : Value) (l : List Ck) (w : World) (hv : Cks w v l) :
    Calls Tryz.prog 11 #[v] w fun e w' => e = .returned (.bool (fewB l)) ∧ w' = w := by
  by_cases h0 : 0 < l.length
  · obtain ⟨b, off, cap, rfl, hb, hl, hc⟩ := hv.cks h0
    refine refFew_some b off _ cap l _ w rfl (by omega) hb hc (fun ⟨c, hc, h⟩ => ?_) (fun h => ?_)
    · show fewB l = false
      unfold fewB
      rw [show l.all fewC = false by rw [List.all_eq_false]; exact ⟨c, hc, by rw [h]; simp⟩]; rfl
    · show fewB l = _
      unfold fewB
      rw [show l.all fewC = true by rw [List.all_eq_true]; exact h]; simp
  · obtain ⟨a, cap, rfl, _⟩ := hv.shape
    obtain rfl : l = [] := List.length_eq_zero_iff.1 (by omega)
    exact refFew_nil a cap w
end Go.Proofs.YtpnlfeljmpfeoaaGreatDoor

/- The reference of layer 9: IsName, Check, Few, SameCask. -/
namespace Go.Proofs.YtpnlfeljmpfeoaaGreatDoor
open Go.RowKit

set_option maxHeartbeats 8000000 in
set_option maxRecDepth 100000 in
theorem refIsName_core (s : ByteArray) (B : Bool) (w : World) (hs : s.size ≤ 9223372036854775807)
    (h1 : Hid (s.data.toList.all nmC = false → B = false)) (h2 : Hid (s.data.toList.all nmC = true → B = (decide (1 ≤ s.size) && decide (s.size ≤ 64)))) :
    Calls Tryz.prog 43 #[.string s] w fun e w' => e = .returned (.bool B) ∧ w' = w := by
  go_enter Tryz.func43, Tryz.ntmps43
  go_wp2_with fail
  go_loopw [3] (fun ii wr => ∃ i : Nat, i ≤ s.size ∧ ii = .int .i64 i ∧ wr = w ∧ Hid ((s.data.toList.take i).all nmC = true)) (fun ii _ => s.size - (intOf ii).toNat)
  case atStart => exact ⟨0, by omega, rfl, rfl, rfl⟩
  case round =>
    obtain ⟨i, hi, rfl, rfl, ha⟩ := hrel
    by_cases hlt : i < s.size
    · have cs : (97 ≤ s[i].toNat ∧ s[i].toNat ≤ 122) ∨ (65 ≤ s[i].toNat ∧ s[i].toNat ≤ 90) ∨ (48 ≤ s[i].toNat ∧ s[i].toNat ≤ 57) ∨ (45 ≤ s[i].toNat ∧ s[i].toNat ≤ 45) ∨ (46 ≤ s[i].toNat ∧ s[i].toNat ≤ 46) ∨ (0 ≤ s[i].toNat ∧ s[i].toNat ≤ 44) ∨ (47 ≤ s[i].toNat ∧ s[i].toNat ≤ 47) ∨ (58 ≤ s[i].toNat ∧ s[i].toNat ≤ 64) ∨ (91 ≤ s[i].toNat ∧ s[i].toNat ≤ 96) ∨ (123 ≤ s[i].toNat ∧ s[i].toNat ≤ 255) := by
        have := s[i].toNat_lt
        omega
      have HT : Hid (nmC s[i] = true → (s.data.toList.take (i + 1)).all nmC = true) := fun h => by show _ = _; rw [take_snoc s i hlt, all_snoc, ha.out, h]; rfl
      have HF : Hid (nmC s[i] = false → B = false) := fun h => h1.out (all_take s i hlt h)
      clear ha h1 h2
      rcases cs with cs | cs | cs | cs | cs | cs | cs | cs | cs | cs
      · have hx := Lib.hid (HT.out ((nmC_iff _).2 (by omega)))
        clear HT HF
        have za0 : decide ((97 : Int) ≤ (s[i].toNat : Int)) = true := decide_eq_true (by omega)
        have za1 : decide ((s[i].toNat : Int) ≤ 122) = true := decide_eq_true (by omega)
        have zb0 : decide ((65 : Int) ≤ (s[i].toNat : Int)) = true := decide_eq_true (by omega)
        have zb1 : decide ((s[i].toNat : Int) ≤ 90) = false := decide_eq_false (by omega)
        have zc0 : decide ((48 : Int) ≤ (s[i].toNat : Int)) = true := decide_eq_true (by omega)
        have zc1 : decide ((s[i].toNat : Int) ≤ 57) = false := decide_eq_false (by omega)
        have ze : ((s[i].toNat : Int) == 45) = false := by simp only [beq_eq_false_iff_ne, ne_eq]; omega
        have zf : ((s[i].toNat : Int) == 46) = false := by simp only [beq_eq_false_iff_ne, ne_eq]; omega
        clear cs
        go_wp2
        go_roundw
        case rel => exact ⟨i + 1, by omega, by go_num, by first | rfl | trivial, hx⟩
        case measure => simp [intOf]; omega
      · have hx := Lib.hid (HT.out ((nmC_iff _).2 (by omega)))
        clear HT HF
        have za0 : decide ((97 : Int) ≤ (s[i].toNat : Int)) = false := decide_eq_false (by omega)
        have za1 : decide ((s[i].toNat : Int) ≤ 122) = true := decide_eq_true (by omega)
        have zb0 : decide ((65 : Int) ≤ (s[i].toNat : Int)) = true := decide_eq_true (by omega)
        have zb1 : decide ((s[i].toNat : Int) ≤ 90) = true := decide_eq_true (by omega)
        have zc0 : decide ((48 : Int) ≤ (s[i].toNat : Int)) = true := decide_eq_true (by omega)
        have zc1 : decide ((s[i].toNat : Int) ≤ 57) = false := decide_eq_false (by omega)
        have ze : ((s[i].toNat : Int) == 45) = false := by simp only [beq_eq_false_iff_ne, ne_eq]; omega
        have zf : ((s[i].toNat : Int) == 46) = false := by simp only [beq_eq_false_iff_ne, ne_eq]; omega
        clear cs
        go_wp2
        go_roundw
        case rel => exact ⟨i + 1, by omega, by go_num, by first | rfl | trivial, hx⟩
        case measure => simp [intOf]; omega
      · have hx := Lib.hid (HT.out ((nmC_iff _).2 (by omega)))
        clear HT HF
        have za0 : decide ((97 : Int) ≤ (s[i].toNat : Int)) = false := decide_eq_false (by omega)
        have za1 : decide ((s[i].toNat : Int) ≤ 122) = true := decide_eq_true (by omega)
        have zb0 : decide ((65 : Int) ≤ (s[i].toNat : Int)) = false := decide_eq_false (by omega)
        have zb1 : decide ((s[i].toNat : Int) ≤ 90) = true := decide_eq_true (by omega)
        have zc0 : decide ((48 : Int) ≤ (s[i].toNat : Int)) = true := decide_eq_true (by omega)
        have zc1 : decide ((s[i].toNat : Int) ≤ 57) = true := decide_eq_true (by omega)
        have ze : ((s[i].toNat : Int) == 45) = false := by simp only [beq_eq_false_iff_ne, ne_eq]; omega
        have zf : ((s[i].toNat : Int) == 46) = false := by simp only [beq_eq_false_iff_ne, ne_eq]; omega
        clear cs
        go_wp2
        go_roundw
        case rel => exact ⟨i + 1, by omega, by go_num, by first | rfl | trivial, hx⟩
        case measure => simp [intOf]; omega
      · have hx := Lib.hid (HT.out ((nmC_iff _).2 (by omega)))
        clear HT HF
        have za0 : decide ((97 : Int) ≤ (s[i].toNat : Int)) = false := decide_eq_false (by omega)
        have za1 : decide ((s[i].toNat : Int) ≤ 122) = true := decide_eq_true (by omega)
        have zb0 : decide ((65 : Int) ≤ (s[i].toNat : Int)) = false := decide_eq_false (by omega)
        have zb1 : decide ((s[i].toNat : Int) ≤ 90) = true := decide_eq_true (by omega)
        have zc0 : decide ((48 : Int) ≤ (s[i].toNat : Int)) = false := decide_eq_false (by omega)
        have zc1 : decide ((s[i].toNat : Int) ≤ 57) = true := decide_eq_true (by omega)
        have ze : ((s[i].toNat : Int) == 45) = true := by simp only [beq_iff_eq]; omega
        have zf : ((s[i].toNat : Int) == 46) = false := by simp only [beq_eq_false_iff_ne, ne_eq]; omega
        clear cs
        go_wp2
        go_roundw
        case rel => exact ⟨i + 1, by omega, by go_num, by first | rfl | trivial, hx⟩
        case measure => simp [intOf]; omega
      · have hx := Lib.hid (HT.out ((nmC_iff _).2 (by omega)))
        clear HT HF
        have za0 : decide ((97 : Int) ≤ (s[i].toNat : Int)) = false := decide_eq_false (by omega)
        have za1 : decide ((s[i].toNat : Int) ≤ 122) = true := decide_eq_true (by omega)
        have zb0 : decide ((65 : Int) ≤ (s[i].toNat : Int)) = false := decide_eq_false (by omega)
        have zb1 : decide ((s[i].toNat : Int) ≤ 90) = true := decide_eq_true (by omega)
        have zc0 : decide ((48 : Int) ≤ (s[i].toNat : Int)) = false := decide_eq_false (by omega)
        have zc1 : decide ((s[i].toNat : Int) ≤ 57) = true := decide_eq_true (by omega)
        have ze : ((s[i].toNat : Int) == 45) = false := by simp only [beq_eq_false_iff_ne, ne_eq]; omega
        have zf : ((s[i].toNat : Int) == 46) = true := by simp only [beq_iff_eq]; omega
        clear cs
        go_wp2
        go_roundw
        case rel => exact ⟨i + 1, by omega, by go_num, by first | rfl | trivial, hx⟩
        case measure => simp [intOf]; omega
      · obtain rfl := HF.out (by rw [Bool.eq_false_iff, ne_eq, nmC_iff]; omega)
        clear HT HF
        have za0 : decide ((97 : Int) ≤ (s[i].toNat : Int)) = false := decide_eq_false (by omega)
        have za1 : decide ((s[i].toNat : Int) ≤ 122) = true := decide_eq_true (by omega)
        have zb0 : decide ((65 : Int) ≤ (s[i].toNat : Int)) = false := decide_eq_false (by omega)
        have zb1 : decide ((s[i].toNat : Int) ≤ 90) = true := decide_eq_true (by omega)
        have zc0 : decide ((48 : Int) ≤ (s[i].toNat : Int)) = false := decide_eq_false (by omega)
        have zc1 : decide ((s[i].toNat : Int) ≤ 57) = true := decide_eq_true (by omega)
        have ze : ((s[i].toNat : Int) == 45) = false := by simp only [beq_eq_false_iff_ne, ne_eq]; omega
        have zf : ((s[i].toNat : Int) == 46) = false := by simp only [beq_eq_false_iff_ne, ne_eq]; omega
        clear cs
        go_wp2
        go_returns
        exact ⟨rfl, rfl⟩
      · obtain rfl := HF.out (by rw [Bool.eq_false_iff, ne_eq, nmC_iff]; omega)
        clear HT HF
        have za0 : decide ((97 : Int) ≤ (s[i].toNat : Int)) = false := decide_eq_false (by omega)
        have za1 : decide ((s[i].toNat : Int) ≤ 122) = true := decide_eq_true (by omega)
        have zb0 : decide ((65 : Int) ≤ (s[i].toNat : Int)) = false := decide_eq_false (by omega)
        have zb1 : decide ((s[i].toNat : Int) ≤ 90) = true := decide_eq_true (by omega)
        have zc0 : decide ((48 : Int) ≤ (s[i].toNat : Int)) = false := decide_eq_false (by omega)
        have zc1 : decide ((s[i].toNat : Int) ≤ 57) = true := decide_eq_true (by omega)
        have ze : ((s[i].toNat : Int) == 45) = false := by simp only [beq_eq_false_iff_ne, ne_eq]; omega
        have zf : ((s[i].toNat : Int) == 46) = false := by simp only [beq_eq_false_iff_ne, ne_eq]; omega
        clear cs
        go_wp2
        go_returns
        exact ⟨rfl, rfl⟩
      · obtain rfl := HF.out (by rw [Bool.eq_false_iff, ne_eq, nmC_iff]; omega)
        clear HT HF
        have za0 : decide ((97 : Int) ≤ (s[i].toNat : Int)) = false := decide_eq_false (by omega)
        have za1 : decide ((s[i].toNat : Int) ≤ 122) = true := decide_eq_true (by omega)
        have zb0 : decide ((65 : Int) ≤ (s[i].toNat : Int)) = false := decide_eq_false (by omega)
        have zb1 : decide ((s[i].toNat : Int) ≤ 90) = true := decide_eq_true (by omega)
        have zc0 : decide ((48 : Int) ≤ (s[i].toNat : Int)) = true := decide_eq_true (by omega)
        have zc1 : decide ((s[i].toNat : Int) ≤ 57) = false := decide_eq_false (by omega)
        have ze : ((s[i].toNat : Int) == 45) = false := by simp only [beq_eq_false_iff_ne, ne_eq]; omega
        have zf : ((s[i].toNat : Int) == 46) = false := by simp only [beq_eq_false_iff_ne, ne_eq]; omega
        clear cs
        go_wp2
        go_returns
        exact ⟨rfl, rfl⟩
      · obtain rfl := HF.out (by rw [Bool.eq_false_iff, ne_eq, nmC_iff]; omega)
        clear HT HF
        have za0 : decide ((97 : Int) ≤ (s[i].toNat : Int)) = false := decide_eq_false (by omega)
        have za1 : decide ((s[i].toNat : Int) ≤ 122) = true := decide_eq_true (by omega)
        have zb0 : decide ((65 : Int) ≤ (s[i].toNat : Int)) = true := decide_eq_true (by omega)
        have zb1 : decide ((s[i].toNat : Int) ≤ 90) = false := decide_eq_false (by omega)
        have zc0 : decide ((48 : Int) ≤ (s[i].toNat : Int)) = true := decide_eq_true (by omega)
        have zc1 : decide ((s[i].toNat : Int) ≤ 57) = false := decide_eq_false (by omega)
        have ze : ((s[i].toNat : Int) == 45) = false := by simp only [beq_eq_false_iff_ne, ne_eq]; omega
        have zf : ((s[i].toNat : Int) == 46) = false := by simp only [beq_eq_false_iff_ne, ne_eq]; omega
        clear cs
        go_wp2
        go_returns
        exact ⟨rfl, rfl⟩
      · obtain rfl := HF.out (by rw [Bool.eq_false_iff, ne_eq, nmC_iff]; omega)
        clear HT HF
        have za0 : decide ((97 : Int) ≤ (s[i].toNat : Int)) = true := decide_eq_true (by omega)
        have za1 : decide ((s[i].toNat : Int) ≤ 122) = false := decide_eq_false (by omega)
        have zb0 : decide ((65 : Int) ≤ (s[i].toNat : Int)) = true := decide_eq_true (by omega)
        have zb1 : decide ((s[i].toNat : Int) ≤ 90) = false := decide_eq_false (by omega)
        have zc0 : decide ((48 : Int) ≤ (s[i].toNat : Int)) = true := decide_eq_true (by omega)
        have zc1 : decide ((s[i].toNat : Int) ≤ 57) = false := decide_eq_false (by omega)
        have ze : ((s[i].toNat : Int) == 45) = false := by simp only [beq_eq_false_iff_ne, ne_eq]; omega
        have zf : ((s[i].toNat : Int) == 46) = false := by simp only [beq_eq_false_iff_ne, ne_eq]; omega
        clear cs
        go_wp2
        go_returns
        exact ⟨rfl, rfl⟩
    · obtain rfl : i = s.size := by omega
      have ha' := ha.out
      rw [take_all s s.size (Nat.le_refl _)] at ha'
      have hB := h2.out ha'
      clear ha' h1 h2 ha
      by_cases g1 : 1 ≤ s.size
      · by_cases g2 : s.size ≤ 64
        · obtain rfl : B = true := by rw [hB]; simp [g1, g2]
          have d0 : decide ((1 : Int) ≤ (s.size : Int)) = true := decide_eq_true (by omega)
          have d1 : decide ((s.size : Int) ≤ 64) = true := decide_eq_true (by omega)
          clear g1 g2 hB hlt hi hs
          go_wp2
          go_returns
          exact ⟨rfl, rfl⟩
        · obtain rfl : B = false := by rw [hB]; simp [g2]
          have d0 : decide ((1 : Int) ≤ (s.size : Int)) = true := decide_eq_true (by omega)
          have d1 : decide ((s.size : Int) ≤ 64) = false := decide_eq_false (by omega)
          clear g1 g2 hB hlt hi hs
          go_wp2
          go_returns
          exact ⟨rfl, rfl⟩
      · obtain rfl : B = false := by rw [hB]; simp [g1]
        have d0 : decide ((1 : Int) ≤ (s.size : Int)) = false := decide_eq_false (by omega)
        clear g1 hB hlt hi hs
        go_wp2
        go_returns
        exact ⟨rfl, rfl⟩
theorem refIsName_any (s : ByteArray) (w : World) (hs : s.size ≤ 9223372036854775807) :
    Calls Tryz.prog 43 #[.string s] w fun e w' => e = .returned (.bool (isNm s)) ∧ w' = w :=
  refIsName_core s _ w hs (fun h => by show _ = _; unfold isNm; rw [h]; rfl) (fun h => by show _ = _; unfold isNm; rw [h]; simp)

set_option maxHeartbeats 4000000 in
theorem refCkk_core (nm : ByteArray) (ps dc : Int) (a : Option Addr) (n cap : Nat) (B : Bool) (E : Int) (w : World)
    (H1 : Hid (∀ W, Calls Tryz.prog 43 #[.string nm] W fun e w' => e = .returned (.bool B) ∧ w' = W))
    (H2 : Hid (∀ W, Below w.heap.size w W → Calls Tryz.prog 44 #[.slice a n cap] W fun e w' => e = .returned (.int .i64 E) ∧ Below W.heap.size W w')) :
    Calls Tryz.prog 21 #[.agg #[.string nm, .int .i64 ps, .slice a n cap, .int .i64 dc]] w fun e w' => e = .returned (.int .i64 (if B = true then (if (ps ≠ 1 ∧ ps ≠ 2) ∨ dc < 0 ∨ 1073741824 < dc then 2 else E) else 4)) ∧ Below w.heap.size w w' := by
  have F0 := Lib.hid (Quad.new w (.string nm) (.int .i64 ps) (.slice a n cap) (.int .i64 dc) 27)
  cases B with
  | false =>
    go_enter Tryz.func21, Tryz.ntmps21
    go_wp2_with fail
    refine (H1.out _).mono ?_
    rintro e w1 ⟨rfl, hw⟩
    subst hw
    go_wp2
    go_returns
    exact ⟨by simp, bel_alloc (Below.refl _ _)⟩
  | true =>
    rw [if_pos rfl]
    have q : (ps = 1 ∨ ps = 2 ∨ (ps ≠ 1 ∧ ps ≠ 2)) := by omega
    have X1 : Hid (Below w.heap.size w (w.alloc (.cells #[.string nm, .int .i64 ps, .slice a n cap, .int .i64 dc] 27))) := Lib.hid (bel_alloc (Below.refl _ _))
    have fin : ∀ (P : Prop) [Decidable P], P → (if P then (2 : Int) else E) = 2 := fun P _ h => if_pos h
    have fin2 : ∀ (P : Prop) [Decidable P], ¬ P → (if P then (2 : Int) else E) = E := fun P _ h => if_neg h
    rcases q with rfl | rfl | ⟨h, h'⟩
    · by_cases d0 : dc < 0
      · rw [fin _ (by omega)]
        have y0 : decide (dc < 0) = true := decide_eq_true d0
        clear F0
        go_enter Tryz.func21, Tryz.ntmps21
        go_wp2_with fail
        refine (H1.out _).mono ?_
        rintro e w1 ⟨rfl, hw⟩
        subst hw
        go_wp2
        go_returns
        exact ⟨rfl, X1.out⟩
      · by_cases d1 : 1073741824 < dc
        · rw [fin _ (by omega)]
          have y0 : decide (dc < 0) = false := decide_eq_false d0
          have y1 : decide (1073741824 < dc) = true := decide_eq_true d1
          clear F0
          go_enter Tryz.func21, Tryz.ntmps21
          go_wp2_with fail
          refine (H1.out _).mono ?_
          rintro e w1 ⟨rfl, hw⟩
          subst hw
          go_wp2
          go_returns
          exact ⟨rfl, X1.out⟩
        · rw [fin2 _ (by omega)]
          have y0 : decide (dc < 0) = false := decide_eq_false d0
          have y1 : decide (1073741824 < dc) = false := decide_eq_false d1
          clear F0
          go_enter Tryz.func21, Tryz.ntmps21
          go_wp2_with fail
          refine (H1.out _).mono ?_
          rintro e w1 ⟨rfl, hw⟩
          subst hw
          go_wp2_with fail
          refine (H2.out _ X1.out).mono ?_
          rintro e w2 ⟨rfl, gg⟩
          replace X1 := Lib.hid (bel_trans X1.out gg); clear gg
          go_wp2
          go_returns
          exact ⟨rfl, X1.out⟩
    · by_cases d0 : dc < 0
      · rw [fin _ (by omega)]
        have y0 : decide (dc < 0) = true := decide_eq_true d0
        clear F0
        go_enter Tryz.func21, Tryz.ntmps21
        go_wp2_with fail
        refine (H1.out _).mono ?_
        rintro e w1 ⟨rfl, hw⟩
        subst hw
        go_wp2
        go_returns
        exact ⟨rfl, X1.out⟩
      · by_cases d1 : 1073741824 < dc
        · rw [fin _ (by omega)]
          have y0 : decide (dc < 0) = false := decide_eq_false d0
          have y1 : decide (1073741824 < dc) = true := decide_eq_true d1
          clear F0
          go_enter Tryz.func21, Tryz.ntmps21
          go_wp2_with fail
          refine (H1.out _).mono ?_
          rintro e w1 ⟨rfl, hw⟩
          subst hw
          go_wp2
          go_returns
          exact ⟨rfl, X1.out⟩
        · rw [fin2 _ (by omega)]
          have y0 : decide (dc < 0) = false := decide_eq_false d0
          have y1 : decide (1073741824 < dc) = false := decide_eq_false d1
          clear F0
          go_enter Tryz.func21, Tryz.ntmps21
          go_wp2_with fail
          refine (H1.out _).mono ?_
          rintro e w1 ⟨rfl, hw⟩
          subst hw
          go_wp2_with fail
          refine (H2.out _ X1.out).mono ?_
          rintro e w2 ⟨rfl, gg⟩
          replace X1 := Lib.hid (bel_trans X1.out gg); clear gg
          go_wp2
          go_returns
          exact ⟨rfl, X1.out⟩
    · rw [fin _ (by omega)]
      have z1 : (ps != 1) = true := by simpa using h
      have z2 : (ps != 2) = true := by simpa using h'
      clear F0
      go_enter Tryz.func21, Tryz.ntmps21
      go_wp2_with fail
      refine (H1.out _).mono ?_
      rintro e w1 ⟨rfl, hw⟩
      subst hw
      go_wp2
      go_returns
      exact ⟨rfl, X1.out⟩
theorem refCkk_any (v : Value) (c : Ck) (w : World) (hv : CkV w v c) :
    Calls Tryz.prog 21 #[v] w fun e w' => e = .returned (.int .i64 (ccE c)) ∧ Below w.heap.size w w' := by
  obtain ⟨a, cap, rfl, hp, hs, _⟩ := hv
  exact refCkk_core c.nm c.ps c.dc a _ cap (isNm c.nm) (ckE c.pf) w (Lib.hid fun W => refIsName_any c.nm W hs) (Lib.hid fun W hW => refCk_any _ c.pf W (hp.below hW))

end Go.Proofs.YtpnlfeljmpfeoaaGreatDoor

/- The reference of layer 9: List. -/
namespace Go.Proofs.YtpnlfeljmpfeoaaGreatDoor
open Go.RowKit

/-- the first fault of the first cask with one -/
def fE : List Ck → Int
  | [] => 0
  | c :: l => if ccE c = 0 then fE l else ccE c
theorem fE_zero (l : List Ck) : fE l = 0 ↔ ∀ c ∈ l, ccE c = 0 := by
  induction l with
  | nil => simp [fE]
  | cons c l ih =>
    unfold fE
    by_cases h : ccE c = 0
    · rw [if_pos h, ih]; simp [h]
    · rw [if_neg h]; simp [h]
theorem fE_at (l : List Ck) (k : Nat) (hk : k < l.length) (h1 : ∀ j (hj : j < l.length), j < k → ccE l[j] = 0) (h2 : ccE l[k] ≠ 0) : fE l = ccE l[k] := by
  induction l generalizing k with
  | nil => simp at hk
  | cons c l ih =>
    unfold fE
    cases k with
    | zero => exact if_neg h2
    | succ k =>
      have h0 := h1 0 (by simp) (by omega)
      simp only [List.getElem_cons_zero] at h0
      rw [if_pos h0]
      simp only [List.getElem_cons_succ] at h2 ⊢
      exact ih k (by simpa using hk) (fun j hj hjk => by
        have := h1 (j + 1) (by simpa using hj) (by omega)
        simpa using this) h2
/-- two casks have one name -/
def dupK (l : List Ck) : Prop := ∃ i k, ∃ (hi : i < l.length) (hk : k < i), (l[i].nm.toList == l[k].nm.toList) = true
open Classical in
/-- the first fault of a list of casks -/
noncomputable def liE (l : List Ck) : Int := if 32 < l.length then 8 else if fE l = 0 then (if dupK l then 6 else 0) else fE l
theorem refList_many (a : Option Addr) (n cap : Nat) (w : World) (h : 32 < n) (h2 : n ≤ 9223372036854775807) :
    Calls Tryz.prog 17 #[.slice a n cap] w fun e w' => e = .returned (.int .i64 8) ∧ Below w.heap.size w w' := by
  go_enter Tryz.func17, Tryz.ntmps17
  go_wp2
  go_returns
  exact ⟨rfl, Below.refl _ _⟩
theorem refList_nil (a : Option Addr) (cap : Nat) (w : World) :
    Calls Tryz.prog 17 #[.slice a 0 cap] w fun e w' => e = .returned (.int .i64 0) ∧ Below w.heap.size w w' := by
  go_enter Tryz.func17, Tryz.ntmps17
  go_wp2_with fail
  go_loopw [3] (fun ii wr => ii = .int .i64 0 ∧ wr = w) (fun _ _ => 0)
  case atStart => exact ⟨rfl, rfl⟩
  case round =>
    obtain ⟨rfl, rfl⟩ := hrel
    go_wp2_with fail
    go_loopw [5] (fun ii wz => ii = .int .i64 0 ∧ Hid (Below wr.heap.size wr wz)) (fun _ _ => 0)
    case atStart => exact ⟨rfl, Below.refl _ _⟩
    case round =>
      obtain ⟨rfl, hB⟩ := hrel
      go_wp2
      go_returns
      exact ⟨rfl, hB.out⟩
set_option maxHeartbeats 8000000 in
set_option maxRecDepth 100000 in
theorem refList_some (b off n cap : Nat) (l : List Ck) (E : Int) (w : World) (n1 : n ≤ 32) (hn : Hid (n = l.length)) (hb : b < w.heap.size)
    (hc : Hid (∀ j (hj : j < l.length), CkAt w b off j l[j]))
    (h1 : Hid (∀ k (hk : k < l.length), (∀ j (hj : j < l.length), j < k → ccE l[j] = 0) → ccE l[k] ≠ 0 → E = ccE l[k]))
    (h2 : Hid ((∀ j (hj : j < l.length), ccE l[j] = 0) → dupK l → E = 6))
    (h3 : Hid ((∀ j (hj : j < l.length), ccE l[j] = 0) → ¬ dupK l → E = 0)) :
    Calls Tryz.prog 17 #[.slice (some ⟨b, off, none⟩) n cap] w fun e w' => e = .returned (.int .i64 E) ∧ Below w.heap.size w w' := by
  go_enter Tryz.func17, Tryz.ntmps17
  go_wp2_with fail
  go_loopw [3] (fun ii wr => ∃ k : Nat, k ≤ n ∧ ii = .int .i64 k ∧ Hid (Below w.heap.size w wr) ∧ Hid (∀ j (hj : j < l.length), j < k → ccE l[j] = 0)) (fun ii _ => n - (intOf ii).toNat)
  case atStart => exact ⟨0, by omega, rfl, Below.refl _ _, fun j hj h => by omega⟩
  case round =>
    obtain ⟨k, hk, rfl, hB, ha⟩ := hrel
    by_cases hlt : k < n
    · have hkl : k < l.length := by rw [← hn.out]; exact hlt
      obtain ⟨a, cp, c0, c1, c2, c3, hP, wd⟩ := (hc.out k hkl).below hb hB.out
      have HC := Lib.hid (refCkk_any _ l[k] wr ⟨a, cp, rfl, hP, wd⟩)
      have HF : Hid (ccE l[k] ≠ 0 → E = ccE l[k]) := fun h => h1.out k hkl ha.out h
      have HT : Hid (ccE l[k] = 0 → ∀ j (hj : j < l.length), j < k + 1 → ccE l[j] = 0) := fun h j hj hjk => by
        by_cases e : j = k
        · subst e; exact h
        · exact ha.out j hj (by omega)
      have l1 : (k : Int) < (n : Int) := by omega
      clear hP wd ha h1 h2 h3 hc
      generalize l[k] = c at *
      by_cases hq : ccE c = 0
      · have hx := Lib.hid (HT.out hq)
        rw [hq] at HC
        clear HT HF hq
        go_wp2_with fail
        refine HC.out.mono ?_
        rintro e w1 ⟨rfl, gg⟩
        have X1 := Lib.hid (bel_trans hB.out gg); clear gg
        go_wp2
        go_roundw
        case rel => exact ⟨k + 1, by omega, by go_num, X1, hx⟩
        case measure => simp [intOf]; omega
      · have hE := HF.out hq
        have z1 : (ccE c == 0) = false := by simpa using hq
        have z2 : (ccE c != 0) = true := by simpa using hq
        clear HT HF hq
        generalize ccE c = E' at *
        subst hE
        go_wp2_with fail
        refine HC.out.mono ?_
        rintro e w1 ⟨rfl, gg⟩
        have X1 := Lib.hid (bel_trans hB.out gg); clear gg
        go_wp2
        go_returns
        exact ⟨rfl, X1.out⟩
    · obtain rfl : k = n := by omega
      have ha2 : ∀ j (hj : j < l.length), ccE l[j] = 0 := fun j hj => ha.out j hj (by have := hn.out; omega)
      have H2 := Lib.hid (h2.out ha2)
      have H3 := Lib.hid (h3.out ha2)
      clear ha ha2 h1 h2 h3
      go_wp2_with fail
      have hB0 := hB
      clear hB
      go_loopw [5] (fun ii wz => ∃ i : Nat, i ≤ k ∧ ii = .int .i64 i ∧ Hid (Below w.heap.size w wz) ∧ Hid (∀ p q (hp : p < l.length) (hq : q < p), p < i → (l[p].nm.toList == l[q].nm.toList) = false)) (fun ii _ => k - (intOf ii).toNat)
      case atStart => exact ⟨0, by omega, rfl, hB0, fun p q hp hq h => by omega⟩
      case round =>
        obtain ⟨i, hi, rfl, hB1, ha⟩ := hrel
        by_cases hlt : i < k
        · have hil : i < l.length := by rw [← hn.out]; exact hlt
          have l1 : (i : Int) < (k : Int) := by omega
          go_wp2_with fail
          go_loopw [6] (fun kk wz => ∃ j : Nat, j ≤ i ∧ kk = .int .i64 j ∧ Hid (Below w.heap.size w wz) ∧ Hid (∀ q (hq : q < i), q < j → (l[i].nm.toList == l[q].nm.toList) = false)) (fun kk _ => i - (intOf kk).toNat)
          case atStart => exact ⟨0, by omega, rfl, hB1, fun q hq h => by omega⟩
          case round =>
            obtain ⟨j, hj, rfl, hB, hb2⟩ := hrel
            by_cases hlt2 : j < i
            · obtain ⟨_, _, c0, _⟩ := (hc.out i hil).below hb hB.out
              obtain ⟨_, _, e0, _⟩ := (hc.out j (by omega)).below hb hB.out
              have l2 : (j : Int) < (i : Int) := by omega
              have l3 : (j : Int) < (k : Int) := by omega
              have HF : Hid ((l[i].nm.toList == l[j].nm.toList) = true → E = 6) := fun h => H2.out ⟨i, j, hil, hlt2, h⟩
              have HT : Hid ((l[i].nm.toList == l[j].nm.toList) = false → ∀ q (hq : q < i), q < j + 1 → (l[i].nm.toList == l[q].nm.toList) = false) := fun h q hq hq2 => by
                by_cases e : q = j
                · subst e; exact h
                · exact hb2.out q hq (by omega)
              clear hb2 hc ha H2 H3
              generalize l[i].nm = x at *
              generalize l[j].nm = y at *
              cases hq : (x.toList == y.toList) with
              | true =>
                obtain rfl := HF.out hq
                clear HF HT
                go_wp2_with fail
                go_quiet (fail)
                go_wp2
                go_returns
                exact ⟨rfl, bel_trans hB.out (bel_drewN _ _)⟩
              | false =>
                have hx := Lib.hid (HT.out hq)
                clear HF HT
                go_wp2_with fail
                go_quiet (fail)
                go_wp2
                go_roundw
                case rel => exact ⟨j + 1, by omega, by go_num, bel_trans hB.out (bel_drewN _ _), hx⟩
                case measure => simp [intOf]; omega
            · obtain rfl : j = i := by omega
              have hx : Hid (∀ p q (hp : p < l.length) (hq : q < p), p < j + 1 → (l[p].nm.toList == l[q].nm.toList) = false) := fun p q hp hq h => by
                by_cases e : p = j
                · subst e; exact hb2.out q hq hq
                · exact ha.out p q hp hq (by omega)
              clear hb2 ha hc H2 H3
              go_wp2
              go_roundw
              case rel => exact ⟨j + 1, by omega, by go_num, hB, hx⟩
              case measure => simp [intOf]; omega
        · obtain rfl : i = k := by omega
          obtain rfl := H3.out (fun ⟨p, q, hp, hq, h⟩ => by
            have := ha.out p q hp hq (by have := hn.out; omega)
            rw [this] at h; cases h)
          clear ha hc H2
          go_wp2
          go_returns
          exact ⟨rfl, hB1.out⟩
theorem refList_any (v : Value) (l : List Ck) (w : World) (hv : Cks w v l) :
    Calls Tryz.prog 17 #[v] w fun e w' => e = .returned (.int .i64 (liE l)) ∧ Below w.heap.size w w' := by
  by_cases h0 : 0 < l.length
  · obtain ⟨b, off, cap, rfl, hb, hl, hc⟩ := hv.cks h0
    by_cases h1 : 32 < l.length
    · have : liE l = 8 := by unfold liE; rw [if_pos h1]
      rw [this]
      exact refList_many _ _ cap w h1 (by omega)
    · refine refList_some b off _ cap l _ w (by omega) rfl hb hc (fun k hk a1 a2 => ?_) (fun a d => ?_) (fun a d => ?_)
      · have e := fE_at l k hk a1 a2
        show liE l = _
        unfold liE
        rw [if_neg h1, e, if_neg a2]
      · have e : fE l = 0 := (fE_zero l).2 fun c hc => by
          obtain ⟨j, hj, rfl⟩ := List.getElem_of_mem hc
          exact a j hj
        show liE l = _
        unfold liE
        rw [if_neg h1, if_pos e, if_pos d]
      · have e : fE l = 0 := (fE_zero l).2 fun c hc => by
          obtain ⟨j, hj, rfl⟩ := List.getElem_of_mem hc
          exact a j hj
        show liE l = _
        unfold liE
        rw [if_neg h1, if_pos e, if_neg d]
  · obtain ⟨a, cap, rfl, _⟩ := hv.shape
    obtain rfl : l = [] := List.length_eq_zero_iff.1 (by omega)
    have : liE [] = 0 := by
      unfold liE
      rw [if_neg (by simp), if_pos (by rfl), if_neg (fun ⟨i, _, hi, _⟩ => by simp at hi)]
    rw [this]
    exact refList_nil a cap w
end Go.Proofs.YtpnlfeljmpfeoaaGreatDoor

/- Casks that are read: what stands in memory, what is read. -/
namespace Go.Proofs.YtpnlfeljmpfeoaaGreatDoor
open Go.RowKit

def RowP (w : World) (B : Nat) (v : Value) (st : Bool × List Ck) : Prop :=
  (st.1 = false ∧ OwnC w B v st.2) ∨ (st.1 = true ∧ ∃ l ps c p, st.2 = l ++ [c] ∧ OwnO w B v l ps c p)
/-- what stands in the casks at hand -/
def BdP (k : Nat) (st : Bool × List Ck) : Prop :=
  st.2.length ≤ k ∧ ∀ c ∈ st.2, c.pf.length ≤ k ∧ c.nm.size ≤ 1000000 ∧ (c.ps = 1 ∨ c.ps = 2) ∧ (0 ≤ c.dc ∧ c.dc ≤ 999999999999999)
theorem BdP.cks {w : World} {B k : Nat} {v : Value} {st : Bool × List Ck} (h : BdP k st) (hO : OwnC w B v st.2) : Cks w v st.2 :=
  hO.cks fun c hc => by
    obtain ⟨_, h1, h2, h3⟩ := h.2 c hc
    exact ⟨by omega, by omega, by omega⟩
theorem hd_bd {ws : List (List UInt8)} {c : Ck} (h : hd ws = some c) : (∃ a ∈ ws, c.nm = ⟨a.toArray⟩) ∧ (c.ps = 1 ∨ c.ps = 2) ∧ c.pf = [] ∧ (0 ≤ c.dc ∧ c.dc ≤ 999999999999999) := by
  obtain ⟨-, h2, h3, h4⟩ := hd_inv h
  unfold hd at h
  split at h
  · rename_i a m p d n
    split at h
    · cases e : num n with
      | none => rw [e] at h; simp at h
      | some x =>
        rw [e] at h
        simp only [Option.map_some, Option.some.injEq] at h
        subst h
        refine ⟨⟨m, by simp, rfl⟩, h3, h2, h4, ?_⟩
        unfold num at e
        split at e
        · rename_i g
          obtain ⟨g1, _, g2, _⟩ := g
          simp only [Option.some.injEq] at e
          rw [← e]
          exact (val_small _ g1 (by omega)).2
        · cases e
    · cases h
  · cases h
theorem wsL_mem {o : List ByteArray} {a : List UInt8} (h : a ∈ wsL o) : ∃ x ∈ o, x.data.toList = a := by
  unfold wsL at h
  exact List.mem_map.1 h
/-- the answer of Parse -/
def PaP (s : ByteArray) (v : Value) (n E : Int) (w : World) : Prop :=
  (∀ m, paS s.data.toList = (none, m) → n = m ∧ E = 3) ∧ (∀ l k, paS s.data.toList = (some l, k) → n = 0 ∧ E = liE l ∧ (liE l = 0 → Cks w v l))
theorem two_cells_new (w : World) (x y : Int) (t : TypeId) : ∀ j v, [Value.int .i64 x, Value.int .i64 y][j]? = some v → (w.alloc (.cells #[.int .i64 x, .int .i64 y] t)).cell? ((⟨w.heap.size, 0, none⟩ : Addr).add j) = some v := by
  intro j v hj
  have hlt : j < 2 := by have := (List.getElem?_eq_some_iff.1 hj).1; simpa using this
  rw [Go.WideShapes.add_plain, World.cell?_alloc_new]
  simpa using hj
theorem row_grown_refl (W : World) (r : Option Nat) : W.grownBy W r := ⟨rfl, rfl, rfl, Nat.le_refl _, fun _ _ _ => rfl⟩
end Go.Proofs.YtpnlfeljmpfeoaaGreatDoor

/- A builder's WriteString and String in the shape of a loop; a builder among other blocks. -/
namespace Go.Proofs.YtpnlfeljmpfeoaaGreatDoor
open Go.RowKit

/-- block b is a builder of the call's own with the bytes l -/
def Bld (w : World) (B b : Nat) (l : List UInt8) : Prop := Lib.IsBuilderF 65 5 B b (Lib.byteCells l) w
/-- all blocks but the builder's, and rows of bytes, are kept -/
def Kp (b : Nat) (w w' : World) : Prop := Lib.OthersKept 5 (some b) w w'
theorem bld_new (w : World) : Bld (w.alloc (.cells #[.pointer none, .slice none 0 0] 65)) w.heap.size w.heap.size [] := Lib.IsBuilderF.of (Lib.fresh_isBuilder _ _ w)
theorem strC (s : ByteArray) : Lib.strCells s = Lib.byteCells s.data.toList := rfl
theorem byteC_app (a b : List UInt8) : Lib.byteCells (a ++ b) = Lib.byteCells a ++ Lib.byteCells b := by simp [Lib.byteCells]
theorem writeS_any (B b : Nat) (l : List UInt8) (s : ByteArray) (w : World) (h : Bld w B b l) (hlen : l.length + s.size ≤ 100000000000000) (hB : B ≤ w.heap.size) :
    Calls Tryz.prog 45 #[.pointer (some ⟨b, 0, none⟩), .string s] w fun e w' => e = .returned (.tuple #[.int .i64 s.size, .nilIface]) ∧ Bld w' B b (l ++ s.data.toList) ∧ Below B w w' ∧ Kp b w w' := by
  refine (Any.Builder_WriteString_k (P := Tryz.prog) (ρ := Tryz.lays156_ren) { Tryz.lays156 with } Tryz.Builder_Extra_156 B b (Lib.byteCells l) s w h (by rw [Lib.byteCells_length]; omega) hB).mono ?_
  rintro e w' ⟨rfl, h1, h2, h3⟩
  refine ⟨rfl, ?_, h2, h3⟩
  unfold Bld
  rw [byteC_app, ← strC]
  exact .inr h1
theorem string_any (B b : Nat) (l : List UInt8) (w : World) (h : Bld w B b l) (hB : B ≤ w.heap.size) :
    Calls Tryz.prog 48 #[.pointer (some ⟨b, 0, none⟩)] w fun e w' => e = .returned (.string ⟨l.toArray⟩) ∧ Below B w w' := by
  refine (Tryz.Builder_String_any_k B b l w h hB).mono ?_
  rintro e w' ⟨rfl, _, h2, _⟩
  exact ⟨rfl, h2⟩
/-- a builder is kept by what keeps the blocks below the heap's end -/
theorem Bld.below {w w' : World} {B b : Nat} {l : List UInt8} (h : Bld w B b l) (hb : Below w.heap.size w w') : Bld w' B b l := by
  have key : ∀ p, Lib.BuilderAtF 65 5 B b p (Lib.byteCells l) w → Lib.BuilderAtF 65 5 B b p (Lib.byteCells l) w' := by
    rintro p ⟨hB, v, hbk, hown, hne⟩
    have lt : ∀ {k o}, w.heap[k]? = some o → k < w.heap.size := fun hk => (Array.getElem?_eq_some_iff.1 hk).1
    refine ⟨hB, v, by rw [hb.block _ (lt hbk)]; exact hbk, ⟨hown.1, ?_⟩, hne⟩
    rcases hown.2 with h0 | ⟨g, cap, cur, fz, hv, hg, hh, r⟩
    · exact .inl h0
    · exact .inr ⟨g, cap, cur, fz, hv, hg, by rw [hb.block _ (lt hh)]; exact hh, r⟩
  exact h.elim (fun x => .inl (key _ x)) (fun x => .inr (key _ x))
theorem Bld.alloc {w : World} {B b : Nat} {l : List UInt8} (h : Bld w B b l) (o : Obj) : Bld (w.alloc o) B b l := h.below (bel_alloc (Below.refl _ _))
theorem Bld.lt {w : World} {B b : Nat} {l : List UInt8} (h : Bld w B b l) : b < w.heap.size := by
  rcases h with ⟨_, v, hb, _⟩ | ⟨_, v, hb, _⟩
  · exact (Array.getElem?_eq_some_iff.1 hb).1
  · exact (Array.getElem?_eq_some_iff.1 hb).1
theorem Kp.refl (b : Nat) (w : World) : Kp b w w := Lib.OthersKept.refl _ _ w
theorem Kp.trans {b : Nat} {w1 w2 w3 : World} (h : Kp b w1 w2) (k : Kp b w2 w3) : Kp b w1 w3 := Lib.OthersKept.trans h k
theorem Kp.of {b : Nat} {w w' : World} (h : Below w.heap.size w w') : Kp b w w' := fun k o hk _ _ => by
  rw [h.block k (Array.getElem?_eq_some_iff.1 hk).1]; exact hk
end Go.Proofs.YtpnlfeljmpfeoaaGreatDoor

/- Package cask: the line of some words; decimal numerals; the variables that the package reads. -/
namespace Go.Proofs.YtpnlfeljmpfeoaaGreatDoor
open Go.RowKit

/-- a string, of a list of bytes -/
def str (l : List UInt8) : Value := .string ⟨l.toArray⟩
/-- what the listed variables hold -/
structure CV (w : World) : Prop where
  pow : Lib.TabIs Tryz.prog w "internal/strconv.uint64pow10" .u64 Lib.pow10Tab
  ly : w.cell? ⟨0, 1, none⟩ = some (str wLy)
  st : w.cell? ⟨0, 2, none⟩ = some (str wSt)
  no : w.cell? ⟨0, 0, none⟩ = some (str [])
  syn : ∃ ev, w.cell? ⟨3, 0, none⟩ = some ev ∧ (ev = .nilIface ∨ ∃ te pe, ev = .iface te pe)
  rng : ∃ ev, w.cell? ⟨4, 0, none⟩ = some ev ∧ (ev = .nilIface ∨ ∃ te pe, ev = .iface te pe)
  mxl : ∃ m, w.cell? ⟨2, 0, none⟩ = some (.int .i64 m)
theorem cell_bel {w w' : World} {p : Addr} {v : Value} (h : w.cell? p = some v) (hb : Below w.heap.size w w') : w'.cell? p = some v := by
  rw [hb.cell (World.block_lt_of_cell? w _ h)]; exact h
theorem CV.below {w w' : World} (h : CV w) (hb : Below w.heap.size w w') : CV w' :=
  ⟨tab_keep (n := "internal/strconv.uint64pow10") 1 (by kernel_rfl) (by decide) h.pow hb, cell_bel h.ly hb, cell_bel h.st hb, cell_bel h.no hb,
    (let ⟨ev, a, b⟩ := h.syn; ⟨ev, cell_bel a hb, b⟩), (let ⟨ev, a, b⟩ := h.rng; ⟨ev, cell_bel a hb, b⟩), (let ⟨m, a⟩ := h.mxl; ⟨m, cell_bel a hb⟩)⟩
theorem itoa_any (n : Int) (w : World) (hn : -9223372036854775808 ≤ n ∧ n ≤ 9223372036854775807) (hw : CV w) :
    Calls Tryz.prog 47 #[.int .i64 n] w fun e w' => e = .returned (str (Lib.itoa n)) ∧ Below w.heap.size w w' :=
  (Tryz.strconv_Itoa n (by omega) (by omega) w hw.pow).mono fun _ _ ⟨h, k, os, hw⟩ => ⟨h, by rw [hw]; exact Lib.below_grow _ _ (Nat.le_refl _) _ _⟩
theorem join_jn (ws : List (List UInt8)) : Lib.join ws [32] = jn ws := by
  induction ws with
  | nil => rfl
  | cons w ws ih =>
    cases ws with
    | nil => rw [Lib.join_one]; rfl
    | cons v ws =>
      rw [Lib.join_cons] at ih ⊢
      show _ = w ++ 32 :: jn (v :: ws)
      rw [← ih]
      simp [Lib.joinTail]
theorem jn_len (ws : List (List UInt8)) : (jn ws).length ≤ (ws.map fun w => w.length + 1).sum := by
  induction ws with
  | nil => simp [jn]
  | cons w ws ih =>
    cases ws with
    | nil => simp [jn]
    | cons v ws =>
      show (w ++ 32 :: jn (v :: ws)).length ≤ _
      rw [List.length_append, List.length_cons, List.map_cons, List.sum_cons]
      omega
theorem app_nl (l : List UInt8) : (⟨l.toArray⟩ : ByteArray) ++ ⟨#[10]⟩ = ⟨(l ++ [10]).toArray⟩ := by
  apply ByteArray.ext; simp [ByteArray.data_append]
theorem str_size (l : List UInt8) : (⟨l.toArray⟩ : ByteArray).size = l.length := by show l.toArray.size = _; simp
theorem line_any (xs : List ByteArray) (n : Nat) (w : World) (cs : Array Value) (hcs : cs = (xs.map Value.string).toArray) (hn : n = xs.length) (h0 : 1 ≤ n) (hl : (jn (xs.map (·.data.toList))).length ≤ 100000000) :
    Calls Tryz.prog 46 #[.slice (some ⟨w.heap.size, 0, none⟩) n n] (w.alloc (.cells cs 9)) fun e w' => e = .returned (str (jn (xs.map (·.data.toList)) ++ [10])) ∧ Below w.heap.size w w' := by
  subst hn
  have hxl : xs.length ≤ 140737488355328 := by
    have : ∀ ws : List (List UInt8), ws.length ≤ (jn ws).length + 1 := fun ws => by
      induction ws with
      | nil => simp
      | cons w ws ih =>
        cases ws with
        | nil => simp
        | cons v ws =>
          show _ ≤ (w ++ 32 :: jn (v :: ws)).length + 1
          rw [List.length_append, List.length_cons (a := (32 : UInt8)), List.length_cons (a := w)]
          omega
    have := this (xs.map (·.data.toList))
    rw [List.length_map] at this
    omega
  have HJ := Lib.hid (Tryz.strings_Join w.heap.size 0 xs.length xs ⟨#[32]⟩ (w.alloc (.cells cs 9)) (fun j x hj => by
    rw [World.cell?_alloc_new, hcs]
    simp [hj]) (by simp) hxl (Nat.le_refl _) (by rw [show (⟨#[32]⟩ : ByteArray).data.toList = [32] from rfl, join_jn]; omega))
  rw [show (⟨#[32]⟩ : ByteArray).data.toList = [32] from rfl, join_jn] at HJ
  have HA := Lib.hid (app_nl (jn (xs.map (·.data.toList))))
  have HS : (⟨(jn (xs.map (·.data.toList))).toArray⟩ : ByteArray).size ≤ 100000000 := by rw [str_size]; exact hl
  clear hcs hl hxl
  generalize (⟨(jn (xs.map (·.data.toList))).toArray⟩ : ByteArray) = V at *
  generalize jn (xs.map (·.data.toList)) = L at *
  generalize xs.length = n at *
  go_enter Tryz.func46, Tryz.ntmps46
  go_wp2_with fail
  refine HJ.out.mono ?_
  rintro e w1 ⟨rfl, gg⟩
  have X := Lib.hid (bel_alloc gg); clear gg
  go_wp2
  go_returns
  refine ⟨?_, X.out⟩
  unfold str
  rw [← HA.out]
  rfl
end Go.Proofs.YtpnlfeljmpfeoaaGreatDoor

/- Package cask: number, place. -/
namespace Go.Proofs.YtpnlfeljmpfeoaaGreatDoor
open Go.RowKit

theorem par_dgs (l : List UInt8) : ∀ (acc : Nat), dgs l = true → acc * 10 ^ l.length + 10 ^ l.length ≤ 100000000000 → ∃ u : Nat, Lib.parseUint10 acc l = .ok u ∧ (u : Int) = l.foldl (fun a c => 10 * a + ((c.toNat : Int) - 48)) (acc : Int) ∧ u ≤ 100000000000 := by
  induction l with
  | nil => intro acc _ h; exact ⟨acc, rfl, rfl, by simp at h; omega⟩
  | cons c l ih =>
    intro acc hd hb
    unfold dgs at hd
    rw [List.all_cons, Bool.and_eq_true] at hd
    have hc := (isDg_iff c).1 hd.1
    rw [List.length_cons, Nat.pow_succ] at hb
    have hp : 1 ≤ 10 ^ l.length := Nat.one_le_pow _ _ (by omega)
    have h2 : (acc * 10 + (c.toNat - 48)) * 10 ^ l.length + 10 ^ l.length ≤ 100000000000 := by
      have e1 : (acc * 10 + (c.toNat - 48) + 1) * 10 ^ l.length ≤ (acc + 1) * 10 * 10 ^ l.length := Nat.mul_le_mul_right _ (by omega)
      have e2 : (acc + 1) * 10 * 10 ^ l.length = acc * (10 ^ l.length * 10) + 10 ^ l.length * 10 := by
        rw [Nat.mul_assoc, Nat.add_mul, Nat.one_mul, Nat.mul_comm 10]
      rw [Nat.add_mul (acc * 10 + (c.toNat - 48)), Nat.one_mul] at e1
      omega
    have hacc : acc ≤ 10000000000 := by
      have e3 : acc * 10 ≤ acc * (10 ^ l.length * 10) := Nat.mul_le_mul_left _ (by omega)
      omega
    obtain ⟨u, h3, h4, h5⟩ := ih (acc * 10 + (c.toNat - 48)) hd.2 h2
    refine ⟨u, ?_, ?_, h5⟩
    · unfold Lib.parseUint10
      rw [if_pos hc, if_neg (by omega), if_neg (by omega)]
      exact h3
    · rw [h4, List.foldl_cons]
      congr 1
      omega
theorem atoi_dgs {w : List UInt8} (hd : dgs w = true) (h1 : 1 ≤ w.length) (h2 : w.length ≤ 10) : Lib.atoiAll w = .ok (val w) := by
  cases w with
  | nil => simp at h1
  | cons c l =>
    have hc := (isDg_iff c).1 ((dgs_iff _).1 hd c (by simp))
    have hb : 0 * 10 ^ (c :: l).length + 10 ^ (c :: l).length ≤ 100000000000 := by
      have := Nat.pow_le_pow_right (show 0 < 10 by omega) h2
      omega
    obtain ⟨u, g1, g2, g3⟩ := par_dgs (c :: l) 0 hd hb
    rw [Lib.atoiAll_plain c l (by omega) (by omega)]
    unfold Lib.parseMag
    rw [if_neg (by simp), g1]
    unfold Lib.signless
    simp only
    rw [if_neg (by omega)]
    congr 1
theorem num_len {s : List UInt8} {v : Int} (h : num s = some v) : dgs s = true ∧ 1 ≤ s.length ∧ s.length ≤ 10 ∧ v = val s := by
  unfold num at h
  split at h
  · rename_i g
    obtain rfl := Option.some.inj h
    exact ⟨g.1, g.2.1, g.2.2.1, rfl⟩
  · cases h
theorem num_bad (s : ByteArray) (v : Int) (N t : Nat) (w : World)
    (H : Hid (Calls Tryz.prog 86 #[.string s] w fun e w' => ∃ N, e = .returned (.tuple #[.int .i64 v, .iface 139 (.pointer (some ⟨N, 0, none⟩))]) ∧ Below w.heap.size w w')) :
    Calls Tryz.prog 71 #[.string s] w fun e w' => e = .returned (.tuple #[.int .i64 0, .bool false]) ∧ Below w.heap.size w w' := by
  go_enter Tryz.func71, Tryz.ntmps71
  go_wp2_with fail
  refine H.out.mono ?_
  rintro e w1 ⟨N, rfl, gg⟩
  have X := Lib.hid gg; clear gg
  go_wp2
  go_returns
  exact ⟨rfl, X.out⟩
theorem num_out (s : ByteArray) (v : Int) (w : World) (hv : decide (v < 0) = true ∨ (decide (v < 0) = false ∧ decide (10 < (s.size : Int)) = true))
    (H : Hid (Calls Tryz.prog 86 #[.string s] w fun e w' => e = .returned (.tuple #[.int .i64 v, .nilIface]) ∧ Below w.heap.size w w')) :
    Calls Tryz.prog 71 #[.string s] w fun e w' => e = .returned (.tuple #[.int .i64 0, .bool false]) ∧ Below w.heap.size w w' := by
  rcases hv with hv | ⟨hv, hl⟩
  all_goals
    go_enter Tryz.func71, Tryz.ntmps71
    go_wp2_with fail
    refine H.out.mono ?_
    rintro e w1 ⟨rfl, gg⟩
    have X := Lib.hid gg; clear gg
    go_wp2
    go_returns
    exact ⟨rfl, X.out⟩
theorem num_ok (s D : ByteArray) (v : Int) (b : Bool) (w : World) (hv : decide (v < 0) = false) (hl : decide (10 < (s.size : Int)) = false) (hb : (D.toList == s.toList) = b)
    (H : Hid (Calls Tryz.prog 86 #[.string s] w fun e w' => e = .returned (.tuple #[.int .i64 v, .nilIface]) ∧ Below w.heap.size w w'))
    (H2 : Hid (∀ W, Below w.heap.size w W → Calls Tryz.prog 47 #[.int .i64 v] W fun e w' => e = .returned (.string D) ∧ Below W.heap.size W w')) :
    Calls Tryz.prog 71 #[.string s] w fun e w' => e = .returned (.tuple #[.int .i64 v, .bool b]) ∧ Below w.heap.size w w' := by
  go_enter Tryz.func71, Tryz.ntmps71
  go_wp2_with fail
  refine H.out.mono ?_
  rintro e w1 ⟨rfl, gg⟩
  have X := Lib.hid gg; clear gg
  go_wp2_with fail
  refine (H2.out _ X.out).mono ?_
  rintro e w2 ⟨rfl, gg⟩
  replace X := Lib.hid (bel_trans X.out gg); clear gg
  go_wp2
  go_returns
  exact ⟨rfl, X.out⟩
theorem number_any (s : ByteArray) (w : World) (hw : CV w) (hs : s.size ≤ 100000) :
    Calls Tryz.prog 71 #[.string s] w fun e w' => ∃ n b, e = .returned (.tuple #[.int .i64 n, .bool b]) ∧ b = (num s.data.toList).isSome ∧ (∀ v, num s.data.toList = some v → n = v) ∧ Below w.heap.size w w' := by
  have no : num s.data.toList = none → ∀ n : Int, (false = (num s.data.toList).isSome ∧ ∀ v, num s.data.toList = some v → n = v) := fun h n => by
    rw [h]; exact ⟨rfl, fun v hv => by cases hv⟩
  cases ha : Lib.atoiAll s.data.toList with
  | range =>
    have hn : num s.data.toList = none := by
      cases h : num s.data.toList with
      | none => rfl
      | some v => obtain ⟨a, b, c, _⟩ := num_len h; rw [atoi_dgs a b c] at ha; cases ha
    obtain ⟨ev, h1, h2⟩ := hw.rng
    exact (num_bad s _ 0 0 w (Lib.hid ((Tryz.strconv_Atoi_range s (by omega) ha ev w h1 h2).mono fun _ _ ⟨N, a, _, _, b⟩ => ⟨N, a, b⟩))).mono fun _ _ ⟨a, b⟩ => ⟨0, false, a, (no hn 0).1, (no hn 0).2, b⟩
  | ok v =>
    have H : Hid (Calls Tryz.prog 86 #[.string s] w fun e w' => e = .returned (.tuple #[.int .i64 v, .nilIface]) ∧ Below w.heap.size w w') := Lib.hid ((Tryz.strconv_Atoi_ok s (by omega) v ha w).mono fun _ w' ⟨a, b⟩ => ⟨a, by
      rcases b with rfl | ⟨t, rfl⟩
      · exact Below.refl _ _
      · exact Lib.bytesWorld_below _ _ _⟩)
    have hvb := Lib.atoiAll_bounds ha
    by_cases h0 : v < 0
    · have hn : num s.data.toList = none := by
        cases h : num s.data.toList with
        | none => rfl
        | some u =>
          obtain ⟨a, b, c, d⟩ := num_len h
          rw [atoi_dgs a b c] at ha
          have := (num_itoa h).2
          simp only [Lib.NumEnd.ok.injEq] at ha
          omega
      exact (num_out s v w (.inl (decide_eq_true h0)) H).mono fun _ _ ⟨a, b⟩ => ⟨0, false, a, (no hn 0).1, (no hn 0).2, b⟩
    · by_cases h1 : 10 < s.size
      · have hn : num s.data.toList = none := by
          cases h : num s.data.toList with
          | none => rfl
          | some u =>
            obtain ⟨a, b, c, d⟩ := num_len h
            rw [Array.length_toList] at c
            have : s.size ≤ 10 := c
            omega
        exact (num_out s v w (.inr ⟨decide_eq_false h0, decide_eq_true (by omega)⟩) H).mono fun _ _ ⟨a, b⟩ => ⟨0, false, a, (no hn 0).1, (no hn 0).2, b⟩
      · refine (num_ok s ⟨(Lib.itoa v).toArray⟩ v _ w (decide_eq_false h0) (decide_eq_false (by omega)) rfl H (Lib.hid fun W hW => itoa_any v W hvb (hw.below hW))).mono fun _ _ ⟨a, b⟩ => ⟨v, _, a, ?_, fun u hu => ?_, b⟩
        · rw [ByteArray.toList_eq, ByteArray.toList_eq]
          show (Lib.itoa v == s.data.toList) = _
          cases h : num s.data.toList with
          | some u =>
            obtain ⟨e1, e2⟩ := num_itoa h
            obtain ⟨a, b, c, d⟩ := num_len h
            rw [atoi_dgs a b c] at ha
            simp only [Lib.NumEnd.ok.injEq] at ha
            rw [← ha, ← d, e1]; simp
          | none =>
            rw [Option.isSome_none, beq_eq_false_iff_ne]
            intro e
            have hl : s.data.toList.length ≤ 10 := by
              rw [Array.length_toList]; show s.size ≤ 10; omega
            rw [← e] at h hl
            have hv9 : v ≤ 9999999999 := by
              obtain ⟨q1, q2, q3, q4⟩ := dec_dgs v.toNat
              have e2 : Lib.itoa v = Lib.decDigits v.toNat := by unfold Lib.itoa; rw [if_neg (by omega)]
              rw [e2] at hl
              have := (val_bd _ q1).2
              have p : (10 : Int) ^ (Lib.decDigits v.toNat).length ≤ 10 ^ 10 := by
                have := Nat.pow_le_pow_right (show 0 < 10 by omega) hl
                exact_mod_cast this
              rw [q2] at this
              have : (10 : Int) ^ 10 = 10000000000 := by decide
              omega
            rw [(itoa_num (by omega) hv9).1] at h; cases h
        · obtain ⟨a, b, c, d⟩ := num_len hu
          rw [atoi_dgs a b c] at ha
          simp only [Lib.NumEnd.ok.injEq] at ha
          omega
  | _ =>
    have hn : num s.data.toList = none := by
      cases h : num s.data.toList with
      | none => rfl
      | some v => obtain ⟨a, b, c, _⟩ := num_len h; rw [atoi_dgs a b c] at ha; cases ha
    obtain ⟨ev, h1, h2⟩ := hw.syn
    exact (num_bad s _ 0 0 w (Lib.hid ((Tryz.strconv_Atoi_syntax s (by omega) ha ev w h1 h2).mono fun _ _ ⟨N, a, _, _, b⟩ => ⟨N, a, b⟩))).mono fun _ _ ⟨a, b⟩ => ⟨0, false, a, (no hn 0).1, (no hn 0).2, b⟩
end Go.Proofs.YtpnlfeljmpfeoaaGreatDoor

/- Package cask: place. -/
namespace Go.Proofs.YtpnlfeljmpfeoaaGreatDoor
open Go.RowKit

/-- the position with a word -/
def plQ (s : List UInt8) : Int := if s = wLy then 1 else if s = wSt then 2 else 0
theorem ix0 (a b c : Value) (w : World) : (Instr.index 71 (.agg #[a, b, c]) (.int .i64 0)).run Tryz.prog w = .ok a w := by kernel_rfl
theorem ix1 (a b c : Value) (w : World) : (Instr.index 71 (.agg #[a, b, c]) (.int .i64 1)).run Tryz.prog w = .ok b w := by kernel_rfl
theorem ix2 (a b c : Value) (w : World) : (Instr.index 71 (.agg #[a, b, c]) (.int .i64 2)).run Tryz.prog w = .ok c w := by kernel_rfl
set_option maxRecDepth 100000 in
theorem place_core (s : ByteArray) (R : Int) (w : World) (c0 : w.cell? ⟨0, 0, none⟩ = some (.string ⟨#[]⟩)) (c1 : w.cell? ⟨0, 1, none⟩ = some (.string ⟨#[108, 121, 105, 110, 103]⟩)) (c2 : w.cell? ⟨0, 2, none⟩ = some (.string ⟨#[115, 116, 97, 110, 100, 105, 110, 103]⟩))
    (h : (([] == s.toList) = true ∧ R = 0) ∨ (([] == s.toList) = false ∧ ([108, 121, 105, 110, 103] == s.toList) = true ∧ R = 1) ∨ (([] == s.toList) = false ∧ ([108, 121, 105, 110, 103] == s.toList) = false ∧ ([115, 116, 97, 110, 100, 105, 110, 103] == s.toList) = true ∧ R = 2) ∨ (([] == s.toList) = false ∧ ([108, 121, 105, 110, 103] == s.toList) = false ∧ ([115, 116, 97, 110, 100, 105, 110, 103] == s.toList) = false ∧ R = 0)) :
    Calls Tryz.prog 70 #[.string s] w fun e w' => e = .returned (.int .i64 R) ∧ Below w.heap.size w w' := by
  have HH := Lib.hid h
  clear h
  have X0 := fun W => ix0 (.string ⟨#[]⟩) (.string ⟨#[108, 121, 105, 110, 103]⟩) (.string ⟨#[115, 116, 97, 110, 100, 105, 110, 103]⟩) W
  have X1 := fun W => ix1 (.string ⟨#[]⟩) (.string ⟨#[108, 121, 105, 110, 103]⟩) (.string ⟨#[115, 116, 97, 110, 100, 105, 110, 103]⟩) W
  have X2 := fun W => ix2 (.string ⟨#[]⟩) (.string ⟨#[108, 121, 105, 110, 103]⟩) (.string ⟨#[115, 116, 97, 110, 100, 105, 110, 103]⟩) W
  go_enter Tryz.func70, Tryz.ntmps70
  go_wp2_with fail
  go_loopw [6] (fun ii wr => ∃ k : Nat, k ≤ 3 ∧ ii = .int .i64 k ∧ Hid (Below w.heap.size w wr) ∧ Hid (0 < k → ([] == s.toList) = false) ∧ Hid (1 < k → ([108, 121, 105, 110, 103] == s.toList) = false) ∧ Hid (2 < k → ([115, 116, 97, 110, 100, 105, 110, 103] == s.toList) = false)) (fun ii _ => 3 - (intOf ii).toNat)
  case atStart => exact ⟨0, by omega, rfl, Below.refl _ _, fun h => by omega, fun h => by omega, fun h => by omega⟩
  case round =>
    obtain ⟨k, hk, rfl, hB, q0, q1, q2⟩ := hrel
    have hk4 : k = 0 ∨ k = 1 ∨ k = 2 ∨ k = 3 := by omega
    clear c0 c1 c2
    rcases hk4 with rfl | rfl | rfl | rfl
    · cases h0 : ([] == s.toList) with
      | true =>
        obtain rfl : R = 0 := by
          rcases HH.out with ⟨_, h⟩ | ⟨h, _⟩ | ⟨h, _⟩ | ⟨h, _⟩
          · exact h
          all_goals (rw [h0] at h; cases h)
        clear HH q0 q1 q2
        go_wp2
        go_returns
        exact ⟨rfl, hB.out⟩
      | false =>
        have H0 := Lib.hid h0
        clear HH q0
        go_wp2
        go_roundw
        case rel => exact ⟨1, by omega, by go_num, hB, fun _ => (by first | exact H0.out | trivial), fun h => by omega, fun h => by omega⟩
        case measure => simp [intOf]
    · have h0 := q0.out (by omega)
      cases h1 : ([108, 121, 105, 110, 103] == s.toList) with
      | true =>
        obtain rfl : R = 1 := by
          rcases HH.out with ⟨h, _⟩ | ⟨_, _, h⟩ | ⟨_, h, _⟩ | ⟨_, h, _⟩
          · rw [h0] at h; cases h
          · exact h
          all_goals (rw [h1] at h; cases h)
        clear HH q0 q1 q2 h0
        go_wp2
        go_returns
        exact ⟨rfl, hB.out⟩
      | false =>
        have H0 := Lib.hid h0
        have H1 := Lib.hid h1
        clear HH q0 q1 h0
        go_wp2
        go_roundw
        case rel => exact ⟨2, by omega, by go_num, hB, fun _ => (by first | exact H0.out | trivial), fun _ => (by first | exact H1.out | trivial), fun h => by omega⟩
        case measure => simp [intOf]
    · have h0 := q0.out (by omega)
      have h1 := q1.out (by omega)
      cases h2 : ([115, 116, 97, 110, 100, 105, 110, 103] == s.toList) with
      | true =>
        obtain rfl : R = 2 := by
          rcases HH.out with ⟨h, _⟩ | ⟨_, h, _⟩ | ⟨_, _, _, h⟩ | ⟨_, _, h, _⟩
          · rw [h0] at h; cases h
          · rw [h1] at h; cases h
          · exact h
          · rw [h2] at h; cases h
        clear HH q0 q1 q2 h0 h1
        go_wp2
        go_returns
        exact ⟨rfl, hB.out⟩
      | false =>
        have H0 := Lib.hid h0
        have H1 := Lib.hid h1
        have H2 := Lib.hid h2
        clear HH q0 q1 q2 h0 h1
        go_wp2
        go_roundw
        case rel => exact ⟨3, by omega, by go_num, hB, fun _ => (by first | exact H0.out | trivial), fun _ => (by first | exact H1.out | trivial), fun _ => (by first | exact H2.out | trivial)⟩
        case measure => simp [intOf]
    · have h0 := q0.out (by omega)
      have h1 := q1.out (by omega)
      have h2 := q2.out (by omega)
      obtain rfl : R = 0 := by
        rcases HH.out with ⟨h, _⟩ | ⟨_, h, _⟩ | ⟨_, _, h, _⟩ | ⟨_, _, _, h⟩
        · rw [h0] at h; cases h
        · rw [h1] at h; cases h
        · rw [h2] at h; cases h
        · exact h
      clear HH q0 q1 q2 h0 h1 h2
      go_wp2
      go_returns
      exact ⟨rfl, hB.out⟩
theorem place_any (s : ByteArray) (w : World) (hw : CV w) :
    Calls Tryz.prog 70 #[.string s] w fun e w' => e = .returned (.int .i64 (plQ s.data.toList)) ∧ Below w.heap.size w w' := by
  refine place_core s _ w hw.no hw.ly hw.st ?_
  rw [ByteArray.toList_eq]
  unfold plQ
  generalize s.data.toList = l
  by_cases h1 : l = wLy
  · right; left
    rw [if_pos h1]; subst h1; decide
  · rw [if_neg h1]
    by_cases h2 : l = wSt
    · right; right; left
      rw [if_pos h2]; subst h2; decide
    · rw [if_neg h2]
      have e1 : ([108, 121, 105, 110, 103] == l) = false := by rw [beq_eq_false_iff_ne]; exact fun e => h1 e.symm
      have e2 : ([115, 116, 97, 110, 100, 105, 110, 103] == l) = false := by rw [beq_eq_false_iff_ne]; exact fun e => h2 e.symm
      by_cases h3 : l = []
      · left; subst h3; exact ⟨rfl, rfl⟩
      · right; right; right
        exact ⟨by rw [beq_eq_false_iff_ne]; exact fun e => h3 e.symm, e1, e2, rfl⟩
end Go.Proofs.YtpnlfeljmpfeoaaGreatDoor

/- Package cask: isNamed, isStrange, isName, isPosition, isVolume. -/
namespace Go.Proofs.YtpnlfeljmpfeoaaGreatDoor
open Go.RowKit

/-- a rune that may stand in a name -/
def nmR (x : Nat) : Bool := decide (97 ≤ x ∧ x ≤ 122) || decide (65 ≤ x ∧ x ≤ 90) || decide (48 ≤ x ∧ x ≤ 57) || decide (x = 45) || decide (x = 46)
theorem nmR_iff (x : Nat) : nmR x = true ↔ (97 ≤ x ∧ x ≤ 122) ∨ (65 ≤ x ∧ x ≤ 90) ∨ (48 ≤ x ∧ x ≤ 57) ∨ x = 45 ∨ x = 46 := by
  simp [nmR, or_assoc]
theorem nmR_C (c : UInt8) : nmR c.toNat = nmC c := rfl
/-- which is not one -/
def stR (x : Nat) : Bool := !nmR x
theorem named_core (x : Nat) (B : Bool) (w : World) (hx : x ≤ 1114111) (h1 : Hid (nmR x = true → B = true)) (h0 : Hid (nmR x = false → B = false)) :
    Calls Tryz.prog 79 #[.int .i32 (x : Int)] w fun e w' => e = .returned (.bool B) ∧ w' = w := by
  have cs : (97 ≤ x ∧ x ≤ 122) ∨ (65 ≤ x ∧ x ≤ 90) ∨ (48 ≤ x ∧ x ≤ 57) ∨ (45 ≤ x ∧ x ≤ 45) ∨ (46 ≤ x ∧ x ≤ 46) ∨ (0 ≤ x ∧ x ≤ 44) ∨ (47 ≤ x ∧ x ≤ 47) ∨ (58 ≤ x ∧ x ≤ 64) ∨ (91 ≤ x ∧ x ≤ 96) ∨ (123 ≤ x ∧ x ≤ 1114111) := by omega
  rcases cs with cs | cs | cs | cs | cs | cs | cs | cs | cs | cs
  · obtain rfl := h1.out ((nmR_iff _).2 (by omega))
    clear h0 h1
    have za0 : decide ((97 : Int) ≤ (x : Int)) = true := decide_eq_true (by omega)
    have za1 : decide ((x : Int) ≤ 122) = true := decide_eq_true (by omega)
    have zb0 : decide ((65 : Int) ≤ (x : Int)) = true := decide_eq_true (by omega)
    have zb1 : decide ((x : Int) ≤ 90) = false := decide_eq_false (by omega)
    have zc0 : decide ((48 : Int) ≤ (x : Int)) = true := decide_eq_true (by omega)
    have zc1 : decide ((x : Int) ≤ 57) = false := decide_eq_false (by omega)
    have ze : ((x : Int) == 45) = false := by simp only [beq_eq_false_iff_ne, ne_eq]; omega
    have zf : ((x : Int) == 46) = false := by simp only [beq_eq_false_iff_ne, ne_eq]; omega
    clear cs
    go_enter Tryz.func79, Tryz.ntmps79
    go_wp2
    go_returns
    exact ⟨rfl, rfl⟩
  · obtain rfl := h1.out ((nmR_iff _).2 (by omega))
    clear h0 h1
    have za0 : decide ((97 : Int) ≤ (x : Int)) = false := decide_eq_false (by omega)
    have za1 : decide ((x : Int) ≤ 122) = true := decide_eq_true (by omega)
    have zb0 : decide ((65 : Int) ≤ (x : Int)) = true := decide_eq_true (by omega)
    have zb1 : decide ((x : Int) ≤ 90) = true := decide_eq_true (by omega)
    have zc0 : decide ((48 : Int) ≤ (x : Int)) = true := decide_eq_true (by omega)
    have zc1 : decide ((x : Int) ≤ 57) = false := decide_eq_false (by omega)
    have ze : ((x : Int) == 45) = false := by simp only [beq_eq_false_iff_ne, ne_eq]; omega
    have zf : ((x : Int) == 46) = false := by simp only [beq_eq_false_iff_ne, ne_eq]; omega
    clear cs
    go_enter Tryz.func79, Tryz.ntmps79
    go_wp2
    go_returns
    exact ⟨rfl, rfl⟩
  · obtain rfl := h1.out ((nmR_iff _).2 (by omega))
    clear h0 h1
    have za0 : decide ((97 : Int) ≤ (x : Int)) = false := decide_eq_false (by omega)
    have za1 : decide ((x : Int) ≤ 122) = true := decide_eq_true (by omega)
    have zb0 : decide ((65 : Int) ≤ (x : Int)) = false := decide_eq_false (by omega)
    have zb1 : decide ((x : Int) ≤ 90) = true := decide_eq_true (by omega)
    have zc0 : decide ((48 : Int) ≤ (x : Int)) = true := decide_eq_true (by omega)
    have zc1 : decide ((x : Int) ≤ 57) = true := decide_eq_true (by omega)
    have ze : ((x : Int) == 45) = false := by simp only [beq_eq_false_iff_ne, ne_eq]; omega
    have zf : ((x : Int) == 46) = false := by simp only [beq_eq_false_iff_ne, ne_eq]; omega
    clear cs
    go_enter Tryz.func79, Tryz.ntmps79
    go_wp2
    go_returns
    exact ⟨rfl, rfl⟩
  · obtain rfl := h1.out ((nmR_iff _).2 (by omega))
    clear h0 h1
    have za0 : decide ((97 : Int) ≤ (x : Int)) = false := decide_eq_false (by omega)
    have za1 : decide ((x : Int) ≤ 122) = true := decide_eq_true (by omega)
    have zb0 : decide ((65 : Int) ≤ (x : Int)) = false := decide_eq_false (by omega)
    have zb1 : decide ((x : Int) ≤ 90) = true := decide_eq_true (by omega)
    have zc0 : decide ((48 : Int) ≤ (x : Int)) = false := decide_eq_false (by omega)
    have zc1 : decide ((x : Int) ≤ 57) = true := decide_eq_true (by omega)
    have ze : ((x : Int) == 45) = true := by simp only [beq_iff_eq]; omega
    have zf : ((x : Int) == 46) = false := by simp only [beq_eq_false_iff_ne, ne_eq]; omega
    clear cs
    go_enter Tryz.func79, Tryz.ntmps79
    go_wp2
    go_returns
    exact ⟨rfl, rfl⟩
  · obtain rfl := h1.out ((nmR_iff _).2 (by omega))
    clear h0 h1
    have za0 : decide ((97 : Int) ≤ (x : Int)) = false := decide_eq_false (by omega)
    have za1 : decide ((x : Int) ≤ 122) = true := decide_eq_true (by omega)
    have zb0 : decide ((65 : Int) ≤ (x : Int)) = false := decide_eq_false (by omega)
    have zb1 : decide ((x : Int) ≤ 90) = true := decide_eq_true (by omega)
    have zc0 : decide ((48 : Int) ≤ (x : Int)) = false := decide_eq_false (by omega)
    have zc1 : decide ((x : Int) ≤ 57) = true := decide_eq_true (by omega)
    have ze : ((x : Int) == 45) = false := by simp only [beq_eq_false_iff_ne, ne_eq]; omega
    have zf : ((x : Int) == 46) = true := by simp only [beq_iff_eq]; omega
    clear cs
    go_enter Tryz.func79, Tryz.ntmps79
    go_wp2
    go_returns
    exact ⟨rfl, rfl⟩
  · obtain rfl := h0.out (by rw [Bool.eq_false_iff, ne_eq, nmR_iff]; omega)
    clear h0 h1
    have za0 : decide ((97 : Int) ≤ (x : Int)) = false := decide_eq_false (by omega)
    have za1 : decide ((x : Int) ≤ 122) = true := decide_eq_true (by omega)
    have zb0 : decide ((65 : Int) ≤ (x : Int)) = false := decide_eq_false (by omega)
    have zb1 : decide ((x : Int) ≤ 90) = true := decide_eq_true (by omega)
    have zc0 : decide ((48 : Int) ≤ (x : Int)) = false := decide_eq_false (by omega)
    have zc1 : decide ((x : Int) ≤ 57) = true := decide_eq_true (by omega)
    have ze : ((x : Int) == 45) = false := by simp only [beq_eq_false_iff_ne, ne_eq]; omega
    have zf : ((x : Int) == 46) = false := by simp only [beq_eq_false_iff_ne, ne_eq]; omega
    clear cs
    go_enter Tryz.func79, Tryz.ntmps79
    go_wp2
    go_returns
    exact ⟨rfl, rfl⟩
  · obtain rfl := h0.out (by rw [Bool.eq_false_iff, ne_eq, nmR_iff]; omega)
    clear h0 h1
    have za0 : decide ((97 : Int) ≤ (x : Int)) = false := decide_eq_false (by omega)
    have za1 : decide ((x : Int) ≤ 122) = true := decide_eq_true (by omega)
    have zb0 : decide ((65 : Int) ≤ (x : Int)) = false := decide_eq_false (by omega)
    have zb1 : decide ((x : Int) ≤ 90) = true := decide_eq_true (by omega)
    have zc0 : decide ((48 : Int) ≤ (x : Int)) = false := decide_eq_false (by omega)
    have zc1 : decide ((x : Int) ≤ 57) = true := decide_eq_true (by omega)
    have ze : ((x : Int) == 45) = false := by simp only [beq_eq_false_iff_ne, ne_eq]; omega
    have zf : ((x : Int) == 46) = false := by simp only [beq_eq_false_iff_ne, ne_eq]; omega
    clear cs
    go_enter Tryz.func79, Tryz.ntmps79
    go_wp2
    go_returns
    exact ⟨rfl, rfl⟩
  · obtain rfl := h0.out (by rw [Bool.eq_false_iff, ne_eq, nmR_iff]; omega)
    clear h0 h1
    have za0 : decide ((97 : Int) ≤ (x : Int)) = false := decide_eq_false (by omega)
    have za1 : decide ((x : Int) ≤ 122) = true := decide_eq_true (by omega)
    have zb0 : decide ((65 : Int) ≤ (x : Int)) = false := decide_eq_false (by omega)
    have zb1 : decide ((x : Int) ≤ 90) = true := decide_eq_true (by omega)
    have zc0 : decide ((48 : Int) ≤ (x : Int)) = true := decide_eq_true (by omega)
    have zc1 : decide ((x : Int) ≤ 57) = false := decide_eq_false (by omega)
    have ze : ((x : Int) == 45) = false := by simp only [beq_eq_false_iff_ne, ne_eq]; omega
    have zf : ((x : Int) == 46) = false := by simp only [beq_eq_false_iff_ne, ne_eq]; omega
    clear cs
    go_enter Tryz.func79, Tryz.ntmps79
    go_wp2
    go_returns
    exact ⟨rfl, rfl⟩
  · obtain rfl := h0.out (by rw [Bool.eq_false_iff, ne_eq, nmR_iff]; omega)
    clear h0 h1
    have za0 : decide ((97 : Int) ≤ (x : Int)) = false := decide_eq_false (by omega)
    have za1 : decide ((x : Int) ≤ 122) = true := decide_eq_true (by omega)
    have zb0 : decide ((65 : Int) ≤ (x : Int)) = true := decide_eq_true (by omega)
    have zb1 : decide ((x : Int) ≤ 90) = false := decide_eq_false (by omega)
    have zc0 : decide ((48 : Int) ≤ (x : Int)) = true := decide_eq_true (by omega)
    have zc1 : decide ((x : Int) ≤ 57) = false := decide_eq_false (by omega)
    have ze : ((x : Int) == 45) = false := by simp only [beq_eq_false_iff_ne, ne_eq]; omega
    have zf : ((x : Int) == 46) = false := by simp only [beq_eq_false_iff_ne, ne_eq]; omega
    clear cs
    go_enter Tryz.func79, Tryz.ntmps79
    go_wp2
    go_returns
    exact ⟨rfl, rfl⟩
  · obtain rfl := h0.out (by rw [Bool.eq_false_iff, ne_eq, nmR_iff]; omega)
    clear h0 h1
    have za0 : decide ((97 : Int) ≤ (x : Int)) = true := decide_eq_true (by omega)
    have za1 : decide ((x : Int) ≤ 122) = false := decide_eq_false (by omega)
    have zb0 : decide ((65 : Int) ≤ (x : Int)) = true := decide_eq_true (by omega)
    have zb1 : decide ((x : Int) ≤ 90) = false := decide_eq_false (by omega)
    have zc0 : decide ((48 : Int) ≤ (x : Int)) = true := decide_eq_true (by omega)
    have zc1 : decide ((x : Int) ≤ 57) = false := decide_eq_false (by omega)
    have ze : ((x : Int) == 45) = false := by simp only [beq_eq_false_iff_ne, ne_eq]; omega
    have zf : ((x : Int) == 46) = false := by simp only [beq_eq_false_iff_ne, ne_eq]; omega
    clear cs
    go_enter Tryz.func79, Tryz.ntmps79
    go_wp2
    go_returns
    exact ⟨rfl, rfl⟩
theorem named_any (x : Nat) (w : World) (hx : x ≤ 1114111) : Calls Tryz.prog 79 #[.int .i32 (x : Int)] w fun e w' => e = .returned (.bool (nmR x)) ∧ w' = w :=
  named_core x _ w hx (fun h => h) (fun h => h)
theorem strange_any (x : Nat) (w : World) (hx : x ≤ 1114111) : Calls Tryz.prog 60 #[.int .i32 (x : Int)] w fun e w' => e = .returned (.bool (stR x)) ∧ w' = w := by
  have HN := Lib.hid (fun W => named_any x W hx)
  unfold stR
  generalize nmR x = B at *
  go_enter Tryz.func60, Tryz.ntmps60
  go_wp2_with fail
  refine (HN.out _).mono ?_
  rintro e w1 ⟨rfl, gg⟩
  subst gg
  cases B <;> (go_wp2; go_returns; exact ⟨rfl, rfl⟩)
theorem strange_pred (w : World) : Go.Proofs.PredAtRunes Tryz.prog 60 #[] stR w := fun W x hx _ =>
  (strange_any x W hx).mono fun _ _ ⟨h, h2⟩ => ⟨h, 0, h2⟩

/-! ### a name has no strange rune -/
theorem idx_good (s : ByteArray) : ∀ f pos, (∀ i (h : i < s.size), pos ≤ i → nmC s[i] = true) → Lib.idxFuncFrom stR true s f pos = -1
  | 0, _, _ => rfl
  | f + 1, pos, h => by
    unfold Lib.idxFuncFrom
    by_cases hp : pos < s.size
    · have hn := h pos hp (Nat.le_refl _)
      have ha : (s[pos]'hp).toNat < 128 := by rw [nmC_iff] at hn; omega
      rw [if_pos hp, decode_ascii s pos hp ha]
      have hs : stR (s[pos]'hp).toNat = false := by unfold stR; rw [nmR_C, hn]; rfl
      simp only [hs, Bool.false_eq_true, if_false]
      exact idx_good s f (pos + 1) fun i hi hle => h i hi (by omega)
    · rw [if_neg hp]
theorem idx_bad (s : ByteArray) (k : Nat) (hk : k < s.size) (hb : nmC s[k] = false) : ∀ f pos, pos ≤ k → k < pos + f → (∀ i (h : i < s.size), pos ≤ i → i < k → nmC s[i] = true) → 0 ≤ Lib.idxFuncFrom stR true s f pos
  | 0, _, h1, h2, _ => by omega
  | f + 1, pos, h1, h2, h => by
    unfold Lib.idxFuncFrom
    have hp : pos < s.size := by omega
    rw [if_pos hp]
    by_cases e : pos = k
    · subst e
      have hs : stR (Utf8.decode s pos).1 = true := by
        by_cases ha : (s[pos]'hp).toNat < 128
        · rw [decode_ascii s pos hp ha]; show stR (s[pos]'hp).toNat = true
          unfold stR; rw [nmR_C, hb]; rfl
        · have := (decode_high s pos hp (by omega)).1
          unfold stR
          have hn : nmR (Utf8.decode s pos).1 = false := by rw [Bool.eq_false_iff, ne_eq, nmR_iff]; omega
          rw [hn]; rfl
      rw [if_pos hs]; omega
    · have hn := h pos hp (Nat.le_refl _) (by omega)
      have ha : (s[pos]'hp).toNat < 128 := by rw [nmC_iff] at hn; omega
      rw [decode_ascii s pos hp ha]
      have hs : stR (s[pos]'hp).toNat = false := by unfold stR; rw [nmR_C, hn]; rfl
      simp only [hs, Bool.false_eq_true, if_false]
      exact idx_bad s k hk hb f (pos + 1) (by omega) (by omega) fun i hi hle hlt => h i hi (by omega) hlt
theorem all_bytes {p : UInt8 → Bool} (s : ByteArray) : s.data.toList.all p = true ↔ ∀ i (h : i < s.size), p s[i] = true := by
  rw [List.all_eq_true]
  constructor
  · intro h i hi
    refine h _ ?_
    show s.data[i] ∈ s.data.toList
    exact List.getElem_mem (l := s.data.toList) (by simpa using hi)
  · intro h x hx
    obtain ⟨i, hi, rfl⟩ := List.getElem_of_mem hx
    exact h i (by simpa using hi)
theorem first_bad {p : UInt8 → Bool} (s : ByteArray) (h : ¬ ∀ i (h : i < s.size), p s[i] = true) : ∃ k, ∃ hk : k < s.size, p s[k] = false ∧ ∀ i (h : i < s.size), i < k → p s[i] = true := by
  have h' : ∃ k, ∃ hk : k < s.size, p s[k] = false := by
    simp only [Classical.not_forall] at h
    obtain ⟨k, hk, h⟩ := h
    exact ⟨k, hk, by simpa using h⟩
  obtain ⟨n, hn⟩ := h'
  induction n using Nat.strongRecOn with
  | ind n ih =>
    by_cases g : ∀ i (h : i < s.size), i < n → p s[i] = true
    · obtain ⟨hk, hb⟩ := hn
      exact ⟨n, hk, hb, g⟩
    · simp only [Classical.not_forall] at g
      obtain ⟨i, hi, hlt, hb⟩ := g
      exact ih i hlt ⟨hi, by simpa using hb⟩
theorem idx_names (s : ByteArray) : decide (0 ≤ Lib.idxFunc stR true s) = !s.data.toList.all nmC := by
  by_cases h : ∀ i (h : i < s.size), nmC s[i] = true
  · rw [(all_bytes s).2 h]
    unfold Lib.idxFunc
    rw [idx_good s s.size 0 fun i hi _ => h i hi]
    rfl
  · have hn : s.data.toList.all nmC = false := by rw [Bool.eq_false_iff, ne_eq, all_bytes]; exact h
    rw [hn]
    obtain ⟨k, hk, hb, hg⟩ := first_bad s h
    exact decide_eq_true (idx_bad s k hk hb s.size 0 (by omega) (by omega) fun i hi _ hlt => hg i hi hlt)
theorem strange_calls : ∀ args w, (callFunc 60 args).run Tryz.prog w = .ok (.enter 60 args) w := enters_of Tryz.func60 (by kernel_rfl) rfl
theorem allow_any (s : ByteArray) (w : World) : Calls Tryz.prog 59 #[.string s, .func (.func 60) #[] #[]] w fun e w' => e = .returned (.bool (!s.data.toList.all nmC)) ∧ Below w.heap.size w w' := by
  have := Tryz.strings_ContainsFunc_runes 60 #[] strange_calls stR s w (strange_pred w)
  rwa [idx_names] at this
end Go.Proofs.YtpnlfeljmpfeoaaGreatDoor

/- What is kept by blocks that are laid, and by stores elsewhere. -/
namespace Go.Proofs.YtpnlfeljmpfeoaaGreatDoor
open Go.RowKit

theorem Two.set0 {b : Nat} {W : World} {x y : Value} (h : Two b W x y) (z : Value) : Two b (W.setCell ⟨b, 0, none⟩ z) z y := by
  obtain ⟨h0, h1, h2, h3, h4⟩ := h
  refine ⟨?_, ?_, ?_, ?_, ?_⟩
  · exact World.cell?_setCell_same _ _ _ h0
  · rw [World.cell?_setCell_other _ _ _ _ (by simp)]; exact h1
  · rw [World.frozen?_setCell]; exact h2
  · rw [World.frozen?_setCell]; exact h3
  · simpa [World.setCell] using h4

/-- both ends of the search -/
def BI (n lo hi : Int) : Prop := 0 ≤ n ∧ -1 ≤ lo ∧ lo < hi ∧ 1 ≤ hi ∧ hi ≤ 1073741824 ∧ (lo = -1 ∨ lo * lo < n) ∧ n < hi * hi
theorem bA {w Y : World} (h : Below w.heap.size w Y) (o : Obj) : Below w.heap.size w (Y.alloc o) := h.alloc h.size o
theorem bS {w Y : World} (g i : Nat) (v : Value) (h : Below w.heap.size w Y) (hg : w.heap.size ≤ g) : Below w.heap.size w (Y.setCell ⟨g, i, none⟩ v) := h.setCell (p := ⟨g, i, none⟩) hg v
theorem Two.newAt {P : Nat} (W : World) (x y : Value) (T : TypeId) (h : P = W.heap.size) : Two P (W.alloc (.cells #[x, y] T)) x y := by subst h; exact Two.new W x y T
theorem Two.both {b : Nat} {W : World} {x y : Value} (u v : Value) (h : Two b W x y) : Two b ((W.setCell ⟨b, 0, none⟩ u).setCell ⟨b, 1, none⟩ v) u v := (h.set0 u).set1 v
theorem Two.apart {b : Nat} {W : World} {x y : Value} (g i : Nat) (v : Value) (h : Two b W x y) (hp : g ≠ b) : Two b (W.setCell ⟨g, i, none⟩ v) x y := h.other ⟨g, i, none⟩ hp v
theorem cell_al {W : World} {a : Addr} {v : Value} (o : Obj) (h : W.cell? a = some v) : (W.alloc o).cell? a = some v := by rw [World.cell?_alloc_lt W o _ (World.block_lt_of_cell? W _ h)]; exact h
theorem two_kept {b : Nat} {A B : World} {x y : Value} {row : Option Nat} (h : Two b A x y) (hg : A.grownBy B row) (hr : ∀ r, row = some r → ∃ o : Obj, A.heap[r]? = some o ∧ o.isCells = false) : Two b B x y := by
  obtain ⟨h0, h1, h2, h3, h4⟩ := h
  exact ⟨cell_kept h0 hg hr, cell_kept h1 hg hr, (frozen_kept h0 hg hr).trans h2, (frozen_kept h1 hg hr).trans h3, Nat.lt_of_lt_of_le h4 hg.size⟩

theorem keeps_set2 {W X : World} (B : Nat) (p q : Addr) (u v : Value) (h : Below W.heap.size W X) : KeepsFrom B W ((X.setCell p u).setCell q v) := by
  have h0 : KeepsOthers W X := ⟨h.size, fun k o hk _ => by
    have hlt : k < W.heap.size := (Array.getElem?_eq_some_iff.1 hk).1
    rw [h.block k hlt]; exact hk⟩
  exact ((h0.trans (KeepsOthers.setCell _ _ _)).trans (KeepsOthers.setCell _ _ _)).from B
theorem cell_apart {W : World} {b i g j : Nat} {v : Value} (u : Value) (h : W.cell? ⟨b, i, none⟩ = some v) (hn : b ≠ g) : (W.setCell ⟨g, j, none⟩ u).cell? ⟨b, i, none⟩ = some v := by
  rw [World.cell?_setCell_other _ _ _ _ (fun e => by injection e; omega)]; exact h

end Go.Proofs.YtpnlfeljmpfeoaaGreatDoor

/- A region that draws its order, where every frame may be entered: all operations but the last few read; then the rest, in the order of the text. -/
namespace Go.Proofs.YtpnlfeljmpfeoaaGreatDoor
section
variable {F : Fence} {n : Nat} {P : Program} {ops : Array Oper} {md : Region.Mode} {w : World}

/-- everything may be entered -/
structure Free (F : Fence) (P : Program) : Prop where
  fn : ∀ f, F.fn f
  depth : F.depth = none
  call : ∀ {m : Nat} {f : FuncId} {args : Array Value} {w : World} {R : Ending → World → Prop}, Calls P f args w R → CallsIn F m P f args w R
theorem free_wide (P : Program) : Free Fence.wide P := ⟨fun _ => trivial, rfl, fun h => callsIn_wide.2 h⟩
theorem free_round (P : Program) (l : Nat) : Free (Fence.wide.inRound l) P := ⟨fun _ => trivial, rfl, fun h => CallsIn.inRound l (callsIn_wide.2 h)⟩

theorem wpIn_of_still (hF : Free F P) {o : Oper} {a : Act} {K : Act → Prop} {K' : Act → World → Prop} {Q' : Exit → Act → World → Prop} (hs : ∀ ρ, Oper.semAt F.round ρ o = execOp ρ o) (h : ∀ a, K a → K' a w) (hh : o.still P a w K) : o.wpIn F n P a w K' Q' := by
  refine ⟨fun f _ => hF.fn f, ?_⟩
  rw [hs]
  unfold Oper.still at hh
  generalize (execOp a.eval o).run P w = r at *
  cases r with
  | ok x w' =>
    cases x <;> simp only [Oper.stillUpon] at hh <;> simp only [Oper.uponIn]
    case enter f args =>
      obtain ⟨rfl, v, hc, hn⟩ := hh
      refine ⟨(fun h0 => by rw [hF.depth] at h0; cases h0), hF.call (hc.mono fun e w'' he => ?_)⟩
      obtain ⟨rfl, rfl⟩ := he
      exact h _ hn
    all_goals (obtain ⟨rfl, h2⟩ := hh; exact h _ h2)
  | halt x w' => simp only [Oper.stillUpon] at hh

theorem wpOpIn_of_stOp (hF : Free F P) {i : Nat} {a : Act} {K : Act → Prop} {K' : Act → World → Prop} {Q' : Exit → Act → World → Prop} (hs : ∀ o ∈ ops, ∀ ρ, Oper.semAt F.round ρ o = execOp ρ o) (h : ∀ a, K a → K' a w) (hh : stOp P ops w i K a) : wpOpIn F n P ops Q' i K' a w := by
  unfold stOp at hh
  unfold wpOpIn
  cases ho : ops[i]? with
  | none => simp only [ho] at hh; exact h _ hh
  | some o =>
    simp only [ho] at hh
    by_cases hw : Region.wanted o (yielded ops a.tmps) = true
    · simp only [hw, if_true] at hh ⊢
      exact wpIn_of_still hF (hs o (Array.mem_of_getElem? ho)) h hh
    · simp only [hw] at hh ⊢
      exact ⟨fun f _ => hF.fn f, h _ hh⟩

theorem wpAnyIn_of_head (hF : Free F P) {k g : Nat} {L : Array Bool → Act → Prop} {Q' : Exit → Act → World → Prop} (hs : ∀ o ∈ ops, ∀ ρ, Oper.semAt F.round ρ o = execOp ρ o) (hL : ∀ listed a, L listed a → wpAnyIn F n P md ops Q' g listed a w) :
    ∀ (f : Nat) (listed : Array Bool) (a : Act), wpAnyL P md ops w k L f listed a → wpAnyIn F n P md ops Q' (f + g) listed a w
  | 0, listed, a, h => by rw [Nat.zero_add]; exact hL _ _ h
  | f + 1, listed, a, h => by
    have e : f + 1 + g = (f + g) + 1 := by omega
    rw [e]
    exact ⟨fun h0 => absurd h0 h.1, fun i hi => wpOpIn_of_stOp hF hs (fun a' h' => wpAnyIn_of_head hF hs hL f _ a' h') (h.2 i hi).2⟩

theorem wpAnyIn_of_seq {Q' : Exit → Act → World → Prop} (l : List Oper) : ∀ (k : Nat) (listed : Array Bool) (a : Act) (w : World), (∀ j, l[j]? = ops[k + j]?) →
    Region.seqB md ops l.length k listed = true → wpListIn F n P ops Q' l a w → wpAnyIn F n P md ops Q' l.length listed a w := by
  induction l with
  | nil => intro k listed a w _ hB h; exact ⟨by simpa [Region.seqB] using hB, h⟩
  | cons o l ih =>
    intro k listed a w hl hB h
    have h0 : ops[k]? = some o := by simpa using (hl 0).symm
    simp only [List.length_cons, Region.seqB, Bool.and_eq_true, decide_eq_true_eq] at hB
    refine ⟨(fun h1 => by rw [hB.1] at h1; cases h1), fun i hi => ?_⟩
    rw [hB.1] at hi
    obtain rfl : i = k := by simpa using hi
    have hw : wpOpIn F n P ops Q' i (wpListIn F n P ops Q' l) a w := by unfold wpOpIn; simp only [h0]; exact h
    exact wpOpIn_mono (fun a' w' h' => ih (i + 1) _ a' w' (fun j => by have := hl (j + 1); rw [List.getElem?_cons_succ] at this; rw [this]; congr 1; omega) hB.2 h') hw

theorem wpIn_region_tail (hF : Free F P) {id : Nat} {Q : Exit → Act → World → Prop} {a : Act} {l : List Oper} (k : Nat) (hm : P.follows .mixedOrders = true) (hB : Region.lexTailB .any l.toArray k = true) (hs : ∀ o ∈ l.toArray, ∀ ρ, Oper.semAt F.round ρ o = execOp ρ o)
    (h : wpStill P l.toArray w.drew (fun a' => wpListIn F n P l.toArray Q (l.drop k) a' w.drew) (l.take k) a) : (Code.region id l.toArray true).wpIn F n P Q a w := by
  simp only [Region.lexTailB, Bool.and_eq_true, decide_eq_true_eq] at hB
  obtain ⟨⟨⟨⟨hsel, hn⟩, hsk⟩, hc⟩, hlex⟩ := hB
  have hn' : k < l.length := by simpa using hn
  have htl : (l.take k).length = k := by simp; omega
  have hdl : (l.drop k).length = l.toArray.size - k := by simp
  have inv0 : HeadInv .any l.toArray k (Array.replicate l.toArray.size false) :=
    ⟨by simp, fun j oj _ hl => (by rw [getD_replicate_false] at hl; cases hl), fun t _ ht => getD_in (by simpa using ht) (getD_replicate_false _ _)⟩
  have H := wpAnyL_lex (md := .any) (g := l.toArray.size - k) (w := w.drew) hsel hsk hc hn (l.take k) 0 _ a (fun j hj => by
    have hj' : j < k := by rw [htl] at hj; exact hj
    simp [hj']) (by simpa using htl) inv0 (by rw [htl]; exact hlex) h
  refine wpIn_region_any hm ?_
  have G := wpAnyIn_of_head (n := n) (Q' := Q) (g := l.toArray.size - k) hF hs (fun listed a' hL => by
    have := wpAnyIn_of_seq (F := F) (n := n) (P := P) (md := .any) (Q' := Q) (l.drop k) k listed a' w.drew (fun j => by simp [List.getElem?_drop]) (by rw [hdl]; exact hL.1) hL.2
    rwa [hdl] at this) _ _ _ H
  rw [htl, show k + (l.toArray.size - k) = l.toArray.size by omega] at G
  exact G
end
/-- no operation that is laid aside for later -/
def plainOps (l : List Oper) : Bool := l.all fun o => match o.op with | .defer _ => false | _ => true
theorem sem_all {ro : Option Nat} {l : List Oper} (h : plainOps l = true) : ∀ o ∈ l.toArray, ∀ ρ, Oper.semAt ro ρ o = execOp ρ o := fun o ho ρ => by
  have := List.all_eq_true.1 h o (by simpa using ho)
  exact Oper.semAt_eq ro ρ o (fun c e => by rw [e] at this; cases this)
end Go.Proofs.YtpnlfeljmpfeoaaGreatDoor

/- The first numbers below a bound: what an iterator has yielded when some rounds are over. -/
namespace Go.Proofs.YtpnlfeljmpfeoaaGreatDoor
def ups (m k : Nat) : List (Fin m) := (List.range k).filterMap fun j => if h : j < m then some ⟨j, h⟩ else none
theorem ups_succ {m k : Nat} (h : k < m) : ups m (k + 1) = ups m k ++ [⟨k, h⟩] := by simp [ups, List.range_succ, h]
theorem ups_val {m k : Nat} (h : k ≤ m) : (ups m k).map (fun j => j.val) = List.range k := by
  induction k with
  | zero => simp [ups]
  | succ k ih => rw [ups_succ (by omega), List.map_append, ih (by omega), List.range_succ]; rfl
theorem ups_len {m k : Nat} (h : k ≤ m) : (ups m k).length = k := by
  have := congrArg List.length (ups_val h)
  simpa using this
theorem ups_zero (m : Nat) : ups m 0 = [] := rfl
end Go.Proofs.YtpnlfeljmpfeoaaGreatDoor

/- Package profile: pieces are yielded. -/
namespace Go.Proofs.YtpnlfeljmpfeoaaGreatDoor
open Go.RowKit Go.Shelf
attribute [local go_sem] Oper.semAt_some

/-- the index of a piece's second point, and the piece -/
def encP (l : List (Int × Int)) {m : Nat} (j : Fin m) : Array Value := #[.int .i64 ((j.val : Int) + 1), .agg #[.int .i64 (gX l j.val), .int .i64 (gR l j.val), .int .i64 (gX l (j.val + 1)), .int .i64 (gR l (j.val + 1))]]

/-- what a round keeps: what lay below n₀, and a box -/
def KpB (Bs n₀ : Nat) (W W' : World) : Prop := Below n₀ W W' ∧ ∀ v, W.cell? ⟨Bs, 0, none⟩ = some v → W'.cell? ⟨Bs, 0, none⟩ = some v
theorem kpB_refl (Bs n₀ : Nat) (W : World) : KpB Bs n₀ W W := ⟨Below.refl _ _, fun _ h => h⟩
theorem kpB_t {Bs n₀ : Nat} {A B C : World} (h : KpB Bs n₀ A B) (k : KpB Bs n₀ B C) : KpB Bs n₀ A C := ⟨h.1.trans k.1, fun v e => k.2 v (h.2 v e)⟩
theorem kpB_b {Bs n₀ : Nat} {w : World} (hn : n₀ ≤ w.heap.size) (W : World) (l : Nat) (o o' : Obj) (hl : w.heap.size ≤ l) (h : W.heap[l]? = some o) (h1 : o.isCells = false) (h2 : o.isWalk = false) : KpB Bs n₀ W (W.putObj l o') :=
  ⟨belowK_b hn W l o o' hl h h1 h2, fun _ e => cell_kept e (grownBy_putObj' W l o') (fun r e => by cases e; exact ⟨o, h, h1⟩)⟩
theorem kpB_drew (Bs n₀ : Nat) (W : World) : KpB Bs n₀ W W.drew := ⟨⟨rfl, rfl, rfl, Nat.le_refl _, fun _ _ => rfl⟩, fun _ h => h⟩

set_option maxRecDepth 100000 in
set_option maxHeartbeats 4000000 in
theorem pieces1_in (n : Nat) (l Bs n₀ b off len cap : Nat) (zs : List (Int × Int)) (hl : 1 ≤ len) (hl2 : len ≤ 1000) (hb : b < n₀) (J Jx : List (Fin (len - 1)) → World → Prop) (B0 : Nat) (hJ : AbidesFrom B0 J)
    (hY : ∀ pre x W, J pre W → pre.length < len - 1 → YieldAt Fence.wide (n - 1) Tryz.prog l (encP zs x) W fun e W' =>
      (e = .returned (.bool true) ∧ J (pre ++ [x]) W' ∧ KpB Bs n₀ W W') ∨ (e = .returned (.bool false) ∧ Jx (pre ++ [x]) W'))
    (W : World) (hBs : W.cell? ⟨Bs, 0, none⟩ = some (.slice (some ⟨b, off, none⟩) len cap)) (hc : ∀ j, j < len → W.cell? ⟨b, off + j * 2, none⟩ = some (.int .i64 (gX zs j)) ∧ W.cell? ⟨b, off + j * 2 + 1, none⟩ = some (.int .i64 (gR zs j))) (h0 : J [] W) :
    CallsIn Fence.wide n Tryz.prog 91 #[.func (.yield l) #[] #[], .pointer (some ⟨Bs, 0, none⟩)] W fun e W' => (∃ v, e = .returned v) ∧
      ((∃ ys, ys = ups (len - 1) (len - 1) ∧ J ys W') ∨ (∃ pre, (∃ k, k ≤ len - 1 ∧ pre = ups (len - 1) k) ∧ Jx pre W')) := by
  refine callsIn_of_wp Tryz.func91 rfl trivial ?_ rfl
  simp only [Tryz.ntmps91, List.size_toArray, List.length_cons, List.length_nil, Nat.reduceAdd, Nat.reduceSub, Array.replicate_succ, Array.replicate_zero, List.push_toArray, List.append_toArray, List.nil_append, List.cons_append]
  gi_wp2
  gi_loopw [3] (fun i wr => ∃ k : Nat, k + 1 ≤ len ∧ i = .int .i64 ((k : Int) + 1) ∧ J (ups (len - 1) k) wr ∧ KpB Bs n₀ W wr)
    (fun i _ => len - (intOf i).toNat)
  case atStart => exact ⟨0, hl, rfl, h0, kpB_refl _ _ _⟩
  case round =>
    obtain ⟨k, hk, rfl, hJs, hnx⟩ := hrel
    have hBx : wr.cell? ⟨Bs, 0, none⟩ = some (.slice (some ⟨b, off, none⟩) len cap) := hnx.2 _ hBs
    by_cases hlt : k + 1 < len
    · have c0 := hc k (by omega)
      have c1 := hc (k + 1) hlt
      have d0 : wr.cell? ⟨b, off + k * 2, none⟩ = some (.int .i64 (gX zs k)) := (hnx.1.cell (p := ⟨b, off + k * 2, none⟩) hb).trans c0.1
      have d1 : wr.cell? ⟨b, off + k * 2 + 1, none⟩ = some (.int .i64 (gR zs k)) := (hnx.1.cell (p := ⟨b, off + k * 2 + 1, none⟩) hb).trans c0.2
      have d2 : wr.cell? ⟨b, off + (k + 1) * 2, none⟩ = some (.int .i64 (gX zs (k + 1))) := (hnx.1.cell (p := ⟨b, off + (k + 1) * 2, none⟩) hb).trans c1.1
      have d3 : wr.cell? ⟨b, off + (k + 1) * 2 + 1, none⟩ = some (.int .i64 (gR zs (k + 1))) := (hnx.1.cell (p := ⟨b, off + (k + 1) * 2 + 1, none⟩) hb).trans c1.2
      clear c0 c1
      obtain ⟨fn, tmps, assign, body, hy, hR⟩ := hY _ ⟨k, by omega⟩ wr.drew (hJ _ _ _ none hJs ⟨rfl, rfl, rfl, Nat.le_refl _, fun _ _ _ => rfl⟩ (fun r e => by cases e)) (by rw [ups_len (by omega)]; omega)
      rw [← ups_succ (by omega)] at hR
      dsimp only [encP] at hy
      have hmx : Tryz.prog.follows .mixedOrders = true := by kernel_rfl
      have HR2 : Hid (RoundIn Fence.wide (n - 1) Tryz.prog l fn tmps assign body wr.drew fun e W' => ∃ bb : Bool, e = .returned (.bool bb) ∧ Hid ((bb = true ∧ J (ups (len - 1) (k + 1)) W' ∧ KpB Bs n₀ wr.drew W') ∨ (bb = false ∧ Jx (ups (len - 1) (k + 1)) W'))) := by
        refine hR.mono ?_
        rintro e W3 (⟨rfl, h⟩ | ⟨rfl, h⟩)
        · exact ⟨true, rfl, .inl ⟨rfl, h⟩⟩
        · exact ⟨false, rfl, .inr ⟨rfl, h⟩⟩
      clear hR
      generalize gX zs k = x at *
      generalize gR zs k = p at *
      generalize gX zs (k + 1) = y at *
      generalize gR zs (k + 1) = q at *
      have wj : IntKind.i64.wrap ((k : Int) + 1 - 1) = (k : Int) := by simp only [IntKind.wrap_i64]; omega
      have wk : IntKind.i64.wrap (k : Int) = (k : Int) := by simp only [IntKind.wrap_i64]; omega
      have l0 : (k : Int) < (len : Int) := by omega
      have l1 : (k : Int) + 1 < (len : Int) := by omega
      have l2 : k < len := by omega
      have l3 : 0 ≤ (k : Int) + 1 := by omega
      have l4 : ((k : Int) + 1).toNat = k + 1 := by omega
      gi_wp2
      refine wpIn_region_tail (free_wide _) 12 hmx (by kernel_rfl) (fun _ _ _ => rfl) ?_
      simp only [List.take_succ_cons, List.take_zero, List.drop_succ_cons, List.drop_zero]
      repeat still_step
      refine wpStill_nil ?_
      gi_wp2
      refine ⟨(fun h => by cases h), HR2.out.mono ?_⟩
      rintro e W3 ⟨bb, rfl, h3⟩
      rcases h3.out with ⟨rfl, hJ3, hk3⟩ | ⟨rfl, hJx3⟩
      · gi_wp2
        go_roundw
        case rel => exact ⟨k + 1, by omega, by go_num, hJ3, kpB_t hnx (kpB_t (kpB_drew _ _ wr) hk3)⟩
        case measure => simp [intOf]; omega
      · gi_wp2
        refine bodyPost_ret (results_none rfl _ _ _) rfl ?_
        exact ⟨⟨_, rfl⟩, .inr ⟨_, ⟨k + 1, by omega, rfl⟩, hJx3⟩⟩
    · obtain rfl : len = k + 1 := by omega
      gi_wp2
      go_end0
      exact ⟨⟨_, rfl⟩, .inl ⟨_, rfl, hJs⟩⟩

theorem pieces_any (a : Option Addr) (len cap : Nat) (w : World) :
    Calls Tryz.prog 82 #[.slice a len cap] w fun e w' => e = .returned (.func (.func 91) #[] #[.pointer (some ⟨w.heap.size, 0, none⟩)]) ∧ w' = w.alloc (.cells #[.slice a len cap] 25) := by
  have hmf : ∀ (fn : Fn) (first cap : Array Value) (w : World), (Instr.makeFunc fn first cap).run Tryz.prog w = .ok (.func fn first cap) w := fun _ _ _ _ => rfl
  go_enter Tryz.func82, Tryz.ntmps82
  go_wp2
  go_ret
  exact ⟨rfl, rfl⟩

/-- what pieces returns yields all pieces, or the first ones -/
theorem pieces_stops (n Bs n₀ b off len cap : Nat) (zs : List (Int × Int)) (hl : 1 ≤ len) (hl2 : len ≤ 1000) (hb : b < n₀) (w : World) (hn : n₀ ≤ w.heap.size)
    (hBs : w.cell? ⟨Bs, 0, none⟩ = some (.slice (some ⟨b, off, none⟩) len cap)) (hc : ∀ j, j < len → w.cell? ⟨b, off + j * 2, none⟩ = some (.int .i64 (gX zs j)) ∧ w.cell? ⟨b, off + j * 2 + 1, none⟩ = some (.int .i64 (gR zs j))) :
    SeqStopsK Fence.wide n Tryz.prog 91 #[.pointer (some ⟨Bs, 0, none⟩)] (fun x : Fin (len - 1) => encP zs x) (KpB Bs n₀) (fun ys => ys = ups (len - 1) (len - 1))
      (fun pre => ∃ k, k ≤ len - 1 ∧ pre = ups (len - 1) k) (len - 1) w := fun l J Jx W hW hJ _ hY h0 =>
  pieces1_in n l Bs n₀ b off len cap zs hl hl2 hb J Jx W.heap.size hJ hY W ((hW.cell (p := ⟨Bs, 0, none⟩) (World.block_lt_of_cell? w _ hBs)).trans hBs) (fun j hj => ⟨(hW.cell (p := ⟨b, off + j * 2, none⟩) (by show b < _; omega)).trans (hc j hj).1, (hW.cell (p := ⟨b, off + j * 2 + 1, none⟩) (by show b < _; omega)).trans (hc j hj).2⟩) h0
end Go.Proofs.YtpnlfeljmpfeoaaGreatDoor

/- Package profile: advances. -/
namespace Go.Proofs.YtpnlfeljmpfeoaaGreatDoor
open Go.RowKit Go.Shelf
attribute [local go_sem] Oper.semAt_some

/-- a block with four cells -/
def Four (b : Nat) (W : World) (x p y q : Value) : Prop := W.cell? ⟨b, 0, none⟩ = some x ∧ W.cell? ⟨b, 1, none⟩ = some p ∧ W.cell? ⟨b, 2, none⟩ = some y ∧ W.cell? ⟨b, 3, none⟩ = some q
theorem Four.new (W : World) (x p y q : Value) (T : TypeId) : Four W.heap.size (W.alloc (.cells #[x, p, y, q] T)) x p y q := ⟨by simp [go_sem], by simp [go_sem], by simp [go_sem], by simp [go_sem]⟩
theorem four_kept {b : Nat} {A B : World} {x p y q : Value} {row : Option Nat} (h : Four b A x p y q) (hg : A.grownBy B row) (hr : ∀ r, row = some r → ∃ o : Obj, A.heap[r]? = some o ∧ o.isCells = false) : Four b B x p y q := by
  obtain ⟨h0, h1, h2, h3⟩ := h
  exact ⟨cell_kept h0 hg hr, cell_kept h1 hg hr, cell_kept h2 hg hr, cell_kept h3 hg hr⟩

set_option maxRecDepth 100000 in
set_option maxHeartbeats 8000000 in
theorem advances_some (b off n cap : Nat) (l : List (Int × Int)) (A : Bool) (w : World) (n0 : 1 ≤ n) (n1 : n ≤ 1000) (hb : b < w.heap.size)
    (hc : Hid (∀ j, j < n → w.cell? ⟨b, off + j * 2, none⟩ = some (.int .i64 (gX l j)) ∧ w.cell? ⟨b, off + j * 2 + 1, none⟩ = some (.int .i64 (gR l j))))
    (h1 : Hid ((∀ j, j + 1 < n → gX l j < gX l (j + 1)) → A = (gX l 0 == 0))) (h2 : Hid ((∃ j, j + 1 < n ∧ ¬ gX l j < gX l (j + 1)) → A = false)) :
    Calls Tryz.prog 63 #[.slice (some ⟨b, off, none⟩) n cap] w fun e w' => e = .returned (.bool A) ∧ Below w.heap.size w w' := by
  refine (callsIn_wide (n := 10)).1 ?_
  refine callsIn_of_wp_marks Tryz.func63 rfl trivial ?_ rfl
  simp only [Tryz.ntmps63, List.size_toArray, List.length_cons, List.length_nil, Nat.reduceAdd, Nat.reduceSub, Array.replicate_succ, Array.replicate_zero, List.push_toArray, List.append_toArray, List.nil_append, List.cons_append]
  gi_wp2_with fail
  refine ⟨trivial, (callsIn_wide.2 (pieces_any _ _ _ _)).mono ?_⟩
  rintro e w3 ⟨rfl, rfl⟩
  gi_wp2_with fail
  have BO : Hid (Boxed (w.alloc (.cells #[.bool false] 4)) w.heap.size 4 (.bool false)) := Boxed.new w 4 (.bool false)
  have BX : Hid (Boxed ((w.alloc (.cells #[.bool false] 4)).alloc (.cells #[.slice (some ⟨b, off, none⟩) n cap] 25)) (w.heap.size + 1) 25 (.slice (some ⟨b, off, none⟩) n cap)) := by
    have := Boxed.new (w.alloc (.cells #[.bool false] 4)) 25 (.slice (some ⟨b, off, none⟩) n cap)
    rwa [World.size_alloc] at this
  replace BO := Lib.hid (BO.out.alloc (.cells #[.slice (some ⟨b, off, none⟩) n cap] 25))
  have X1 : Hid (Below w.heap.size w ((w.alloc (.cells #[.bool false] 4)).alloc (.cells #[.slice (some ⟨b, off, none⟩) n cap] 25))) := bel_alloc (bel_alloc (Below.refl _ _))
  obtain ⟨W0, hW0⟩ : ∃ W0, ((w.alloc (.cells #[.bool false] 4)).alloc (.cells #[.slice (some ⟨b, off, none⟩) n cap] 25)) = W0 := ⟨_, rfl⟩
  have hsz : W0.heap.size = w.heap.size + 1 + 1 := by rw [← hW0]; simp
  rw [hW0] at BO BX X1 ⊢
  clear hW0
  have hl1 : ∀ j, j < n → W0.cell? ⟨b, off + j * 2, none⟩ = some (.int .i64 (gX l j)) ∧ W0.cell? ⟨b, off + j * 2 + 1, none⟩ = some (.int .i64 (gR l j)) := fun j hj => by rw [(bcell X1.out).1 _ _ hb, (bcell X1.out).1 _ _ hb]; exact hc.out j hj
  refine wpIn_rangeFunc_ownH rfl (by omega) (gf := 91) (lb := #[.pointer (some ⟨w.heap.size + 1, 0, none⟩)]) rfl trivial (enters_of Tryz.func91 (by kernel_rfl) rfl)
    (pieces_stops 9 (w.heap.size + 1) w.heap.size b off n cap l (by omega) (by omega) hb W0 X1.out.size BX.out.cell hl1) kpB_t (kpB_b X1.out.size) (Below.refl _ _) (fun _ => rfl)
    (fun pre W => (∀ j ∈ pre, gX l j.val < gX l (j.val + 1)) ∧ Boxed W w.heap.size 4 (.bool false) ∧ Boxed W (w.heap.size + 1) 25 (.slice (some ⟨b, off, none⟩) n cap) ∧ Below w.heap.size w W)
    (fun c pre W => c = .ret ∧ (∃ j ∈ pre, ¬ gX l j.val < gX l (j.val + 1)) ∧ W.cell? ⟨w.heap.size, 0, none⟩ = some (.bool false) ∧ Below w.heap.size w W)
    (fun s A B row ⟨i1, i2, i3, i4⟩ hg hr => ⟨i1, i2.kept hg (fun e => by obtain ⟨o, h3, h4⟩ := (hr _ e.symm).2; rw [show A.heap[w.heap.size]? = _ from i2] at h3; cases h3; cases h4), i3.kept hg (fun e => by obtain ⟨o, h3, h4⟩ := (hr _ e.symm).2; rw [show A.heap[w.heap.size + 1]? = _ from i3] at h3; cases h3; cases h4), ownFrom_below (β := Unit) (Nat.le_refl _) X1.out.size () A B row i4 hg hr⟩)
    (fun c s A B row ⟨i1, i2, i3, i4⟩ hg hr => ⟨i1, i2, cell_kept i3 hg (fun r e => (hr r e).2), ownFrom_below (β := Unit) (Nat.le_refl _) X1.out.size () A B row i4 hg hr⟩)
    ⟨(fun j hj => by cases hj), BO.out, BX.out, X1.out⟩
    (fun x a' W => ∃ Bx : Nat, w.heap.size + 1 < Bx ∧ Four Bx W (.int .i64 (gX l x.val)) (.int .i64 (gR l x.val)) (.int .i64 (gX l (x.val + 1))) (.int .i64 (gR l (x.val + 1))) ∧ a' = { tmps := #[.slice (some ⟨b, off, none⟩) n cap, undef, .pointer (some ⟨w.heap.size, 0, none⟩), undef, .pointer (some ⟨Bx, 0, none⟩), .slice (some ⟨b, off, none⟩) n cap, .func (.func 91) #[] #[.pointer (some ⟨w.heap.size + 1, 0, none⟩)], .int .i64 ((x.val : Int) + 1), .agg #[.int .i64 (gX l x.val), .int .i64 (gR l x.val), .int .i64 (gX l (x.val + 1)), .int .i64 (gR l (x.val + 1))], undef, undef, undef, undef, undef, undef, undef, undef, undef, undef, undef, undef], defers := [] })
    (fun x a' _ A B row ⟨Bx, h1, h2, h3⟩ hg hr => ⟨Bx, h1, four_kept h2 hg (fun r e => (hr r e).2), h3⟩) ?assign ?body ?done ?stop
  case assign =>
    rintro lp pre x W K ⟨i1, i2, i3, i4⟩ hK
    dsimp only [encP]
    generalize gX l x.val = u at *
    generalize gR l x.val = p at *
    generalize gX l (x.val + 1) = v at *
    generalize gR l (x.val + 1) = q at *
    gi_wp2
    exact hK _ _ ((KeepsOthers.alloc _ _).from _) ⟨(Below.refl _ W).alloc i4.size _, fun v e => (cell_al _ e)⟩ ⟨i1, i2.alloc _, i3.alloc _, bA i4 _⟩ ⟨W.heap.size, i3.lt, Four.new _ _ _ _ _ _, rfl⟩
  case body =>
    rintro lp pre x aa W hlp ⟨rr, hrr⟩ ⟨i1, i2, i3, i4⟩ ⟨Bx, hBx, iX, rfl⟩ hlen
    have hxl := x.isLt
    by_cases hq : gX l x.val < gX l (x.val + 1)
    · have e1 : ∀ j ∈ pre ++ [x], gX l j.val < gX l (j.val + 1) := fun j hj => by
        rcases List.mem_append.1 hj with h | h
        · exact i1 j h
        · rw [List.mem_singleton.1 h]; exact hq
      generalize gX l x.val = u at *
      generalize gR l x.val = p at *
      generalize gX l (x.val + 1) = v at *
      generalize gR l (x.val + 1) = q at *
      obtain ⟨f0, f1, f2, f3⟩ := iX
      gi_wp2
      exact ⟨(KeepsOthers.refl _).from _, kpB_refl _ _ _, e1, i2, i3, i4⟩
    · have e1 : ∃ j ∈ pre ++ [x], ¬ gX l j.val < gX l (j.val + 1) := ⟨x, by simp, hq⟩
      generalize gX l x.val = u at *
      generalize gR l x.val = p at *
      generalize gX l (x.val + 1) = v at *
      generalize gR l (x.val + 1) = q at *
      obtain ⟨f0, f1, f2, f3⟩ := iX
      have hc2 := i2.cell
      have hf2 := i2.frozen
      gi_wp2
      exact ⟨(KeepsOthers.setCell _ _ _).from _, rfl, e1, World.cell?_setCell_same _ _ _ hc2, i4.setCell (p := ⟨w.heap.size, 0, none⟩) (Nat.le_refl _) _⟩
  case done =>
    rintro D ys W hD rfl ⟨i1, i2, i3, i4⟩ hK
    have hA := h1.out (fun j hj => i1 ⟨j, by omega⟩ (by
      have hv := ups_val (m := n - 1) (Nat.le_refl _)
      have : j ∈ (ups (n - 1) (n - 1)).map (fun j => j.val) := by rw [hv]; exact List.mem_range.2 (by omega)
      obtain ⟨y, hy, he⟩ := List.mem_map.1 this
      have : y = ⟨j, by omega⟩ := Fin.ext he
      rwa [this] at hy))
    have c0 : W.cell? ⟨b, off + 0 * 2, none⟩ = some (.int .i64 (gX l 0)) := by rw [(bcell i4).1 _ _ hb]; exact (hc.out 0 (by omega)).1
    rw [Nat.zero_mul, Nat.add_zero] at c0
    have hc2 := i2.cell
    have hf2 := i2.frozen
    subst hA
    obtain ⟨x0, hx0⟩ : ∃ x0, gX l 0 = x0 := ⟨_, rfl⟩
    rw [hx0] at c0
    cases hx : (x0 == 0) with
    | true =>
      gi_wp2
      have hK' := (KeepsOthers.setCell W ⟨w.heap.size, 0, none⟩ (.bool true)).same D _ hK rfl
      refine ⟨by simp, .inl ⟨_, _, rfl, run_takeDeferred hK', ?_⟩⟩
      have hc5 := cell_kept (World.cell?_setCell_same W ⟨w.heap.size, 0, none⟩ (.bool true) hc2) (grownBy_putObj' _ D (.deferred none)) (fun r e => by cases e; exact ⟨_, hK', rfl⟩)
      refine ⟨.bool true, ?_, by first | rfl | rw [hx0, hx], (i4.setCell (p := ⟨w.heap.size, 0, none⟩) (Nat.le_refl _) _).trans (belowK_b (w := w) (Nat.le_refl _) _ D _ _ (by omega) hK' rfl rfl)⟩
      simp [results, Tryz.results63, go_sem, hc5]
    | false =>
      gi_wp2
      have hK' := (KeepsOthers.setCell W ⟨w.heap.size, 0, none⟩ (.bool false)).same D _ hK rfl
      refine ⟨by simp, .inl ⟨_, _, rfl, run_takeDeferred hK', ?_⟩⟩
      have hc5 := cell_kept (World.cell?_setCell_same W ⟨w.heap.size, 0, none⟩ (.bool false) hc2) (grownBy_putObj' _ D (.deferred none)) (fun r e => by cases e; exact ⟨_, hK', rfl⟩)
      refine ⟨.bool false, ?_, by first | rfl | rw [hx0, hx], (i4.setCell (p := ⟨w.heap.size, 0, none⟩) (Nat.le_refl _) _).trans (belowK_b (w := w) (Nat.le_refl _) _ D _ _ (by omega) hK' rfl rfl)⟩
      simp [results, Tryz.results63, go_sem, hc5]
  case stop =>
    rintro D cc pre W hD _ ⟨rfl, ⟨j, _, hj⟩, i3, i4⟩ hK
    have hjl := j.isLt
    have hA := h2.out ⟨j.val, by omega, by omega⟩
    subst hA
    gi_wp2
    refine ⟨by simp, .inl ⟨_, _, rfl, run_takeDeferred hK, ?_⟩⟩
    have hc5 := cell_kept i3 (grownBy_putObj' _ D (.deferred none)) (fun r e => by cases e; exact ⟨_, hK, rfl⟩)
    refine ⟨.bool false, ?_, rfl, i4.trans (belowK_b (w := w) (Nat.le_refl _) _ D _ _ (by omega) hK rfl rfl)⟩
    simp [results, Tryz.results63, go_sem, hc5]
end Go.Proofs.YtpnlfeljmpfeoaaGreatDoor

/- Package profile: swells. -/
namespace Go.Proofs.YtpnlfeljmpfeoaaGreatDoor
open Go.RowKit Go.Shelf
attribute [local go_sem] Oper.semAt_some

theorem box_kept {A B : World} {row : Option Nat} {g : Nat} {t : TypeId} {v : Value} (h : Boxed A g t v) (hg : A.grownBy B row) (hr : ∀ r, row = some r → ∃ o : Obj, A.heap[r]? = some o ∧ o.isCells = false) : Boxed B g t v :=
  h.kept hg (fun e => by obtain ⟨o, h3, h4⟩ := hr _ e.symm; rw [show A.heap[g]? = _ from h] at h3; cases h3; cases h4)
/-- whether some pieces fall, and whether one rises behind one that falls -/
def stP (l : List (Int × Int)) {m : Nat} (pre : List (Fin m)) : Bool × Bool := pre.foldl (fun s j => (s.1 || decide (gR l (j.val + 1) < gR l j.val), s.2 || (s.1 && decide (gR l j.val < gR l (j.val + 1))))) (false, false)
theorem stP_snoc (l : List (Int × Int)) {m : Nat} (pre : List (Fin m)) (j : Fin m) : stP l (pre ++ [j]) = ((stP l pre).1 || decide (gR l (j.val + 1) < gR l j.val), (stP l pre).2 || ((stP l pre).1 && decide (gR l j.val < gR l (j.val + 1)))) := by
  unfold stP; rw [List.foldl_append]; rfl
theorem stP_all (l : List (Int × Int)) {m : Nat} (k : Nat) (h : k ≤ m) : stP l (ups m k) = (fal l k, swl l k) := by
  induction k with
  | zero => rfl
  | succ k ih => rw [ups_succ (by omega), stP_snoc, ih (by omega)]; rfl

set_option maxRecDepth 100000 in
set_option maxHeartbeats 8000000 in
theorem swells_some (b off n cap : Nat) (l : List (Int × Int)) (S : Bool) (w : World) (n0 : 1 ≤ n) (n1 : n ≤ 1000) (hb : b < w.heap.size)
    (hc : Hid (∀ j, j < n → w.cell? ⟨b, off + j * 2, none⟩ = some (.int .i64 (gX l j)) ∧ w.cell? ⟨b, off + j * 2 + 1, none⟩ = some (.int .i64 (gR l j))))
    (hS : Hid (swl l (n - 1) = S)) :
    Calls Tryz.prog 65 #[.slice (some ⟨b, off, none⟩) n cap] w fun e w' => e = .returned (.bool S) ∧ Below w.heap.size w w' := by
  refine (callsIn_wide (n := 10)).1 ?_
  refine callsIn_of_wp_marks Tryz.func65 rfl trivial ?_ rfl
  simp only [Tryz.ntmps65, List.size_toArray, List.length_cons, List.length_nil, Nat.reduceAdd, Nat.reduceSub, Array.replicate_succ, Array.replicate_zero, List.push_toArray, List.append_toArray, List.nil_append, List.cons_append]
  gi_wp2_with fail
  refine ⟨trivial, (callsIn_wide.2 (pieces_any _ _ _ _)).mono ?_⟩
  rintro e w3 ⟨rfl, rfl⟩
  gi_wp2_with fail
  have BO : Hid (Boxed (w.alloc (.cells #[.bool false] 4)) w.heap.size 4 (.bool false)) := Boxed.new w 4 (.bool false)
  have BF : Hid (Boxed ((w.alloc (.cells #[.bool false] 4)).alloc (.cells #[.bool false] 4)) (w.heap.size + 1) 4 (.bool false)) := by
    have := Boxed.new (w.alloc (.cells #[.bool false] 4)) 4 (.bool false)
    rwa [World.size_alloc] at this
  have BX : Hid (Boxed (((w.alloc (.cells #[.bool false] 4)).alloc (.cells #[.bool false] 4)).alloc (.cells #[.slice (some ⟨b, off, none⟩) n cap] 25)) (w.heap.size + 1 + 1) 25 (.slice (some ⟨b, off, none⟩) n cap)) := by
    have := Boxed.new ((w.alloc (.cells #[.bool false] 4)).alloc (.cells #[.bool false] 4)) 25 (.slice (some ⟨b, off, none⟩) n cap)
    rwa [World.size_alloc, World.size_alloc] at this
  replace BO := Lib.hid ((BO.out.alloc (.cells #[.bool false] 4)).alloc (.cells #[.slice (some ⟨b, off, none⟩) n cap] 25))
  replace BF := Lib.hid (BF.out.alloc (.cells #[.slice (some ⟨b, off, none⟩) n cap] 25))
  have X1 : Hid (Below w.heap.size w (((w.alloc (.cells #[.bool false] 4)).alloc (.cells #[.bool false] 4)).alloc (.cells #[.slice (some ⟨b, off, none⟩) n cap] 25))) := bel_alloc (bel_alloc (bel_alloc (Below.refl _ _)))
  obtain ⟨W0, hW0⟩ : ∃ W0, (((w.alloc (.cells #[.bool false] 4)).alloc (.cells #[.bool false] 4)).alloc (.cells #[.slice (some ⟨b, off, none⟩) n cap] 25)) = W0 := ⟨_, rfl⟩
  have hsz : W0.heap.size = w.heap.size + 1 + 1 + 1 := by rw [← hW0]; simp
  rw [hW0] at BO BF BX X1 ⊢
  clear hW0
  have hl1 : ∀ j, j < n → W0.cell? ⟨b, off + j * 2, none⟩ = some (.int .i64 (gX l j)) ∧ W0.cell? ⟨b, off + j * 2 + 1, none⟩ = some (.int .i64 (gR l j)) := fun j hj => by rw [(bcell X1.out).1 _ _ hb, (bcell X1.out).1 _ _ hb]; exact hc.out j hj
  refine wpIn_rangeFunc_ownH rfl (by omega) (gf := 91) (lb := #[.pointer (some ⟨w.heap.size + 1 + 1, 0, none⟩)]) rfl trivial (enters_of Tryz.func91 (by kernel_rfl) rfl)
    (pieces_stops 9 (w.heap.size + 1 + 1) w.heap.size b off n cap l (by omega) (by omega) hb W0 X1.out.size BX.out.cell hl1) kpB_t (kpB_b X1.out.size) (Below.refl _ _) (fun _ => rfl)
    (fun pre W => (stP l pre).2 = false ∧ Boxed W w.heap.size 4 (.bool false) ∧ Boxed W (w.heap.size + 1) 4 (.bool (stP l pre).1) ∧ Boxed W (w.heap.size + 1 + 1) 25 (.slice (some ⟨b, off, none⟩) n cap) ∧ Below w.heap.size w W)
    (fun c pre W => c = .ret ∧ (stP l pre).2 = true ∧ W.cell? ⟨w.heap.size, 0, none⟩ = some (.bool true) ∧ Below w.heap.size w W)
    (fun s A B row ⟨i1, i2, i3, i4, i5⟩ hg hr => ⟨i1, box_kept i2 hg (fun r e => (hr r e).2), box_kept i3 hg (fun r e => (hr r e).2), box_kept i4 hg (fun r e => (hr r e).2), ownFrom_below (β := Unit) (Nat.le_refl _) X1.out.size () A B row i5 hg hr⟩)
    (fun c s A B row ⟨i1, i2, i3, i4⟩ hg hr => ⟨i1, i2, cell_kept i3 hg (fun r e => (hr r e).2), ownFrom_below (β := Unit) (Nat.le_refl _) X1.out.size () A B row i4 hg hr⟩)
    ⟨rfl, BO.out, BF.out, BX.out, X1.out⟩
    (fun x a' W => ∃ Bx : Nat, w.heap.size + 1 + 1 < Bx ∧ Four Bx W (.int .i64 (gX l x.val)) (.int .i64 (gR l x.val)) (.int .i64 (gX l (x.val + 1))) (.int .i64 (gR l (x.val + 1))) ∧ a' = { tmps := #[.slice (some ⟨b, off, none⟩) n cap, undef, .pointer (some ⟨w.heap.size, 0, none⟩), .pointer (some ⟨w.heap.size + 1, 0, none⟩), undef, .pointer (some ⟨Bx, 0, none⟩), .slice (some ⟨b, off, none⟩) n cap, .func (.func 91) #[] #[.pointer (some ⟨w.heap.size + 1 + 1, 0, none⟩)], .int .i64 ((x.val : Int) + 1), .agg #[.int .i64 (gX l x.val), .int .i64 (gR l x.val), .int .i64 (gX l (x.val + 1)), .int .i64 (gR l (x.val + 1))], undef, undef, undef, undef, undef, undef, undef, undef, undef, undef, undef, undef, undef, undef, undef, undef, undef, undef, undef, undef], defers := [] })
    (fun x a' _ A B row ⟨Bx, h1, h2, h3⟩ hg hr => ⟨Bx, h1, four_kept h2 hg (fun r e => (hr r e).2), h3⟩) ?assign ?body ?done ?stop
  case assign =>
    rintro lp pre x W K ⟨i1, i2, i3, i4, i5⟩ hK
    dsimp only [encP]
    generalize gX l x.val = u at *
    generalize gR l x.val = p at *
    generalize gX l (x.val + 1) = v at *
    generalize gR l (x.val + 1) = q at *
    gi_wp2
    exact hK _ _ ((KeepsOthers.alloc _ _).from _) ⟨(Below.refl _ W).alloc i5.size _, fun v e => (cell_al _ e)⟩ ⟨i1, i2.alloc _, i3.alloc _, i4.alloc _, bA i5 _⟩ ⟨W.heap.size, i4.lt, Four.new _ _ _ _ _ _, rfl⟩
  case body =>
    rintro lp pre x aa W hlp ⟨rr, hrr⟩ ⟨i1, i2, i3, i4, i5⟩ ⟨Bx, hBx, iX, rfl⟩ hlen
    have es := stP_snoc l pre x
    have hf := i2.frozen
    have hc2 := i2.cell
    have hf3 := i3.frozen
    have hc3 := i3.cell
    rw [i1] at es
    generalize stP l pre = s at *
    obtain ⟨s1, s2⟩ := s
    dsimp only at *
    generalize gX l x.val = u at *
    generalize gR l x.val = p at *
    generalize gX l (x.val + 1) = v at *
    generalize gR l (x.val + 1) = q at *
    obtain ⟨f0, f1, f2, f3⟩ := iX
    have hn1 : w.heap.size + 1 ≠ w.heap.size := by omega
    have hn2 : w.heap.size + 1 + 1 ≠ w.heap.size := by omega
    have hn3 : w.heap.size + 1 + 1 ≠ w.heap.size + 1 := by omega
    have hle : w.heap.size ≤ w.heap.size + 1 := by omega
    by_cases g1 : p < q
    · have g2 : ¬ q < p := by omega
      have d1 : decide (p < q) = true := decide_eq_true g1
      have d2 : decide (q < p) = false := decide_eq_false g2
      rw [d1, d2] at es
      cases s1 with
      | true =>
        gi_wp2
        exact ⟨(KeepsOthers.setCell _ _ _).from _, rfl, by rw [es]; rfl, World.cell?_setCell_same _ _ _ hc2, i5.setCell (p := ⟨w.heap.size, 0, none⟩) (Nat.le_refl _) _⟩
      | false =>
        gi_wp2
        exact ⟨(KeepsOthers.setCell _ _ _).from _, ⟨(Below.refl _ W).setCell (p := ⟨w.heap.size + 1, 0, none⟩) hle _, fun v e => cell_apart _ e hn3⟩, by rw [es]; rfl, i2.other (by omega) _, by rw [es]; exact i3.set _, i4.other hn3 _, i5.setCell (p := ⟨w.heap.size + 1, 0, none⟩) hle _⟩
    · by_cases g2 : q < p
      · have d1 : decide (p < q) = false := decide_eq_false g1
        have d2 : decide (q < p) = true := decide_eq_true g2
        rw [d1, d2] at es
        cases s1 with
        | true =>
          gi_wp2
          exact ⟨(KeepsOthers.setCell _ _ _).from _, ⟨(Below.refl _ W).setCell (p := ⟨w.heap.size + 1, 0, none⟩) hle _, fun v e => cell_apart _ e hn3⟩, by rw [es]; rfl, i2.other (by omega) _, by rw [es]; exact i3.set _, i4.other hn3 _, i5.setCell (p := ⟨w.heap.size + 1, 0, none⟩) hle _⟩
        | false =>
          gi_wp2
          exact ⟨(KeepsOthers.setCell _ _ _).from _, ⟨(Below.refl _ W).setCell (p := ⟨w.heap.size + 1, 0, none⟩) hle _, fun v e => cell_apart _ e hn3⟩, by rw [es]; rfl, i2.other (by omega) _, by rw [es]; exact i3.set _, i4.other hn3 _, i5.setCell (p := ⟨w.heap.size + 1, 0, none⟩) hle _⟩
      · obtain rfl : p = q := by omega
        have d1 : decide (p < p) = false := decide_eq_false g1
        rw [d1] at es
        cases s1 with
        | true =>
          gi_wp2
          exact ⟨(KeepsOthers.setCell _ _ _).from _, ⟨(Below.refl _ W).setCell (p := ⟨w.heap.size + 1, 0, none⟩) hle _, fun v e => cell_apart _ e hn3⟩, by rw [es]; rfl, i2.other (by omega) _, by rw [es]; exact i3.set _, i4.other hn3 _, i5.setCell (p := ⟨w.heap.size + 1, 0, none⟩) hle _⟩
        | false =>
          gi_wp2
          exact ⟨(KeepsOthers.setCell _ _ _).from _, ⟨(Below.refl _ W).setCell (p := ⟨w.heap.size + 1, 0, none⟩) hle _, fun v e => cell_apart _ e hn3⟩, by rw [es]; rfl, i2.other (by omega) _, by rw [es]; exact i3.set _, i4.other hn3 _, i5.setCell (p := ⟨w.heap.size + 1, 0, none⟩) hle _⟩
  case done =>
    rintro D ys W hD rfl ⟨i1, i2, i3, i4, i5⟩ hK
    rw [stP_all l (n - 1) (Nat.le_refl _)] at i1
    obtain rfl : S = false := by rw [← hS.out]; exact i1
    have hc2 := i2.cell
    have hf2 := i2.frozen
    gi_wp2
    have hK' := (KeepsOthers.setCell W ⟨w.heap.size, 0, none⟩ (.bool false)).same D _ hK rfl
    refine ⟨by simp, .inl ⟨_, _, rfl, run_takeDeferred hK', ?_⟩⟩
    have hc5 := cell_kept (World.cell?_setCell_same W ⟨w.heap.size, 0, none⟩ (.bool false) hc2) (grownBy_putObj' _ D (.deferred none)) (fun r e => by cases e; exact ⟨_, hK', rfl⟩)
    refine ⟨.bool false, ?_, rfl, (i5.setCell (p := ⟨w.heap.size, 0, none⟩) (Nat.le_refl _) _).trans (belowK_b (w := w) (Nat.le_refl _) _ D _ _ (by omega) hK' rfl rfl)⟩
    simp [results, Tryz.results65, go_sem, hc5]
  case stop =>
    rintro D cc pre W hD ⟨k, hk, rfl⟩ ⟨rfl, i2, i3, i4⟩ hK
    rw [stP_all l k hk] at i2
    obtain rfl : S = true := by
      rw [← hS.out]
      obtain ⟨i, j, h1, h2, h3⟩ := (swl_iff _ _).1 i2
      exact (swl_iff _ _).2 ⟨i, j, h1, by omega, h3⟩
    gi_wp2
    refine ⟨by simp, .inl ⟨_, _, rfl, run_takeDeferred hK, ?_⟩⟩
    have hc5 := cell_kept i3 (grownBy_putObj' _ D (.deferred none)) (fun r e => by cases e; exact ⟨_, hK, rfl⟩)
    refine ⟨.bool true, ?_, rfl, i4.trans (belowK_b (w := w) (Nat.le_refl _) _ D _ _ (by omega) hK rfl rfl)⟩
    simp [results, Tryz.results65, go_sem, hc5]
end Go.Proofs.YtpnlfeljmpfeoaaGreatDoor

/- Package profile: lengths; points that are out, or closed; whether a list contains one. -/
namespace Go.Proofs.YtpnlfeljmpfeoaaGreatDoor
open Go.RowKit

theorem isLen_any (n : Int) (w : World) : Calls Tryz.prog 81 #[.int .i64 n] w fun e w' => e = .returned (.bool (lenB n)) ∧ w = w' := by
  by_cases h0 : 0 ≤ n <;> by_cases h1 : n ≤ 100000
  all_goals
    go_enter Tryz.func81, Tryz.ntmps81
    go_wp2
    go_ret
    exact ⟨by simp [lenB, h0, h1], rfl⟩
theorem isOut_any (x r : Int) (w : World) : Calls Tryz.prog 62 #[.agg #[.int .i64 x, .int .i64 r]] w fun e w' => e = .returned (.bool (ptOut (x, r))) ∧ Below w.heap.size w w' := by
  have H1 := Lib.hid (fun W => isLen_any x W)
  have H2 := Lib.hid (fun W => isLen_any r W)
  cases h : lenB x with
  | false =>
    rw [h] at H1
    have e : ptOut (x, r) = true := by simp [ptOut, h]
    rw [e]
    go_enter Tryz.func62, Tryz.ntmps62
    go_wp2_with fail
    refine (H1.out _).mono ?_
    rintro e w1 ⟨rfl, hw⟩
    subst hw
    go_wp2
    go_ret
    exact ⟨rfl, bel_alloc (Below.refl _ _)⟩
  | true =>
    rw [h] at H1
    cases h2 : lenB r with
    | false =>
      rw [h2] at H2
      have e : ptOut (x, r) = true := by simp [ptOut, h2]
      rw [e]
      go_enter Tryz.func62, Tryz.ntmps62
      go_wp2_with fail
      refine (H1.out _).mono ?_
      rintro e w1 ⟨rfl, hw⟩
      subst hw
      go_wp2_with fail
      refine (H2.out _).mono ?_
      rintro e w1 ⟨rfl, hw⟩
      subst hw
      go_wp2
      go_ret
      exact ⟨rfl, bel_alloc (Below.refl _ _)⟩
    | true =>
      rw [h2] at H2
      have e : ptOut (x, r) = false := by simp [ptOut, h, h2]
      rw [e]
      go_enter Tryz.func62, Tryz.ntmps62
      go_wp2_with fail
      refine (H1.out _).mono ?_
      rintro e w1 ⟨rfl, hw⟩
      subst hw
      go_wp2_with fail
      refine (H2.out _).mono ?_
      rintro e w1 ⟨rfl, hw⟩
      subst hw
      go_wp2
      go_ret
      exact ⟨rfl, bel_alloc (Below.refl _ _)⟩
theorem isCl_any (x r : Int) (w : World) : Calls Tryz.prog 64 #[.agg #[.int .i64 x, .int .i64 r]] w fun e w' => e = .returned (.bool (ptCl (x, r))) ∧ Below w.heap.size w w' := by
  cases h : (r == 0) with
  | false =>
    have e : ptCl (x, r) = false := by simp only [ptCl, h]
    rw [e]
    go_enter Tryz.func64, Tryz.ntmps64
    go_wp2
    go_ret
    exact ⟨rfl, bel_alloc (Below.refl _ _)⟩
  | true =>
    have e : ptCl (x, r) = true := by simp only [ptCl, h]
    rw [e]
    go_enter Tryz.func64, Tryz.ntmps64
    go_wp2
    go_ret
    exact ⟨rfl, bel_alloc (Below.refl _ _)⟩

/-- the index of the first point of a kind -/
theorem index_some (f : Nat) (p : Int × Int → Bool) (hp : Hid (∀ x r W, Calls Tryz.prog f #[.agg #[.int .i64 x, .int .i64 r]] W fun e w' => e = .returned (.bool (p (x, r))) ∧ Below W.heap.size W w'))
    (eg : ∀ args w, (callFunc f args).run Tryz.prog w = .ok (.enter f args) w)
    (b off n cap : Nat) (l : List (Int × Int)) (B : Bool) (w : World) (n1 : n ≤ 1000) (hb : b < w.heap.size)
    (hc : Hid (∀ j, j < n → w.cell? ⟨b, off + j * 2, none⟩ = some (.int .i64 (gX l j)) ∧ w.cell? ⟨b, off + j * 2 + 1, none⟩ = some (.int .i64 (gR l j))))
    (h1 : Hid ((∃ j, j < n ∧ p (gX l j, gR l j) = true) → B = true)) (h2 : Hid ((∀ j, j < n → p (gX l j, gR l j) = false) → B = false)) :
    Calls Tryz.prog 80 #[.slice (some ⟨b, off, none⟩) n cap, .func (.func f) #[] #[]] w fun e w' => ∃ k : Int, e = .returned (.int .i64 k) ∧ decide (0 ≤ k) = B ∧ Below w.heap.size w w' := by
  go_enter Tryz.func80, Tryz.ntmps80
  go_wp2_with fail
  go_loopw [5, 8] (fun _ i wr => ∃ k : Nat, k ≤ n ∧ i = .int .i64 k ∧ Hid (Below w.heap.size w wr) ∧ Hid (∀ j, j < k → p (gX l j, gR l j) = false)) (fun _ i _ => n - (intOf i).toNat)
  case atStart => exact ⟨0, Nat.zero_le _, rfl, Below.refl _ _, fun j hj => by omega⟩
  case round =>
    obtain ⟨k, hk, rfl, hB, ha⟩ := hrel
    by_cases hlt : k < n
    · have c0 : wr.cell? ⟨b, off + k * 2, none⟩ = some (.int .i64 (gX l k)) := by rw [(bcell hB.out).1 _ _ hb]; exact (hc.out k hlt).1
      have c1 : wr.cell? ⟨b, off + k * 2 + 1, none⟩ = some (.int .i64 (gR l k)) := by rw [(bcell hB.out).1 _ _ hb]; exact (hc.out k hlt).2
      have HP := Lib.hid (fun W => hp.out (gX l k) (gR l k) W)
      cases hq : p (gX l k, gR l k) with
      | true =>
        have hBt := h1.out ⟨k, hlt, hq⟩
        rw [hq] at HP
        generalize gX l k = x at *
        generalize gR l k = r at *
        go_wp2_with fail
        refine (HP.out _).mono ?_
        rintro e w2 ⟨rfl, gg⟩
        have X := Lib.hid (bel_trans hB.out gg); clear gg
        go_wp2
        go_returns
        exact ⟨k, rfl, by rw [hBt]; simp, X.out⟩
      | false =>
        have ha2 : Hid (∀ j, j < k + 1 → p (gX l j, gR l j) = false) := fun j hj => by
          by_cases e : j = k
          · rw [e]; exact hq
          · exact ha.out j (by omega)
        rw [hq] at HP
        clear hq ha
        generalize gX l k = x at c0 HP
        generalize gR l k = r at c1 HP
        go_wp2_with fail
        refine (HP.out _).mono ?_
        rintro e w2 ⟨rfl, gg⟩
        have X := Lib.hid (bel_trans hB.out gg); clear gg
        go_wp2
        go_roundw
        case rel => exact ⟨k + 1, by omega, by go_num, X, ha2⟩
        case measure => simp [intOf]; omega
    · obtain rfl : k = n := by omega
      have hBf := h2.out ha.out
      go_wp2
      go_returns
      exact ⟨-1, rfl, by rw [hBf]; simp, hB.out⟩
theorem contains_some (f : Nat) (p : Int × Int → Bool) (hp : Hid (∀ x r W, Calls Tryz.prog f #[.agg #[.int .i64 x, .int .i64 r]] W fun e w' => e = .returned (.bool (p (x, r))) ∧ Below W.heap.size W w'))
    (eg : ∀ args w, (callFunc f args).run Tryz.prog w = .ok (.enter f args) w)
    (b off n cap : Nat) (l : List (Int × Int)) (w : World) (hl : n = l.length) (n1 : n ≤ 1000) (hb : b < w.heap.size)
    (hc : Hid (∀ j, j < n → w.cell? ⟨b, off + j * 2, none⟩ = some (.int .i64 (gX l j)) ∧ w.cell? ⟨b, off + j * 2 + 1, none⟩ = some (.int .i64 (gR l j)))) :
    Calls Tryz.prog 61 #[.slice (some ⟨b, off, none⟩) n cap, .func (.func f) #[] #[]] w fun e w' => e = .returned (.bool (l.any p)) ∧ Below w.heap.size w w' := by
  have HI := Lib.hid (index_some f p hp eg b off n cap l (l.any p) w n1 hb hc (fun ⟨j, hj, h⟩ => any_of (by omega) h) (fun h => any_not fun i hi => h i (by omega)))
  generalize l.any p = B at *
  clear eg hp hc hl
  go_enter Tryz.func61, Tryz.ntmps61
  go_wp2_with fail
  refine HI.out.mono ?_
  rintro e w1 ⟨k, rfl, hk, hb⟩
  have HB := Lib.hid hb; clear hb
  subst hk
  go_wp2
  all_goals
    go_ret
    exact ⟨by simp_all, HB.out⟩
end Go.Proofs.YtpnlfeljmpfeoaaGreatDoor

/- Package profile: Check, end. -/
namespace Go.Proofs.YtpnlfeljmpfeoaaGreatDoor
open Go.RowKit

theorem ck_few (a : Option Addr) (n cap : Nat) (w : World) (h : n < 2) :
    Calls Tryz.prog 42 #[.slice a n cap] w fun e w' => e = .returned (.int .i64 9) ∧ Below w.heap.size w w' := by
  go_enter Tryz.func42, Tryz.ntmps42
  go_wp2
  go_returns
  exact ⟨rfl, Below.refl _ _⟩
theorem ck_many (a : Option Addr) (n cap : Nat) (w : World) (h : 32 < n) (h2 : n ≤ 9223372036854775807) :
    Calls Tryz.prog 42 #[.slice a n cap] w fun e w' => e = .returned (.int .i64 8) ∧ Below w.heap.size w w' := by
  go_enter Tryz.func42, Tryz.ntmps42
  go_wp2
  go_returns
  exact ⟨rfl, Below.refl _ _⟩
set_option maxHeartbeats 4000000 in
theorem ck_some (b off n cap : Nat) (O A C S : Bool) (w : World) (n0 : 2 ≤ n) (n1 : n ≤ 32)
    (H1 : Hid (∀ W, Below w.heap.size w W → Calls Tryz.prog 61 #[.slice (some ⟨b, off, none⟩) n cap, .func (.func 62) #[] #[]] W fun e w' => e = .returned (.bool O) ∧ Below W.heap.size W w'))
    (H2 : Hid (∀ W, Below w.heap.size w W → Calls Tryz.prog 63 #[.slice (some ⟨b, off, none⟩) n cap] W fun e w' => e = .returned (.bool A) ∧ Below W.heap.size W w'))
    (H3 : Hid (∀ W, Below w.heap.size w W → Calls Tryz.prog 61 #[.slice (some ⟨b, off, none⟩) n cap, .func (.func 64) #[] #[]] W fun e w' => e = .returned (.bool C) ∧ Below W.heap.size W w'))
    (H4 : Hid (∀ W, Below w.heap.size w W → Calls Tryz.prog 65 #[.slice (some ⟨b, off, none⟩) n cap] W fun e w' => e = .returned (.bool S) ∧ Below W.heap.size W w')) :
    Calls Tryz.prog 42 #[.slice (some ⟨b, off, none⟩) n cap] w fun e w' => e = .returned (.int .i64 (if O = true then 2 else if A = false then 5 else if C = true then 16 else if S = true then 10 else 0)) ∧ Below w.heap.size w w' := by
  cases O with
  | true =>
    go_enter Tryz.func42, Tryz.ntmps42
    go_wp2_with fail
    refine (H1.out _ (Below.refl _ _)).mono ?_
    rintro e w1 ⟨rfl, gg⟩
    have X1 := Lib.hid gg; clear gg
    go_wp2
    go_returns
    exact ⟨rfl, X1.out⟩
  | false =>
    cases A with
    | false =>
      go_enter Tryz.func42, Tryz.ntmps42
      go_wp2_with fail
      refine (H1.out _ (Below.refl _ _)).mono ?_
      rintro e w1 ⟨rfl, gg⟩
      have X1 := Lib.hid gg; clear gg
      go_wp2_with fail
      refine (H2.out _ X1.out).mono ?_
      rintro e w2 ⟨rfl, gg⟩
      have X2 := Lib.hid (bel_trans X1.out gg); clear gg
      go_wp2
      go_returns
      exact ⟨rfl, X2.out⟩
    | true =>
      cases C with
      | true =>
        go_enter Tryz.func42, Tryz.ntmps42
        go_wp2_with fail
        refine (H1.out _ (Below.refl _ _)).mono ?_
        rintro e w1 ⟨rfl, gg⟩
        have X1 := Lib.hid gg; clear gg
        go_wp2_with fail
        refine (H2.out _ X1.out).mono ?_
        rintro e w2 ⟨rfl, gg⟩
        have X2 := Lib.hid (bel_trans X1.out gg); clear gg
        go_wp2_with fail
        refine (H3.out _ X2.out).mono ?_
        rintro e w3 ⟨rfl, gg⟩
        have X3 := Lib.hid (bel_trans X2.out gg); clear gg
        go_wp2
        go_returns
        exact ⟨rfl, X3.out⟩
      | false =>
        cases S with
        | true =>
          go_enter Tryz.func42, Tryz.ntmps42
          go_wp2_with fail
          refine (H1.out _ (Below.refl _ _)).mono ?_
          rintro e w1 ⟨rfl, gg⟩
          have X1 := Lib.hid gg; clear gg
          go_wp2_with fail
          refine (H2.out _ X1.out).mono ?_
          rintro e w2 ⟨rfl, gg⟩
          have X2 := Lib.hid (bel_trans X1.out gg); clear gg
          go_wp2_with fail
          refine (H3.out _ X2.out).mono ?_
          rintro e w3 ⟨rfl, gg⟩
          have X3 := Lib.hid (bel_trans X2.out gg); clear gg
          go_wp2_with fail
          refine (H4.out _ X3.out).mono ?_
          rintro e w4 ⟨rfl, gg⟩
          have X4 := Lib.hid (bel_trans X3.out gg); clear gg
          go_wp2
          go_returns
          exact ⟨rfl, X4.out⟩
        | false =>
          go_enter Tryz.func42, Tryz.ntmps42
          go_wp2_with fail
          refine (H1.out _ (Below.refl _ _)).mono ?_
          rintro e w1 ⟨rfl, gg⟩
          have X1 := Lib.hid gg; clear gg
          go_wp2_with fail
          refine (H2.out _ X1.out).mono ?_
          rintro e w2 ⟨rfl, gg⟩
          have X2 := Lib.hid (bel_trans X1.out gg); clear gg
          go_wp2_with fail
          refine (H3.out _ X2.out).mono ?_
          rintro e w3 ⟨rfl, gg⟩
          have X3 := Lib.hid (bel_trans X2.out gg); clear gg
          go_wp2_with fail
          refine (H4.out _ X3.out).mono ?_
          rintro e w4 ⟨rfl, gg⟩
          have X4 := Lib.hid (bel_trans X3.out gg); clear gg
          go_wp2
          go_returns
          exact ⟨rfl, X4.out⟩
theorem ck_any (v : Value) (l : List (Int × Int)) (w : World) (hv : Pts w v l) :
    Calls Tryz.prog 42 #[v] w fun e w' => e = .returned (.int .i64 (ckE l)) ∧ Below w.heap.size w w' := by
  obtain ⟨a, cap, rfl, hl, hh⟩ := hv
  by_cases h0 : l.length < 2
  · rw [show ckE l = 9 by unfold ckE; rw [if_pos h0]]
    exact ck_few a l.length cap w h0
  · by_cases h1 : 32 < l.length
    · rw [show ckE l = 8 by unfold ckE; rw [if_neg h0, if_pos h1]]
      exact ck_many a l.length cap w h1 (by omega)
    · rcases hh with hh | ⟨b, off, rfl, hb, hc⟩
      · omega
      · have hc2 : ∀ W, Below w.heap.size w W → ∀ j, j < l.length → W.cell? ⟨b, off + j * 2, none⟩ = some (.int .i64 (gX l j)) ∧ W.cell? ⟨b, off + j * 2 + 1, none⟩ = some (.int .i64 (gR l j)) := fun W hW j hj => by
          rw [(bcell hW).1 _ _ hb, (bcell hW).1 _ _ hb]; exact hc j hj
        have e : ckE l = (if l.any ptOut = true then 2 else if (adv l (l.length - 1) && (gX l 0 == 0)) = false then 5 else if l.any ptCl = true then 16 else if swl l (l.length - 1) = true then 10 else 0) := by unfold ckE; rw [if_neg h0, if_neg h1]
        rw [e]
        refine ck_some b off l.length cap _ _ _ _ w (by omega) (by omega) (fun W hW => ?_) (fun W hW => ?_) (fun W hW => ?_) (fun W hW => ?_)
        · exact contains_some 62 ptOut (Lib.hid fun x r W => isOut_any x r W) (enters_of Tryz.func62 (by kernel_rfl) rfl) b off l.length cap l W rfl (by omega) (Nat.lt_of_lt_of_le hb hW.size) (Lib.hid (hc2 W hW))
        · refine advances_some b off l.length cap l _ W (by omega) (by omega) (Nat.lt_of_lt_of_le hb hW.size) (Lib.hid (hc2 W hW)) (Lib.hid fun h => ?_) (Lib.hid fun ⟨j, hj, h⟩ => ?_)
          · rw [(adv_iff l _).2 (fun i hi => h i (by omega)), Bool.true_and]
          · have : adv l (l.length - 1) = false := by
              rw [Bool.eq_false_iff]
              intro ha
              exact h ((adv_iff l _).1 ha j (by omega))
            rw [this, Bool.false_and]
        · exact contains_some 64 ptCl (Lib.hid fun x r W => isCl_any x r W) (enters_of Tryz.func64 (by kernel_rfl) rfl) b off l.length cap l W rfl (by omega) (Nat.lt_of_lt_of_le hb hW.size) (Lib.hid (hc2 W hW))
        · exact swells_some b off l.length cap l _ W (by omega) (by omega) (Nat.lt_of_lt_of_le hb hW.size) (Lib.hid (hc2 W hW)) (Lib.hid rfl)

theorem end_any (b off n cap : Nat) (l : List (Int × Int)) (w : World) (n0 : 1 ≤ n) (n1 : n ≤ 1000)
    (hc : Hid (∀ j, j < n → w.cell? ⟨b, off + j * 2, none⟩ = some (.int .i64 (gX l j)) ∧ w.cell? ⟨b, off + j * 2 + 1, none⟩ = some (.int .i64 (gR l j)))) :
    Calls Tryz.prog 57 #[.slice (some ⟨b, off, none⟩) n cap] w fun e w' => e = .returned (.int .i64 (gX l (n - 1))) ∧ w' = w := by
  obtain ⟨m, rfl⟩ : ∃ m, n = m + 1 := ⟨n - 1, by omega⟩
  have c0 := (hc.out m (by omega)).1
  rw [show m + 1 - 1 = m by omega]
  generalize gX l m = x at *
  have wk : IntKind.i64.wrap ((m : Int) + 1 - 1) = (m : Int) := by simp only [IntKind.wrap_i64]; omega
  have wk2 : IntKind.i64.wrap (m : Int) = (m : Int) := by simp only [IntKind.wrap_i64]; omega
  go_enter Tryz.func57, Tryz.ntmps57
  go_wp2
  go_ret
  exact ⟨rfl, rfl⟩
theorem end_of {v : Value} {l : List (Int × Int)} {w : World} (hv : Pts w v l) (h : ckE l = 0) :
    Calls Tryz.prog 57 #[v] w fun e w' => e = .returned (.int .i64 (gX l (l.length - 1))) ∧ w' = w := by
  have hR := (ckE_iff l).1 h
  have n0 := hR.n0
  have n1 := hR.n1
  obtain ⟨a, cap, rfl, hl, hh⟩ := hv
  rcases hh with hh | ⟨b, off, rfl, hb, hc⟩
  · omega
  · exact end_any b off l.length cap l w (by omega) (by omega) (Lib.hid hc)
end Go.Proofs.YtpnlfeljmpfeoaaGreatDoor

/- Package cask: isName, isPosition, isVolume, Check. -/
namespace Go.Proofs.YtpnlfeljmpfeoaaGreatDoor
open Go.RowKit

theorem isPos_any (n : Int) (w : World) : Calls Tryz.prog 40 #[.int .i64 n] w fun e w' => e = .returned (.bool (decide (n = 1 ∨ n = 2))) ∧ w' = w := by
  by_cases h1 : n = 1
  · subst h1
    go_enter Tryz.func40, Tryz.ntmps40
    go_wp2
    go_returns
    exact ⟨rfl, rfl⟩
  · by_cases h2 : n = 2
    · subst h2
      go_enter Tryz.func40, Tryz.ntmps40
      go_wp2
      go_returns
      exact ⟨rfl, rfl⟩
    · rw [decide_eq_false (show ¬ (n = 1 ∨ n = 2) by omega)]
      have e1 : (n == 1) = false := by simpa using h1
      have e2 : (n == 2) = false := by simpa using h2
      clear h1 h2
      go_enter Tryz.func40, Tryz.ntmps40
      go_wp2
      go_returns
      exact ⟨rfl, rfl⟩
theorem isVol_any (n : Int) (w : World) : Calls Tryz.prog 41 #[.int .i64 n] w fun e w' => e = .returned (.bool (decide (0 ≤ n ∧ n ≤ 1073741824))) ∧ w' = w := by
  by_cases h1 : 0 ≤ n
  · by_cases h2 : n ≤ 1073741824
    · rw [decide_eq_true (show 0 ≤ n ∧ n ≤ 1073741824 by omega)]
      have e1 : decide (0 ≤ n) = true := decide_eq_true h1
      have e2 : decide (n ≤ 1073741824) = true := decide_eq_true h2
      clear h1 h2
      go_enter Tryz.func41, Tryz.ntmps41
      go_wp2
      go_returns
      exact ⟨rfl, rfl⟩
    · rw [decide_eq_false (show ¬ (0 ≤ n ∧ n ≤ 1073741824) by omega)]
      have e1 : decide (0 ≤ n) = true := decide_eq_true h1
      have e2 : decide (n ≤ 1073741824) = false := decide_eq_false h2
      clear h1 h2
      go_enter Tryz.func41, Tryz.ntmps41
      go_wp2
      go_returns
      exact ⟨rfl, rfl⟩
  · rw [decide_eq_false (show ¬ (0 ≤ n ∧ n ≤ 1073741824) by omega)]
    have e1 : decide (0 ≤ n) = false := decide_eq_false h1
    clear h1
    go_enter Tryz.func41, Tryz.ntmps41
    go_wp2
    go_returns
    exact ⟨rfl, rfl⟩
theorem isName_core (s : ByteArray) (A B : Bool) (w : World) (hs : s.size ≤ 9223372036854775807) (hA : Hid (s.data.toList.all nmC = A)) (hB : Hid (B = (A && decide (1 ≤ s.size) && decide (s.size ≤ 64))))
    (HC : Hid (∀ W, Calls Tryz.prog 59 #[.string s, .func (.func 60) #[] #[]] W fun e w' => e = .returned (.bool (!A)) ∧ Below W.heap.size W w')) :
    Calls Tryz.prog 39 #[.string s] w fun e w' => e = .returned (.bool B) ∧ Below w.heap.size w w' := by
  have hl : s.toList = s.data.toList := ByteArray.toList_eq s
  by_cases h0 : s.size = 0
  · have g1 : s.data.toList = [] := List.eq_nil_of_length_eq_zero (by simpa using h0)
    have g0 : s.toList.isEmpty = true := by rw [hl, g1]; rfl
    obtain rfl : B = false := by rw [hB.out]; simp [h0]
    clear hl g1 h0
    go_enter Tryz.func39, Tryz.ntmps39
    go_wp2
    go_returns
    exact ⟨rfl, Below.refl _ _⟩
  · have g0 : s.toList.isEmpty = false := by
      rw [hl]
      cases hh : s.data.toList with
      | nil => exact absurd (by have := congrArg List.length hh; simpa using this) h0
      | cons a b => rfl
    have g0' : (!s.toList.isEmpty) = true := by rw [g0]; rfl
    by_cases h1 : s.size ≤ 64
    · obtain rfl : B = A := by rw [hB.out]; simp [show 1 ≤ s.size by omega, h1]
      have d0 : decide ((s.size : Int) ≤ 64) = true := decide_eq_true (by omega)
      clear hl h0 h1
      cases B
      all_goals
        go_enter Tryz.func39, Tryz.ntmps39
        go_wp2_with fail
        refine (HC.out _).mono ?_
        rintro e w1 ⟨rfl, gg⟩
        have X1 := Lib.hid gg; clear gg
        go_wp2
        go_returns
        exact ⟨rfl, X1.out⟩
    · obtain rfl : B = false := by rw [hB.out]; simp [h1]
      have d0 : decide ((s.size : Int) ≤ 64) = false := decide_eq_false (by omega)
      clear hl h0 h1
      go_enter Tryz.func39, Tryz.ntmps39
      go_wp2
      go_returns
      exact ⟨rfl, Below.refl _ _⟩
theorem isName_any (s : ByteArray) (w : World) (hs : s.size ≤ 9223372036854775807) :
    Calls Tryz.prog 39 #[.string s] w fun e w' => e = .returned (.bool (isNm s)) ∧ Below w.heap.size w w' :=
  isName_core s _ _ w hs rfl rfl fun W => allow_any s W
theorem ckk_core (nm : ByteArray) (ps dc E R : Int) (N P V : Bool) (a : Option Addr) (n cap : Nat) (w : World)
    (hE : Hid (R = if N = true then (if P = true then (if V = true then E else 2) else 2) else 4))
    (H1 : Hid (∀ W, Calls Tryz.prog 39 #[.string nm] W fun e w' => e = .returned (.bool N) ∧ Below W.heap.size W w'))
    (H2 : Hid (∀ W, Calls Tryz.prog 40 #[.int .i64 ps] W fun e w' => e = .returned (.bool P) ∧ w' = W))
    (H3 : Hid (∀ W, Calls Tryz.prog 41 #[.int .i64 dc] W fun e w' => e = .returned (.bool V) ∧ w' = W))
    (H4 : Hid (∀ W, Below w.heap.size w W → Calls Tryz.prog 42 #[.slice a n cap] W fun e w' => e = .returned (.int .i64 E) ∧ Below W.heap.size W w')) :
    Calls Tryz.prog 20 #[.agg #[.string nm, .int .i64 ps, .slice a n cap, .int .i64 dc]] w fun e w' => e = .returned (.int .i64 R) ∧ Below w.heap.size w w' := by
  have F0 := Lib.hid (Quad.new w (.string nm) (.int .i64 ps) (.slice a n cap) (.int .i64 dc) 27)
  cases N with
  | false =>
    obtain rfl : R = 4 := hE.out
    go_enter Tryz.func20, Tryz.ntmps20
    go_wp2_with fail
    refine (H1.out _).mono ?_
    rintro e w1 ⟨rfl, gg⟩
    have X1 := Lib.hid (bel_alloc gg); clear gg
    go_wp2
    go_returns
    exact ⟨rfl, X1.out⟩
  | true =>
    cases P with
    | false =>
      obtain rfl : R = 2 := hE.out
      go_enter Tryz.func20, Tryz.ntmps20
      go_wp2_with fail
      refine (H1.out _).mono ?_
      rintro e w1 ⟨rfl, gg⟩
      obtain ⟨c0, c1, c2, c3, _⟩ := F0.out.below gg
      have X1 := Lib.hid (bel_alloc gg); clear gg
      go_wp2_with fail
      refine (H2.out _).mono ?_
      rintro e w2 ⟨rfl, gg⟩
      subst gg
      go_wp2
      go_returns
      exact ⟨rfl, X1.out⟩
    | true =>
      cases V with
      | false =>
        obtain rfl : R = 2 := hE.out
        go_enter Tryz.func20, Tryz.ntmps20
        go_wp2_with fail
        refine (H1.out _).mono ?_
        rintro e w1 ⟨rfl, gg⟩
        obtain ⟨c0, c1, c2, c3, _⟩ := F0.out.below gg
        have X1 := Lib.hid (bel_alloc gg); clear gg
        go_wp2_with fail
        refine (H2.out _).mono ?_
        rintro e w2 ⟨rfl, gg⟩
        subst gg
        go_wp2_with fail
        refine (H3.out _).mono ?_
        rintro e w3 ⟨rfl, gg⟩
        subst gg
        go_wp2
        go_returns
        exact ⟨rfl, X1.out⟩
      | true =>
        obtain rfl : R = E := hE.out
        go_enter Tryz.func20, Tryz.ntmps20
        go_wp2_with fail
        refine (H1.out _).mono ?_
        rintro e w1 ⟨rfl, gg⟩
        obtain ⟨c0, c1, c2, c3, _⟩ := F0.out.below gg
        have X1 := Lib.hid (bel_alloc gg); clear gg
        go_wp2_with fail
        refine (H2.out _).mono ?_
        rintro e w2 ⟨rfl, gg⟩
        subst gg
        go_wp2_with fail
        refine (H3.out _).mono ?_
        rintro e w3 ⟨rfl, gg⟩
        subst gg
        go_wp2_with fail
        refine (H4.out _ X1.out).mono ?_
        rintro e w4 ⟨rfl, gg⟩
        have X2 := Lib.hid (bel_trans X1.out gg); clear gg
        go_wp2
        go_returns
        exact ⟨rfl, X2.out⟩
theorem ckk_any (v : Value) (c : Ck) (w : World) (hv : CkV w v c) :
    Calls Tryz.prog 20 #[v] w fun e w' => e = .returned (.int .i64 (ccE c)) ∧ Below w.heap.size w w' := by
  obtain ⟨a, cap, rfl, hp, hs, _⟩ := hv
  refine ckk_core c.nm c.ps c.dc (ckE c.pf) (ccE c) (isNm c.nm) (decide (c.ps = 1 ∨ c.ps = 2)) (decide (0 ≤ c.dc ∧ c.dc ≤ 1073741824)) a _ cap w ?_ (Lib.hid fun W => isName_any _ W hs) (Lib.hid fun W => isPos_any _ W) (Lib.hid fun W => isVol_any _ W) (Lib.hid fun W hW => ck_any _ _ W (hp.below hW))
  show _ = _
  unfold ccE
  simp only [decide_eq_true_eq]
  by_cases h1 : isNm c.nm = true
  · rw [if_pos h1, if_pos h1]
    by_cases h2 : c.ps = 1 ∨ c.ps = 2
    · rw [if_pos h2]
      by_cases h3 : 0 ≤ c.dc ∧ c.dc ≤ 1073741824
      · rw [if_pos h3, if_neg (by omega)]
      · rw [if_neg h3, if_pos (by omega)]
    · rw [if_neg h2, if_pos (by omega)]
  · rw [if_neg h1, if_neg h1]
end Go.Proofs.YtpnlfeljmpfeoaaGreatDoor

/- Package cask: outside. -/
namespace Go.Proofs.YtpnlfeljmpfeoaaGreatDoor
open Go.RowKit

/-- a block with three cells -/
def Tri (b : Nat) (W : World) (x y z : Value) : Prop := W.cell? ⟨b, 0, none⟩ = some x ∧ W.cell? ⟨b, 1, none⟩ = some y ∧ W.cell? ⟨b, 2, none⟩ = some z ∧ (∀ k, k < 3 → W.frozen? ⟨b, k, none⟩ = false) ∧ b < W.heap.size
theorem Tri.below {b : Nat} {W W' : World} {x y z : Value} (h : Tri b W x y z) (hb : Below W.heap.size W W') : Tri b W' x y z := by
  obtain ⟨h0, h1, h2, h4, h5⟩ := h
  exact ⟨by rw [(bcell hb).1 _ _ h5]; exact h0, by rw [(bcell hb).1 _ _ h5]; exact h1, by rw [(bcell hb).1 _ _ h5]; exact h2, fun k hk => by rw [(bcell hb).2 _ _ h5]; exact h4 k hk, Nat.lt_of_lt_of_le h5 hb.size⟩
theorem Tri.alloc {b : Nat} {W : World} {x y z : Value} (h : Tri b W x y z) (o : Obj) : Tri b (W.alloc o) x y z := h.below (bel_alloc (Below.refl _ _))
theorem Tri.new (W : World) (x y z : Value) (T : TypeId) : Tri W.heap.size (W.alloc (.cells #[x, y, z] T)) x y z :=
  ⟨by simp [go_sem], by simp [go_sem], by simp [go_sem], fun k _ => by simp [go_sem], by simp⟩
theorem Tri.grown {b : Nat} {W W' : World} {row : Option Nat} {x y z : Value} (h : Tri b W x y z) (hg : W.grownBy W' row) (hr : some b ≠ row) : Tri b W' x y z := by
  obtain ⟨h0, h1, h2, h3, h4⟩ := h
  have e := hg.block b h4 hr
  exact ⟨by rw [World.cell?_of_block (w := W) e]; exact h0, by rw [World.cell?_of_block (w := W) e]; exact h1, by rw [World.cell?_of_block (w := W) e]; exact h2, fun k hk => by rw [World.frozen?_of_block (w := W) e]; exact h3 k hk, Nat.lt_of_lt_of_le h4 hg.size⟩
theorem Tri.other {b : Nat} {W : World} {x y z : Value} (h : Tri b W x y z) (p : Addr) (hp : p.block ≠ b) (v : Value) : Tri b (W.setCell p v) x y z := by
  obtain ⟨h0, h1, h2, h3, h4⟩ := h
  refine ⟨?_, ?_, ?_, fun k hk => by rw [World.frozen?_setCell]; exact h3 k hk, by simpa [World.setCell] using h4⟩
  all_goals
    rw [World.cell?_setCell_other _ _ _ _ (by intro e; apply hp; rw [e])]
    assumption
theorem Tri.set0 {b : Nat} {W : World} {x y z : Value} (h : Tri b W x y z) (v : Value) : Tri b (W.setCell ⟨b, 0, none⟩ v) v y z := by
  obtain ⟨h0, h1, h2, h3, h4⟩ := h
  refine ⟨World.cell?_setCell_same _ _ _ h0, ?_, ?_, fun k hk => by rw [World.frozen?_setCell]; exact h3 k hk, by simpa [World.setCell] using h4⟩
  · rw [World.cell?_setCell_other _ _ _ _ (by simp)]; exact h1
  · rw [World.cell?_setCell_other _ _ _ _ (by simp)]; exact h2
theorem Tri.set1 {b : Nat} {W : World} {x y z : Value} (h : Tri b W x y z) (v : Value) : Tri b (W.setCell ⟨b, 1, none⟩ v) x v z := by
  obtain ⟨h0, h1, h2, h3, h4⟩ := h
  refine ⟨?_, World.cell?_setCell_same _ _ _ h1, ?_, fun k hk => by rw [World.frozen?_setCell]; exact h3 k hk, by simpa [World.setCell] using h4⟩
  · rw [World.cell?_setCell_other _ _ _ _ (by simp)]; exact h0
  · rw [World.cell?_setCell_other _ _ _ _ (by simp)]; exact h2
theorem Tri.set2 {b : Nat} {W : World} {x y z : Value} (h : Tri b W x y z) (v : Value) : Tri b (W.setCell ⟨b, 2, none⟩ v) x y v := by
  obtain ⟨h0, h1, h2, h3, h4⟩ := h
  refine ⟨?_, ?_, World.cell?_setCell_same _ _ _ h2, fun k hk => by rw [World.frozen?_setCell]; exact h3 k hk, by simpa [World.setCell] using h4⟩
  · rw [World.cell?_setCell_other _ _ _ _ (by simp)]; exact h0
  · rw [World.cell?_setCell_other _ _ _ _ (by simp)]; exact h1
/-- below B nothing turns but block rb -/
structure Kx (B rb : Nat) (w w' : World) : Prop where
  os : w'.os = w.os
  tape : w'.tape = w.tape
  output : w'.output = w.output
  size : w.heap.size ≤ w'.heap.size
  block : ∀ k, k < B → k ≠ rb → w'.heap[k]? = w.heap[k]?
theorem Kx.refl (B rb : Nat) (w : World) : Kx B rb w w := ⟨rfl, rfl, rfl, Nat.le_refl _, fun _ _ _ => rfl⟩
theorem Kx.trans {B rb : Nat} {a b c : World} (h : Kx B rb a b) (k : Kx B rb b c) : Kx B rb a c :=
  ⟨k.os.trans h.os, k.tape.trans h.tape, k.output.trans h.output, Nat.le_trans h.size k.size, fun i hi hn => (k.block i hi hn).trans (h.block i hi hn)⟩
theorem Kx.of {B rb : Nat} {w w' : World} (h : Below w.heap.size w w') (hB : B ≤ w.heap.size) : Kx B rb w w' := ⟨h.os, h.tape, h.output, h.size, fun k hk _ => h.block k (by omega)⟩
theorem Kx.bel {B rb : Nat} {a b c : World} (h : Kx B rb a b) (hb : Below b.heap.size b c) (hB : B ≤ b.heap.size) : Kx B rb a c := h.trans (Kx.of hb hB)
theorem Kx.set {B rb : Nat} {a b : World} (h : Kx B rb a b) (i : Nat) (v : Value) : Kx B rb a (b.setCell ⟨rb, i, none⟩ v) :=
  h.trans ⟨rfl, rfl, rfl, by simp [World.setCell], fun k _ hn => Below.heap_setCell _ _ _ _ hn⟩
theorem Kx.far {B rb : Nat} {a b : World} (h : Kx B rb a b) (g i : Nat) (hg : B ≤ g) (v : Value) : Kx B rb a (b.setCell ⟨g, i, none⟩ v) :=
  h.trans ⟨rfl, rfl, rfl, by simp [World.setCell], fun k hk _ => Below.heap_setCell _ _ _ _ (by show k ≠ g; omega)⟩
theorem Kx.grown {B rb : Nat} {a b c : World} {row : Option Nat} (h : Kx B rb a b) (hg : b.grownBy c row) (hB : B ≤ b.heap.size) (hr : ∀ k, row = some k → B ≤ k) : Kx B rb a c :=
  h.trans ⟨hg.os, hg.tape, hg.output, hg.size, fun k hk _ => hg.block k (by omega) (fun e => by have := hr k e.symm; omega)⟩
theorem Kx.below {B rb s : Nat} {w w' : World} (h : Kx B rb w w') (h1 : s ≤ B) (h2 : s ≤ rb) : Below s w w' := ⟨h.os, h.tape, h.output, h.size, fun k hk => h.block k (by omega) (by omega)⟩
/-- a row of the call's own is not turned by a store below its base -/
theorem row_far {w : World} {B n size b i : Nat} {e : TypeId} {v z : Value} {xs : List Value} (h : w.ownsRow B e size v n xs) (hb : b < B) : (w.setCell ⟨b, i, none⟩ z).ownsRow B e size v n xs := own_far h hb
def fOut : Value := .func (.func 50) #[] #[]
def fIn : Value := .func (.func 72) #[] #[]
set_option maxHeartbeats 2000000 in
set_option maxRecDepth 100000 in
theorem out_len (rb n cap : Nat) (a : Option Addr) (W : World) (hn : ((n : Int) != 5) = true) :
    Calls Tryz.prog 50 #[.pointer (some ⟨rb, 0, none⟩), .slice a n cap] W fun e w' => e = .returned .nilFunc ∧ Below W.heap.size W w' := by
  go_enter Tryz.func50, Tryz.ntmps50
  go_wp2
  go_returns
  exact ⟨rfl, Below.refl _ _⟩
set_option maxHeartbeats 2000000 in
set_option maxRecDepth 100000 in
theorem out_words (rb b off cap : Nat) (s0 s1 s3 : ByteArray) (W : World) (hb : b < W.heap.size)
    (c0 : W.cell? ⟨b, off, none⟩ = some (.string s0)) (c1 : W.cell? ⟨b, off + 1, none⟩ = some (.string s1)) (c3 : W.cell? ⟨b, off + 3, none⟩ = some (.string s3))
    (h : (s0.toList == [99, 97, 115, 107]) = false ∨ ((s0.toList == [99, 97, 115, 107]) = true ∧ (s1.toList == []) = true) ∨ ((s0.toList == [99, 97, 115, 107]) = true ∧ (s1.toList == []) = false ∧ (s3.toList == [100, 101, 99, 108, 97, 114, 101, 100]) = false)) :
    Calls Tryz.prog 50 #[.pointer (some ⟨rb, 0, none⟩), .slice (some ⟨b, off, none⟩) 5 cap] W fun e w' => e = .returned .nilFunc ∧ Below W.heap.size W w' := by
  rcases h with h | ⟨h, h1⟩ | ⟨h, h1, h3⟩
  all_goals
    go_enter Tryz.func50, Tryz.ntmps50
    go_wp2
    go_returns
    exact ⟨rfl, Below.refl _ _⟩
set_option maxHeartbeats 4000000 in
set_option maxRecDepth 100000 in
theorem out_num (rb b off cap : Nat) (s0 s1 s2 s3 s4 : ByteArray) (p : Int) (k : Bool) (W : World) (hb : b < W.heap.size)
    (C : Hid (∀ W', Below W.heap.size W W' → W'.cell? ⟨b, off, none⟩ = some (.string s0) ∧ W'.cell? ⟨b, off + 1, none⟩ = some (.string s1) ∧ W'.cell? ⟨b, off + 2, none⟩ = some (.string s2) ∧ W'.cell? ⟨b, off + 3, none⟩ = some (.string s3) ∧ W'.cell? ⟨b, off + 4, none⟩ = some (.string s4)))
    (h0 : (s0.toList == [99, 97, 115, 107]) = true) (h1 : (s1.toList == []) = false) (h3 : (s3.toList == [100, 101, 99, 108, 97, 114, 101, 100]) = true)
    (HP : Hid (∀ W', Below W.heap.size W W' → Calls Tryz.prog 70 #[.string s2] W' fun e w' => e = .returned (.int .i64 p) ∧ Below W'.heap.size W' w'))
    (HN : Hid (∀ W', Below W.heap.size W W' → Calls Tryz.prog 71 #[.string s4] W' fun e w' => ∃ n, e = .returned (.tuple #[.int .i64 n, .bool k]) ∧ Below W'.heap.size W' w'))
    (HI : Hid (∀ W', Calls Tryz.prog 40 #[.int .i64 p] W' fun e w' => e = .returned (.bool (decide (p = 1 ∨ p = 2))) ∧ w' = W'))
    (hk : k = false ∨ (k = true ∧ decide (p = 1 ∨ p = 2) = false)) :
    Calls Tryz.prog 50 #[.pointer (some ⟨rb, 0, none⟩), .slice (some ⟨b, off, none⟩) 5 cap] W fun e w' => e = .returned .nilFunc ∧ Below W.heap.size W w' := by
  obtain ⟨c0, c1, c2, c3, c4⟩ := C.out W (Below.refl _ _)
  rcases hk with rfl | ⟨rfl, hk⟩
  · go_enter Tryz.func50, Tryz.ntmps50
    go_wp2_with fail
    refine (HP.out _ (Below.refl _ _)).mono ?_
    rintro e w1 ⟨rfl, gg⟩
    have X := Lib.hid gg; clear gg c0 c1 c2 c3 c4
    obtain ⟨d0, d1, d2, d3, d4⟩ := C.out _ X.out
    go_wp2_with fail
    refine (HN.out _ X.out).mono ?_
    rintro e w2 ⟨n, rfl, gg⟩
    replace X := Lib.hid (bel_trans X.out gg); clear gg
    go_wp2
    go_returns
    exact ⟨rfl, X.out⟩
  · rw [hk] at HI
    clear hk
    go_enter Tryz.func50, Tryz.ntmps50
    go_wp2_with fail
    refine (HP.out _ (Below.refl _ _)).mono ?_
    rintro e w1 ⟨rfl, gg⟩
    have X := Lib.hid gg; clear gg c0 c1 c2 c3 c4
    obtain ⟨d0, d1, d2, d3, d4⟩ := C.out _ X.out
    go_wp2_with fail
    refine (HN.out _ X.out).mono ?_
    rintro e w2 ⟨n, rfl, gg⟩
    replace X := Lib.hid (bel_trans X.out gg); clear gg
    go_wp2_with fail
    refine (HI.out _).mono ?_
    rintro e w3 ⟨rfl, gg⟩
    subst gg
    go_wp2
    go_returns
    exact ⟨rfl, X.out⟩
theorem own_shape {w : World} {B size n : Nat} {e : TypeId} {v : Value} {xs : List Value} (h : w.ownsRow B e size v (n + 1) xs) : ∃ g cap, v = .slice (some ⟨g, 0, none⟩) (n + 1) cap := by
  rcases h.2 with ⟨_, h0⟩ | ⟨g, cap, cur, hv, _⟩
  · omega
  · exact ⟨g, cap, hv⟩
/-- a cask is appended to a row of the call's own, as one step of a region that draws its order -/
theorem step_ck {ops : Array Oper} {o : Oper} {a : Act} {w : World} {K : Act → World → Prop} {Q : Exit → Act → World → Prop} {E : Prop} (hg : o.guard = none) (s x : Operand)
    (hop : o.op = Op.call { callee := Callee.builtin Builtin.append, args := #[s, x], argTypes := #[22, 22] }) (B n g c : Nat) (v : Value) (xs news : List Value) (h4 : news.length = 4) (h1c : ∀ u ∈ news, u.oneCell' = true)
    (hs : a.eval s = v) (hx : a.eval x = .slice (some ⟨g, 0, none⟩) 1 c) (hown : w.ownsRow B 27 4 v n xs) (hn : n ≤ 1000000) (hB : B ≤ w.heap.size)
    (hp : ∀ j u, news[j]? = some u → w.cell? ((⟨g, 0, none⟩ : Addr).add j) = some u)
    (h : ∀ v' w', w'.ownsRow B 27 4 v' (n + 1) (xs ++ news) → w.grownBy w' v.ownBlock → K (a.put o.dst v') w') :
    if Region.wanted o (yielded ops a.tmps) = true then Oper.wp Tryz.prog o a w K Q else E := by
  obtain ⟨i0, hi, hz0, hz1, hz2⟩ := info_parts ck_info
  rw [if_pos (by simp [Region.wanted, hg])]
  exact wp_append_own w s x 22 hop B 27 i0 (.agg #[.string ByteArray.empty, .int .i64 0, .slice none 0 0, .int .i64 0]) 4 56 Tryz.underlying22 hi hz0 hz1 hz2 rfl (by decide) v n _ hs hown ⟨g, 0, none⟩ 1 c news hx h4 hp h1c (by unfold maxLen; omega) (by omega) hB (fun v' w' h1 h2 _ => h v' w' h1 h2)
set_option maxHeartbeats 8000000 in
set_option maxRecDepth 100000 in
theorem out_ok (rb B b off cap m : Nat) (s0 s1 s2 s3 s4 : ByteArray) (p n : Int) (nx op v : Value) (xs : List Value) (W : World) (hb : b < W.heap.size)
    (C : Hid (∀ W', Below W.heap.size W W' → W'.cell? ⟨b, off, none⟩ = some (.string s0) ∧ W'.cell? ⟨b, off + 1, none⟩ = some (.string s1) ∧ W'.cell? ⟨b, off + 2, none⟩ = some (.string s2) ∧ W'.cell? ⟨b, off + 3, none⟩ = some (.string s3) ∧ W'.cell? ⟨b, off + 4, none⟩ = some (.string s4)))
    (h0 : (s0.toList == [99, 97, 115, 107]) = true) (h1 : (s1.toList == []) = false) (h3 : (s3.toList == [100, 101, 99, 108, 97, 114, 101, 100]) = true)
    (HP : Hid (∀ W', Below W.heap.size W W' → Calls Tryz.prog 70 #[.string s2] W' fun e w' => e = .returned (.int .i64 p) ∧ Below W'.heap.size W' w'))
    (HN : Hid (∀ W', Below W.heap.size W W' → Calls Tryz.prog 71 #[.string s4] W' fun e w' => e = .returned (.tuple #[.int .i64 n, .bool true]) ∧ Below W'.heap.size W' w'))
    (HI : Hid (∀ W', Calls Tryz.prog 40 #[.int .i64 p] W' fun e w' => e = .returned (.bool true) ∧ w' = W'))
    (T : Hid (Tri rb W nx v op)) (hrb : rb < B) (hB : Hid (B ≤ W.heap.size)) (hm : m ≤ 1000000) (O : Hid (W.ownsRow B 27 4 v m xs)) :
    Calls Tryz.prog 50 #[.pointer (some ⟨rb, 0, none⟩), .slice (some ⟨b, off, none⟩) 5 cap] W fun e w' => e = .returned fIn ∧ Kx B rb W w' ∧ ∃ v' W1 w1, Below W.heap.size W W1 ∧ W1.grownBy w1 v.ownBlock ∧ w1.ownsRow B 27 4 v' (m + 1) (xs ++ [.string s1, .int .i64 p, .slice none 0 0, .int .i64 n]) ∧ Tri rb w' nx v' (.bool true) ∧ w' = (w1.setCell ⟨rb, 1, none⟩ v').setCell ⟨rb, 2, none⟩ (.bool true) := by
  obtain ⟨c0, c1, c2, c3, c4⟩ := C.out W (Below.refl _ _)
  go_enter Tryz.func50, Tryz.ntmps50
  go_wp2_with fail
  refine (HP.out _ (Below.refl _ _)).mono ?_
  rintro e w1 ⟨rfl, gg⟩
  have X := Lib.hid gg; clear gg c0 c1 c2 c3 c4
  obtain ⟨d0, d1, d2, d3, d4⟩ := C.out _ X.out
  go_wp2_with fail
  refine (HN.out _ X.out).mono ?_
  rintro e w2 ⟨rfl, gg⟩
  clear d0 d1 d2 d3 d4
  replace X := Lib.hid (bel_trans X.out gg); clear gg
  go_wp2_with fail
  refine (HI.out _).mono ?_
  rintro e w3 ⟨rfl, gg⟩
  subst gg
  obtain ⟨d0, d1, d2, d3, d4⟩ := C.out _ X.out
  have T3 := Lib.hid (T.out.below X.out)
  obtain ⟨t0, t1, t2, tf, tlt⟩ := T3.out
  clear d0 d2 d3 d4 HP HN HI h0 h1 h3 C t0 t2 tf tlt
  go_wp2_with fail
  have NW := quad_news w3 (.string s1) (.int .i64 p) (.slice none 0 0) (.int .i64 n) 27
  have HNW : Hid (∀ j u, [Value.string s1, .int .i64 p, .slice none 0 0, .int .i64 n][j]? = some u → ((w3.alloc (.cells #[.string s1, .int .i64 p, .slice none 0 0, .int .i64 n] 27)).drew).cell? ((⟨w3.heap.size, 0, none⟩ : Addr).add j) = some u) := NW
  have O3 : Hid (((w3.alloc (.cells #[.string s1, .int .i64 p, .slice none 0 0, .int .i64 n] 27)).drew).ownsRow B 27 4 v m xs) := Lib.hid (row_bel (row_bel (row_bel O.out X.out) (bel_alloc (Below.refl _ _))) (bel_drew _))
  have T4 : Hid (Tri rb ((w3.alloc (.cells #[.string s1, .int .i64 p, .slice none 0 0, .int .i64 n] 27)).drew) nx v op) := Lib.hid ((T3.out.alloc _).below (bel_drew _))
  have HR : Hid (∀ k, v.ownBlock = some k → B ≤ k) := Lib.hid fun k hk => (World.ownsRow.lt O.out k hk).1
  have HB4 : Hid (B ≤ ((w3.alloc (.cells #[.string s1, .int .i64 p, .slice none 0 0, .int .i64 n] 27)).drew).heap.size) := Lib.hid (Nat.le_trans (Nat.le_trans hB.out X.out.size) (by show w3.heap.size ≤ (w3.alloc _).heap.size; simp))
  have X4 : Hid (Below W.heap.size W ((w3.alloc (.cells #[.string s1, .int .i64 p, .slice none 0 0, .int .i64 n] 27)).drew)) := Lib.hid (bel_trans X.out (bel_trans (bel_alloc (Below.refl _ _)) (bel_drew _)))
  have h1c : Hid (∀ u ∈ [Value.string s1, .int .i64 p, .slice none 0 0, .int .i64 n], u.oneCell' = true) := Lib.hid (by intro u hu; simp at hu; rcases hu with rfl | rfl | rfl | rfl <;> rfl)
  have t1a := (T3.out.alloc (.cells #[.string s1, .int .i64 p, .slice none 0 0, .int .i64 n] 27)).2.1
  clear NW
  go_region_law (first | (refine step_ck rfl (.tmp 51) (.tmp 58) rfl B m w3.heap.size 1 v xs [.string s1, .int .i64 p, .slice none 0 0, .int .i64 n] rfl h1c.out (by simp [Act.eval, Act.put]) (by simp [Act.eval, Act.put]) O3.out hm HB4.out HNW.out ?_; intro v' w5 hown' hgrow; obtain ⟨g', cap', rfl⟩ := own_shape hown'; have T5 := Lib.hid (T4.out.grown hgrow (fun e => by have := HR.out rb e.symm; omega)); have G5 := Lib.hid hgrow; have O5 := Lib.hid hown'; clear hgrow hown'; obtain ⟨y0, y1, y2, yf, ylt⟩ := T5.out; have yf1 := yf 1 (by omega); have yf2 := yf 2 (by omega); clear yf) | fail)
  all_goals
    have KX := Lib.hid ((Kx.of (rb := rb) X4.out hB.out).grown G5.out HB4.out HR.out)
    have T6 := Lib.hid ((T5.out.set1 (.slice (some ⟨g', 0, none⟩) (m + 1) cap')).set2 (.bool true))
    clear d1 t1 t1a
    go_wp2
    go_returns
    exact ⟨rfl, (KX.out.set 1 _).set 2 (.bool true), _, _, w5, X4.out, G5.out, O5.out, T6.out, rfl⟩
end Go.Proofs.YtpnlfeljmpfeoaaGreatDoor

/- Package cask: inside; both states, of a reader. -/
namespace Go.Proofs.YtpnlfeljmpfeoaaGreatDoor
open Go.RowKit

set_option maxHeartbeats 2000000 in
set_option maxRecDepth 100000 in
theorem in_end (rb b off cap : Nat) (s0 : ByteArray) (nx v op : Value) (W : World) (hb : b < W.heap.size)
    (c0 : W.cell? ⟨b, off, none⟩ = some (.string s0)) (h : (s0.toList == [101, 110, 100]) = true) (T : Hid (Tri rb W nx v op)) :
    Calls Tryz.prog 72 #[.pointer (some ⟨rb, 0, none⟩), .slice (some ⟨b, off, none⟩) 1 cap] W fun e w' => e = .returned fOut ∧ w' = W.setCell ⟨rb, 2, none⟩ (.bool false) := by
  obtain ⟨t0, t1, t2, tf, _⟩ := T.out
  have f2 := tf 2 (by omega)
  clear tf t0 t1
  go_enter Tryz.func72, Tryz.ntmps72
  go_wp2
  go_returns
  exact ⟨rfl, rfl⟩
set_option maxHeartbeats 2000000 in
set_option maxRecDepth 100000 in
theorem in_len (rb n cap : Nat) (a : Option Addr) (W : World)
    (h : (((n : Int) == 1) = false ∧ ((n : Int) != 4) = true) ∨ (n = 1 ∧ ∃ b off s0, a = some ⟨b, off, none⟩ ∧ b < W.heap.size ∧ W.cell? ⟨b, off, none⟩ = some (.string s0) ∧ (s0.toList == [101, 110, 100]) = false)) :
    Calls Tryz.prog 72 #[.pointer (some ⟨rb, 0, none⟩), .slice a n cap] W fun e w' => e = .returned .nilFunc ∧ Below W.heap.size W w' := by
  rcases h with ⟨h1, h4⟩ | ⟨rfl, b, off, s0, rfl, hb, c0, h0⟩
  all_goals
    go_enter Tryz.func72, Tryz.ntmps72
    go_wp2
    go_returns
    exact ⟨rfl, Below.refl _ _⟩
set_option maxHeartbeats 2000000 in
set_option maxRecDepth 100000 in
theorem in_words (rb b off cap : Nat) (s0 s2 : ByteArray) (W : World) (hb : b < W.heap.size)
    (c0 : W.cell? ⟨b, off, none⟩ = some (.string s0)) (c2 : W.cell? ⟨b, off + 2, none⟩ = some (.string s2))
    (h : (s0.toList == [97, 116]) = false ∨ ((s0.toList == [97, 116]) = true ∧ (s2.toList == [114, 97, 100, 105, 117, 115]) = false)) :
    Calls Tryz.prog 72 #[.pointer (some ⟨rb, 0, none⟩), .slice (some ⟨b, off, none⟩) 4 cap] W fun e w' => e = .returned .nilFunc ∧ Below W.heap.size W w' := by
  rcases h with h | ⟨h, h1⟩
  all_goals
    go_enter Tryz.func72, Tryz.ntmps72
    go_wp2
    go_returns
    exact ⟨rfl, Below.refl _ _⟩
set_option maxHeartbeats 4000000 in
set_option maxRecDepth 100000 in
theorem in_num (rb b off cap : Nat) (s0 s1 s2 s3 : ByteArray) (k1 k2 : Bool) (W : World) (hb : b < W.heap.size)
    (C : Hid (∀ W', Below W.heap.size W W' → W'.cell? ⟨b, off, none⟩ = some (.string s0) ∧ W'.cell? ⟨b, off + 1, none⟩ = some (.string s1) ∧ W'.cell? ⟨b, off + 2, none⟩ = some (.string s2) ∧ W'.cell? ⟨b, off + 3, none⟩ = some (.string s3)))
    (h0 : (s0.toList == [97, 116]) = true) (h2 : (s2.toList == [114, 97, 100, 105, 117, 115]) = true)
    (H1 : Hid (∀ W', Below W.heap.size W W' → Calls Tryz.prog 71 #[.string s1] W' fun e w' => ∃ x, e = .returned (.tuple #[.int .i64 x, .bool k1]) ∧ Below W'.heap.size W' w'))
    (H2 : Hid (∀ W', Below W.heap.size W W' → Calls Tryz.prog 71 #[.string s3] W' fun e w' => ∃ y, e = .returned (.tuple #[.int .i64 y, .bool k2]) ∧ Below W'.heap.size W' w'))
    (hk : k1 = false ∨ (k1 = true ∧ k2 = false)) :
    Calls Tryz.prog 72 #[.pointer (some ⟨rb, 0, none⟩), .slice (some ⟨b, off, none⟩) 4 cap] W fun e w' => e = .returned .nilFunc ∧ Below W.heap.size W w' := by
  obtain ⟨c0, c1, c2, c3⟩ := C.out W (Below.refl _ _)
  rcases hk with rfl | ⟨rfl, rfl⟩
  all_goals
    go_enter Tryz.func72, Tryz.ntmps72
    go_wp2_with fail
    refine (H1.out _ (Below.refl _ _)).mono ?_
    rintro e w1 ⟨x, rfl, gg⟩
    have X := Lib.hid gg; clear gg c0 c1 c2 c3
    obtain ⟨d0, d1, d2, d3⟩ := C.out _ X.out
    go_wp2_with fail
    refine (H2.out _ X.out).mono ?_
    rintro e w2 ⟨y, rfl, gg⟩
    replace X := Lib.hid (bel_trans X.out gg); clear gg
    go_wp2
    go_returns
    exact ⟨rfl, X.out⟩
theorem two_news (w : World) (x y : Int) : ∀ j v, [Value.int .i64 x, .int .i64 y][j]? = some v → (w.alloc (.cells #[.int .i64 x, .int .i64 y] 46)).cell? ((⟨w.heap.size, 0, none⟩ : Addr).add j) = some v := two_cells_new w x y _
set_option maxHeartbeats 8000000 in
set_option maxRecDepth 100000 in
theorem in_ok (rb B b off cap : Nat) (s0 s1 s2 s3 : ByteArray) (x y : Int) (nx v op p : Value) (l : List Ck) (ps : List Value) (c : Ck) (W : World) (hb : b < W.heap.size)
    (C : Hid (∀ W', Below W.heap.size W W' → W'.cell? ⟨b, off, none⟩ = some (.string s0) ∧ W'.cell? ⟨b, off + 1, none⟩ = some (.string s1) ∧ W'.cell? ⟨b, off + 2, none⟩ = some (.string s2) ∧ W'.cell? ⟨b, off + 3, none⟩ = some (.string s3)))
    (h0 : (s0.toList == [97, 116]) = true) (h2 : (s2.toList == [114, 97, 100, 105, 117, 115]) = true)
    (H1 : Hid (∀ W', Below W.heap.size W W' → Calls Tryz.prog 71 #[.string s1] W' fun e w' => e = .returned (.tuple #[.int .i64 x, .bool true]) ∧ Below W'.heap.size W' w'))
    (H2 : Hid (∀ W', Below W.heap.size W W' → Calls Tryz.prog 71 #[.string s3] W' fun e w' => e = .returned (.tuple #[.int .i64 y, .bool true]) ∧ Below W'.heap.size W' w'))
    (T : Hid (Tri rb W nx v op)) (hrb : rb < B) (hB : Hid (B ≤ W.heap.size)) (hl : l.length ≤ 1000000) (hpl : c.pf.length ≤ 1000000) (O : Hid (OwnO W B v l ps c p)) :
    Calls Tryz.prog 72 #[.pointer (some ⟨rb, 0, none⟩), .slice (some ⟨b, off, none⟩) 4 cap] W fun e w' => e = .returned fIn ∧ Kx B rb W w' ∧ Tri rb w' nx v op ∧ ∃ p', OwnO w' B v l ps ⟨c.nm, c.ps, c.pf ++ [(x, y)], c.dc⟩ p' := by
  obtain ⟨i0, hi0, hz0, hz1, hz2⟩ := info_parts pt_info
  have hi0 := Lib.hid hi0
  have hz0 := Lib.hid hz0
  have hz1 := Lib.hid hz1
  have hz2 := Lib.hid hz2
  obtain ⟨c0, c1, c2, c3⟩ := C.out W (Below.refl _ _)
  obtain ⟨g, cp, rfl, ⟨hg0, hg1⟩, _, _⟩ := O.out.cells
  have wk : IntKind.i64.wrap ((l.length : Int) + 1 - 1) = (l.length : Int) := by simp only [IntKind.wrap_i64]; omega
  have wk2 : IntKind.i64.wrap (l.length : Int) = (l.length : Int) := by simp only [IntKind.wrap_i64]; omega
  have li : (l.length : Int) < (l.length : Int) + 1 := by omega
  have l0 : 0 ≤ (l.length : Int) := by omega
  go_enter Tryz.func72, Tryz.ntmps72
  go_wp2_with fail
  refine (H1.out _ (Below.refl _ _)).mono ?_
  rintro e w1 ⟨rfl, gg⟩
  have X := Lib.hid gg; clear gg c0 c1 c2 c3
  obtain ⟨d0, d1, d2, d3⟩ := C.out _ X.out
  go_wp2_with fail
  refine (H2.out _ X.out).mono ?_
  rintro e w2 ⟨rfl, gg⟩
  replace X := Lib.hid (bel_trans X.out gg); clear gg d0 d1 d2 d3
  have T3 := Lib.hid (T.out.below X.out)
  have O3 := Lib.hid (O.out.below X.out)
  obtain ⟨t0, t1, t2, tf, tlt⟩ := T3.out
  obtain ⟨s0', s1'⟩ := O3.out.still rfl (row_grown_refl _ _)
  clear t0 t2 tf
  go_wp2_with fail
  clear H1 H2 C h0 h2
  go_quiet (fail)
  rename_i nq
  have T4 := Lib.hid (T3.out.below (bel_drewN w2 nq))
  have O4 := Lib.hid (O3.out.below (bel_drewN w2 nq))
  have X4 := Lib.hid (bel_trans X.out (bel_drewN w2 nq))
  have HP4 : Hid (((w2.drewN nq).alloc (.cells #[.int .i64 x, .int .i64 y] 46)).ownsRow B 46 2 p c.pf.length (flat c.pf)) := Lib.hid (row_bel O4.out.2.2.2 (bel_alloc (Below.refl _ _)))
  have HN4 : Hid (∀ j u, [Value.int .i64 x, .int .i64 y][j]? = some u → ((w2.drewN nq).alloc (.cells #[.int .i64 x, .int .i64 y] 46)).cell? ((⟨w2.heap.size, 0, none⟩ : Addr).add j) = some u) := Lib.hid (two_news (w2.drewN nq) x y)
  have O5 := Lib.hid (O4.out.below (bel_alloc (o := .cells #[.int .i64 x, .int .i64 y] 46) (Below.refl _ _)))
  have T5 := Lib.hid (T4.out.alloc (.cells #[.int .i64 x, .int .i64 y] 46))
  have X5 := Lib.hid (bel_trans X4.out (bel_alloc (o := .cells #[.int .i64 x, .int .i64 y] 46) (Below.refl _ _)))
  have HB5 : Hid (B ≤ ((w2.drewN nq).alloc (.cells #[.int .i64 x, .int .i64 y] 46)).heap.size) := Lib.hid (Nat.le_trans hB.out X5.out.size)
  go_wp2_with (at_builtin; refine wpList_append_own_at _ rfl _ _ 25 rfl B 46 i0 (.agg #[.int .i64 0, .int .i64 0]) 2 16 Tryz.underlying25 hi0.out hz0.out hz1.out hz2.out rfl (by omega) _ _ _ rfl HP4.out ⟨w2.heap.size, 0, none⟩ 1 1 [.int .i64 x, .int .i64 y] rfl rfl HN4.out ?qa ?qb ?qc HB5.out ?_)
  case qa => intro u hu; simp at hu; rcases hu with rfl | rfl <;> rfl
  case qb => unfold maxLen; omega
  case qc => omega
  intro v' w5 hown hgrow _ hat
  have hg5 : Hid (∀ k, p.ownBlock = some k → B ≤ k) := Lib.hid fun k hk => (World.ownsRow.lt HP4.out k hk).1
  obtain ⟨y0, y1⟩ := O5.out.still rfl hgrow
  obtain ⟨g', cap', rfl⟩ := own_shape hown
  have T6 := Lib.hid (T5.out.grown hgrow (fun e => by have := hg5.out rb e.symm; omega))
  have OP : OwnP w5 B (.slice (some ⟨g', 0, none⟩) (c.pf.length + 1) cap') (c.pf ++ [(x, y)]) := by
    show World.ownsRow _ _ _ _ _ _ _
    rw [List.length_append, flat_app]
    exact hown
  have OQ := Lib.hid (O5.out.push (c' := ⟨c.nm, c.ps, c.pf ++ [(x, y)], c.dc⟩) rfl hgrow OP (by rw [World.size_alloc]; exact hat) ⟨rfl, rfl, rfl⟩)
  have KX := Lib.hid (((Kx.of (rb := rb) X5.out hB.out).grown hgrow HB5.out hg5.out).far g (l.length * 4 + 2) hg0 (.slice (some ⟨g', 0, none⟩) (c.pf.length + 1) cap'))
  have T7 := Lib.hid (T6.out.other ⟨g, l.length * 4 + 2, none⟩ (by show g ≠ rb; omega) (.slice (some ⟨g', 0, none⟩) (c.pf.length + 1) cap'))
  clear hown hgrow hat OP s0' s1' t1 tlt
  go_wp2
  go_returns
  exact ⟨rfl, KX.out, T7.out, _, OQ.out⟩
end Go.Proofs.YtpnlfeljmpfeoaaGreatDoor

/- Package cask: the states of a reader, whatever the line. -/
namespace Go.Proofs.YtpnlfeljmpfeoaaGreatDoor
open Go.RowKit

/-- the state for the next line -/
def fNx (b : Bool) : Value := if b = true then fIn else fOut
/-- what a state function does -/
def StP (B rb : Nat) (nx : Value) (st : Bool × List Ck) (line : List UInt8) (W w' : World) (nf : Value) : Prop :=
  Kx B rb W w' ∧ ((∃ st' v', lst st line = some st' ∧ nf = fNx st'.1 ∧ Tri rb w' nx v' (.bool st'.1) ∧ RowP w' B v' st') ∨ (lst st line = none ∧ nf = .nilFunc ∧ ∃ v', Tri rb w' nx v' (.bool st.1)))
theorem beq_lit (s : ByteArray) (l : List UInt8) : (s.toList == l) = decide (s.data.toList = l) := by
  rw [ByteArray.toList_eq]
  by_cases h : s.data.toList = l
  · rw [decide_eq_true h, h]; simp
  · rw [decide_eq_false h]; rw [beq_eq_false_iff_ne]; exact h
theorem number_no (s : ByteArray) (w : World) (hw : CV w) (hs : s.size ≤ 100000) (h : num s.data.toList = none) :
    Calls Tryz.prog 71 #[.string s] w fun e w' => ∃ n, e = .returned (.tuple #[.int .i64 n, .bool false]) ∧ Below w.heap.size w w' :=
  (number_any s w hw hs).mono fun _ _ ⟨n, b, e1, e2, _, e4⟩ => ⟨n, by rw [e1, e2, h]; rfl, e4⟩
theorem number_yes (s : ByteArray) (u : Int) (w : World) (hw : CV w) (hs : s.size ≤ 100000) (h : num s.data.toList = some u) :
    Calls Tryz.prog 71 #[.string s] w fun e w' => e = .returned (.tuple #[.int .i64 u, .bool true]) ∧ Below w.heap.size w w' :=
  (number_any s w hw hs).mono fun _ _ ⟨n, b, e1, e2, e3, e4⟩ => ⟨by rw [e1, e2, e3 u h, h]; rfl, e4⟩
theorem OwnO.far {w : World} {B b i : Nat} {v z : Value} {l : List Ck} {ps : List Value} {c : Ck} {p : Value} (h : OwnO w B v l ps c p) (hb : b < B) : OwnO (w.setCell ⟨b, i, none⟩ z) B v l ps c p := by
  obtain ⟨h1, h2, h3, h4⟩ := h
  exact ⟨h1, own_far h2 hb, fun q hq => ⟨own_far (h3 q hq).1 hb, (h3 q hq).2⟩, own_far h4 hb⟩
theorem kx_bel {B rb : Nat} {W w' : World} (h : Below W.heap.size W w') (hB : B ≤ W.heap.size) : Kx B rb W w' := Kx.of h hB
theorem outside_any (rb B : Nat) (l : List Ck) (nx v wv : Value) (o : List ByteArray) (line : List UInt8) (W : World) (hW : CV W) (T : Tri rb W nx v (.bool false)) (R : RowP W B v (false, l)) (hrb : rb < B) (hB : B ≤ W.heap.size)
    (WD : Wds W wv o) (hso : ∀ x ∈ o, x.size ≤ 100000) (hD : l.length ≤ 70000) (hl : wsL o = wsR line) :
    Calls Tryz.prog 50 #[.pointer (some ⟨rb, 0, none⟩), wv] W fun e w' => ∃ nf, e = .returned nf ∧ StP B rb nx (false, l) line W w' nf := by
  have bad : lst (false, l) line = none → ∀ e w', e = Ending.returned Value.nilFunc ∧ Below W.heap.size W w' → ∃ nf, e = .returned nf ∧ StP B rb nx (false, l) line W w' nf := fun h e w' g =>
    ⟨_, g.1, kx_bel g.2 hB, .inr ⟨h, rfl, v, T.below g.2⟩⟩
  have hlst := lst_out l line
  rw [← hl] at hlst
  obtain ⟨a, cap, rfl, ⟨hc1, hc2⟩, hss, hh⟩ := WD
  by_cases h5 : o.length = 5
  · rcases hh with hh | ⟨b, off, rfl, hb, hcs⟩
    · omega
    · obtain ⟨x0, x1, x2, x3, x4, rfl⟩ : ∃ x0 x1 x2 x3 x4, o = [x0, x1, x2, x3, x4] := by
        match o, h5 with
        | [x0, x1, x2, x3, x4], _ => exact ⟨_, _, _, _, _, rfl⟩
      have C : Hid (∀ W', Below W.heap.size W W' → W'.cell? ⟨b, off, none⟩ = some (.string x0) ∧ W'.cell? ⟨b, off + 1, none⟩ = some (.string x1) ∧ W'.cell? ⟨b, off + 2, none⟩ = some (.string x2) ∧ W'.cell? ⟨b, off + 3, none⟩ = some (.string x3) ∧ W'.cell? ⟨b, off + 4, none⟩ = some (.string x4)) := Lib.hid fun W' hW' => by
        have e := fun j => (bcell hW').1 b (off + j) hb
        exact ⟨(e 0).trans (hcs 0 (by simp)), (e 1).trans (hcs 1 (by simp)), (e 2).trans (hcs 2 (by simp)), (e 3).trans (hcs 3 (by simp)), (e 4).trans (hcs 4 (by simp))⟩
      obtain ⟨c0, c1, c2, c3, c4⟩ := C.out W (Below.refl _ _)
      have hhd : hd (wsL [x0, x1, x2, x3, x4]) = if x0.data.toList = wCask ∧ (x2.data.toList = wLy ∨ x2.data.toList = wSt) ∧ x3.data.toList = wDe then (num x4.data.toList).map (fun v => ⟨⟨x1.data.toList.toArray⟩, if x2.data.toList = wLy then 1 else 2, [], v⟩) else none := rfl
      by_cases k0 : x0.data.toList = wCask
      · by_cases k1 : x1.data.toList = []
        · have hn : lst (false, l) line = none := by
            rw [hlst]
            cases e : hd (wsL [x0, x1, x2, x3, x4]) with
            | none => rfl
            | some c =>
              rw [hhd] at e
              split at e
              · cases e2 : num x4.data.toList with
                | none => rw [e2] at e; cases e
                | some u =>
                  rw [e2] at e
                  simp only [Option.map_some, Option.some.injEq] at e
                  subst e
                  simp only [k1]
                  rfl
              · cases e
          exact (out_words rb b off cap x0 x1 x3 W hb c0 c1 c3 (.inr (.inl ⟨by rw [beq_lit]; exact decide_eq_true k0, by rw [beq_lit]; exact decide_eq_true k1⟩))).mono (bad hn)
        · by_cases k3 : x3.data.toList = wDe
          · have q0 : (x0.toList == [99, 97, 115, 107]) = true := by rw [beq_lit]; exact decide_eq_true k0
            have q1 : (x1.toList == []) = false := by rw [beq_lit]; exact decide_eq_false k1
            have q3 : (x3.toList == [100, 101, 99, 108, 97, 114, 101, 100]) = true := by rw [beq_lit]; exact decide_eq_true k3
            have HP : Hid (∀ W', Below W.heap.size W W' → _) := Lib.hid fun W' hW' => place_any x2 W' (hW.below hW')
            have HI := Lib.hid (fun W' => isPos_any (plQ x2.data.toList) W')
            have hpl : decide (plQ x2.data.toList = 1 ∨ plQ x2.data.toList = 2) = decide (x2.data.toList = wLy ∨ x2.data.toList = wSt) := by
              unfold plQ
              by_cases q1 : x2.data.toList = wLy
              · rw [if_pos q1]; simp [q1]
              · rw [if_neg q1]
                by_cases q2 : x2.data.toList = wSt
                · rw [if_pos q2]; simp [q2]
                · rw [if_neg q2]; simp [q1, q2]
            by_cases k2 : x2.data.toList = wLy ∨ x2.data.toList = wSt
            · cases hnum : num x4.data.toList with
              | none =>
                have hn : lst (false, l) line = none := by
                  rw [hlst, hhd, if_pos ⟨k0, k2, k3⟩, hnum]; rfl
                exact (out_num rb b off cap x0 x1 x2 x3 x4 _ false W hb C q0 q1 q3 HP (Lib.hid fun W' hW' => number_no x4 W' (hW.below hW') (hso x4 (by simp)) hnum) HI (.inl rfl)).mono (bad hn)
              | some u =>
                have hpos : decide (plQ x2.data.toList = 1 ∨ plQ x2.data.toList = 2) = true := by rw [hpl]; exact decide_eq_true k2
                rw [hpos] at HI
                have hc : lst (false, l) line = some (true, l ++ [⟨x1, plQ x2.data.toList, [], u⟩]) := by
                  rw [hlst, hhd, if_pos ⟨k0, k2, k3⟩, hnum]
                  have e : (if x2.data.toList = wLy then (1 : Int) else 2) = plQ x2.data.toList := by
                    unfold plQ
                    by_cases z1 : x2.data.toList = wLy
                    · rw [if_pos z1, if_pos z1]
                    · rw [if_neg z1, if_neg z1, if_pos (k2.resolve_left z1)]
                  simp only [Option.map_some, toA, e, k1]
                  rfl
                have hO : OwnC W B v l := by
                  rcases R with ⟨_, h⟩ | ⟨h, _⟩
                  · exact h
                  · cases h
                obtain ⟨ps, o1, o2, o3⟩ := hO
                refine (out_ok rb B b off cap l.length x0 x1 x2 x3 x4 _ u nx (.bool false) v _ W hb C q0 q1 q3 HP (Lib.hid fun W' hW' => number_yes x4 u W' (hW.below hW') (hso x4 (by simp)) hnum) HI (Lib.hid T) hrb (Lib.hid hB) (by omega) (Lib.hid o2)).mono ?_
                rintro e w' ⟨rfl, g1, v', W1, w1, g2, g3, g4, g5, rfl⟩
                refine ⟨_, rfl, g1, .inl ⟨_, v', hc, rfl, g5, .inr ⟨rfl, l, ps, _, .slice none 0 0, rfl, ?_⟩⟩⟩
                have hb1 : OwnO w1 B v' l ps ⟨x1, plQ x2.data.toList, [], u⟩ (.slice none 0 0) := OwnC.begin o1 (row_bel o2 g2) (fun q hq => row_bel (o3 q hq) g2) g3 rfl g4
                exact (hb1.far (i := 1) hrb).far (i := 2) hrb
            · have hn : lst (false, l) line = none := by
                rw [hlst, hhd, if_neg (fun q => k2 q.2.1)]
              have hpos : decide (plQ x2.data.toList = 1 ∨ plQ x2.data.toList = 2) = false := by rw [hpl]; exact decide_eq_false k2
              cases hk : (num x4.data.toList).isSome with
              | false => exact (out_num rb b off cap x0 x1 x2 x3 x4 _ false W hb C q0 q1 q3 HP (Lib.hid fun W' hW' => number_no x4 W' (hW.below hW') (hso x4 (by simp)) (by simpa using hk)) HI (.inl rfl)).mono (bad hn)
              | true => exact (out_num rb b off cap x0 x1 x2 x3 x4 _ true W hb C q0 q1 q3 HP (Lib.hid fun W' hW' => (number_any x4 W' (hW.below hW') (hso x4 (by simp))).mono fun _ _ ⟨n, b, e1, e2, _, e4⟩ => ⟨n, by rw [e1, e2, hk], e4⟩) HI (.inr ⟨rfl, hpos⟩)).mono (bad hn)
          · have hn : lst (false, l) line = none := by
              rw [hlst, hhd, if_neg (fun q => k3 q.2.2)]
            exact (out_words rb b off cap x0 x1 x3 W hb c0 c1 c3 (.inr (.inr ⟨by rw [beq_lit]; exact decide_eq_true k0, by rw [beq_lit]; exact decide_eq_false k1, by rw [beq_lit]; exact decide_eq_false k3⟩))).mono (bad hn)
      · have hn : lst (false, l) line = none := by
          rw [hlst, hhd, if_neg (fun q => k0 q.1)]
        exact (out_words rb b off cap x0 x1 x3 W hb c0 c1 c3 (.inl (by rw [beq_lit]; exact decide_eq_false k0))).mono (bad hn)
  · have hn : lst (false, l) line = none := by
      rw [hlst]
      have : hd (wsL o) = none := by
        have h6 : (wsL o).length ≠ 5 := by unfold wsL; rw [List.length_map]; exact h5
        unfold hd
        split
        · rename_i e; rw [e] at h6; simp at h6
        · rfl
      rw [this]
    exact (out_len rb o.length cap a W (by simp only [bne_iff_ne, ne_eq]; omega)).mono (bad hn)
theorem inside_any (rb B : Nat) (l : List Ck) (nx v wv : Value) (o : List ByteArray) (line : List UInt8) (W : World) (hW : CV W) (T : Tri rb W nx v (.bool true)) (R : RowP W B v (true, l)) (hrb : rb < B) (hB : B ≤ W.heap.size)
    (WD : Wds W wv o) (hso : ∀ x ∈ o, x.size ≤ 100000) (hD : BdP 70000 (true, l)) (hl : wsL o = wsR line) :
    Calls Tryz.prog 72 #[.pointer (some ⟨rb, 0, none⟩), wv] W fun e w' => ∃ nf, e = .returned nf ∧ StP B rb nx (true, l) line W w' nf := by
  have bad : lst (true, l) line = none → ∀ e w', e = Ending.returned Value.nilFunc ∧ Below W.heap.size W w' → ∃ nf, e = .returned nf ∧ StP B rb nx (true, l) line W w' nf := fun h e w' g =>
    ⟨_, g.1, kx_bel g.2 hB, .inr ⟨h, rfl, v, T.below g.2⟩⟩
  have hlst := lst_in l line
  rw [← hl] at hlst
  obtain ⟨l0, ps, c, p, rfl, hO⟩ : ∃ l0 ps c p, l = l0 ++ [c] ∧ OwnO W B v l0 ps c p := by
    rcases R with ⟨h, _⟩ | ⟨_, l0, ps, c, p, h1, h2⟩
    · cases h
    · exact ⟨l0, ps, c, p, h1, h2⟩
  obtain ⟨a, cap, rfl, ⟨hc1, hc2⟩, hss, hh⟩ := WD
  by_cases h1 : o.length = 1
  · rcases hh with hh | ⟨b, off, rfl, hb, hcs⟩
    · omega
    · obtain ⟨x0, rfl⟩ : ∃ x0, o = [x0] := List.length_eq_one_iff.1 h1
      have c0 := hcs 0 (by simp)
      rw [Nat.add_zero] at c0
      have c0 : W.cell? ⟨b, off, none⟩ = some (.string x0) := c0
      have hw : wsL [x0] = [x0.data.toList] := rfl
      by_cases k0 : x0.data.toList = wEn
      · have hc : lst (true, l0 ++ [c]) line = some (false, l0 ++ [c]) := by
          rw [hlst, hw, k0, if_pos rfl]
        refine (in_end rb b off cap x0 nx v (.bool true) W hb c0 (by rw [beq_lit]; exact decide_eq_true k0) (Lib.hid T)).mono ?_
        rintro e w' ⟨rfl, rfl⟩
        exact ⟨_, rfl, (Kx.refl B rb W).set 2 _, .inl ⟨_, v, hc, rfl, T.set2 _, .inl ⟨rfl, (hO.far hrb).close⟩⟩⟩
      · have hn : lst (true, l0 ++ [c]) line = none := by
          rw [hlst, hw, if_neg (fun e => k0 (by simpa using e))]
          rw [pnt_len _ (by simp)]; rfl
        exact (in_len rb 1 cap _ W (.inr ⟨rfl, b, off, x0, rfl, hb, c0, by rw [beq_lit]; exact decide_eq_false k0⟩)).mono (bad hn)
  · have hne : wsL o ≠ [wEn] := fun e => h1 (by have := congrArg List.length e; simpa [wsL] using this)
    rw [if_neg hne] at hlst
    by_cases h4 : o.length = 4
    · rcases hh with hh | ⟨b, off, rfl, hb, hcs⟩
      · omega
      · obtain ⟨x0, x1, x2, x3, rfl⟩ : ∃ x0 x1 x2 x3, o = [x0, x1, x2, x3] := by
          match o, h4 with
          | [x0, x1, x2, x3], _ => exact ⟨_, _, _, _, rfl⟩
        have C : Hid (∀ W', Below W.heap.size W W' → W'.cell? ⟨b, off, none⟩ = some (.string x0) ∧ W'.cell? ⟨b, off + 1, none⟩ = some (.string x1) ∧ W'.cell? ⟨b, off + 2, none⟩ = some (.string x2) ∧ W'.cell? ⟨b, off + 3, none⟩ = some (.string x3)) := Lib.hid fun W' hW' => by
          have e := fun j => (bcell hW').1 b (off + j) hb
          exact ⟨(e 0).trans (hcs 0 (by simp)), (e 1).trans (hcs 1 (by simp)), (e 2).trans (hcs 2 (by simp)), (e 3).trans (hcs 3 (by simp))⟩
        obtain ⟨c0, c1, c2, c3⟩ := C.out W (Below.refl _ _)
        have hpn : pnt (wsL [x0, x1, x2, x3]) = if x0.data.toList = wAt ∧ x2.data.toList = wRa then (match num x1.data.toList, num x3.data.toList with | some u, some v => some (u, v) | _, _ => none) else none := rfl
        by_cases k0 : x0.data.toList = wAt
        · by_cases k2 : x2.data.toList = wRa
          · have q0 : (x0.toList == [97, 116]) = true := by rw [beq_lit]; exact decide_eq_true k0
            have q2 : (x2.toList == [114, 97, 100, 105, 117, 115]) = true := by rw [beq_lit]; exact decide_eq_true k2
            have NX : ∀ x ∈ [x0, x1, x2, x3], ∀ k, (num x.data.toList).isSome = k → Hid (∀ W', Below W.heap.size W W' → Calls Tryz.prog 71 #[.string x] W' fun e w' => ∃ n, e = .returned (.tuple #[.int .i64 n, .bool k]) ∧ Below W'.heap.size W' w') := fun x hx k hk => Lib.hid fun W' hW' => (number_any x W' (hW.below hW') (hso x hx)).mono fun _ _ ⟨n, b, e1, e2, _, e4⟩ => ⟨n, by rw [e1, e2, hk], e4⟩
            cases n1 : num x1.data.toList with
            | none =>
              have hn : lst (true, l0 ++ [c]) line = none := by
                rw [hlst, hpn, if_pos ⟨k0, k2⟩, n1]; rfl
              exact (in_num rb b off cap x0 x1 x2 x3 false _ W hb C q0 q2 (NX x1 (by simp) false (by rw [n1]; rfl)) (NX x3 (by simp) _ rfl) (.inl rfl)).mono (bad hn)
            | some u =>
              cases n3 : num x3.data.toList with
              | none =>
                have hn : lst (true, l0 ++ [c]) line = none := by
                  rw [hlst, hpn, if_pos ⟨k0, k2⟩, n1, n3]; rfl
                exact (in_num rb b off cap x0 x1 x2 x3 true false W hb C q0 q2 (NX x1 (by simp) true (by rw [n1]; rfl)) (NX x3 (by simp) false (by rw [n3]; rfl)) (.inr ⟨rfl, rfl⟩)).mono (bad hn)
              | some y =>
                have hc : lst (true, l0 ++ [c]) line = some (true, l0 ++ [⟨c.nm, c.ps, c.pf ++ [(u, y)], c.dc⟩]) := by
                  rw [hlst, hpn, if_pos ⟨k0, k2⟩, n1, n3]
                  simp only [Option.map_some, addQ_snoc]
                have hll : l0.length ≤ 1000000 := by have := hD.1; simp at this; omega
                have hpl : c.pf.length ≤ 1000000 := by have := (hD.2 c (by simp)).1; omega
                refine (in_ok rb B b off cap x0 x1 x2 x3 u y nx v (.bool true) p l0 ps c W hb C q0 q2 (Lib.hid fun W' hW' => number_yes x1 u W' (hW.below hW') (hso x1 (by simp)) n1) (Lib.hid fun W' hW' => number_yes x3 y W' (hW.below hW') (hso x3 (by simp)) n3) (Lib.hid T) hrb (Lib.hid hB) hll hpl (Lib.hid hO)).mono ?_
                rintro e w' ⟨rfl, g1, g2, p', g3⟩
                exact ⟨_, rfl, g1, .inl ⟨_, v, hc, rfl, g2, .inr ⟨rfl, l0, ps, _, p', rfl, g3⟩⟩⟩
          · have hn : lst (true, l0 ++ [c]) line = none := by
              rw [hlst, hpn, if_neg (fun q => k2 q.2)]; rfl
            exact (in_words rb b off cap x0 x2 W hb c0 c2 (.inr ⟨by rw [beq_lit]; exact decide_eq_true k0, by rw [beq_lit]; exact decide_eq_false k2⟩)).mono (bad hn)
        · have hn : lst (true, l0 ++ [c]) line = none := by
            rw [hlst, hpn, if_neg (fun q => k0 q.1)]; rfl
          exact (in_words rb b off cap x0 x2 W hb c0 c2 (.inl (by rw [beq_lit]; exact decide_eq_false k0))).mono (bad hn)
    · have hn : lst (true, l0 ++ [c]) line = none := by
        rw [hlst, pnt_len _ (by unfold wsL; rw [List.length_map]; exact h4)]; rfl
      exact (in_len rb o.length cap a W (.inl ⟨by simp only [beq_eq_false_iff_ne, ne_eq]; omega, by simp only [bne_iff_ne, ne_eq]; omega⟩)).mono (bad hn)
end Go.Proofs.YtpnlfeljmpfeoaaGreatDoor

/- Package cask: a reader's read. -/
namespace Go.Proofs.YtpnlfeljmpfeoaaGreatDoor
open Go.RowKit

/-- a row of words, laid -/
theorem wds_new (w : World) (o : List ByteArray) (hs : ∀ x ∈ o, x.size ≤ 100000) (hl : o.length ≤ 1000000) : Wds (w.alloc (.cells (o.map Value.string).toArray 9)) (.slice (some ⟨w.heap.size, 0, none⟩) o.length o.length) o :=
  ⟨_, _, rfl, by omega, fun x hx => by have := hs x hx; omega, .inr ⟨w.heap.size, 0, rfl, by simp, fun j hj => by
    rw [World.cell?_alloc_new]
    simp [hj]⟩⟩
theorem neq_in (w : World) : (binOp .neq 75 (.func (.func 72) #[] #[]) .nilFunc).run Tryz.prog w = .ok (.bool true) w := by kernel_rfl
theorem neq_out (w : World) : (binOp .neq 75 (.func (.func 50) #[] #[]) .nilFunc).run Tryz.prog w = .ok (.bool true) w := by kernel_rfl
theorem neq_nil (w : World) : (binOp .neq 75 .nilFunc .nilFunc).run Tryz.prog w = .ok (.bool false) w := by kernel_rfl
set_option maxHeartbeats 2000000 in
set_option maxRecDepth 100000 in
theorem read_no (rb : Nat) (s T : ByteArray) (W : World)
    (HC : Hid (∀ w, Calls Tryz.prog 75 #[.string s, .string ⟨#[10]⟩] w fun e w' => e = .returned (.tuple #[.string T, .bool false]) ∧ w' = w)) :
    Calls Tryz.prog 52 #[.pointer (some ⟨rb, 0, none⟩), .string s] W fun e w' => e = .returned (.bool false) ∧ Below W.heap.size W w' := by
  go_enter Tryz.func52, Tryz.ntmps52
  go_wp2_with fail
  refine (HC.out _).mono ?_
  rintro e w1 ⟨rfl, hw⟩
  subst hw
  go_wp2
  go_returns
  exact ⟨rfl, Below.refl _ _⟩
set_option maxHeartbeats 4000000 in
set_option maxRecDepth 100000 in
theorem read_out (rb n : Nat) (s T : ByteArray) (o : List ByteArray) (v op NF : Value) (b : Bool) (W : World) (P : World → Value → Prop)
    (hNF : (NF = fIn ∧ b = true) ∨ (NF = fOut ∧ b = true) ∨ (NF = .nilFunc ∧ b = false))
    (HC : Hid (∀ w, Calls Tryz.prog 75 #[.string s, .string ⟨#[10]⟩] w fun e w' => e = .returned (.tuple #[.string T, .bool true]) ∧ w' = w))
    (HS : Hid (∀ w, Below W.heap.size W w → Calls Tryz.prog 76 #[.string T, .string ⟨#[32]⟩] w fun e w' => e = .returned (.slice (some ⟨w.heap.size, 0, none⟩) n n) ∧ Wds w' (.slice (some ⟨w.heap.size, 0, none⟩) n n) o ∧ Below w.heap.size w w'))
    (HX : Hid (∀ w a, Below W.heap.size W w → Wds w (.slice a n n) o → Calls Tryz.prog 50 #[.pointer (some ⟨rb, 0, none⟩), .slice a n n] w fun e w' => e = .returned NF ∧ ∃ v' op', Tri rb w' fOut v' op' ∧ P w' v'))
    (TR : Hid (Tri rb W fOut v op)) :
    Calls Tryz.prog 52 #[.pointer (some ⟨rb, 0, none⟩), .string s] W fun e w' => e = .returned (.bool b) ∧ ∃ w2 v', P w2 v' ∧ w' = w2.setCell ⟨rb, 0, none⟩ NF := by
  rcases hNF with ⟨rfl, rfl⟩ | ⟨rfl, rfl⟩ | ⟨rfl, rfl⟩
  all_goals
    simp only [fIn, fOut] at HX TR ⊢
    have NE1 := neq_in
    have NE2 := neq_out
    have NE3 := neq_nil
    go_enter Tryz.func52, Tryz.ntmps52
    go_wp2_with fail
    refine (HC.out _).mono ?_
    rintro e w1 ⟨rfl, hw⟩
    subst hw
    have X := Lib.hid (bel_drew w1)
    have t0 : w1.cell? ⟨rb, 0, none⟩ = some (.func (.func 50) #[] #[]) := TR.out.1
    go_wp2_with fail
    go_region_law (first | (go_simp; go_at_call 76; refine (HS.out _ X.out).mono ?_; rintro e w2 ⟨rfl, hwd, gg⟩; have X2 := Lib.hid (bel_trans X.out gg); have WD := Lib.hid hwd; clear gg hwd; have y0 : w2.cell? ⟨rb, 0, none⟩ = some (.func (.func 50) #[] #[]) := (TR.out.below X2.out).1) | (go_simp; go_at_call 50; refine (HX.out _ _ X2.out WD.out).mono ?_; rintro e w3 ⟨rfl, v', op', ⟨z0, z1, z2, zf, zlt⟩, hP⟩; have zf0 := zf 0 (by omega); have HP := Lib.hid hP; clear hP zf) | fail)
    all_goals
      go_wp2
      go_returns
      exact ⟨rfl, _, _, HP.out, rfl⟩
set_option maxHeartbeats 4000000 in
set_option maxRecDepth 100000 in
theorem read_in (rb n : Nat) (s T : ByteArray) (o : List ByteArray) (v op NF : Value) (b : Bool) (W : World) (P : World → Value → Prop)
    (hNF : (NF = fIn ∧ b = true) ∨ (NF = fOut ∧ b = true) ∨ (NF = .nilFunc ∧ b = false))
    (HC : Hid (∀ w, Calls Tryz.prog 75 #[.string s, .string ⟨#[10]⟩] w fun e w' => e = .returned (.tuple #[.string T, .bool true]) ∧ w' = w))
    (HS : Hid (∀ w, Below W.heap.size W w → Calls Tryz.prog 76 #[.string T, .string ⟨#[32]⟩] w fun e w' => e = .returned (.slice (some ⟨w.heap.size, 0, none⟩) n n) ∧ Wds w' (.slice (some ⟨w.heap.size, 0, none⟩) n n) o ∧ Below w.heap.size w w'))
    (HX : Hid (∀ w a, Below W.heap.size W w → Wds w (.slice a n n) o → Calls Tryz.prog 72 #[.pointer (some ⟨rb, 0, none⟩), .slice a n n] w fun e w' => e = .returned NF ∧ ∃ v' op', Tri rb w' fIn v' op' ∧ P w' v'))
    (TR : Hid (Tri rb W fIn v op)) :
    Calls Tryz.prog 52 #[.pointer (some ⟨rb, 0, none⟩), .string s] W fun e w' => e = .returned (.bool b) ∧ ∃ w2 v', P w2 v' ∧ w' = w2.setCell ⟨rb, 0, none⟩ NF := by
  rcases hNF with ⟨rfl, rfl⟩ | ⟨rfl, rfl⟩ | ⟨rfl, rfl⟩
  all_goals
    simp only [fIn, fOut] at HX TR ⊢
    have NE1 := neq_in
    have NE2 := neq_out
    have NE3 := neq_nil
    go_enter Tryz.func52, Tryz.ntmps52
    go_wp2_with fail
    refine (HC.out _).mono ?_
    rintro e w1 ⟨rfl, hw⟩
    subst hw
    have X := Lib.hid (bel_drew w1)
    have t0 : w1.cell? ⟨rb, 0, none⟩ = some (.func (.func 72) #[] #[]) := TR.out.1
    go_wp2_with fail
    go_region_law (first | (go_simp; go_at_call 76; refine (HS.out _ X.out).mono ?_; rintro e w2 ⟨rfl, hwd, gg⟩; have X2 := Lib.hid (bel_trans X.out gg); have WD := Lib.hid hwd; clear gg hwd; have y0 : w2.cell? ⟨rb, 0, none⟩ = some (.func (.func 72) #[] #[]) := (TR.out.below X2.out).1) | (go_simp; go_at_call 72; refine (HX.out _ _ X2.out WD.out).mono ?_; rintro e w3 ⟨rfl, v', op', ⟨z0, z1, z2, zf, zlt⟩, hP⟩; have zf0 := zf 0 (by omega); have HP := Lib.hid hP; clear hP zf) | fail)
    all_goals
      go_wp2
      go_returns
      exact ⟨rfl, _, _, HP.out, rfl⟩
end Go.Proofs.YtpnlfeljmpfeoaaGreatDoor

/- Package cask: a reader reads a line. -/
namespace Go.Proofs.YtpnlfeljmpfeoaaGreatDoor
open Go.RowKit

theorem OwnC.far {w : World} {B b i : Nat} {v z : Value} {l : List Ck} (h : OwnC w B v l) (hb : b < B) : OwnC (w.setCell ⟨b, i, none⟩ z) B v l := by
  obtain ⟨ps, h1, h2, h3⟩ := h
  exact ⟨ps, h1, own_far h2 hb, fun q hq => own_far (h3 q hq) hb⟩
theorem RowP.far {w : World} {B b i : Nat} {v z : Value} {st : Bool × List Ck} (h : RowP w B v st) (hb : b < B) : RowP (w.setCell ⟨b, i, none⟩ z) B v st := by
  rcases h with ⟨h1, h2⟩ | ⟨h1, l, ps, c, p, h2, h3⟩
  · exact .inl ⟨h1, h2.far hb⟩
  · exact .inr ⟨h1, l, ps, c, p, h2, h3.far hb⟩
theorem RowP.below {w w' : World} {B : Nat} {v : Value} {st : Bool × List Ck} (h : RowP w B v st) (hb : Below w.heap.size w w') : RowP w' B v st := by
  rcases h with ⟨h1, h2⟩ | ⟨h1, l, ps, c, p, h2, h3⟩
  · exact .inl ⟨h1, h2.below hb⟩
  · exact .inr ⟨h1, l, ps, c, p, h2, h3.below hb⟩
theorem fl_words_le (l : List UInt8) (w : List UInt8) (h : w ∈ wsR l) : w.length ≤ l.length := by
  have key : ∀ (l : List UInt8) (c : List UInt8), ∀ w ∈ (fl 32 ([], c) l).1 ++ [(fl 32 ([], c) l).2], w.length ≤ c.length + l.length := by
    intro l
    induction l with
    | nil => intro c w h; simp [fl] at h; subst h; simp
    | cons x l ih =>
      intro c w h
      have e : fl 32 ([], c) (x :: l) = fl 32 (stp 32 ([], c) x) l := rfl
      rw [e] at h
      unfold stp at h
      by_cases hx : x = 32
      · rw [if_pos hx, fl_acc] at h
        have h' : w ∈ c :: ((fl 32 ([], []) l).1 ++ [(fl 32 ([], []) l).2]) := by simpa using h
        rcases List.mem_cons.1 h' with h2 | h2
        · rw [h2]; omega
        · have := ih [] w h2
          simp at this ⊢; omega
      · rw [if_neg hx] at h
        have := ih (c ++ [x]) w h
        simp at this ⊢; omega
  have := key l [] w h
  simpa using this
theorem split_any (T : ByteArray) (w : World) (hw : CV w) (hs : T.size ≤ 70000) :
    Calls Tryz.prog 76 #[.string T, .string ⟨#[32]⟩] w fun e w' => e = .returned (.slice (some ⟨w.heap.size, 0, none⟩) (spB T).length (spB T).length) ∧ Wds w' (.slice (some ⟨w.heap.size, 0, none⟩) (spB T).length (spB T).length) (spB T) ∧ Below w.heap.size w w' := by
  obtain ⟨m, hm⟩ := hw.mxl
  have hle : ∀ x ∈ spB T, x.size ≤ 70000 := fun x hx => by
    have h1 : x.data.toList ∈ wsR T.data.toList := by rw [← spB_words]; exact List.mem_map_of_mem hx
    have := fl_words_le _ _ h1
    rw [Array.length_toList, Array.length_toList] at this
    exact Nat.le_trans this hs
  have hlen : (spB T).length ≤ 70001 := by
    rw [spB_len]
    have := Lib.countB_le ⟨#[32]⟩ (by decide) T.size T (Nat.le_refl _)
    omega
  refine (Tryz.strings_Split T ⟨#[32]⟩ m w (by omega) hm (by decide)).mono ?_
  rintro e w' ⟨rfl, rfl⟩
  rw [← spB_len]
  exact ⟨rfl, wds_new w (spB T) (fun x hx => by have := hle x hx; omega) (by omega), bel_alloc (Below.refl _ _)⟩
theorem suf_yes (l : List UInt8) : Lib.hasSuffix (l ++ [10]) [10] = true ∧ Lib.trimSuffix (l ++ [10]) [10] = l := by
  have h : Lib.hasSuffix (l ++ [10]) [10] = true := by simp [Lib.hasSuffix]
  refine ⟨h, ?_⟩
  unfold Lib.trimSuffix
  rw [if_pos h]
  simp
theorem read_tail (rb : Nat) (s : ByteArray) (W : World) (hs : s.size ≤ 70000) (h : Lib.hasSuffix s.data.toList [10] = false) :
    Calls Tryz.prog 52 #[.pointer (some ⟨rb, 0, none⟩), .string s] W fun e w' => e = .returned (.bool false) ∧ Below W.heap.size W w' :=
  read_no rb s _ W (Lib.hid fun w => by
    have := Tryz.strings_CutSuffix s ⟨#[10]⟩ w (by omega)
    rwa [show (⟨#[10]⟩ : ByteArray).data.toList = [10] from rfl, h] at this)
/-- what is read behind a line -/
def RdP (B rb : Nat) (st : Bool × List Ck) (line : List UInt8) (W w' : World) (b : Bool) : Prop :=
  Kx B rb W w' ∧ ((b = true ∧ ∃ st' v', lst st line = some st' ∧ Tri rb w' (fNx st'.1) v' (.bool st'.1) ∧ RowP w' B v' st') ∨ (b = false ∧ lst st line = none))
theorem read_line (rb B : Nat) (st : Bool × List Ck) (v : Value) (s : ByteArray) (ln : List UInt8) (W : World) (hW : CV W) (T : Tri rb W (fNx st.1) v (.bool st.1)) (R : RowP W B v st) (hrb : rb < B) (hB : B ≤ W.heap.size) (hD : BdP 70000 st) (hs : s.size ≤ 70000) (hln : s.data.toList = ln ++ [10]) :
    Calls Tryz.prog 52 #[.pointer (some ⟨rb, 0, none⟩), .string s] W fun e w' => ∃ b, e = .returned (.bool b) ∧ RdP B rb st ln W w' b := by
  obtain ⟨h1, h2⟩ := suf_yes ln
  have hT : (⟨ln.toArray⟩ : ByteArray).size ≤ 70000 := by
    rw [str_size]
    have : s.data.toList.length ≤ 70000 := by rw [Array.length_toList]; exact hs
    rw [hln] at this; simp at this; omega
  have HC : Hid (∀ w, Calls Tryz.prog 75 #[.string s, .string ⟨#[10]⟩] w fun e w' => e = .returned (.tuple #[.string ⟨ln.toArray⟩, .bool true]) ∧ w' = w) := Lib.hid fun w => by
    have := Tryz.strings_CutSuffix s ⟨#[10]⟩ w (by omega)
    rwa [show (⟨#[10]⟩ : ByteArray).data.toList = [10] from rfl, hln, h1, h2] at this
  have HS : Hid (∀ w, Below W.heap.size W w → _) := Lib.hid fun w hw => split_any ⟨ln.toArray⟩ w (hW.below hw) hT
  have hws : wsL (spB ⟨ln.toArray⟩) = wsR ln := spB_words _
  have hle : ∀ x ∈ spB ⟨ln.toArray⟩, x.size ≤ 100000 := fun x hx => by
    have h1 : x.data.toList ∈ wsR ln := by rw [← hws]; exact List.mem_map_of_mem hx
    have := fl_words_le _ _ h1
    rw [Array.length_toList] at this
    rw [str_size] at hT
    have : x.size ≤ ln.length := this
    omega
  rcases st with ⟨op, l⟩
  have fin : ∀ (NF : Value) (b : Bool), ((∃ st' : Bool × List Ck, lst (op, l) ln = some st' ∧ NF = fNx st'.1 ∧ b = true) ∨ (lst (op, l) ln = none ∧ NF = .nilFunc ∧ b = false)) →
      ∀ e w', (e = Ending.returned (Value.bool b) ∧ ∃ w2 v', (Kx B rb W w2 ∧ ((∃ st', lst (op, l) ln = some st' ∧ Tri rb w2 (fNx op) v' (.bool st'.1) ∧ RowP w2 B v' st') ∨ lst (op, l) ln = none)) ∧ w' = w2.setCell ⟨rb, 0, none⟩ NF) → ∃ b, e = .returned (.bool b) ∧ RdP B rb (op, l) ln W w' b := by
    rintro NF b hc e w' ⟨rfl, w2, v', ⟨k1, k2⟩, rfl⟩
    refine ⟨b, rfl, k1.set 0 _, ?_⟩
    rcases hc with ⟨st', e1, rfl, rfl⟩ | ⟨e1, rfl, rfl⟩
    · rcases k2 with ⟨st2, e2, t2, r2⟩ | e2
      · rw [e1] at e2
        obtain rfl := Option.some.inj e2
        exact .inl ⟨rfl, st', v', e1, t2.set0 _, r2.far hrb⟩
      · rw [e1] at e2; cases e2
    · exact .inr ⟨rfl, e1⟩
  have dec : ∃ NF b, ((NF = fIn ∧ b = true) ∨ (NF = fOut ∧ b = true) ∨ (NF = .nilFunc ∧ b = false)) ∧ ((∃ st' : Bool × List Ck, lst (op, l) ln = some st' ∧ NF = fNx st'.1 ∧ b = true) ∨ (lst (op, l) ln = none ∧ NF = .nilFunc ∧ b = false)) := by
    cases e : lst (op, l) ln with
    | none => exact ⟨.nilFunc, false, .inr (.inr ⟨rfl, rfl⟩), .inr ⟨rfl, rfl, rfl⟩⟩
    | some st' =>
      refine ⟨fNx st'.1, true, ?_, .inl ⟨st', rfl, rfl, rfl⟩⟩
      cases st'.1
      · exact .inr (.inl ⟨rfl, rfl⟩)
      · exact .inl ⟨rfl, rfl⟩
  obtain ⟨NF, b, hNF, hcase⟩ := dec
  have conv : ∀ (w w' : World) (nx : Value) (nf : Value), Below W.heap.size W w → nx = fNx op → StP B rb nx (op, l) ln w w' nf → nf = NF ∧ ∃ v' op', Tri rb w' (fNx op) v' op' ∧ (Kx B rb W w' ∧ ((∃ st', lst (op, l) ln = some st' ∧ Tri rb w' (fNx op) v' (.bool st'.1) ∧ RowP w' B v' st') ∨ lst (op, l) ln = none)) := by
    rintro w w' nx nf hw rfl ⟨g1, g2⟩
    have K : Kx B rb W w' := (Kx.of hw hB).trans g1
    rcases g2 with ⟨st', v', e1, rfl, t, r⟩ | ⟨e1, rfl, v', t⟩
    · rcases hcase with ⟨st2, e2, rfl, _⟩ | ⟨e2, _⟩
      · rw [e1] at e2; obtain rfl := Option.some.inj e2
        exact ⟨rfl, v', _, t, K, .inl ⟨st', e1, t, r⟩⟩
      · rw [e1] at e2; cases e2
    · rcases hcase with ⟨st2, e2, _⟩ | ⟨_, rfl, _⟩
      · rw [e1] at e2; cases e2
      · exact ⟨rfl, v', _, t, K, .inr e1⟩
  cases op with
  | false =>
    refine (read_out rb _ s ⟨ln.toArray⟩ (spB ⟨ln.toArray⟩) v (.bool false) NF b W (fun w v' => Kx B rb W w ∧ ((∃ st', lst (false, l) ln = some st' ∧ Tri rb w (fNx false) v' (.bool st'.1) ∧ RowP w B v' st') ∨ lst (false, l) ln = none)) hNF HC HS (Lib.hid fun w a hw hwd => ?_) (Lib.hid T)).mono (fin NF b hcase)
    refine (outside_any rb B l fOut v _ (spB ⟨ln.toArray⟩) ln w (hW.below hw) (Tri.below T hw) (R.below hw) hrb (Nat.le_trans hB hw.size) hwd hle hD.1 hws).mono ?_
    rintro e w' ⟨nf, rfl, hst⟩
    obtain ⟨rfl, v', op', z1, z2⟩ := conv w w' fOut nf hw rfl hst
    exact ⟨rfl, v', op', z1, z2⟩
  | true =>
    refine (read_in rb _ s ⟨ln.toArray⟩ (spB ⟨ln.toArray⟩) v (.bool true) NF b W (fun w v' => Kx B rb W w ∧ ((∃ st', lst (true, l) ln = some st' ∧ Tri rb w (fNx true) v' (.bool st'.1) ∧ RowP w B v' st') ∨ lst (true, l) ln = none)) hNF HC HS (Lib.hid fun w a hw hwd => ?_) (Lib.hid T)).mono (fin NF b hcase)
    refine (inside_any rb B l fIn v _ (spB ⟨ln.toArray⟩) ln w (hW.below hw) (Tri.below T hw) (R.below hw) hrb (Nat.le_trans hB hw.size) hwd hle hD hws).mono ?_
    rintro e w' ⟨nf, rfl, hst⟩
    obtain ⟨rfl, v', op', z1, z2⟩ := conv w w' fIn nf hw rfl hst
    exact ⟨rfl, v', op', z1, z2⟩
end Go.Proofs.YtpnlfeljmpfeoaaGreatDoor
