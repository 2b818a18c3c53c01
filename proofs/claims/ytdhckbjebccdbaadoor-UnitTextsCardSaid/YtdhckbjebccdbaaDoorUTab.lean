/- Plain facts on units and quantities. No program stands in this text. -/
import Derived.Lib.Hide
namespace Go.Proofs.YtdhckbjebccdbaaDoor

/-- the units: name, kind, factor -/
def unitTab : List (List UInt8 × Int × Int) :=
  [([109, 108], 1, 1), ([99, 108], 1, 10), ([108], 1, 1000), ([104, 108], 1, 100000), ([37], 2, 100), ([109, 108, 112, 97], 3, 10000), ([108, 112, 97], 3, 10000000), ([103], 4, 100000), ([107, 103], 4, 100000000), ([67], 5, 10),
   ([109, 109], 6, 10), ([99, 109], 6, 100), ([109], 6, 10000), ([99, 111, 105, 110], 7, 1), ([99, 114, 111, 119, 110], 7, 100)]
def findU (l : List UInt8) : List (List UInt8 × Int × Int) → Option (Int × Int)
  | [] => none
  | x :: r => if (l == x.1) = true then some x.2 else findU l r
def unitOf (l : List UInt8) : Option (Int × Int) := findU l unitTab
def isU (l : List UInt8) : Bool := (unitOf l).isSome
def uK (l : List UInt8) : Int := ((unitOf l).getD (0, 0)).1
def uF (l : List UInt8) : Int := ((unitOf l).getD (0, 0)).2
def uE (l : List UInt8) : Int := if isU l = true then 0 else 4
theorem findU_mem (l : List UInt8) (p : Int × Int) : ∀ t, findU l t = some p → (l, p) ∈ t
  | [], h => by cases h
  | x :: r, h => by
    unfold findU at h
    split at h
    · rename_i hx
      have : l = x.1 := by simpa using hx
      cases h; rw [this]; exact .head _
    · exact .tail _ (findU_mem l p r h)
theorem unit_mem (l : List UInt8) (h : isU l = true) : (l, uK l, uF l) ∈ unitTab := by
  unfold isU at h
  unfold uK uF
  obtain ⟨p, hp⟩ := Option.isSome_iff_exists.1 h
  rw [hp]
  exact findU_mem l p _ hp
theorem tab_all {P : List UInt8 × Int × Int → Prop} [DecidablePred P] (h : (unitTab.all fun x => decide (P x)) = true) (x : List UInt8 × Int × Int) (hx : x ∈ unitTab) : P x := by
  rw [List.all_eq_true] at h
  exact of_decide_eq_true (h x hx)
theorem unit_bd (l : List UInt8) (h : isU l = true) : 1 ≤ uK l ∧ uK l ≤ 7 ∧ 1 ≤ uF l ∧ uF l ≤ 100000000 :=
  tab_all (P := fun x => 1 ≤ x.2.1 ∧ x.2.1 ≤ 7 ∧ 1 ≤ x.2.2 ∧ x.2.2 ≤ 100000000) (by decide) _ (unit_mem l h)
theorem u_not (l : List UInt8) (h : isU l = false) : uK l = 0 ∧ uF l = 0 := by
  unfold isU at h
  unfold uK uF
  cases hp : unitOf l with
  | none => exact ⟨rfl, rfl⟩
  | some p => rw [hp] at h; cases h

/-- the ranges of the kinds -/
def loK (k : Int) : Int := if k = 5 then -400 else 0
def hiK (k : Int) : Int := if k = 1 then 1073741824 else if k = 2 then 10000 else if k = 3 then 10737418240000 else if k = 4 then 128849018880000 else if k = 5 then 600 else if k = 6 then 100000 else 1125899906842624
/-- the error of a quantity -/
def qE (k a : Int) : Int := if k < 1 ∨ 7 < k then 1 else if a < loK k ∨ hiK k < a then 2 else 0
theorem lo_bd (k : Int) : -400 ≤ loK k ∧ loK k ≤ 0 := by unfold loK; split <;> omega
theorem hi_bd (k : Int) : 600 ≤ hiK k ∧ hiK k ≤ 1125899906842624 := by
  unfold hiK
  repeat' split
  all_goals omega
theorem qE_ok (k a : Int) (h : qE k a = 0) : 1 ≤ k ∧ k ≤ 7 ∧ loK k ≤ a ∧ a ≤ hiK k := by
  unfold qE at h
  split at h
  · omega
  · split at h
    · omega
    · omega
theorem qE_bd (k a : Int) (h : qE k a = 0) : -400 ≤ a ∧ a ≤ 1125899906842624 := by
  have := qE_ok k a h
  have := lo_bd k
  have := hi_bd k
  omega
theorem cases7 {m : Int} {P : Int → Prop} (h1 : 1 ≤ m) (h2 : m ≤ 7) (p1 : P 1) (p2 : P 2) (p3 : P 3) (p4 : P 4) (p5 : P 5) (p6 : P 6) (p7 : P 7) : P m := by
  have h : m = 1 ∨ m = 2 ∨ m = 3 ∨ m = 4 ∨ m = 5 ∨ m = 6 ∨ m = 7 := by omega
  rcases h with h | h | h | h | h | h | h <;> subst h <;> assumption
end Go.Proofs.YtdhckbjebccdbaaDoor
