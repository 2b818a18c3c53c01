/- Texts that the proofs of this seat share, one behind the other: CLN, CLP, CPF, CLM, CLA, CPA, CTP, CRF, CPR, PRU, CRH, PPEL, PPEB, CDE, PPL, CFI, PRS, CRS, CRE, CRP. -/
import Derived.Test.YtpnlfeljmpfeoaaGreatDoorM1
import Derived.Test.YtpnlfeljmpfeoaaGreatDoorM2
import Derived.RangeFuncNested
import Derived.RangeFuncBound
import Derived.RangeFuncCalls
import Derived.RangeFuncLeaves
import Derived.RangeFuncBox
import Derived.Shelf.Abstract
import Derived.OwnWalkIn
import Derived.TacticsInMore
import Derived.LoopIn
import Derived.Maps.OwnSet
import Derived.Laws.EntriesVeiled
import Derived.Deep.RegionLaw
import Derived.Deep.AppendLies
import Derived.Deep.RegionHeld3
import Derived.StillTailTactics

set_option linter.unusedVariables false
set_option linter.unusedSimpArgs false

/- The lines of a text, and strings.Lines, which yields them. -/
namespace Go.Proofs.YtpnlfeljmpfeoaaGreatDoor
open Go.RowKit Go.Shelf
attribute [local go_sem] Oper.semAt_some

/-! ### the lines of a text, each with its line feed, the last one perhaps without -/
def liN (t : List UInt8) : List ByteArray := (fl 10 ([], []) t).1.map (fun l => ⟨(l ++ [10]).toArray⟩) ++ (if (fl 10 ([], []) t).2 = [] then [] else [⟨(fl 10 ([], []) t).2.toArray⟩])
theorem liN_nil : liN [] = [] := rfl
theorem liN_sep {a b : List UInt8} (h : (10 : UInt8) ∉ a) : liN (a ++ 10 :: b) = ⟨(a ++ [10]).toArray⟩ :: liN b := by
  unfold liN
  rw [fl_sep h, fl_acc]
  simp
theorem liN_no {a : List UInt8} (h : (10 : UInt8) ∉ a) (h0 : a ≠ []) : liN a = [⟨a.toArray⟩] := by
  unfold liN
  rw [fl_no h]
  simp [h0]
theorem idxB_no {c : UInt8} : ∀ {l : List UInt8}, c ∉ l → Lib.indexByte l c = -1
  | [], _ => rfl
  | b :: l, h => by
    have h1 : b ≠ c := fun e => h (by rw [e]; simp)
    have h2 : c ∉ l := fun e => h (by simp [e])
    simp [Lib.indexByte, h1, idxB_no h2]
theorem idxB_at {c : UInt8} {b : List UInt8} : ∀ {a : List UInt8}, c ∉ a → Lib.indexByte (a ++ c :: b) c = (a.length : Int)
  | [], _ => by simp [Lib.indexByte]
  | x :: a, h => by
    have h1 : x ≠ c := fun e => h (by rw [e]; simp)
    have h2 : c ∉ a := fun e => h (by simp [e])
    have e : ((a.length : Int) == -1) = false := by simp only [beq_eq_false_iff_ne, ne_eq]; omega
    rw [List.cons_append, Lib.indexByte, idxB_at h2, if_neg (by simpa using h1), e]
    simp
/-- the next line of a text that is not empty -/
theorem liN_step (t : ByteArray) (h0 : 0 < t.size) :
    (Lib.indexByte t.data.toList 10 = -1 ∧ liN t.data.toList = [t]) ∨
    (∃ k : Nat, Lib.indexByte t.data.toList 10 = (k : Int) ∧ k < t.size ∧ liN t.data.toList = t.extract 0 (k + 1) :: liN (t.extract (k + 1) t.size).data.toList) := by
  by_cases hm : (10 : UInt8) ∈ t.data.toList
  · obtain ⟨a, b, e, ha⟩ := List.eq_append_cons_of_mem hm
    have hs : t.size = a.length + 1 + b.length := by
      have : t.data.toList.length = t.size := by rw [Array.length_toList]; rfl
      rw [e] at this; simp at this; omega
    refine .inr ⟨a.length, by rw [e]; exact idxB_at ha, by omega, ?_⟩
    have e1 : t.extract 0 (a.length + 1) = ⟨(a ++ [10]).toArray⟩ := by
      apply ByteArray.ext
      apply Array.toList_inj.1
      rw [ByteArray.data_extract, Array.toList_extract, e]
      have : a ++ 10 :: b = (a ++ [10]) ++ b := by simp
      rw [this]
      show List.take (a.length + 1 - 0) (List.drop 0 _) = _
      rw [List.drop_zero, List.take_append_of_le_length (by simp), List.take_of_length_le (by simp)]
    have e2 : (t.extract (a.length + 1) t.size).data.toList = b := by
      rw [ByteArray.data_extract, Array.toList_extract, e, hs]
      simp [List.extract]
    rw [e1, e2, e, liN_sep ha]
  · refine .inl ⟨idxB_no hm, ?_⟩
    rw [liN_no hm (fun e => by
      have : t.data.toList.length = t.size := by rw [Array.length_toList]; rfl
      rw [e] at this; simp at this; omega)]

def encL (x : ByteArray) : Array Value := #[.string x]
def bxSz (W : World) (Bs : Nat) : Nat := match W.cell? ⟨Bs, 0, none⟩ with | some (.string s) => s.size | _ => 0
theorem bxSz_of {W : World} {Bs : Nat} {s : ByteArray} (h : Boxed W Bs 9 (.string s)) : bxSz W Bs = s.size := by unfold bxSz; rw [h.cell]
theorem sl_to (s : ByteArray) (k : Nat) (h : k ≤ s.size) (w : World) :
    (Instr.slice 9 (.string s) none (some (.int .i64 k)) none).run Tryz.prog w = .ok (.string (s.extract 0 k)) w := by
  have := run_slice_string_to_if (P := Tryz.prog) (w := w) 9 s .i64 (k : Int) Tryz.underlying9
  rw [if_pos (by omega)] at this
  simpa using this
theorem sl_from (s : ByteArray) (k : Nat) (h : k ≤ s.size) (w : World) :
    (Instr.slice 9 (.string s) (some (.int .i64 k)) none none).run Tryz.prog w = .ok (.string (s.extract k s.size)) w := by
  have := run_slice_string_from_if (P := Tryz.prog) (w := w) 9 s .i64 (k : Int) Tryz.underlying9
  rw [if_pos (by omega)] at this
  simpa using this

set_option maxRecDepth 100000 in
set_option maxHeartbeats 4000000 in
theorem lines1_in (n l Bs : Nat) (L : List ByteArray) (s0 : ByteArray) (hs0 : s0.size ≤ 100000) (hL : L = liN s0.data.toList) (J : List ByteArray → World → Prop) (Jx : World → Prop)
    (hJ : ∀ s A B row, J s A → A.grownBy B row → (row = none ∨ row = some Bs) → J s B)
    (hY : ∀ pre x rest W, L = pre ++ x :: rest → J pre W → YieldAt Fence.wide (n - 1) Tryz.prog l (encL x) W fun e W' =>
      (e = .returned (.bool true) ∧ J (pre ++ [x]) W' ∧ W'.heap[Bs]? = W.heap[Bs]?) ∨ (e = .returned (.bool false) ∧ Jx W'))
    (W : World) (hBs : Boxed W Bs 9 (.string s0)) (h0 : J [] W) :
    CallsIn Fence.wide n Tryz.prog 73 #[.func (.yield l) #[] #[], .pointer (some ⟨Bs, 0, none⟩)] W fun e W' => (∃ v, e = .returned v) ∧ (J L W' ∨ Jx W') := by
  refine callsIn_of_wp Tryz.func73 rfl trivial ?_ rfl
  simp only [Tryz.ntmps73, List.size_toArray, List.length_cons, List.length_nil, Nat.reduceAdd, Nat.reduceSub, Array.replicate_succ, Array.replicate_zero, List.push_toArray, List.append_toArray, List.nil_append, List.cons_append]
  gi_wp2
  gi_loopw [3] (fun _ wr => ∃ (pre : List ByteArray) (s : ByteArray), J pre wr ∧ Boxed wr Bs 9 (.string s) ∧ L = pre ++ liN s.data.toList ∧ s.size ≤ 100000)
    (fun _ wr => bxSz wr Bs)
  case atStart => exact ⟨[], s0, h0, hBs, hL, hs0⟩
  case round =>
    obtain ⟨pre, s, hj, hb, hL2, hs⟩ := hrel
    have hc := hb.cell
    have hf := hb.frozen
    by_cases h0s : 0 < s.size
    · have hlt : (0 : Int) < (s.size : Int) := by omega
      have IB : ∀ w : World, Calls Tryz.prog 74 #[.string s, .int .u8 10] w fun e w' => e = .returned (.int .i64 (Lib.indexByte s.data.toList 10)) ∧ w' = w := fun w => Tryz.strings_IndexByte s 10 w
      rcases liN_step s h0s with ⟨hi, he⟩ | ⟨k, hi, hk, he⟩
      · rw [hi] at IB
        rw [he] at hL2
        obtain ⟨fn, tmps, assign, body, hy, hR⟩ := hY pre s [] (wr.setCell ⟨Bs, 0, none⟩ (.string ⟨#[]⟩)) hL2 (hJ _ _ _ _ hj (grownBy_setCell' _ _ _) (.inr rfl))
        dsimp only [encL] at hy
        have hmx : Tryz.prog.follows .mixedOrders = true := by kernel_rfl
        have HB : Hid (Boxed (wr.setCell ⟨Bs, 0, none⟩ (.string ⟨#[]⟩)) Bs 9 (.string ⟨#[]⟩)) := Lib.hid (hb.set _)
        have HR2 : Hid (RoundIn Fence.wide (n - 1) Tryz.prog l fn tmps assign body (wr.setCell ⟨Bs, 0, none⟩ (.string ⟨#[]⟩)) fun e W' => ∃ bb : Bool, e = .returned (.bool bb) ∧ Hid ((bb = true ∧ J L W' ∧ Boxed W' Bs 9 (.string ⟨#[]⟩)) ∨ (bb = false ∧ Jx W'))) := by
          refine hR.mono ?_
          rintro e W3 (⟨rfl, h1, h2⟩ | ⟨rfl, h⟩)
          · exact ⟨true, rfl, .inl ⟨rfl, by rw [hL2]; exact h1, h2.trans HB.out⟩⟩
          · exact ⟨false, rfl, .inr ⟨rfl, h⟩⟩
        clear hR HB
        gi_wp2
        refine ⟨trivial, (fun h => by cases h), (callsIn_wide.2 (IB _)).mono ?_⟩
        rintro e w1 ⟨rfl, hw⟩
        subst hw
        gi_wp2
        refine ⟨(fun h => by cases h), HR2.out.mono ?_⟩
        rintro e W3 ⟨bb, rfl, h3⟩
        rcases h3.out with ⟨rfl, hJ3, hB3⟩ | ⟨rfl, hJx3⟩
        · gi_wp2
          go_roundw
          case rel => exact ⟨_, ⟨#[]⟩, hJ3, hB3, by show L = L ++ liN []; rw [liN_nil, List.append_nil], by show 0 ≤ _; omega⟩
          case measure => rw [bxSz_of hB3, bxSz_of hb]; show 0 < _; omega
        · gi_wp2
          refine bodyPost_ret (results_none rfl _ _ _) rfl ?_
          exact ⟨⟨_, rfl⟩, .inr hJx3⟩
      · rw [hi] at IB
        rw [he] at hL2
        have hJd : J pre ((wr.setCell ⟨Bs, 0, none⟩ (.string (s.extract (k + 1) s.size))).drew) := hJ pre (wr.setCell ⟨Bs, 0, none⟩ (.string (s.extract (k + 1) s.size))) _ none (hJ _ _ _ _ hj (grownBy_setCell' _ _ _) (.inr rfl)) ⟨rfl, rfl, rfl, Nat.le_refl _, fun _ _ _ => rfl⟩ (.inl rfl)
        obtain ⟨fn, tmps, assign, body, hy, hR⟩ := hY pre _ _ ((wr.setCell ⟨Bs, 0, none⟩ (.string (s.extract (k + 1) s.size))).drew) hL2 hJd
        dsimp only [encL] at hy
        have hmx : Tryz.prog.follows .mixedOrders = true := by kernel_rfl
        have HB : Hid (Boxed ((wr.setCell ⟨Bs, 0, none⟩ (.string (s.extract (k + 1) s.size))).drew) Bs 9 (.string (s.extract (k + 1) s.size))) := Lib.hid (Boxed.set (v := .string s) _ hb)
        have HR2 : Hid (RoundIn Fence.wide (n - 1) Tryz.prog l fn tmps assign body ((wr.setCell ⟨Bs, 0, none⟩ (.string (s.extract (k + 1) s.size))).drew) fun e W' => ∃ bb : Bool, e = .returned (.bool bb) ∧ Hid ((bb = true ∧ J (pre ++ [s.extract 0 (k + 1)]) W' ∧ Boxed W' Bs 9 (.string (s.extract (k + 1) s.size))) ∨ (bb = false ∧ Jx W'))) := by
          refine hR.mono ?_
          rintro e W3 (⟨rfl, h1, h2⟩ | ⟨rfl, h⟩)
          · exact ⟨true, rfl, .inl ⟨rfl, h1, h2.trans HB.out⟩⟩
          · exact ⟨false, rfl, .inr ⟨rfl, h⟩⟩
        clear hR HB
        have wk : IntKind.i64.wrap ((k : Int) + 1) = (k : Int) + 1 := by simp only [IntKind.wrap_i64]; omega
        have S1 : ∀ w, (Instr.slice 9 (.string s) none (some (.int .i64 ((k : Int) + 1))) none).run Tryz.prog w = .ok (.string (s.extract 0 (k + 1))) w := sl_to s (k + 1) (by omega)
        have S2 : ∀ w, (Instr.slice 9 (.string s) (some (.int .i64 ((k : Int) + 1))) none none).run Tryz.prog w = .ok (.string (s.extract (k + 1) s.size)) w := sl_from s (k + 1) (by omega)
        have k0 : (0 : Int) ≤ (k : Int) := by omega
        have hsx : (s.extract (k + 1) s.size).size = s.size - (k + 1) := by simp
        generalize s.extract (k + 1) s.size = s2 at *
        generalize s.extract 0 (k + 1) = s1 at *
        gi_wp2
        refine ⟨trivial, (fun h => by cases h), (callsIn_wide.2 (IB _)).mono ?_⟩
        rintro e w1 ⟨rfl, hw⟩
        subst hw
        gi_wp2
        refine wpIn_region_tail (free_wide _) 9 hmx (by kernel_rfl) (fun _ _ _ => rfl) ?_
        simp only [List.take_succ_cons, List.take_zero, List.drop_succ_cons, List.drop_zero]
        repeat still_step
        refine wpStill_nil ?_
        gi_wp2
        refine ⟨(fun h => by cases h), HR2.out.mono ?_⟩
        rintro e W3 ⟨bb, rfl, h3⟩
        rcases h3.out with ⟨rfl, hJ3, hB3⟩ | ⟨rfl, hJx3⟩
        · gi_wp2
          go_roundw
          case rel => exact ⟨_, s2, hJ3, hB3, by rw [hL2]; simp, by omega⟩
          case measure => rw [bxSz_of hB3, bxSz_of hb]; omega
        · gi_wp2
          refine bodyPost_ret (results_none rfl _ _ _) rfl ?_
          exact ⟨⟨_, rfl⟩, .inr hJx3⟩
    · have hz : s.size = 0 := by omega
      have hn : ¬ (0 : Int) < (s.size : Int) := by omega
      have hd : s.data.toList = [] := by
        have : s.data.toList.length = s.size := by rw [Array.length_toList]; rfl
        exact List.eq_nil_of_length_eq_zero (by omega)
      rw [hd, liN_nil, List.append_nil] at hL2
      subst hL2
      gi_wp2
      go_end0
      exact ⟨⟨_, rfl⟩, .inl (by rw [← hL]; exact hj)⟩
theorem lines_seq (n Bs : Nat) (s0 : ByteArray) (hs0 : s0.size ≤ 100000) (w : World) (hB : Boxed w Bs 9 (.string s0)) :
    SeqBox Fence.wide n Tryz.prog 73 #[.pointer (some ⟨Bs, 0, none⟩)] encL Bs (liN s0.data.toList) w := fun l J Jx W hW hJ hY h0 =>
  lines1_in n l Bs (liN s0.data.toList) s0 hs0 rfl J Jx hJ hY W (hW.trans hB) h0
theorem lines_any (s : ByteArray) (w : World) :
    Calls Tryz.prog 51 #[.string s] w fun e w' => e = .returned (.func (.func 73) #[] #[.pointer (some ⟨w.heap.size, 0, none⟩)]) ∧ w' = w.alloc (.cells #[.string s] 9) := by
  have hmf : ∀ (fn : Fn) (first cap : Array Value) (w : World), (Instr.makeFunc fn first cap).run Tryz.prog w = .ok (.func fn first cap) w := fun _ _ _ _ => rfl
  go_enter Tryz.func51, Tryz.ntmps51
  go_wp2
  go_ret
  exact ⟨rfl, rfl⟩
end Go.Proofs.YtpnlfeljmpfeoaaGreatDoor

/- Plain facts of what is read line by line. -/
namespace Go.Proofs.YtpnlfeljmpfeoaaGreatDoor
open Go.RowKit

def lf (l : List UInt8) : ByteArray := ⟨(l ++ [10]).toArray⟩
theorem lf_dt (l : List UInt8) : (lf l).data.toList = l ++ [10] := by simp [lf]
theorem lf_inj {a b : List UInt8} (h : lf a = lf b) : a = b := by
  have := congrArg (fun x : ByteArray => x.data.toList) h
  simp only [lf_dt] at this
  exact List.append_cancel_right this
/-- the lines so far, and the state behind them -/
def RnP (pre : List ByteArray) (st : Bool × List Ck) : Prop := ∃ ls, pre = ls.map lf ∧ rnL (false, []) 0 ls = (some st, ls.length)
theorem RnP.start : RnP [] (false, []) := ⟨[], rfl, rfl⟩
theorem liN_eq (t : List UInt8) : liN t = (fl 10 ([], []) t).1.map lf ++ (if (fl 10 ([], []) t).2 = [] then [] else [⟨(fl 10 ([], []) t).2.toArray⟩]) := rfl
theorem fl10 (t : List UInt8) : (10 : UInt8) ∉ (fl 10 ([], []) t).2 := (fl_clean 10 t [] [] (by simp) (by simp)).2
theorem liN_end (t : List UInt8) : (if (fl 10 ([], []) t).2 = [] then ([] : List ByteArray) else [⟨(fl 10 ([], []) t).2.toArray⟩]).length ≤ 1 := by split <;> simp
theorem pre_cut {A ls : List (List UInt8)} {E r : List ByteArray} (h : A.map lf ++ E = ls.map lf ++ r) (hl : ls.length ≤ A.length) : A = ls ++ A.drop ls.length ∧ r = (A.drop ls.length).map lf ++ E := by
  have h1 : (A.take ls.length).map lf = ls.map lf := by
    have := congrArg (List.take ls.length) h
    rw [List.take_append_of_le_length (by simpa using hl), List.take_append_of_le_length (by simp), ← List.map_take] at this
    rw [this, ← List.map_take, List.take_length]
  have h2 : A.take ls.length = ls := by
    have inj : ∀ (x y : List (List UInt8)), x.map lf = y.map lf → x = y := by
      intro x
      induction x with
      | nil => intro y e; cases y with
        | nil => rfl
        | cons b y => simp at e
      | cons a x ih => intro y e; cases y with
        | nil => simp at e
        | cons b y =>
          simp only [List.map_cons, List.cons.injEq] at e
          rw [lf_inj e.1, ih y e.2]
    exact inj _ _ h1
  have h3 : A = ls ++ A.drop ls.length := by
    conv => lhs; rw [← List.take_append_drop ls.length A]
    rw [h2]
  refine ⟨h3, ?_⟩
  rw [h3, List.map_append, List.append_assoc] at h
  have := List.append_cancel_left h
  rw [this]
theorem suf_no {l : List UInt8} (h : (10 : UInt8) ∉ l) : Lib.hasSuffix l [10] = false := by
  cases e : Lib.hasSuffix l [10] with
  | false => rfl
  | true =>
    exfalso
    unfold Lib.hasSuffix at e
    have : ([10] : List UInt8) <:+ l := by simpa using e
    exact h (this.subset (by simp))
/-- one more line -/
theorem RnP.cut {t : List UInt8} {pre rest : List ByteArray} {x : ByteArray} {st : Bool × List Ck} (h : liN t = pre ++ x :: rest) (hr : RnP pre st) :
    (∃ ln, x.data.toList = ln ++ [10] ∧ (∀ st', lst st ln = some st' → RnP (pre ++ [x]) st') ∧ (lst st ln = none → paS t = (none, pre.length + 1))) ∨
    (Lib.hasSuffix x.data.toList [10] = false ∧ paS t = (none, pre.length + 1)) := by
  obtain ⟨ls, rfl, hr⟩ := hr
  rw [liN_eq] at h
  have hE := liN_end t
  have h10 := fl10 t
  have hpa : ∀ k, (∃ s, rnL (false, []) 0 (fl 10 ([], []) t).1 = (some s, k)) → (fl 10 ([], []) t).2 ≠ [] → paS t = (none, k + 1) := by
    rintro k ⟨s, hs⟩ hn
    unfold paS
    rw [hs]
    simp [hn]
  have hpb : ∀ k, rnL (false, []) 0 (fl 10 ([], []) t).1 = (none, k) → paS t = (none, k) := by
    intro k hs
    unfold paS
    rw [hs]
  generalize (fl 10 ([], []) t).1 = A at *
  generalize (fl 10 ([], []) t).2 = tl at *
  have hlen := congrArg List.length h
  simp only [List.length_append, List.length_map, List.length_cons] at hlen
  obtain ⟨h1, h2⟩ := pre_cut h (by omega)
  cases hd : A.drop ls.length with
  | cons y A2 =>
    rw [hd, List.map_cons, List.cons_append] at h2
    obtain ⟨rfl, -⟩ := List.cons.inj h2
    rw [hd] at h1
    refine .inl ⟨y, lf_dt y, fun st' hl => ⟨ls ++ [y], by simp, ?_⟩, fun hl => ?_⟩
    · rw [rnL_app _ _ _ _ _ _ hr, rnL_cons _ _ hl]; simp [rnL]
    · rw [List.length_map]
      exact hpb _ (by rw [h1, rnL_stop A2 hr hl])
  | nil =>
    rw [hd, List.map_nil, List.nil_append] at h2
    rw [hd, List.append_nil] at h1
    subst h1
    right
    by_cases ht : tl = []
    · rw [if_pos ht] at h2; cases h2
    · rw [if_neg ht] at h2
      obtain ⟨rfl, -⟩ := List.cons.inj h2
      refine ⟨suf_no (by simpa using h10), ?_⟩
      rw [List.length_map]
      exact hpa _ ⟨st, hr⟩ ht
/-- no line is left -/
theorem RnP.over {t : List UInt8} {st : Bool × List Ck} (hr : RnP (liN t) st) : paS t = if st.1 = true then (none, (liN t).length + 1) else (some st.2, 0) := by
  obtain ⟨ls, h, hr⟩ := hr
  rw [h, List.length_map]
  rw [liN_eq] at h
  have h10 := fl10 t
  have e : (fl 10 ([], []) t).2 = [] ∧ (fl 10 ([], []) t).1 = ls := by
    generalize (fl 10 ([], []) t).1 = A at *
    generalize (fl 10 ([], []) t).2 = tl at *
    by_cases ht : tl = []
    · rw [if_pos ht, List.append_nil] at h
      have hl := congrArg List.length h
      simp only [List.length_map] at hl
      have := (pre_cut (E := []) (r := []) (by simpa using h) (by omega)).1
      rw [← hl, List.drop_length, List.append_nil] at this
      exact ⟨ht, this⟩
    · exfalso
      rw [if_neg ht] at h
      have hm : (⟨tl.toArray⟩ : ByteArray) ∈ ls.map lf := by rw [← h]; simp
      obtain ⟨z, _, hz⟩ := List.mem_map.1 hm
      have := congrArg (fun x : ByteArray => x.data.toList) hz
      simp only [lf_dt] at this
      exact h10 (by rw [show tl = z ++ [10] by simpa using this.symm]; simp)
  unfold paS
  rw [e.2, hr, e.1]
  simp
/-! ### how much there is -/
theorem liN_flat (t : List UInt8) : (liN t).flatMap (fun x => x.data.toList) = t := by
  have h := fl_join 10 t [] []
  rw [liN_eq, List.flatMap_append, List.flatMap_map]
  have : (fun l => (lf l).data.toList) = fun l : List UInt8 => l ++ [10] := by funext l; exact lf_dt l
  rw [this]
  conv => rhs; rw [show t = ([] : List (List UInt8)).flatMap (· ++ [10]) ++ [] ++ t by simp, ← h]
  congr 1
  split
  · rename_i e; rw [e]; rfl
  · simp
theorem liN_ne (t : List UInt8) : ∀ x ∈ liN t, 1 ≤ x.data.toList.length := by
  intro x hx
  rw [liN_eq] at hx
  rcases List.mem_append.1 hx with h | h
  · obtain ⟨l, _, rfl⟩ := List.mem_map.1 h
    rw [lf_dt]; simp
  · split at h
    · cases h
    · rename_i e
      rw [List.mem_singleton] at h
      subst h
      rcases hl : (fl 10 ([], []) t).2 with _ | ⟨a, b⟩
      · exact absurd hl e
      · simp
theorem flatB_len {f : ByteArray → List UInt8} : ∀ (L : List ByteArray), (∀ x ∈ L, 1 ≤ (f x).length) → L.length ≤ (L.flatMap f).length ∧ ∀ x ∈ L, (f x).length ≤ (L.flatMap f).length
  | [], _ => ⟨by simp, by simp⟩
  | a :: L, h => by
    obtain ⟨h1, h2⟩ := flatB_len L (fun x hx => h x (by simp [hx]))
    have h3 := h a (by simp)
    rw [List.flatMap_cons, List.length_append, List.length_cons]
    refine ⟨by omega, fun x hx => ?_⟩
    rcases List.mem_cons.1 hx with rfl | hx
    · omega
    · have := h2 x hx; omega
theorem liN_len (s : ByteArray) : (liN s.data.toList).length ≤ s.size ∧ ∀ x ∈ liN s.data.toList, x.size ≤ s.size := by
  have h := flatB_len (f := fun x => x.data.toList) _ (liN_ne s.data.toList)
  rw [liN_flat] at h
  have e : ∀ x : ByteArray, x.data.toList.length = x.size := fun x => by rw [Array.length_toList]; rfl
  simp only [e] at h
  exact h
/-- what stands in the casks at hand, behind one more line -/
theorem bd_step {k : Nat} {st st' : Bool × List Ck} {ln : List UInt8} (h : BdP k st) (hl : lst st ln = some st') (hn : ln.length ≤ 70000) (hst : st.1 = true → st.2 ≠ []) : BdP (k + 1) st' ∧ (st'.1 = true → st'.2 ≠ []) := by
  rcases st with ⟨op, l⟩
  have h1 := h.1
  have h2 := h.2
  cases op with
  | false =>
    rw [lst_out] at hl
    cases hh : hd (wsR ln) with
    | none => rw [hh] at hl; cases hl
    | some c =>
      rw [hh] at hl
      simp only at hl
      split at hl
      · cases hl
      · obtain rfl := Option.some.inj hl
        obtain ⟨⟨a, ha, hnm⟩, i2, i3, i4⟩ := hd_bd hh
        refine ⟨⟨by simp at h1 ⊢; omega, fun c' hc => ?_⟩, fun _ => by simp⟩
        rcases List.mem_append.1 hc with hc | hc
        · have := h2 c' hc; exact ⟨by omega, this.2⟩
        · rw [List.mem_singleton] at hc
          subst hc
          have := fl_words_le _ _ ha
          exact ⟨by rw [i3]; simp, by rw [hnm, str_size]; omega, i2, i4⟩
  | true =>
    rw [lst_in] at hl
    by_cases he : wsR ln = [wEn]
    · rw [if_pos he] at hl
      obtain rfl := Option.some.inj hl
      exact ⟨⟨by simp at h1 ⊢; omega, fun c hc => by have := h2 c hc; exact ⟨by omega, this.2⟩⟩, fun e => by cases e⟩
    · rw [if_neg he] at hl
      cases hp : pnt (wsR ln) with
      | none => rw [hp] at hl; cases hl
      | some q =>
        rw [hp] at hl
        obtain rfl := Option.some.inj hl
        obtain ⟨l0, c, rfl⟩ : ∃ l0 c, l = l0 ++ [c] := by
          have := hst rfl
          exact ⟨l.dropLast, l.getLast this, (List.dropLast_concat_getLast this).symm⟩
        simp only [addQ_snoc]
        refine ⟨⟨by simp at h1 ⊢; omega, fun c' hc => ?_⟩, fun _ => by simp⟩
        rcases List.mem_append.1 hc with hc | hc
        · have := h2 c' (by simp [hc]); exact ⟨by omega, this.2⟩
        · rw [List.mem_singleton] at hc
          subst hc
          have := h2 c (by simp)
          exact ⟨by have := this.1; simp; omega, this.2⟩
end Go.Proofs.YtpnlfeljmpfeoaaGreatDoor

/- The answer of Parse, as a whole. -/
namespace Go.Proofs.YtpnlfeljmpfeoaaGreatDoor
open Go.RowKit

/-- the answer of Parse, as a whole -/
def PaF (s : ByteArray) (v : Value) (n E : Int) (w : World) : Prop :=
  (s.size ≤ 65536 → PaP s v n E w) ∧ (65536 < s.size → n = 0 ∧ E = 8) ∧ (E ≠ 0 → v = .slice none 0 0)
theorem paF_of {s : ByteArray} {v : Value} {n E : Int} {w : World} (h : PaP s v n E w) (hs : s.size ≤ 65536) (hv : E ≠ 0 → v = .slice none 0 0) : PaF s v n E w := ⟨fun _ => h, fun g => by omega, hv⟩
end Go.Proofs.YtpnlfeljmpfeoaaGreatDoor

/- Names and their places: plain facts of the map that List and Find make. -/
namespace Go.Proofs.YtpnlfeljmpfeoaaGreatDoor
open Go.RowKit

theorem isNm_size {s : ByteArray} (h : isNm s = true) : 1 ≤ s.size ∧ s.size ≤ 64 := by
  unfold isNm at h
  simp only [Bool.and_eq_true, decide_eq_true_eq] at h
  exact ⟨h.1.2, h.2⟩
theorem ccE_nm {c : Ck} (h : ccE c = 0) : isNm c.nm = true := by
  unfold ccE at h
  split at h
  · rename_i g; exact g
  · omega
/-- the key of a name -/
def nk (s : ByteArray) : Lit := .string s.data.toList
theorem nk_key (s : ByteArray) : WideAt.IsKeyLit (nk s) := trivial
theorem nk_inj {s t : ByteArray} (h : nk s = nk t) : s = t := by
  unfold nk at h
  simp only [Lit.string.injEq] at h
  apply ByteArray.ext
  exact Array.ext' h
theorem nm_beq (s t : ByteArray) : (s.toList == t.toList) = decide (s = t) := by
  by_cases h : s = t
  · subst h; simp
  · rw [decide_eq_false h]
    rw [beq_eq_false_iff_ne]
    intro e
    rw [ByteArray.toList_eq, ByteArray.toList_eq] at e
    exact h (ByteArray.ext (Array.ext' e))
/-- the map of the first k names -/
def ix (l : List Ck) : Nat → DataW Unit
  | 0 => .map []
  | k + 1 => (ix l k).put (nk (l.getD k zCk).nm) (.lit (.int .i64 k))
theorem ix_tidy (l : List Ck) (k : Nat) : Maps.Tidy (ix l k) := by
  induction k with
  | zero => exact Maps.tidy_empty
  | succ k ih => exact ih.put (nk_key _) _
theorem ix_has (l : List Ck) (k : Nat) (s : ByteArray) : Maps.has (ix l k) (nk s) = true ↔ ∃ j, j < k ∧ (l.getD j zCk).nm = s := by
  induction k with
  | zero => exact ⟨fun h => (by cases h), fun ⟨j, hj, _⟩ => (by omega)⟩
  | succ k ih =>
    unfold ix
    by_cases e : (l.getD k zCk).nm = s
    · rw [e, Maps.has_put_same (ix_tidy l k).isMap (nk_key _)]
      exact ⟨fun _ => ⟨k, by omega, e⟩, fun _ => rfl⟩
    · rw [Maps.has_put_other (fun h => e (nk_inj h).symm), ih]
      constructor
      · rintro ⟨j, hj, h⟩; exact ⟨j, by omega, h⟩
      · rintro ⟨j, hj, h⟩
        rcases Nat.lt_succ_iff_lt_or_eq.1 hj with h1 | rfl
        · exact ⟨j, h1, h⟩
        · exact absurd h e
theorem ix_at (l : List Ck) (k : Nat) (s : ByteArray) (z : DataW Unit) (h : Maps.has (ix l k) (nk s) = true) : ∃ j, j < k ∧ (l.getD j zCk).nm = s ∧ (ix l k).atKey (nk s) z = .lit (.int .i64 j) := by
  induction k with
  | zero => cases h
  | succ k ih =>
    by_cases e : (l.getD k zCk).nm = s
    · refine ⟨k, by omega, e, ?_⟩
      unfold ix
      rw [e, Maps.atKey_put_same (ix_tidy l k).isMap (nk_key _)]
    · have h2 : Maps.has (ix l k) (nk s) = true := by
        unfold ix at h
        rwa [Maps.has_put_other (fun h => e (nk_inj h).symm)] at h
      obtain ⟨j, hj, e2, e3⟩ := ih h2
      refine ⟨j, by omega, e2, ?_⟩
      unfold ix
      rw [Maps.atKey_put_other (fun h => e (nk_inj h).symm)]
      exact e3
theorem ix_size (l : List Ck) (k : Nat) : Maps.size (ix l k) ≤ k ∧ ((∀ i, i < k → ∀ j, j < i → (l.getD i zCk).nm ≠ (l.getD j zCk).nm) → Maps.size (ix l k) = k) ∧ (∀ i j, i < k → j < i → (l.getD i zCk).nm = (l.getD j zCk).nm → Maps.size (ix l k) < k) := by
  induction k with
  | zero => exact ⟨Nat.le_refl _, fun _ => rfl, fun i j hi => (by omega)⟩
  | succ k ih =>
    obtain ⟨h1, h2, h3⟩ := ih
    have hs : Maps.size (ix l (k + 1)) = if Maps.has (ix l k) (nk (l.getD k zCk).nm) then Maps.size (ix l k) else Maps.size (ix l k) + 1 := by
      show Maps.size ((ix l k).put _ _) = _
      exact Maps.size_put (ix_tidy l k) _
    rw [hs]
    refine ⟨by split <;> omega, fun h => ?_, fun i j hi hj e => ?_⟩
    · rw [if_neg, h2 (fun i hi => h i (by omega))]
      intro hh
      obtain ⟨j, hj, e⟩ := (ix_has l k _).1 hh
      exact h k (by omega) j hj e.symm
    · rcases Nat.lt_succ_iff_lt_or_eq.1 hi with hlt | rfl
      · have := h3 i j hlt hj e
        split <;> omega
      · rw [if_pos ((ix_has l i _).2 ⟨j, hj, e.symm⟩)]
        omega
/-- two casks have one name just if the map has fewer entries -/
theorem dup_size (l : List Ck) : dupK l ↔ Maps.size (ix l l.length) < l.length := by
  have hd : ∀ j (h : j < l.length), l.getD j zCk = l[j] := fun j h => by simp [List.getD, List.getElem?_eq_getElem h]
  obtain ⟨h1, h2, h3⟩ := ix_size l l.length
  constructor
  · rintro ⟨i, k, hi, hk, e⟩
    rw [nm_beq, decide_eq_true_eq] at e
    exact h3 i k hi hk (by rw [hd i hi, hd k (by omega)]; exact e)
  · intro hlt
    refine Classical.byContradiction fun hn => ?_
    have := h2 fun i hi j hj e => hn ⟨i, j, hi, hj, by rw [nm_beq, decide_eq_true_eq, ← hd i hi, ← hd j (by omega)]; exact e⟩
    omega
end Go.Proofs.YtpnlfeljmpfeoaaGreatDoor

/- Package cask: the map of the names; List. -/
namespace Go.Proofs.YtpnlfeljmpfeoaaGreatDoor
open Go.RowKit Go.Maps Go.ChangeMaps Go.WideMaps

theorem mapLaw : Keyed Tryz.prog 9 := string_keyed Tryz.underlying9
theorem nk_of {s : ByteArray} (h : s.size ≤ 1000000) : keyOf Tryz.prog 9 (.string s) = some (nk s) := keyOf_string_mk Tryz.underlying9 (by unfold maxLen; omega)
/-- block B is the map of the first k names -/
def Ixs (w : World) (B k : Nat) (l : List Ck) : Prop := w.ownsMap Tryz.prog 9 (plainElem (H := Unit) Tryz.prog 3) B k (ix l k)
set_option maxRecDepth 100000 in
theorem idx_nil (a : Option Addr) (cap : Nat) (w : World) :
    Calls Tryz.prog 33 #[.slice a 0 cap] w fun e w' => e = .returned (.map (some w.heap.size)) ∧ Ixs w' w.heap.size 0 [] ∧ Below w.heap.size w w' := by
  have hmm := @run_makeMap Tryz.prog
  go_enter Tryz.func33, Tryz.ntmps33
  go_wp2
  refine wp_loop_rounds 1 ?_
  rw [rounds_succ]
  go_wp2
  go_ret
  exact ⟨rfl, World.ownsMap_made _ _ _ _, (Below.refl _ _).alloc (Nat.le_refl _) _⟩
set_option maxHeartbeats 4000000 in
set_option maxRecDepth 100000 in
theorem idx_some (b off n cap : Nat) (l : List Ck) (w : World) (n1 : n ≤ 1000000) (hn : Hid (n = l.length)) (hb : b < w.heap.size)
    (hc : Hid (∀ j (hj : j < l.length), CkAt w b off j l[j])) (hz : Hid (∀ c ∈ l, c.nm.size ≤ 1000000)) :
    Calls Tryz.prog 33 #[.slice (some ⟨b, off, none⟩) n cap] w fun e w' => e = .returned (.map (some w.heap.size)) ∧ Ixs w' w.heap.size n l ∧ Below w.heap.size w w' := by
  have hmm := @run_makeMap Tryz.prog
  go_enter Tryz.func33, Tryz.ntmps33
  go_wp2
  go_loopw [9] (fun ii wr => ∃ k : Nat, k ≤ n ∧ ii = .int .i64 k ∧ Hid (Ixs wr w.heap.size k l) ∧ Hid (Below w.heap.size w wr)) (fun ii _ => n - (intOf ii).toNat)
  case atStart => exact ⟨0, by omega, rfl, World.ownsMap_made _ _ _ _, (Below.refl _ _).alloc (Nat.le_refl _) _⟩
  case round =>
    obtain ⟨k, hk, rfl, hM, hB⟩ := hrel
    by_cases hlt : k < n
    · have hkl : k < l.length := by rw [← hn.out]; exact hlt
      have l1 : (k : Int) < (n : Int) := by omega
      obtain ⟨a, cp, c0, c1, c2, c3, _⟩ := (hc.out k hkl).below hb hB.out
      have hkey : keyOf Tryz.prog 9 (.string l[k].nm) = some (nk l[k].nm) := nk_of (hz.out _ (List.getElem_mem hkl))
      have hD : Hid ((ix l k).put (nk l[k].nm) (.lit (.int .i64 k)) = ix l (k + 1)) := Lib.hid (by
        show _ = (ix l k).put (nk (l.getD k zCk).nm) _
        rw [show l.getD k zCk = l[k] by simp [List.getD, List.getElem?_eq_getElem hkl]])
      have hkw : (Lit.int .i64 (k : Int)).wf = true := WalkArith.wf_i64 (by omega)
      generalize l[k].nm = s at *
      generalize l[k].ps = p at *
      generalize l[k].dc = d at *
      generalize l[k].pf.length = m at *
      have hown := hM.out.alloc (.cells #[.string s, .int .i64 p, .slice a m cp, .int .i64 d] 27)
      have hB2 := Lib.hid (hB.out.alloc hB.out.size (.cells #[.string s, .int .i64 p, .slice a m cp, .int .i64 d] 27))
      clear hc hz
      go_wp2_with (first
        | (at_mapUpdate; refine wpList_mapUpdate_own _ rfl _ _ _ 54 rfl 9 3 mapLaw Tryz.underlying54 _ w.heap.size k _ rfl hown (by unfold maxLen; omega) _ _ _ rfl rfl hkey _ [] (plainElem_int Tryz.underlying3 hkw) ?_; intro w1 hown1 hgrow1)
        | go_in)
      rw [hD.out] at hown1
      have hB3 := hB2.out.grown hgrow1 hB2.out.size (fun j hj => by cases hj; exact Nat.le_refl _)
      go_roundw
      case rel => exact ⟨k + 1, by omega, by go_num, hown1, hB3⟩
      case measure => simp [intOf]; omega
    · obtain rfl : k = n := by omega
      go_wp2
      go_ret
      exact ⟨rfl, hM.out, hB.out⟩
theorem list_many (a : Option Addr) (n cap : Nat) (w : World) (h : 32 < n) (h2 : n ≤ 9223372036854775807) :
    Calls Tryz.prog 16 #[.slice a n cap] w fun e w' => e = .returned (.int .i64 8) ∧ Below w.heap.size w w' := by
  go_enter Tryz.func16, Tryz.ntmps16
  go_wp2
  go_returns
  exact ⟨rfl, Below.refl _ _⟩
set_option maxHeartbeats 4000000 in
set_option maxRecDepth 100000 in
theorem list_nil (a : Option Addr) (cap : Nat) (w : World) :
    Calls Tryz.prog 16 #[.slice a 0 cap] w fun e w' => e = .returned (.int .i64 0) ∧ Below w.heap.size w w' := by
  have H := Lib.hid (fun W => idx_nil a cap W)
  go_enter Tryz.func16, Tryz.ntmps16
  go_wp2_with fail
  go_loopw [11] (fun ii wr => ii = .int .i64 0 ∧ wr = w) (fun _ _ => 0)
  case atStart => exact ⟨rfl, rfl⟩
  case round =>
    obtain ⟨rfl, rfl⟩ := hrel
    go_wp2_with fail
    refine (H.out _).mono ?_
    rintro e w1 ⟨rfl, hM, gg⟩
    go_wp2_with (first
      | (at_len; refine wpList_len_own _ rfl _ 54 rfl 9 3 Tryz.underlying54 (plainElem (H := Unit) Tryz.prog 3) wr.heap.size 0 (.map []) rfl hM ?_)
      | go_in)
    go_returns
    exact ⟨rfl, gg⟩
set_option maxHeartbeats 8000000 in
set_option maxRecDepth 100000 in
theorem list_some (b off n cap : Nat) (l : List Ck) (E : Int) (w : World) (n1 : n ≤ 32) (hn : Hid (n = l.length)) (hb : b < w.heap.size)
    (hc : Hid (∀ j (hj : j < l.length), CkAt w b off j l[j]))
    (h1 : Hid (∀ k (hk : k < l.length), (∀ j (hj : j < l.length), j < k → ccE l[j] = 0) → ccE l[k] ≠ 0 → E = ccE l[k]))
    (h2 : Hid ((∀ j (hj : j < l.length), ccE l[j] = 0) → dupK l → E = 6))
    (h3 : Hid ((∀ j (hj : j < l.length), ccE l[j] = 0) → ¬ dupK l → E = 0)) :
    Calls Tryz.prog 16 #[.slice (some ⟨b, off, none⟩) n cap] w fun e w' => e = .returned (.int .i64 E) ∧ Below w.heap.size w w' := by
  go_enter Tryz.func16, Tryz.ntmps16
  go_wp2_with fail
  go_loopw [11] (fun ii wr => ∃ k : Nat, k ≤ n ∧ ii = .int .i64 k ∧ Hid (Below w.heap.size w wr) ∧ Hid (∀ j (hj : j < l.length), j < k → ccE l[j] = 0)) (fun ii _ => n - (intOf ii).toNat)
  case atStart => exact ⟨0, by omega, rfl, Below.refl _ _, fun j hj h => by omega⟩
  case round =>
    obtain ⟨k, hk, rfl, hB, ha⟩ := hrel
    by_cases hlt : k < n
    · have hkl : k < l.length := by rw [← hn.out]; exact hlt
      obtain ⟨a, cp, c0, c1, c2, c3, hP, wd⟩ := (hc.out k hkl).below hb hB.out
      have HC := Lib.hid (fun W (hW : Below wr.heap.size wr W) => ckk_any _ l[k] W ⟨a, cp, rfl, hP.below hW, wd⟩)
      have HF : Hid (ccE l[k] ≠ 0 → E = ccE l[k]) := fun h => h1.out k hkl ha.out h
      have HT : Hid (ccE l[k] = 0 → ∀ j (hj : j < l.length), j < k + 1 → ccE l[j] = 0) := fun h j hj hjk => by
        by_cases e : j = k
        · subst e; exact h
        · exact ha.out j hj (by omega)
      have l1 : (k : Int) < (n : Int) := by omega
      clear hP wd ha h1 h2 h3 hc
      generalize l[k] = c at *
      by_cases hq : ccE c = 0
      · have hx := Lib.hid (HT.out hq)
        rw [hq] at HC
        clear HT HF hq
        go_wp2_with fail
        refine (HC.out _ (bel_alloc (Below.refl _ _))).mono ?_
        rintro e w1 ⟨rfl, gg⟩
        have X1 := Lib.hid (bel_trans hB.out (bel_alloc gg)); clear gg
        go_wp2
        go_roundw
        case rel => exact ⟨k + 1, by omega, by go_num, X1, hx⟩
        case measure => simp [intOf]; omega
      · have hE := HF.out hq
        have z1 : (ccE c == 0) = false := by simpa using hq
        have z2 : (ccE c != 0) = true := by simpa using hq
        clear HT HF hq
        generalize ccE c = E' at *
        subst hE
        go_wp2_with fail
        refine (HC.out _ (bel_alloc (Below.refl _ _))).mono ?_
        rintro e w1 ⟨rfl, gg⟩
        have X1 := Lib.hid (bel_trans hB.out (bel_alloc gg)); clear gg
        go_wp2
        go_returns
        exact ⟨rfl, X1.out⟩
    · obtain rfl : k = n := by omega
      have ha2 : ∀ j (hj : j < l.length), ccE l[j] = 0 := fun j hj => ha.out j hj (by have := hn.out; omega)
      have H2 := Lib.hid (h2.out ha2)
      have H3 := Lib.hid (h3.out ha2)
      have hnm : ∀ c ∈ l, c.nm.size ≤ 1000000 := fun c hcm => by
        obtain ⟨j, hj, rfl⟩ := List.getElem_of_mem hcm
        have := isNm_size (ccE_nm (ha2 j hj))
        omega
      have HI := Lib.hid (idx_some b off k cap l wr (by omega) hn (Nat.lt_of_lt_of_le hb hB.out.size) (Lib.hid fun j hj => (hc.out j hj).below hb hB.out) (Lib.hid hnm))
      have hD := dup_size l
      rw [← hn.out] at hD
      clear ha ha2 h1 h2 h3 hnm hc
      go_wp2_with fail
      refine HI.out.mono ?_
      rintro e w1 ⟨rfl, hM, gg⟩
      have hM2 := hM
      have hle := hM2.size_le
      by_cases hd : dupK l
      · obtain rfl := H2.out hd
        have hd2 := hD.1 hd
        clear H2 H3 hD
        go_wp2_with (first
          | (at_len; refine wpList_len_own _ rfl _ 54 rfl 9 3 Tryz.underlying54 (plainElem (H := Unit) Tryz.prog 3) wr.heap.size k (ix l k) rfl hM ?_)
          | go_in)
        go_returns
        exact ⟨rfl, bel_trans hB.out gg⟩
      · obtain rfl := H3.out hd
        have hd2 : ¬ Maps.size (ix l k) < k := fun h => hd (hD.2 h)
        clear H2 H3 hD
        go_wp2_with (first
          | (at_len; refine wpList_len_own _ rfl _ 54 rfl 9 3 Tryz.underlying54 (plainElem (H := Unit) Tryz.prog 3) wr.heap.size k (ix l k) rfl hM ?_)
          | go_in)
        go_returns
        exact ⟨rfl, bel_trans hB.out gg⟩
theorem cLi_any (v : Value) (l : List Ck) (w : World) (hv : Cks w v l) :
    Calls Tryz.prog 16 #[v] w fun e w' => e = .returned (.int .i64 (liE l)) ∧ Below w.heap.size w w' := by
  by_cases h0 : 0 < l.length
  · obtain ⟨b, off, cap, rfl, hb, hl, hc⟩ := hv.cks h0
    by_cases h1 : 32 < l.length
    · have : liE l = 8 := by unfold liE; rw [if_pos h1]
      rw [this]
      exact list_many _ _ cap w h1 (by omega)
    · refine list_some b off _ cap l _ w (by omega) rfl hb hc (fun k hk a1 a2 => ?_) (fun a d => ?_) (fun a d => ?_)
      · have e := fE_at l k hk a1 a2
        show liE l = _
        unfold liE
        rw [if_neg h1, e, if_neg a2]
      · have e : fE l = 0 := (fE_zero l).2 fun c hc => by
          obtain ⟨j, hj, rfl⟩ := List.getElem_of_mem hc
          exact a j hj
        show liE l = _
        unfold liE
        rw [if_neg h1, if_pos e, if_pos d]
      · have e : fE l = 0 := (fE_zero l).2 fun c hc => by
          obtain ⟨j, hj, rfl⟩ := List.getElem_of_mem hc
          exact a j hj
        show liE l = _
        unfold liE
        rw [if_neg h1, if_pos e, if_neg d]
  · obtain ⟨a, cap, rfl, _⟩ := hv.shape
    obtain rfl : l = [] := List.length_eq_zero_iff.1 (by omega)
    have : liE [] = 0 := by
      unfold liE
      rw [if_neg (by simp), if_pos (by rfl), if_neg (fun ⟨i, _, hi, _⟩ => by simp at hi)]
    rw [this]
    exact list_nil a cap w
end Go.Proofs.YtpnlfeljmpfeoaaGreatDoor

/- Package cask: Parse. -/
namespace Go.Proofs.YtpnlfeljmpfeoaaGreatDoor
open Go.RowKit Go.Shelf
attribute [local go_sem] Oper.semAt_some

theorem bel_dr' {q : Nat} {w W : World} (h : Below q w W) : Below q w W.drew := ⟨h.os, h.tape, h.output, h.size, h.block⟩
theorem paF_bad {s : ByteArray} {n : Nat} (h : paS s.data.toList = (none, n)) (hs : s.size ≤ 65536) (W : World) : PaF s (.slice none 0 0) n 3 W :=
  ⟨fun _ => ⟨fun m hm => ⟨by rw [h] at hm; simp at hm; omega, rfl⟩, fun l k hl => by rw [h] at hl; cases hl⟩, fun h => by omega, fun _ => rfl⟩
theorem paF_list {s : ByteArray} {l : List Ck} (h : paS s.data.toList = (some l, 0)) (hs : s.size ≤ 65536) (hE : liE l ≠ 0) (W : World) : PaF s (.slice none 0 0) 0 (liE l) W :=
  ⟨fun _ => ⟨(fun m hm => by rw [h] at hm; cases hm), fun l' k hl => by rw [h] at hl; cases hl; exact ⟨rfl, rfl, fun e => absurd e hE⟩⟩, fun h => by omega, fun _ => rfl⟩
theorem paF_ok {s : ByteArray} {l : List Ck} {v : Value} (h : paS s.data.toList = (some l, 0)) (hs : s.size ≤ 65536) (hE : liE l = 0) (W : World) (hv : Cks W v l) : PaF s v 0 0 W :=
  ⟨fun _ => ⟨(fun m hm => by rw [h] at hm; cases hm), fun l' k hl => by rw [h] at hl; cases hl; exact ⟨rfl, hE.symm, fun _ => hv⟩⟩, fun h => by omega, fun h => absurd rfl h⟩
theorem dr_cell {W : World} {a : Addr} {v : Value} (h : W.cell? a = some v) : W.drew.cell? a = some v := h
theorem dr_heap (W : World) (k : Nat) : W.drew.heap[k]? = W.heap[k]? := rfl
/-! ### what stands in memory while it reads -/
theorem own_gr {w w' : World} {B n size : Nat} {e : TypeId} {v : Value} {xs : List Value} {row : Option Nat} (h : w.ownsRow B e size v n xs) (hg : w.grownBy w' row) (hr : ∀ r, row = some r → r < B) : w'.ownsRow B e size v n xs :=
  World.ownsRow.kept h hg (by
    cases q : v.ownBlock with
    | none => exact .inl rfl
    | some b => exact .inr (fun e2 => by have := (h.lt b q).1; have := hr b e2.symm; omega))
theorem OwnC.gr {w w' : World} {B : Nat} {v : Value} {l : List Ck} {row : Option Nat} (h : OwnC w B v l) (hg : w.grownBy w' row) (hr : ∀ r, row = some r → r < B) : OwnC w' B v l := by
  obtain ⟨ps, h1, h2, h3⟩ := h
  exact ⟨ps, h1, own_gr h2 hg hr, fun q hq => own_gr (h3 q hq) hg hr⟩
theorem OwnO.gr {w w' : World} {B : Nat} {v : Value} {l : List Ck} {ps : List Value} {c : Ck} {p : Value} {row : Option Nat} (h : OwnO w B v l ps c p) (hg : w.grownBy w' row) (hr : ∀ r, row = some r → r < B) : OwnO w' B v l ps c p := by
  obtain ⟨h1, h2, h3, h4⟩ := h
  exact ⟨h1, own_gr h2 hg hr, fun q hq => ⟨own_gr (h3 q hq).1 hg hr, (h3 q hq).2⟩, own_gr h4 hg hr⟩
theorem RowP.gr {w w' : World} {B : Nat} {v : Value} {st : Bool × List Ck} {row : Option Nat} (h : RowP w B v st) (hg : w.grownBy w' row) (hr : ∀ r, row = some r → r < B) : RowP w' B v st := by
  rcases h with ⟨h1, h2⟩ | ⟨h1, l, ps, c, p, h2, h3⟩
  · exact .inl ⟨h1, h2.gr hg hr⟩
  · exact .inr ⟨h1, l, ps, c, p, h2, h3.gr hg hr⟩
/-- the boxes -/
structure PBx (q : Nat) (w W : World) (k : Nat) : Prop where
  r0 : Boxed W q 22 (.slice none 0 0)
  r1 : Boxed W (q + 1) 3 (.int .i64 0)
  r2 : Boxed W (q + 2) 28 (.int .i64 0)
  cn : Boxed W (q + 4) 3 (.int .i64 k)
  bel : Below q w W
theorem PBx.gr {q k : Nat} {w W W' : World} {row : Option Nat} (h : PBx q w W k) (hg : W.grownBy W' row) (hr : ∀ r, row = some r → q + 5 ≤ r) : PBx q w W' k :=
  have n : ∀ j, j < 5 → some (q + j) ≠ row := fun j hj e => by have := hr _ e.symm; omega
  ⟨h.r0.kept hg (n 0 (by omega)), h.r1.kept hg (n 1 (by omega)), h.r2.kept hg (n 2 (by omega)), h.cn.kept hg (n 4 (by omega)), h.bel.grown hg (by have := h.r0.lt; omega) (fun r e => by have := hr r e; omega)⟩
theorem PBx.kx {q k : Nat} {w W W' : World} (h : PBx q w W k) (hk : Kx (q + 8) (q + 3) W W') : PBx q w W' k :=
  ⟨(hk.block q (by omega) (by omega)).trans h.r0, (hk.block (q + 1) (by omega) (by omega)).trans h.r1, (hk.block (q + 2) (by omega) (by omega)).trans h.r2, (hk.block (q + 4) (by omega) (by omega)).trans h.cn, h.bel.trans (hk.below (by omega) (by omega))⟩
theorem PBx.count {q k : Nat} {w W : World} (h : PBx q w W k) (j : Nat) : PBx q w (W.setCell ⟨q + 4, 0, none⟩ (.int .i64 j)) j :=
  ⟨h.r0.other (by omega) _, h.r1.other (by omega) _, h.r2.other (by omega) _, h.cn.set _, h.bel.setCell (p := ⟨q + 4, 0, none⟩) (by show q ≤ q + 4; omega) _⟩
/-- the answer of a text that cannot be read, stored -/
theorem PBx.fail {q k : Nat} {w W : World} (h : PBx q w W k) (j : Nat) : Boxed (((W.setCell ⟨q, 0, none⟩ (.slice none 0 0)).setCell ⟨q + 1, 0, none⟩ (.int .i64 j)).setCell ⟨q + 2, 0, none⟩ (.int .i64 3)) q 22 (.slice none 0 0) ∧
    Boxed (((W.setCell ⟨q, 0, none⟩ (.slice none 0 0)).setCell ⟨q + 1, 0, none⟩ (.int .i64 j)).setCell ⟨q + 2, 0, none⟩ (.int .i64 3)) (q + 1) 3 (.int .i64 j) ∧
    Boxed (((W.setCell ⟨q, 0, none⟩ (.slice none 0 0)).setCell ⟨q + 1, 0, none⟩ (.int .i64 j)).setCell ⟨q + 2, 0, none⟩ (.int .i64 3)) (q + 2) 28 (.int .i64 3) ∧
    Below q w (((W.setCell ⟨q, 0, none⟩ (.slice none 0 0)).setCell ⟨q + 1, 0, none⟩ (.int .i64 j)).setCell ⟨q + 2, 0, none⟩ (.int .i64 3)) :=
  ⟨((h.r0.set _).other (by omega) _).other (by omega) _, ((h.r1.other (by omega) _).set _).other (by omega) _, ((h.r2.other (by omega) _).other (by omega) _).set _,
    ((h.bel.setCell (p := ⟨q, 0, none⟩) (by show q ≤ q; omega) _).setCell (p := ⟨q + 1, 0, none⟩) (by show q ≤ q + 1; omega) _).setCell (p := ⟨q + 2, 0, none⟩) (by show q ≤ q + 2; omega) _⟩
theorem PBx.bel' {q k : Nat} {w W W' : World} (h : PBx q w W k) (hb : Below W.heap.size W W') : PBx q w W' k :=
  ⟨(hb.block _ h.r0.lt).trans h.r0, (hb.block _ h.r1.lt).trans h.r1, (hb.block _ h.r2.lt).trans h.r2, (hb.block _ h.cn.lt).trans h.cn, h.bel.trans (hb.mono (by have := h.r0.lt; omega))⟩
theorem PBx.put {q k : Nat} {w W : World} (h : PBx q w W k) (v : Value) (n E : Int) : Boxed (((W.setCell ⟨q, 0, none⟩ v).setCell ⟨q + 1, 0, none⟩ (.int .i64 n)).setCell ⟨q + 2, 0, none⟩ (.int .i64 E)) q 22 v ∧
    Boxed (((W.setCell ⟨q, 0, none⟩ v).setCell ⟨q + 1, 0, none⟩ (.int .i64 n)).setCell ⟨q + 2, 0, none⟩ (.int .i64 E)) (q + 1) 3 (.int .i64 n) ∧
    Boxed (((W.setCell ⟨q, 0, none⟩ v).setCell ⟨q + 1, 0, none⟩ (.int .i64 n)).setCell ⟨q + 2, 0, none⟩ (.int .i64 E)) (q + 2) 28 (.int .i64 E) ∧
    Below q w (((W.setCell ⟨q, 0, none⟩ v).setCell ⟨q + 1, 0, none⟩ (.int .i64 n)).setCell ⟨q + 2, 0, none⟩ (.int .i64 E)) :=
  ⟨((h.r0.set _).other (by omega) _).other (by omega) _, ((h.r1.other (by omega) _).set _).other (by omega) _, ((h.r2.other (by omega) _).other (by omega) _).set _,
    ((h.bel.setCell (p := ⟨q, 0, none⟩) (by show q ≤ q; omega) _).setCell (p := ⟨q + 1, 0, none⟩) (by show q ≤ q + 1; omega) _).setCell (p := ⟨q + 2, 0, none⟩) (by show q ≤ q + 2; omega) _⟩
theorem PBx.put_heap {q k : Nat} {w W : World} {o : Obj} (_h : PBx q w W k) (hK : W.heap[q + 6]? = some o) (v : Value) (n E : Int) : (((W.setCell ⟨q, 0, none⟩ v).setCell ⟨q + 1, 0, none⟩ (.int .i64 n)).setCell ⟨q + 2, 0, none⟩ (.int .i64 E)).heap[q + 6]? = some o := by
  rw [Below.heap_setCell _ _ _ _ (by show _ ≠ q + 2; omega), Below.heap_setCell _ _ _ _ (by show _ ≠ q + 1; omega), Below.heap_setCell _ _ _ _ (by show _ ≠ q; omega)]
  exact hK
/-- the reader, behind some lines -/
def PRd (q : Nat) (W : World) (pre : List ByteArray) : Prop :=
  ∃ st v, RnP pre st ∧ BdP pre.length st ∧ (st.1 = true → st.2 ≠ []) ∧ Tri (q + 3) W (fNx st.1) v (.bool st.1) ∧ RowP W (q + 8) v st
theorem PRd.gr {q : Nat} {W W' : World} {row : Option Nat} {pre : List ByteArray} (h : PRd q W pre) (hg : W.grownBy W' row) (hr : ∀ r, row = some r → q + 5 ≤ r ∧ r < q + 8) : PRd q W' pre := by
  obtain ⟨st, v, h1, h2, h3, h4, h5⟩ := h
  exact ⟨st, v, h1, h2, h3, h4.grown hg (fun e => by have := hr _ e.symm; omega), h5.gr hg (fun r e => (hr r e).2)⟩
theorem PRd.count {q : Nat} {W : World} {pre : List ByteArray} (h : PRd q W pre) (z : Value) : PRd q (W.setCell ⟨q + 4, 0, none⟩ z) pre := by
  obtain ⟨st, v, h1, h2, h3, h4, h5⟩ := h
  exact ⟨st, v, h1, h2, h3, h4.other _ (by show q + 4 ≠ q + 3; omega) _, h5.far (by omega)⟩
/-- a line is read -/
theorem read_any (q k : Nat) (s x : ByteArray) (pre rest : List ByteArray) (w W : World) (hq : q = w.heap.size) (hw : CV w) (hs : s.size ≤ 65536) (hL : liN s.data.toList = pre ++ x :: rest) (h1 : PBx q w W k) (h2 : PRd q W pre) (h3 : q + 7 < W.heap.size) :
    Calls Tryz.prog 52 #[.pointer (some ⟨q + 3, 0, none⟩), .string x] W fun e W' => ∃ b, e = .returned (.bool b) ∧ Hid (Kx (q + 8) (q + 3) W W' ∧ ((b = true ∧ PRd q W' (pre ++ [x])) ∨ (b = false ∧ paS s.data.toList = (none, pre.length + 1)))) := by
  subst hq
  obtain ⟨st, v, g1, g2, g3, g4, g5⟩ := h2
  obtain ⟨m1, m2⟩ := liN_len s
  have hx : x.size ≤ 65536 := Nat.le_trans (m2 x (by rw [hL]; simp)) hs
  have hpl : pre.length ≤ 65536 := by
    rw [hL] at m1; simp at m1; omega
  rcases g1.cut hL with ⟨ln, e1, e2, e3⟩ | ⟨e1, e2⟩
  · have hln : ln.length ≤ 70000 := by
      have : x.data.toList.length = x.size := by rw [Array.length_toList]; rfl
      rw [e1] at this; simp at this; omega
    refine (read_line (w.heap.size + 3) (w.heap.size + 8) st v x ln W (hw.below h1.bel) g4 g5 (by omega) (by omega) ⟨by have := g2.1; omega, fun c hc => by have := g2.2 c hc; exact ⟨by omega, this.2⟩⟩ (by omega) e1).mono ?_
    rintro e W' ⟨b, rfl, k1, (⟨rfl, st', v', z1, z2, z3⟩ | ⟨rfl, z⟩)⟩
    · obtain ⟨b1, b2⟩ := bd_step g2 z1 hln g3
      exact ⟨true, rfl, k1, .inl ⟨rfl, st', v', e2 st' z1, by rw [List.length_append]; exact b1, b2, z2, z3⟩⟩
    · exact ⟨false, rfl, k1, .inr ⟨rfl, e3 z⟩⟩
  · refine (read_tail (w.heap.size + 3) x W (by omega) e1).mono ?_
    rintro e W' ⟨rfl, hb⟩
    exact ⟨false, rfl, Kx.of hb (by omega), .inr ⟨rfl, e2⟩⟩
set_option maxRecDepth 100000 in
set_option maxHeartbeats 8000000 in
theorem cPar_big (s : ByteArray) (w : World) (hs : 65536 < s.size) :
    Calls Tryz.prog 24 #[.string s] w fun e w' => ∃ v n E, e = .returned (.tuple #[v, .int .i64 n, .int .i64 E]) ∧ PaF s v n E w' ∧ Below w.heap.size w w' := by
  have h1 : (65536 : Int) < (s.size : Int) := by omega
  go_enter Tryz.func24, Tryz.ntmps24
  go_wp2
  go_returns
  exact ⟨_, _, _, rfl, ⟨fun h => by omega, fun _ => ⟨rfl, rfl⟩, fun _ => rfl⟩, bel_alloc (bel_alloc (bel_alloc (Below.refl _ _)))⟩
set_option maxRecDepth 100000 in
set_option maxHeartbeats 8000000 in
theorem cPar_some (s : ByteArray) (w : World) (hs : s.size ≤ 65536) (hw : CV w) :
    Calls Tryz.prog 24 #[.string s] w fun e w' => ∃ v n E, e = .returned (.tuple #[v, .int .i64 n, .int .i64 E]) ∧ PaF s v n E w' ∧ Below w.heap.size w w' := by
  have h1 : ¬ (65536 : Int) < (s.size : Int) := by omega
  have hmx : Tryz.prog.follows .mixedOrders = true := by kernel_rfl
  refine (callsIn_wide (n := 10)).1 ?_
  refine callsIn_of_wp_marks Tryz.func24 rfl trivial ?_ rfl
  simp only [Tryz.ntmps24, List.size_toArray, List.length_cons, List.length_nil, Nat.reduceAdd, Nat.reduceSub, Array.replicate_succ, Array.replicate_zero, List.push_toArray, List.append_toArray, List.nil_append, List.cons_append]
  gi_wp2_with fail
  refine ⟨trivial, (callsIn_wide.2 (lines_any _ _)).mono ?_⟩
  rintro e w3 ⟨rfl, rfl⟩
  gi_wp2_with fail
  obtain ⟨W0, hW0⟩ : ∃ W0, ((((((w.alloc (.cells #[.slice none 0 0] 22)).alloc (.cells #[.int .i64 0] 3)).alloc (.cells #[.int .i64 0] 28)).alloc (.cells #[fOut, .slice none 0 0, .bool false] 77)).alloc (.cells #[.int .i64 0] 3)).alloc (.cells #[.string s] 9)) = W0 := ⟨_, rfl⟩
  have hsz : W0.heap.size = w.heap.size + 6 := by rw [← hW0]; simp
  have B0 : PBx w.heap.size w W0 0 := by
    rw [← hW0]
    refine ⟨?_, ?_, ?_, ?_, ?_⟩
    · exact ((((Boxed.new w _ _).alloc _).alloc _).alloc _).alloc _ |>.alloc _
    · have := Boxed.new (w.alloc (.cells #[.slice none 0 0] 22)) 3 (.int .i64 0)
      rw [World.size_alloc] at this
      exact (((this.alloc _).alloc _).alloc _).alloc _
    · have := Boxed.new ((w.alloc (.cells #[.slice none 0 0] 22)).alloc (.cells #[.int .i64 0] 3)) 28 (.int .i64 0)
      rw [World.size_alloc, World.size_alloc] at this
      exact ((this.alloc _).alloc _).alloc _
    · have := Boxed.new ((((w.alloc (.cells #[.slice none 0 0] 22)).alloc (.cells #[.int .i64 0] 3)).alloc (.cells #[.int .i64 0] 28)).alloc (.cells #[fOut, .slice none 0 0, .bool false] 77)) 3 (.int .i64 0)
      rw [World.size_alloc, World.size_alloc, World.size_alloc, World.size_alloc] at this
      exact this.alloc _
    · exact bel_alloc (bel_alloc (bel_alloc (bel_alloc (bel_alloc (bel_alloc (Below.refl _ _))))))
  have R0 : PRd w.heap.size W0 [] := by
    refine ⟨(false, []), .slice none 0 0, RnP.start, ⟨by simp, fun c hc => by cases hc⟩, (fun e => by cases e), ?_, .inl ⟨rfl, [], rfl, World.ownsRow_nil _ _ _ _, fun q hq => by cases hq⟩⟩
    rw [← hW0]
    have := Tri.new (((w.alloc (.cells #[.slice none 0 0] 22)).alloc (.cells #[.int .i64 0] 3)).alloc (.cells #[.int .i64 0] 28)) fOut (.slice none 0 0) (.bool false) 77
    rw [World.size_alloc, World.size_alloc, World.size_alloc] at this
    exact (this.alloc _).alloc _
  have BL : Boxed W0 (w.heap.size + 5) 9 (.string s) := by
    rw [← hW0]
    have := Boxed.new (((((w.alloc (.cells #[.slice none 0 0] 22)).alloc (.cells #[.int .i64 0] 3)).alloc (.cells #[.int .i64 0] 28)).alloc (.cells #[fOut, .slice none 0 0, .bool false] 77)).alloc (.cells #[.int .i64 0] 3)) 9 (.string s)
    rwa [World.size_alloc, World.size_alloc, World.size_alloc, World.size_alloc, World.size_alloc] at this
  simp only [fOut] at hW0
  rw [hW0]
  clear hW0
  refine wpIn_rangeFunc_box (Bs := w.heap.size + 5) (L := liN s.data.toList) (encs := encL) rfl (by omega) (gf := 73) (lb := #[.pointer (some ⟨w.heap.size + 5, 0, none⟩)]) rfl trivial (enters_of Tryz.func73 (by kernel_rfl) rfl)
    (lines_seq 9 (w.heap.size + 5) s (by omega) W0 BL) (by omega) (fun _ => rfl)
    (fun pre W => PBx w.heap.size w W pre.length ∧ PRd w.heap.size W pre)
    (fun _ W => ∃ n : Nat, paS s.data.toList = (none, n) ∧ Boxed W w.heap.size 22 (.slice none 0 0) ∧ Boxed W (w.heap.size + 1) 3 (.int .i64 n) ∧ Boxed W (w.heap.size + 2) 28 (.int .i64 3) ∧ Below w.heap.size w W)
    (fun s A B row hs hg hr => ⟨hs.1.gr hg (fun r e => by have := hr r e; omega), hs.2.gr hg (fun r e => by have := hr r e; omega)⟩)
    (fun c A B row ⟨n, g1, g2, g3, g4, g5⟩ hg hr => by
      have n : ∀ j, j < 5 → some (w.heap.size + j) ≠ row := fun j hj e => by have := hr _ e.symm; omega
      exact ⟨_, g1, g2.kept hg (n 0 (by omega)), g3.kept hg (n 1 (by omega)), g4.kept hg (n 2 (by omega)), g5.grown hg (by have := g2.lt; omega) (fun r e => by have := hr r e; omega)⟩)
    ⟨B0, R0⟩
    (fun x => { tmps := #[.string s, undef, .pointer (some ⟨w.heap.size, 0, none⟩), .pointer (some ⟨w.heap.size + 1, 0, none⟩), .pointer (some ⟨w.heap.size + 1 + 1, 0, none⟩), .pointer (some ⟨w.heap.size + 1 + 1 + 1, 0, none⟩), .pointer (some ⟨w.heap.size + 1 + 1 + 1 + 1, 0, none⟩), .string x, undef, .string s, .int .i64 s.size, .bool false, .agg #[.func (.func 50) #[] #[], .slice none 0 0, .bool false], .string s, .func (.func 73) #[] #[.pointer (some ⟨w.heap.size + 1 + 1 + 1 + 1 + 1, 0, none⟩)], .string x, undef, undef, undef, undef, undef, undef, undef, undef, undef, undef, undef, undef, undef, undef, undef, undef, undef, undef], defers := [] }) ?assign ?body ?done ?stop
  case assign =>
    intro l x W K hK
    dsimp only [encL]
    gi_wp2
    exact hK
  case body =>
    intro l pre x rest W hL hI hlt
    obtain ⟨hI1, hI2⟩ := hI
    have c4 := hI1.cn.cell
    have f4 := hI1.cn.frozen
    obtain ⟨m1, m2⟩ := liN_len s
    have hpl : pre.length ≤ 65536 := by
      rw [hL] at m1; simp at m1; omega
    have wk : IntKind.i64.wrap ((pre.length : Int) + 1) = (pre.length : Int) + 1 := by simp only [IntKind.wrap_i64]; omega
    rw [hsz] at hlt
    have HR := Lib.hid (read_any w.heap.size (pre.length + 1) s x pre rest w (W.setCell ⟨w.heap.size + 4, 0, none⟩ (.int .i64 ((pre.length : Int) + 1))) rfl hw hs hL (hI1.count (pre.length + 1)) (hI2.count _) (by simpa [World.setCell] using hlt))
    have HB := Lib.hid (hI1.count (pre.length + 1))
    gi_wp2_with fail
    refine ⟨trivial, (CallsIn.inRound l (callsIn_wide.2 HR.out)).mono ?_⟩
    rintro e W3 ⟨b, rfl, h3⟩
    obtain ⟨kx, hc⟩ := h3.out
    have HB3 := HB.out.kx kx
    have ek : ∀ j, 5 ≤ j → j < 8 → W3.heap[w.heap.size + j]? = W.heap[w.heap.size + j]? := fun j h5 h8 => (kx.block _ (by omega) (by omega)).trans (Below.heap_setCell _ _ _ _ (by show w.heap.size + j ≠ w.heap.size + 4; omega))
    clear h3 HR HB c4 f4 kx
    rcases hc with ⟨rfl, hr⟩ | ⟨rfl, hp⟩
    · gi_wp2
      refine ⟨ek 5 (by omega) (by omega), ?_, ?_, ?_, hr⟩
      · rw [hsz]; exact ek 6 (by omega) (by omega)
      · rw [hsz]; exact ek 7 (by omega) (by omega)
      · rw [List.length_append]; exact HB3
    · have c0 := HB3.r0.cell
      have f0 := HB3.r0.frozen
      have c1 := HB3.r1.cell
      have f1 := HB3.r1.frozen
      have c2 := HB3.r2.cell
      have f2 := HB3.r2.frozen
      have c4 : W3.cell? ⟨w.heap.size + 4, 0, none⟩ = some (.int .i64 ((pre.length : Int) + 1)) := HB3.cn.cell
      have c4' := HB3.cn.cell
      have END := HB3.fail (pre.length + 1)
      have e6 : (((W3.setCell ⟨w.heap.size, 0, none⟩ (.slice none 0 0)).setCell ⟨w.heap.size + 1, 0, none⟩ (.int .i64 ((pre.length : Int) + 1))).setCell ⟨w.heap.size + 2, 0, none⟩ (.int .i64 3)).heap[W0.heap.size]? = W.heap[W0.heap.size]? := by
        rw [hsz, Below.heap_setCell _ _ _ _ (by show _ ≠ w.heap.size + 2; omega), Below.heap_setCell _ _ _ _ (by show _ ≠ w.heap.size + 1; omega), Below.heap_setCell _ _ _ _ (by show _ ≠ w.heap.size; omega)]
        exact ek 6 (by omega) (by omega)
      have e7 : (((W3.setCell ⟨w.heap.size, 0, none⟩ (.slice none 0 0)).setCell ⟨w.heap.size + 1, 0, none⟩ (.int .i64 ((pre.length : Int) + 1))).setCell ⟨w.heap.size + 2, 0, none⟩ (.int .i64 3)).heap[W0.heap.size + 1]? = W.heap[W0.heap.size + 1]? := by
        rw [hsz, Below.heap_setCell _ _ _ _ (by show _ ≠ w.heap.size + 2; omega), Below.heap_setCell _ _ _ _ (by show _ ≠ w.heap.size + 1; omega), Below.heap_setCell _ _ _ _ (by show _ ≠ w.heap.size; omega)]
        exact ek 7 (by omega) (by omega)
      gi_wp2_with fail
      gi_region
      all_goals
        gi_wp2
        exact ⟨e6, e7, pre.length + 1, hp, END.1, END.2.1, END.2.2.1, (bel_dr' END.2.2.2)⟩
  case done =>
    rintro W ⟨I1, st, v, g1, g2, g3, g4, g5⟩ hD
    have hov := g1.over
    obtain ⟨m1, m2⟩ := liN_len s
    rw [hsz] at hD ⊢
    rcases st with ⟨op, l⟩
    have c0 := I1.r0.cell
    have f0 := I1.r0.frozen
    have c1 := I1.r1.cell
    have f1 := I1.r1.frozen
    have c2 := I1.r2.cell
    have f2 := I1.r2.frozen
    have c4 := I1.cn.cell
    obtain ⟨t0, t1, t2, tf, tlt⟩ := g4
    clear t0 tf
    have wk : IntKind.i64.wrap (((liN s.data.toList).length : Int) + 1) = ((liN s.data.toList).length : Int) + 1 := by simp only [IntKind.wrap_i64]; omega
    cases op with
    | true =>
      rw [if_pos rfl] at hov
      have END := I1.fail ((liN s.data.toList).length + 1)
      generalize (liN s.data.toList).length = k at *
      gi_wp2_with fail
      have hK0 : (((W.setCell ⟨w.heap.size, 0, none⟩ (.slice none 0 0)).setCell ⟨w.heap.size + 1, 0, none⟩ (.int .i64 ((k : Int) + 1))).setCell ⟨w.heap.size + 2, 0, none⟩ (.int .i64 3)).heap[w.heap.size + 6]? = some (.deferred (some [])) := by
        rw [Below.heap_setCell _ _ _ _ (by show _ ≠ w.heap.size + 2; omega), Below.heap_setCell _ _ _ _ (by show _ ≠ w.heap.size + 1; omega), Below.heap_setCell _ _ _ _ (by show _ ≠ w.heap.size; omega)]
        exact hD
      gi_region
      all_goals
        gi_wp2
        obtain ⟨WF, hWF⟩ : ∃ WF : World, WF = (((W.setCell ⟨w.heap.size, 0, none⟩ (.slice none 0 0)).setCell ⟨w.heap.size + 1, 0, none⟩ (.int .i64 ((k : Int) + 1))).setCell ⟨w.heap.size + 1 + 1, 0, none⟩ (.int .i64 3)).drew := ⟨_, rfl⟩
        rw [← hWF]
        have x0 : WF.cell? ⟨w.heap.size, 0, none⟩ = some (.slice none 0 0) := by rw [hWF]; exact dr_cell END.1.cell
        have x1 : WF.cell? ⟨w.heap.size + 1, 0, none⟩ = some (.int .i64 ((k : Int) + 1)) := by rw [hWF]; exact dr_cell END.2.1.cell
        have x2 : WF.cell? ⟨w.heap.size + 2, 0, none⟩ = some (.int .i64 3) := by rw [hWF]; exact dr_cell END.2.2.1.cell
        have xb : Below w.heap.size w WF := by rw [hWF]; exact bel_dr' END.2.2.2
        have hK : WF.heap[w.heap.size + 6]? = some (.deferred (some [])) := by rw [hWF]; exact hK0
        clear hK0 END
        clear hWF
        refine ⟨by simp, .inl ⟨_, _, rfl, run_takeDeferred hK, ?_⟩⟩
        have hc0 := cell_kept x0 (grownBy_putObj' _ (w.heap.size + 6) (.deferred none)) (fun r e => by cases e; exact ⟨_, hK, rfl⟩)
        have hc1 := cell_kept x1 (grownBy_putObj' _ (w.heap.size + 6) (.deferred none)) (fun r e => by cases e; exact ⟨_, hK, rfl⟩)
        have hc2 := cell_kept x2 (grownBy_putObj' _ (w.heap.size + 6) (.deferred none)) (fun r e => by cases e; exact ⟨_, hK, rfl⟩)
        refine ⟨.tuple #[(.slice none 0 0), .int .i64 ((k : Int) + 1), .int .i64 3], ?_, (.slice none 0 0), ((k : Int) + 1), 3, rfl, paF_bad (n := k + 1) hov hs _, xb.trans (belowK_b (w := w) (Nat.le_refl _) _ (w.heap.size + 6) _ _ (by omega) hK rfl rfl)⟩
        simp [results, Tryz.results24, go_sem, hc0, hc1, hc2]
    | false =>
      rw [if_neg (by simp)] at hov
      have hO : OwnC W (w.heap.size + 8) v l := by
        rcases g5 with ⟨_, h⟩ | ⟨h, _⟩
        · exact h
        · cases h
      have hck : Cks W v l := g2.cks hO
      obtain ⟨a, cap, rfl, hck2⟩ := hck
      have hck : Cks W (.slice a l.length cap) l := ⟨a, cap, rfl, hck2⟩
      clear hck2
      have HL := Lib.hid (cLi_any _ l W hck)
      gi_wp2_with fail
      refine ⟨trivial, (callsIn_wide.2 HL.out).mono ?_⟩
      rintro e w4 ⟨rfl, gg⟩
      have I4 : PBx w.heap.size w w4 (liN s.data.toList).length := I1.bel' gg
      have hK4 : w4.heap[w.heap.size + 6]? = some (.deferred (some [])) := (gg.block _ (Array.getElem?_eq_some_iff.1 hD).1).trans hD
      have y1 : w4.cell? ⟨w.heap.size + 3, 1, none⟩ = some (.slice a l.length cap) := cell_bel t1 gg
      have CK4 := hck.below gg
      clear c0 f0 c1 f1 c2 f2 c4 t1 t2 HL
      have c0 := I4.r0.cell
      have f0 := I4.r0.frozen
      have c1 := I4.r1.cell
      have f1 := I4.r1.frozen
      have c2 := I4.r2.cell
      have f2 := I4.r2.frozen
      by_cases hE : liE l = 0
      · have END := I4.put (.slice a l.length cap) 0 0
        have hK0 := I4.put_heap hK4 (.slice a l.length cap) 0 0
        have pf := paF_ok hov hs hE (v := .slice a l.length cap)
        rw [hE]
        gi_wp2
        obtain ⟨WF, hWF⟩ : ∃ WF : World, WF = (((w4.setCell ⟨w.heap.size, 0, none⟩ (.slice a l.length cap)).setCell ⟨w.heap.size + 1, 0, none⟩ (.int .i64 0)).setCell ⟨w.heap.size + 1 + 1, 0, none⟩ (.int .i64 0)) := ⟨_, rfl⟩
        rw [← hWF]
        have x0 : WF.cell? ⟨w.heap.size, 0, none⟩ = some (.slice a l.length cap) := by rw [hWF]; exact END.1.cell
        have x1 : WF.cell? ⟨w.heap.size + 1, 0, none⟩ = some (.int .i64 0) := by rw [hWF]; exact END.2.1.cell
        have x2 : WF.cell? ⟨w.heap.size + 2, 0, none⟩ = some (.int .i64 0) := by rw [hWF]; exact END.2.2.1.cell
        have xb : Below w.heap.size w WF := by rw [hWF]; exact END.2.2.2
        have hK : WF.heap[w.heap.size + 6]? = some (.deferred (some [])) := by rw [hWF]; exact hK0
        have hO5 : OwnC WF (w.heap.size + 8) (.slice a l.length cap) l := by rw [hWF]; exact (((hO.below gg).far (by omega)).far (by omega)).far (by omega)
        clear hK0 END
        clear hWF
        refine ⟨by simp, .inl ⟨_, _, rfl, run_takeDeferred hK, ?_⟩⟩
        have hc0 := cell_kept x0 (grownBy_putObj' _ (w.heap.size + 6) (.deferred none)) (fun r e => by cases e; exact ⟨_, hK, rfl⟩)
        have hc1 := cell_kept x1 (grownBy_putObj' _ (w.heap.size + 6) (.deferred none)) (fun r e => by cases e; exact ⟨_, hK, rfl⟩)
        have hc2 := cell_kept x2 (grownBy_putObj' _ (w.heap.size + 6) (.deferred none)) (fun r e => by cases e; exact ⟨_, hK, rfl⟩)
        refine ⟨.tuple #[(.slice a l.length cap), .int .i64 0, .int .i64 0], ?_, (.slice a l.length cap), 0, 0, rfl, pf _ (g2.cks (hO5.gr (grownBy_putObj' _ _ _) (fun r e => by cases e; omega))), xb.trans (belowK_b (w := w) (Nat.le_refl _) _ (w.heap.size + 6) _ _ (by omega) hK rfl rfl)⟩
        simp [results, Tryz.results24, go_sem, hc0, hc1, hc2]
      · have END := I4.put (.slice none 0 0) 0 (liE l)
        have hK0 := I4.put_heap hK4 (.slice none 0 0) 0 (liE l)
        have pf := paF_list hov hs hE
        have hne : (liE l != 0) = true := by simp [hE]
        generalize liE l = E at *
        gi_wp2
        obtain ⟨WF, hWF⟩ : ∃ WF : World, WF = (((w4.setCell ⟨w.heap.size, 0, none⟩ (.slice none 0 0)).setCell ⟨w.heap.size + 1, 0, none⟩ (.int .i64 0)).setCell ⟨w.heap.size + 1 + 1, 0, none⟩ (.int .i64 E)) := ⟨_, rfl⟩
        rw [← hWF]
        have x0 : WF.cell? ⟨w.heap.size, 0, none⟩ = some (.slice none 0 0) := by rw [hWF]; exact END.1.cell
        have x1 : WF.cell? ⟨w.heap.size + 1, 0, none⟩ = some (.int .i64 0) := by rw [hWF]; exact END.2.1.cell
        have x2 : WF.cell? ⟨w.heap.size + 2, 0, none⟩ = some (.int .i64 E) := by rw [hWF]; exact END.2.2.1.cell
        have xb : Below w.heap.size w WF := by rw [hWF]; exact END.2.2.2
        have hK : WF.heap[w.heap.size + 6]? = some (.deferred (some [])) := by rw [hWF]; exact hK0
        clear hK0 END
        clear hWF
        refine ⟨by simp, .inl ⟨_, _, rfl, run_takeDeferred hK, ?_⟩⟩
        have hc0 := cell_kept x0 (grownBy_putObj' _ (w.heap.size + 6) (.deferred none)) (fun r e => by cases e; exact ⟨_, hK, rfl⟩)
        have hc1 := cell_kept x1 (grownBy_putObj' _ (w.heap.size + 6) (.deferred none)) (fun r e => by cases e; exact ⟨_, hK, rfl⟩)
        have hc2 := cell_kept x2 (grownBy_putObj' _ (w.heap.size + 6) (.deferred none)) (fun r e => by cases e; exact ⟨_, hK, rfl⟩)
        refine ⟨.tuple #[(.slice none 0 0), .int .i64 0, .int .i64 E], ?_, (.slice none 0 0), 0, E, rfl, pf _, xb.trans (belowK_b (w := w) (Nat.le_refl _) _ (w.heap.size + 6) _ _ (by omega) hK rfl rfl)⟩
        simp [results, Tryz.results24, go_sem, hc0, hc1, hc2]
  case stop =>
    rintro W ⟨n, g1, g2, g3, g4, g5⟩ hK
    gi_wp2
    refine ⟨by simp, .inl ⟨_, _, rfl, run_takeDeferred hK, ?_⟩⟩
    have hc0 := cell_kept g2.cell (grownBy_putObj' _ W0.heap.size (.deferred none)) (fun r e => by cases e; exact ⟨_, hK, rfl⟩)
    have hc1 := cell_kept g3.cell (grownBy_putObj' _ W0.heap.size (.deferred none)) (fun r e => by cases e; exact ⟨_, hK, rfl⟩)
    have hc2 := cell_kept g4.cell (grownBy_putObj' _ W0.heap.size (.deferred none)) (fun r e => by cases e; exact ⟨_, hK, rfl⟩)
    refine ⟨.tuple #[(.slice none 0 0), .int .i64 (n : Int), .int .i64 3], ?_, (.slice none 0 0), (n : Int), 3, rfl, paF_bad g1 hs _, (g5).trans (belowK_b (w := w) (Nat.le_refl _) _ W0.heap.size _ _ (by omega) hK rfl rfl)⟩
    simp [results, Tryz.results24, go_sem, hc0, hc1, hc2]
theorem cPar_any (s : ByteArray) (w : World) (hw : CV w) :
    Calls Tryz.prog 24 #[.string s] w fun e w' => ∃ v n E, e = .returned (.tuple #[v, .int .i64 n, .int .i64 E]) ∧ PaF s v n E w' ∧ Below w.heap.size w w' := by
  by_cases h : s.size ≤ 65536
  · exact cPar_some s w h hw
  · exact cPar_big s w (by omega)
end Go.Proofs.YtpnlfeljmpfeoaaGreatDoor

/- The reference of layer 9: Parse. -/
namespace Go.Proofs.YtpnlfeljmpfeoaaGreatDoor
open Go.RowKit

theorem own_shape' {w : World} {B size n : Nat} {e : TypeId} {v : Value} {xs : List Value} (h : w.ownsRow B e size v (n + 1) xs) : ∃ g cap, v = .slice (some ⟨g, 0, none⟩) (n + 1) cap := by
  rcases h.2 with ⟨_, h0⟩ | ⟨g, cap, cur, hv, _⟩
  · omega
  · exact ⟨g, cap, hv⟩
/-- a point is appended to a row of the call's own, as one step of a region that draws its order -/
theorem step_pt {ops : Array Oper} {o : Oper} {a : Act} {w : World} {K : Act → World → Prop} {Q : Exit → Act → World → Prop} {E : Prop} (hg : o.guard = none) (s x : Operand)
    (hop : o.op = Op.call { callee := Callee.builtin Builtin.append, args := #[s, x], argTypes := #[25, 25] }) (B n g c : Nat) (v : Value) (xs news : List Value) (h4 : news.length = 2) (h1c : ∀ u ∈ news, u.oneCell' = true)
    (hs : a.eval s = v) (hx : a.eval x = .slice (some ⟨g, 0, none⟩) 1 c) (hown : w.ownsRow B 46 2 v n xs) (hn : n ≤ 1000000) (hB : B ≤ w.heap.size)
    (hp : ∀ j u, news[j]? = some u → w.cell? ((⟨g, 0, none⟩ : Addr).add j) = some u)
    (h : ∀ v' w', w'.ownsRow B 46 2 v' (n + 1) (xs ++ news) → w.grownBy w' v.ownBlock → (v'.ownBlock = v.ownBlock ∨ v'.ownBlock = some w.heap.size) → K (a.put o.dst v') w') :
    if Region.wanted o (yielded ops a.tmps) = true then Oper.wp Tryz.prog o a w K Q else E := by
  obtain ⟨i0, hi, hz0, hz1, hz2⟩ := info_parts pt_info
  exact step_append_lies w hg s x 25 hop B 46 i0 (.agg #[.int .i64 0, .int .i64 0]) 2 16 Tryz.underlying25 hi hz0 hz1 hz2 rfl (by decide) v n xs hs hown ⟨g, 0, none⟩ 1 c news hx h4 hp h1c (by omega) (by unfold maxLen; omega) (by omega) hB _ rfl
    (fun g' cap w' h1 h2 h3 _ => h _ w' h1 h2 (h3.elim (fun e => .inl e.symm) (fun e => .inr (by rw [e]; rfl))))
set_option maxHeartbeats 16000000 in
set_option maxRecDepth 100000 in
theorem refPar_some (s : ByteArray) (w : World) (hs : s.size ≤ 65536) :
    Calls Tryz.prog 25 #[.string s] w fun e w' => ∃ v n E, e = .returned (.tuple #[v, .int .i64 n, .int .i64 E]) ∧ PaF s v n E w' ∧ Below w.heap.size w w' := by
  obtain ⟨i0, hi0, hz0, hz1, hz2⟩ := info_parts pt_info
  have hi0 := Lib.hid hi0
  have hz0 := Lib.hid hz0
  have hz1 := Lib.hid hz1
  have hz2 := Lib.hid hz2
  obtain ⟨j0, hj0, gz0, gz1, gz2⟩ := info_parts ck_info
  have hj0 := Lib.hid hj0
  have gz0 := Lib.hid gz0
  have gz1 := Lib.hid gz1
  have gz2 := Lib.hid gz2
  go_enter Tryz.func25, Tryz.ntmps25
  go_wp2_with fail
  go_loopw [5, 6, 7, 8, 9] (fun out op nu fr ii wr => ∃ (k f m : Nat) (st : Bool × List Ck), k ≤ s.size ∧ f ≤ k ∧ m ≤ k ∧ ii = .int .i64 k ∧ fr = .int .i64 f ∧ nu = .int .i64 m ∧ op = .bool st.1 ∧ Hid (RowP wr w.heap.size out st) ∧ Hid (Below w.heap.size w wr) ∧ Hid (BdP k st) ∧ Hid (PaR s k f st m)) (fun _ _ _ _ ii _ => s.size - (intOf ii).toNat)
  case atStart => exact ⟨0, 0, 0, (false, []), by omega, by omega, by omega, rfl, rfl, rfl, rfl, .inl ⟨rfl, [], rfl, World.ownsRow_nil _ _ _ _, fun q hq => by simp at hq⟩, Below.refl _ _, ⟨by simp, fun c hc => by simp at hc⟩, PaR.start s⟩
  case round =>
    obtain ⟨k, f, m, st, hk, hf, hm, rfl, rfl, rfl, rfl, hO, hB, hD, hP⟩ := hrel
    by_cases hlt : k < s.size
    · by_cases hc : s[k] = 10
      · have c3 : ((s[k].toNat : Int) == 10) = true := by rw [hc]; rfl
        have SL := slc s f k hf (by omega)
        have WW := Lib.hid (fun W => refWds_any (s.extract f k) W (by rw [ByteArray.size_extract]; omega))
        have HC := Lib.hid hc
        clear hc
        go_wp2_with fail
        refine (WW.out _).mono ?_
        rintro e w1 ⟨v, b, rfl, ⟨hb1, hb2⟩, gg⟩
        have B1 := Lib.hid (bel_trans hB.out gg)
        have G1 := Lib.hid gg
        clear gg
        have BD : Hid (lst st (s.extract f k).data.toList = none → ∀ v W, PaP s v (m + 1) 3 W) := fun hl v W => by
          have e := hP.out.bad hlt HC.out hl
          exact ⟨fun n hn => by rw [e] at hn; simp only [Prod.mk.injEq, true_and] at hn; subst hn; exact ⟨by omega, rfl⟩, fun l k hn => by rw [e] at hn; simp at hn⟩
        cases b with
        | false =>
          have hw : wdO (s.extract f k).data.toList = none := by
            cases e : wdO (s.extract f k).data.toList with
            | none => rfl
            | some x => rw [e] at hb1; cases hb1
          have HQ := Lib.hid (BD.out (by unfold lst; rw [hw]))
          clear BD hw hb1 hb2 WW
          go_wp2
          go_returns
          exact ⟨_, _, _, rfl, paF_of (HQ.out _ _) hs (fun _ => rfl), B1.out⟩
        | true =>
          obtain ⟨o, hw, hrow, hsz, hol⟩ := hb2 rfl
          have hol : o.length ≤ 65537 := by rw [ByteArray.size_extract] at hol; omega
          have WD := Lib.hid (wds_row hrow hsz (by omega))
          have HW := Lib.hid hw
          have HZ := Lib.hid hsz
          clear hrow hsz hb1 hw WW
          rcases st with ⟨op, l⟩
          cases op with
          | false =>
            have HH := Lib.hid (fun W hW => refHd_any v o W (WD.out.below hW))
            clear hb2
            go_wp2_with fail
            refine (HH.out _ (Below.refl _ _)).mono ?_
            rintro e w2 ⟨nm, p, n, b, rfl, ⟨hb1, hb3⟩, gg⟩
            replace B1 := Lib.hid (bel_trans B1.out gg)
            replace G1 := Lib.hid (bel_trans G1.out gg)
            clear gg
            cases b with
            | false =>
              have hh : hd (wsL o) = none := by
                cases e : hd (wsL o) with
                | none => rfl
                | some x => rw [e] at hb1; cases hb1
              have HQ := Lib.hid (BD.out (by unfold lst; rw [HW.out]; simp [hh]))
              clear BD hh hb1 hb3
              go_wp2
              go_returns
              exact ⟨_, _, _, rfl, paF_of (HQ.out _ _) hs (fun _ => rfl), B1.out.alloc B1.out.size _⟩
            | true =>
              have hh := hb3 rfl
              have hC : OwnC w2 w.heap.size u5 l := by
                rcases hO.out with ⟨_, h⟩ | ⟨h, _⟩
                · exact h.below G1.out
                · cases h
              have hbd := hd_bd hh
              have hl : lst (false, l) (s.extract f k).data.toList = some (true, l ++ [⟨nm, p, [], n⟩]) := by
                unfold lst; rw [HW.out]; simp [hh]
              have ND : Hid (BdP (k + 1) (true, l ++ [⟨nm, p, [], n⟩])) := Lib.hid (by
                refine ⟨by have := hD.out.1; simp at this ⊢; omega, fun c h => ?_⟩
                rcases List.mem_append.1 h with h | h
                · have := hD.out.2 c h; exact ⟨by omega, this.2⟩
                · rw [List.mem_singleton] at h
                  subst h
                  obtain ⟨⟨a, ha, hnm⟩, i2, _, i4⟩ := hbd
                  obtain ⟨x, hx, rfl⟩ := wsL_mem ha
                  rw [toA] at hnm
                  exact ⟨by simp, by rw [hnm]; exact HZ.out x hx, i2, i4⟩)
              have NP := Lib.hid (hP.out.next hlt HC.out hl)
              obtain ⟨ps, o1, o2, o3⟩ := hC
              have hln : l.length ≤ 65536 := by have := hD.out.1; simp at this; omega
              have X2 : Below w2.heap.size w2 _ := bel_alloc (o := .cells #[.string nm, .int .i64 p, .slice none 0 0, .int .i64 n] 27) (Below.refl _ _)
              have X3 := X2.alloc X2.size (.cells #[.string nm, .int .i64 p, .slice none 0 0, .int .i64 n] 27)
              have O2 := Lib.hid (row_bel o2 X3)
              have O3 := Lib.hid (fun q hq => row_bel (o3 q hq) X3)
              have fn := quad_news (w2.alloc (.cells #[.string nm, .int .i64 p, .slice none 0 0, .int .i64 n] 27)) (.string nm) (.int .i64 p) (.slice none 0 0) (.int .i64 n) 27
              rw [show (w2.alloc (.cells #[.string nm, .int .i64 p, .slice none 0 0, .int .i64 n] 27)).heap.size = w2.heap.size + 1 by simp] at fn
              have FN := Lib.hid fn
              clear fn
              have BS := Lib.hid (Nat.le_trans B1.out.size X3.size)
              have BX := Lib.hid (bel_trans B1.out X3)
              clear hb1 hb3 hh hbd hl BD o2 o3 X2 X3 hO HH WD
              go_wp2_with (at_builtin; refine wpList_append_own_at _ rfl _ _ 22 rfl w.heap.size 27 j0 (.agg #[.string ByteArray.empty, .int .i64 0, .slice none 0 0, .int .i64 0]) 4 56 Tryz.underlying22 hj0.out gz0.out gz1.out gz2.out rfl (by omega) _ _ _ rfl O2.out ⟨w2.heap.size + 1, 0, none⟩ 1 1 (ckCells ⟨nm, p, [], n⟩ (.slice none 0 0)) rfl rfl FN.out (ckCells_one _ _ rfl) ?qd4 ?qd5 BS.out ?_)
              case qd4 => unfold maxLen; omega
              case qd5 => omega
              intro v2 w3 hown hgrow _ _
              have NO : Hid (RowP w3 w.heap.size v2 (true, l ++ [⟨nm, p, [], n⟩])) := Lib.hid (.inr ⟨rfl, l, ps, _, _, rfl, OwnC.begin o1 O2.out O3.out hgrow rfl hown⟩)
              have B3 := Lib.hid (BX.out.grown hgrow BS.out (fun q hq => (World.ownsRow.lt O2.out q hq).1))
              clear hown hgrow O2 O3 FN
              go_wp2
              go_roundw
              case rel => exact ⟨k + 1, k + 1, m + 1, _, by omega, by omega, by omega, by go_num, by go_num, by go_num, rfl, NO, B3, ND, NP⟩
              case measure => simp [intOf]; omega
          | true =>
            obtain ⟨l0, ps, c, p, rfl, hOO⟩ : ∃ l0 ps c p, l = l0 ++ [c] ∧ OwnO w1 w.heap.size u5 l0 ps c p := by
              rcases hO.out with ⟨h, _⟩ | ⟨_, l0, ps, c, p, h1, h2⟩
              · cases h
              · exact ⟨l0, ps, c, p, h1, h2.below G1.out⟩
            have OO := Lib.hid hOO
            have PT := Lib.hid (fun W hW => refPt_any v o W (WD.out.below hW))
            clear hO hOO hb2
            obtain ⟨a, cap, rfl, ⟨hl1, hl2⟩, hss, hh⟩ := WD.out
            clear hss
            by_cases h1 : o.length = 1 ∧ wsL o = [wEn]
            · obtain ⟨h1, h2⟩ := h1
              rcases hh with hh | ⟨b, off, rfl, hb, hcs⟩
              · omega
              · have c0 := hcs 0 (by omega)
                rw [Nat.add_zero] at c0
                have e0 : ((o[0]'(by omega)).toList == [101, 110, 100]) = true := by
                  have : (o[0]'(by omega)).data.toList = wEn := by
                    have := congrArg (fun z => z[0]?) h2
                    simp [wsL, List.getElem?_eq_getElem (show 0 < o.length by omega)] at this
                    exact this
                  rw [ByteArray.toList_eq, this]; rfl
                have d1 : ((o.length : Int) == 1) = true := by simp only [beq_iff_eq]; omega
                have hl : lst (true, l0 ++ [c]) (s.extract f k).data.toList = some (false, l0 ++ [c]) := by
                  unfold lst; rw [HW.out]; simp [h2]
                have NP := Lib.hid (hP.out.next hlt HC.out hl)
                have ND : Hid (BdP (k + 1) (false, l0 ++ [c])) := Lib.hid ⟨by have := hD.out.1; simp at this ⊢; omega, fun c' h => by have := hD.out.2 c' h; exact ⟨by omega, this.2⟩⟩
                have NO : Hid (RowP w1 w.heap.size u5 (false, l0 ++ [c])) := Lib.hid (.inl ⟨rfl, OO.out.close⟩)
                clear hl h2 hcs BD PT WD HW HZ
                generalize (o[0]'(by omega)) = x at *
                go_wp2
                go_roundw
                case rel => exact ⟨k + 1, k + 1, m + 1, _, by omega, by omega, by omega, by go_num, by go_num, by go_num, rfl, NO, B1, ND, NP⟩
                case measure => simp [intOf]; omega
            · have hne : wsL o ≠ [wEn] := fun e => h1 ⟨by have := congrArg List.length e; simpa [wsL] using this, e⟩
              have HL : Hid (lst (true, l0 ++ [c]) (s.extract f k).data.toList = (pnt (wsL o)).map (fun q => (true, l0 ++ [⟨c.nm, c.ps, c.pf ++ [q], c.dc⟩]))) := by
                show _ = _
                unfold lst; rw [HW.out]; simp [hne, addQ_snoc]
              have hcond : ((o.length : Int) == 1) = false ∨ (((o.length : Int) == 1) = true ∧ 0 < o.length ∧ ∃ b off x, a = some ⟨b, off, none⟩ ∧ w1.cell? ⟨b, off, none⟩ = some (.string x) ∧ (x.toList == [101, 110, 100]) = false) := by
                by_cases h3 : o.length = 1
                · refine .inr ⟨by simp only [beq_iff_eq]; omega, by omega, ?_⟩
                  rcases hh with hh | ⟨b, off, rfl, hb, hcs⟩
                  · omega
                  · have c0 := hcs 0 (by omega)
                    rw [Nat.add_zero] at c0
                    refine ⟨b, off, _, rfl, c0, ?_⟩
                    obtain ⟨x, rfl⟩ : ∃ x, o = [x] := List.length_eq_one_iff.1 h3
                    have hx : x.data.toList ≠ wEn := fun e => hne (by simp [wsL, e])
                    rw [ByteArray.toList_eq]
                    simpa [wEn] using hx
                · exact .inl (by simp only [beq_eq_false_iff_ne, ne_eq]; omega)
              have hln : l0.length ≤ 65535 := by have := hD.out.1; simp at this; omega
              have hpl : c.pf.length ≤ 65536 := by have := (hD.out.2 c (by simp)).1; omega
              obtain ⟨g, cp, rfl, ⟨hg0, hg1⟩, _, _⟩ := OO.out.cells
              have wk : IntKind.i64.wrap ((l0.length : Int) + 1 - 1) = (l0.length : Int) := by simp only [IntKind.wrap_i64]; omega
              have wk2 : IntKind.i64.wrap (l0.length : Int) = (l0.length : Int) := by simp only [IntKind.wrap_i64]; omega
              clear hh hne h1 WD HW
              rcases hcond with d1 | ⟨d1, d2, b, off, x, rfl, c0, e0⟩
              all_goals
                go_wp2_with fail
                refine (PT.out _ (Below.refl _ _)).mono ?_
                rintro e w2 ⟨x', r, bl, rfl, ⟨hb1, hb3⟩, gg⟩
                replace B1 := Lib.hid (bel_trans B1.out gg)
                replace OO := Lib.hid (OO.out.below gg)
                have hg2 : g < w2.heap.size := Nat.lt_of_lt_of_le hg1 gg.size
                clear gg
                cases bl with
                | false =>
                  have HQ := Lib.hid (BD.out (by rw [HL.out]; cases e : pnt (wsL o) with | none => rfl | some y => rw [e] at hb1; cases hb1))
                  clear hb1 hb3 BD HL
                  go_wp2
                  go_returns
                  exact ⟨_, _, _, rfl, paF_of (HQ.out _ _) hs (fun _ => rfl), B1.out.alloc B1.out.size _⟩
                | true =>
                  have hq := hb3 rfl
                  have hl : lst (true, l0 ++ [c]) (s.extract f k).data.toList = some (true, l0 ++ [⟨c.nm, c.ps, c.pf ++ [(x', r)], c.dc⟩]) := by rw [HL.out, hq]; rfl
                  have NP := Lib.hid (hP.out.next hlt HC.out hl)
                  have ND : Hid (BdP (k + 1) (true, l0 ++ [⟨c.nm, c.ps, c.pf ++ [(x', r)], c.dc⟩])) := Lib.hid (by
                    refine ⟨by have := hD.out.1; simp at this ⊢; omega, fun c' h => ?_⟩
                    rcases List.mem_append.1 h with h | h
                    · have := hD.out.2 c' (by simp [h]); exact ⟨by omega, this.2⟩
                    · rw [List.mem_singleton] at h
                      subst h
                      have := hD.out.2 c (by simp)
                      exact ⟨by have := this.1; simp; omega, this.2⟩)
                  have X2 : Below w2.heap.size w2 _ := bel_alloc (o := .cells #[.int .i64 x', .int .i64 r] 46) (Below.refl _ _)
                  have X3 := X2.alloc X2.size (.cells #[.int .i64 x', .int .i64 r] 46)
                  have OA := OO.out.below X2
                  have OX := Lib.hid (OO.out.below X3)
                  have s0 := OO.out.still rfl (row_grown_refl _ _)
                  have s1 := OA.still rfl (row_grown_refl _ _)
                  have s2 := OX.out.still rfl (row_grown_refl _ _)
                  obtain ⟨s0c, s0f⟩ := s0
                  obtain ⟨s1c, s1f⟩ := s1
                  obtain ⟨s2c, s2f⟩ := s2
                  have BS := Lib.hid (Nat.le_trans B1.out.size X3.size)
                  have BX := Lib.hid (bel_trans B1.out X3)
                  have fn := two_cells_new (w2.alloc (.cells #[.int .i64 x', .int .i64 r] 46)) x' r 46
                  rw [show (w2.alloc (.cells #[.int .i64 x', .int .i64 r] 46)).heap.size = w2.heap.size + 1 by simp] at fn
                  have FN : Hid (∀ j u, [Value.int .i64 x', .int .i64 r][j]? = some u → (((w2.alloc (.cells #[.int .i64 x', .int .i64 r] 46)).drew).alloc (.cells #[.int .i64 x', .int .i64 r] 46)).cell? ((⟨w2.heap.size + 1, 0, none⟩ : Addr).add j) = some u) := Lib.hid fn
                  have h1c : Hid (∀ u ∈ [Value.int .i64 x', .int .i64 r], u.oneCell' = true) := Lib.hid (by intro u hu; simp at hu; rcases hu with rfl | rfl <;> rfl)
                  have OX2 : Hid (OwnO (((w2.alloc (.cells #[.int .i64 x', .int .i64 r] 46)).drew).alloc (.cells #[.int .i64 x', .int .i64 r] 46)) w.heap.size (.slice (some ⟨g, 0, none⟩) (l0.length + 1) cp) l0 ps c p) := Lib.hid OX.out
                  have BS2 : Hid (w.heap.size ≤ (((w2.alloc (.cells #[.int .i64 x', .int .i64 r] 46)).drew).alloc (.cells #[.int .i64 x', .int .i64 r] 46)).heap.size) := Lib.hid BS.out
                  have BX2 : Hid (Below w.heap.size w (((w2.alloc (.cells #[.int .i64 x', .int .i64 r] 46)).drew).alloc (.cells #[.int .i64 x', .int .i64 r] 46))) := Lib.hid ⟨BX.out.os, BX.out.tape, BX.out.output, BX.out.size, BX.out.block⟩
                  have li : (l0.length : Int) < (l0.length : Int) + 1 := by omega
                  have li0 : 0 ≤ (l0.length : Int) := by omega
                  clear hb1 hb3 BD HL hl hq X2 X3 OA PT fn OX BS BX OO
                  go_wp2_with fail
                  go_region_law (first | (refine step_pt rfl (.tmp 86) (.tmp 88) rfl w.heap.size c.pf.length (w2.heap.size + 1) 1 p (flat c.pf) [.int .i64 x', .int .i64 r] rfl h1c.out (by simp [Act.eval, Act.put]) (by simp [Act.eval, Act.put]) OX2.out.2.2.2 (by omega) BS2.out FN.out ?_; intro v2 w3 hown hgrow hat; have HP : OwnP w3 w.heap.size v2 (c.pf ++ [(x', r)]) := (by unfold OwnP; rw [flat_app, List.length_append]; exact hown); have NO : Hid (RowP (w3.setCell ⟨g, l0.length * 4 + 2, none⟩ v2) w.heap.size (.slice (some ⟨g, 0, none⟩) (l0.length + 1) cp) (true, l0 ++ [⟨c.nm, c.ps, c.pf ++ [(x', r)], c.dc⟩])) := Lib.hid (.inr ⟨rfl, l0, ps, _, v2, rfl, OX2.out.push rfl hgrow HP hat ⟨rfl, rfl, rfl⟩⟩); obtain ⟨s3c, s3f⟩ := OX2.out.still rfl hgrow; have B3 := Lib.hid ((BX2.out.grown hgrow BS2.out (fun q hq => (World.ownsRow.lt OX2.out.2.2.2 q hq).1)).setCell (p := ⟨g, l0.length * 4 + 2, none⟩) hg0 v2); obtain ⟨g2, cap2, rfl⟩ := own_shape' hown; clear hown hgrow hat HP) | fail)
                  all_goals
                    go_wp2
                    go_roundw
                    case rel => exact ⟨k + 1, k + 1, m + 1, _, by omega, by omega, by omega, by go_num, by go_num, by go_num, rfl, NO, B3, ND, NP⟩
                    case measure => simp [intOf]; omega
      · have hn : s[k].toNat ≠ 10 := fun e => hc (UInt8.toNat_inj.1 e)
        have c3 : ((s[k].toNat : Int) == 10) = false := by simp only [beq_eq_false_iff_ne, ne_eq]; omega
        have NP := Lib.hid (hP.out.plain hlt hc)
        have ND : Hid (BdP (k + 1) st) := Lib.hid ⟨by have := hD.out.1; omega, fun c h => by have := hD.out.2 c h; exact ⟨by omega, this.2⟩⟩
        clear hc hn
        go_wp2
        go_roundw
        case rel => exact ⟨k + 1, f, m, st, by omega, by omega, by omega, by go_num, rfl, rfl, rfl, hO, hB, ND, NP⟩
        case measure => simp [intOf]; omega
    · obtain rfl : k = s.size := by omega
      have hE := hP.out.over
      rcases st with ⟨op, l⟩
      cases op with
      | true =>
        rw [if_pos (.inr rfl)] at hE
        have HR : Hid (∀ v W, PaP s v (m + 1) 3 W) := fun v W => ⟨fun n hn => by rw [hE] at hn; simp only [Prod.mk.injEq, true_and] at hn; subst hn; exact ⟨by omega, rfl⟩, fun l k hn => by rw [hE] at hn; simp at hn⟩
        clear hE
        by_cases hfs : f < s.size
        · have d0 : decide ((f : Int) < (s.size : Int)) = true := decide_eq_true (by omega)
          go_wp2
          go_returns
          exact ⟨_, _, _, rfl, paF_of (HR.out _ _) hs (fun _ => rfl), hB.out⟩
        · have d0 : decide ((f : Int) < (s.size : Int)) = false := decide_eq_false (by omega)
          go_wp2
          go_returns
          exact ⟨_, _, _, rfl, paF_of (HR.out _ _) hs (fun _ => rfl), hB.out⟩
      | false =>
        by_cases hfs : f < s.size
        · rw [if_pos (.inl hfs)] at hE
          have HR : Hid (∀ v W, PaP s v (m + 1) 3 W) := fun v W => ⟨fun n hn => by rw [hE] at hn; simp only [Prod.mk.injEq, true_and] at hn; subst hn; exact ⟨by omega, rfl⟩, fun l k hn => by rw [hE] at hn; simp at hn⟩
          clear hE
          have d0 : decide ((f : Int) < (s.size : Int)) = true := decide_eq_true (by omega)
          go_wp2
          go_returns
          exact ⟨_, _, _, rfl, paF_of (HR.out _ _) hs (fun _ => rfl), hB.out⟩
        · rw [if_neg (by simp; omega)] at hE
          have d0 : decide ((f : Int) < (s.size : Int)) = false := decide_eq_false (by omega)
          have hC : OwnC wr w.heap.size u5 l := by
            rcases hO.out with ⟨_, h⟩ | ⟨h, _⟩
            · exact h
            · cases h
          have CK := Lib.hid (hD.out.cks hC)
          have LL := Lib.hid (refList_any u5 l wr CK.out)
          have HE := Lib.hid hE
          clear hE hC
          go_wp2_with fail
          refine LL.out.mono ?_
          rintro e w1 ⟨rfl, gg⟩
          have CK2 := Lib.hid (CK.out.below gg)
          have B1 := Lib.hid (bel_trans hB.out gg); clear gg
          by_cases hz : liE l = 0
          · rw [hz]
            go_wp2
            go_returns
            exact ⟨_, _, _, rfl, paF_of ⟨fun n hn => by rw [HE.out] at hn; simp at hn, fun l' k hn => by
              rw [HE.out] at hn
              simp only [Prod.mk.injEq, Option.some.injEq] at hn
              obtain ⟨rfl, rfl⟩ := hn
              exact ⟨rfl, hz.symm, fun _ => CK2.out⟩⟩ hs (fun h => absurd rfl h), B1.out⟩
          · have z0 : (liE l == 0) = false := by simpa using hz
            have z1 : (liE l != 0) = true := by simpa using hz
            go_wp2
            go_returns
            exact ⟨_, _, _, rfl, paF_of ⟨fun n hn => by rw [HE.out] at hn; simp at hn, fun l' k hn => by
              rw [HE.out] at hn
              simp only [Prod.mk.injEq, Option.some.injEq] at hn
              obtain ⟨rfl, rfl⟩ := hn
              exact ⟨rfl, rfl, fun h => absurd h hz⟩⟩ hs (fun _ => rfl), B1.out⟩
set_option maxHeartbeats 4000000 in
set_option maxRecDepth 100000 in
theorem refPar_big (s : ByteArray) (w : World) (hs : 65536 < s.size) :
    Calls Tryz.prog 25 #[.string s] w fun e w' => ∃ v n E, e = .returned (.tuple #[v, .int .i64 n, .int .i64 E]) ∧ PaF s v n E w' ∧ Below w.heap.size w w' := by
  have h1 : (65536 : Int) < (s.size : Int) := by omega
  go_enter Tryz.func25, Tryz.ntmps25
  go_wp2
  go_returns
  exact ⟨_, _, _, rfl, ⟨fun h => by omega, fun _ => ⟨rfl, rfl⟩, fun _ => rfl⟩, Below.refl _ _⟩
theorem refPar_any (s : ByteArray) (w : World) :
    Calls Tryz.prog 25 #[.string s] w fun e w' => ∃ v n E, e = .returned (.tuple #[v, .int .i64 n, .int .i64 E]) ∧ PaF s v n E w' ∧ Below w.heap.size w w' := by
  by_cases h : s.size ≤ 65536
  · exact refPar_some s w h
  · exact refPar_big s w (by omega)
end Go.Proofs.YtpnlfeljmpfeoaaGreatDoor

/- The reference of layer 9: Find. -/
namespace Go.Proofs.YtpnlfeljmpfeoaaGreatDoor
open Go.RowKit

set_option maxHeartbeats 4000000 in
theorem refFind_bad (v : Value) (nm : ByteArray) (E : Int) (w : World) (e1 : (E == 0) = false) (e2 : (E != 0) = true)
    (H1 : Hid (∀ W, Below w.heap.size w W → Calls Tryz.prog 17 #[v] W fun e w' => e = .returned (.int .i64 E) ∧ Below W.heap.size W w')) :
    Calls Tryz.prog 14 #[v, .string nm] w fun e w' => ∃ u, e = .returned (.tuple #[u, .int .i64 E]) ∧ CkV w' u zCk ∧ Below w.heap.size w w' := by
  have F0 := Lib.hid (Quad.new w (.string ByteArray.empty) (.int .i64 0) (.slice none 0 0) (.int .i64 0) 27)
  go_enter Tryz.func14, Tryz.ntmps14
  go_wp2_with fail
  refine (H1.out _ (bel_alloc (Below.refl _ _))).mono ?_
  rintro e w1 ⟨rfl, gg⟩
  replace F0 := Lib.hid (F0.out.below gg)
  have X1 := Lib.hid (bel_alloc gg); clear gg
  obtain ⟨u0, u1, u2, u3, uf, _⟩ := F0.out
  have f0 := uf 0 (by omega)
  have f1 := uf 1 (by omega)
  have f2 := uf 2 (by omega)
  have f3 := uf 3 (by omega)
  clear uf
  go_wp2
  obtain ⟨t0, t1, t2, t3⟩ := quad_read w1 w.heap.size (.string ⟨#[]⟩) (.int .i64 0) (.slice none 0 0) (.int .i64 0) u0 u1 u2 u3
  refine bodyPost_ret (v := .tuple #[.agg #[.string ByteArray.empty, .int .i64 0, .slice none 0 0, .int .i64 0], .int .i64 E]) (by simp [results, Tryz.results14, go_sem, t0, t1, t2, t3]; rfl) rfl ?_
  exact ⟨_, rfl, ⟨none, 0, rfl, pts_nil _, by decide, by decide, by decide⟩, (((X1.out.setCell (Nat.le_refl _) _).setCell (Nat.le_refl _) _).setCell (Nat.le_refl _) _).setCell (Nat.le_refl _) _⟩
set_option maxHeartbeats 16000000 in
set_option maxRecDepth 100000 in
theorem refFind_some (b off n cap : Nat) (l : List Ck) (nm : ByteArray) (w : World) (n1 : n ≤ 32) (nc : n ≤ cap ∧ cap ≤ 9223372036854775807) (hn : Hid (n = l.length)) (hb : b < w.heap.size) (hp : Hid (∀ c ∈ l, c.pf.length ≤ 1000))
    (hc : Hid (∀ j (hj : j < l.length), CkAt w b off j l[j]))
    (H1 : Hid (∀ W, Below w.heap.size w W → Calls Tryz.prog 17 #[.slice (some ⟨b, off, none⟩) n cap] W fun e w' => e = .returned (.int .i64 0) ∧ Below W.heap.size W w'))
    (Q : Value → Int → World → Prop)
    (h1 : Hid (∀ k (hk : k < l.length) u W, (∀ j (hj : j < l.length), j < k → (l[j].nm.toList == nm.toList) = false) → (l[k].nm.toList == nm.toList) = true → CkV W u l[k] → Q u 0 W))
    (h2 : Hid ((∀ j (hj : j < l.length), (l[j].nm.toList == nm.toList) = false) → ∀ u W, CkV W u zCk → Q u 7 W)) :
    Calls Tryz.prog 14 #[.slice (some ⟨b, off, none⟩) n cap, .string nm] w fun e w' => ∃ u E, e = .returned (.tuple #[u, .int .i64 E]) ∧ Q u E w' ∧ Below w.heap.size w w' := by
  have F0 := Lib.hid (Quad.new w (.string ByteArray.empty) (.int .i64 0) (.slice none 0 0) (.int .i64 0) 27)
  go_enter Tryz.func14, Tryz.ntmps14
  go_wp2_with fail
  refine (H1.out _ (bel_alloc (Below.refl _ _))).mono ?_
  rintro e w1 ⟨rfl, gg⟩
  replace F0 := Lib.hid (F0.out.below gg)
  have X1 := Lib.hid (bel_alloc gg); clear gg H1
  have hs := F0.out.2.2.2.2.2
  go_wp2_with fail
  go_loopw [7] (fun ii wr => ∃ k : Nat, k ≤ n ∧ ii = .int .i64 k ∧ wr = w1 ∧ Hid (∀ j (hj : j < l.length), j < k → (l[j].nm.toList == nm.toList) = false)) (fun ii _ => n - (intOf ii).toNat)
  case atStart => exact ⟨0, by omega, rfl, rfl, fun j hj h => by omega⟩
  case round =>
    obtain ⟨k, hk, rfl, rfl, ha⟩ := hrel
    by_cases hlt : k < n
    · have hkl : k < l.length := by rw [← hn.out]; exact hlt
      have l1 : (k : Int) < (n : Int) := by omega
      have cka := (hc.out k hkl).below hb X1.out
      obtain ⟨a, cp, c0, c1, c2, c3, hP, wd⟩ := cka
      cases hq : (l[k].nm.toList == nm.toList) with
      | false =>
        have hx : Hid (∀ j (hj : j < l.length), j < k + 1 → (l[j].nm.toList == nm.toList) = false) := fun j hj hjk => by
          by_cases e : j = k
          · subst e; exact hq
          · exact ha.out j hj (by omega)
        clear ha h1 h2 hc hP wd
        generalize l[k].nm = x at *
        go_wp2
        go_roundw
        case rel => exact ⟨k + 1, by omega, by go_num, by first | rfl | trivial, hx⟩
        case measure => simp [intOf]; omega
      | true =>
        have HQ := Lib.hid (fun u W => h1.out k hkl u W ha.out hq)
        have SUB : Cks wr (.slice (some ⟨b, off + k * 4, none⟩) 1 (cap - k)) [l[k]] := by
          refine ⟨_, _, rfl, by simp; omega, .inr ⟨b, off + k * 4, rfl, Nat.lt_of_lt_of_le hb X1.out.size, fun j hj => ?_⟩⟩
          obtain rfl : j = 0 := by simpa using hj
          exact ⟨_, _, _, _, by rw [Nat.zero_mul, Nat.add_zero]; exact c0, by rw [Nat.zero_mul, Nat.add_zero]; exact c1, by rw [Nat.zero_mul, Nat.add_zero]; exact c2, by rw [Nat.zero_mul, Nat.add_zero]; exact c3, a, cp, rfl, hP, wd⟩
        have HCP := Lib.hid (refCopy_any _ _ wr SUB (by simp) (by simp; exact hp.out _ (List.getElem_mem hkl)))
        have WD := Lib.hid wd
        have hks : (k : Int) ≤ (k : Int) + 1 := by omega
        clear ha h1 h2 hc hP wd hp SUB
        generalize l[k] = c at *
        go_wp2_with fail
        refine HCP.out.mono ?_
        rintro e w2 ⟨u, rfl, gO, gg⟩
        obtain ⟨g, cap', a', cp', rfl, hg, d0, d1, d2, d3, hO⟩ := gO.one
        replace F0 := Lib.hid (F0.out.below gg)
        replace X1 := Lib.hid (bel_trans X1.out gg)
        have OP := Lib.hid hO
        clear gO gg c0 c1 c2 c3 HCP hO
        obtain ⟨u0, u1, u2, u3, uf, _⟩ := F0.out
        have f0 := uf 0 (by omega)
        have f1 := uf 1 (by omega)
        have f2 := uf 2 (by omega)
        have f3 := uf 3 (by omega)
        clear uf
        generalize hL : c.pf.length = L at *
        go_wp2
        obtain ⟨t0, t1, t2, t3⟩ := quad_read w2 w.heap.size (.string c.nm) (.int .i64 c.ps) (.slice a' L cp') (.int .i64 c.dc) u0 u1 u2 u3
        refine bodyPost_ret (v := .tuple #[.agg #[.string c.nm, .int .i64 c.ps, .slice a' L cp', .int .i64 c.dc], .int .i64 0]) (by simp [results, Tryz.results14, go_sem, t0, t1, t2, t3]) rfl ?_
        have P2 : OwnP ((((w2.setCell ⟨w.heap.size, 0, none⟩ (.string c.nm)).setCell ⟨w.heap.size, 1, none⟩ (.int .i64 c.ps)).setCell ⟨w.heap.size, 2, none⟩ (.slice a' L cp')).setCell ⟨w.heap.size, 3, none⟩ (.int .i64 c.dc)) wr.heap.size (.slice a' L cp') c.pf := own_far (own_far (own_far (own_far OP.out hs) hs) hs) hs
        exact ⟨_, _, rfl, HQ.out _ _ ⟨a', cp', by rw [hL], by rw [hL]; exact P2.pts, WD.out⟩, (((X1.out.setCell (Nat.le_refl _) _).setCell (Nat.le_refl _) _).setCell (Nat.le_refl _) _).setCell (Nat.le_refl _) _⟩
    · obtain rfl : k = n := by omega
      have HQ := Lib.hid (h2.out (fun j hj => ha.out j hj (by have := hn.out; omega)))
      clear ha h1 h2 hc
      obtain ⟨u0, u1, u2, u3, uf, _⟩ := F0.out
      have f0 := uf 0 (by omega)
      have f1 := uf 1 (by omega)
      have f2 := uf 2 (by omega)
      have f3 := uf 3 (by omega)
      clear uf
      go_wp2
      obtain ⟨t0, t1, t2, t3⟩ := quad_read wr w.heap.size (.string ⟨#[]⟩) (.int .i64 0) (.slice none 0 0) (.int .i64 0) u0 u1 u2 u3
      refine bodyPost_ret (v := .tuple #[.agg #[.string ByteArray.empty, .int .i64 0, .slice none 0 0, .int .i64 0], .int .i64 7]) (by simp [results, Tryz.results14, go_sem, t0, t1, t2, t3]; rfl) rfl ?_
      exact ⟨_, _, rfl, HQ.out _ _ ⟨none, 0, rfl, pts_nil _, by decide, by decide, by decide⟩, (((X1.out.setCell (Nat.le_refl _) _).setCell (Nat.le_refl _) _).setCell (Nat.le_refl _) _).setCell (Nat.le_refl _) _⟩
open Classical in
/-- what Find returns -/
noncomputable def fiE (l : List Ck) (nm : ByteArray) : Int := if liE l = 0 then (if ∃ c ∈ l, (c.nm.toList == nm.toList) = true then 0 else 7) else liE l
noncomputable def fiC (l : List Ck) (nm : ByteArray) : Ck := if liE l = 0 then (l.find? (fun c => c.nm.toList == nm.toList)).getD zCk else zCk
theorem find_at {l : List Ck} {nm : ByteArray} {k : Nat} (hk : k < l.length) (h1 : ∀ j (hj : j < l.length), j < k → (l[j].nm.toList == nm.toList) = false) (h2 : (l[k].nm.toList == nm.toList) = true) : l.find? (fun c => c.nm.toList == nm.toList) = some l[k] := by
  rw [List.find?_eq_some_iff_getElem]
  exact ⟨h2, k, hk, rfl, fun j hj => by rw [h1 j (by omega) hj]; rfl⟩
theorem find_none {l : List Ck} {nm : ByteArray} (h1 : ∀ j (hj : j < l.length), (l[j].nm.toList == nm.toList) = false) : l.find? (fun c => c.nm.toList == nm.toList) = none := by
  rw [List.find?_eq_none]
  intro c hc
  obtain ⟨j, hj, rfl⟩ := List.getElem_of_mem hc
  rw [h1 j hj]; simp
theorem liE_len {l : List Ck} (h : liE l = 0) : l.length ≤ 32 ∧ ∀ c ∈ l, ccE c = 0 := by
  unfold liE at h
  split at h
  · omega
  · split at h
    · rename_i h1 h2
      exact ⟨by omega, (fE_zero l).1 h2⟩
    · rename_i h1 h2; exact absurd h h2
theorem refFind_nil (a : Option Addr) (cap : Nat) (nm : ByteArray) (w : World)
    (H1 : Hid (∀ W, Below w.heap.size w W → Calls Tryz.prog 17 #[.slice a 0 cap] W fun e w' => e = .returned (.int .i64 0) ∧ Below W.heap.size W w')) :
    Calls Tryz.prog 14 #[.slice a 0 cap, .string nm] w fun e w' => ∃ u, e = .returned (.tuple #[u, .int .i64 7]) ∧ CkV w' u zCk ∧ Below w.heap.size w w' := by
  have F0 := Lib.hid (Quad.new w (.string ByteArray.empty) (.int .i64 0) (.slice none 0 0) (.int .i64 0) 27)
  go_enter Tryz.func14, Tryz.ntmps14
  go_wp2_with fail
  refine (H1.out _ (bel_alloc (Below.refl _ _))).mono ?_
  rintro e w1 ⟨rfl, gg⟩
  replace F0 := Lib.hid (F0.out.below gg)
  have X1 := Lib.hid (bel_alloc gg); clear gg H1
  go_wp2_with fail
  go_loopw [7] (fun ii wr => ii = .int .i64 0 ∧ wr = w1) (fun _ _ => 0)
  case atStart => exact ⟨rfl, rfl⟩
  case round =>
    obtain ⟨rfl, rfl⟩ := hrel
    obtain ⟨u0, u1, u2, u3, uf, _⟩ := F0.out
    have f0 := uf 0 (by omega)
    have f1 := uf 1 (by omega)
    have f2 := uf 2 (by omega)
    have f3 := uf 3 (by omega)
    clear uf
    go_wp2
    obtain ⟨t0, t1, t2, t3⟩ := quad_read wr w.heap.size (.string ⟨#[]⟩) (.int .i64 0) (.slice none 0 0) (.int .i64 0) u0 u1 u2 u3
    refine bodyPost_ret (v := .tuple #[.agg #[.string ByteArray.empty, .int .i64 0, .slice none 0 0, .int .i64 0], .int .i64 7]) (by simp [results, Tryz.results14, go_sem, t0, t1, t2, t3]; rfl) rfl ?_
    exact ⟨_, rfl, ⟨none, 0, rfl, pts_nil _, by decide, by decide, by decide⟩, (((X1.out.setCell (Nat.le_refl _) _).setCell (Nat.le_refl _) _).setCell (Nat.le_refl _) _).setCell (Nat.le_refl _) _⟩
theorem refFind_any (v : Value) (l : List Ck) (nm : ByteArray) (w : World) (hv : Cks w v l) :
    Calls Tryz.prog 14 #[v, .string nm] w fun e w' => ∃ u, e = .returned (.tuple #[u, .int .i64 (fiE l nm)]) ∧ CkV w' u (fiC l nm) ∧ Below w.heap.size w w' := by
  have HL : Hid (∀ W, Below w.heap.size w W → _) := Lib.hid fun W hW => refList_any v l W (hv.below hW)
  by_cases h : liE l = 0
  · obtain ⟨hl, hcc⟩ := liE_len h
    rw [h] at HL
    have hp : ∀ c ∈ l, c.pf.length ≤ 1000 := fun c hc => by
      have := (ccE_pf (hcc c hc)).2.2.2.n1; omega
    by_cases h0 : 0 < l.length
    · obtain ⟨b, off, cap, rfl, hb, hcap, hc⟩ := hv.cks h0
      refine (refFind_some b off _ cap l nm w hl hcap rfl hb hp hc HL (fun u E W => E = fiE l nm ∧ CkV W u (fiC l nm)) (fun k hk u W a1 a2 hu => ?_) (fun a u W hu => ?_)).mono fun e w' ⟨u, E, g1, ⟨g2, g3⟩, g4⟩ => ⟨u, by rw [g1, g2], g3, g4⟩
      · refine ⟨?_, ?_⟩
        · unfold fiE; rw [if_pos h, if_pos ⟨_, List.getElem_mem hk, a2⟩]
        · unfold fiC; rw [if_pos h, find_at hk a1 a2]; exact hu
      · refine ⟨?_, ?_⟩
        · unfold fiE
          rw [if_pos h, if_neg]
          rintro ⟨c, hc, e⟩
          obtain ⟨j, hj, rfl⟩ := List.getElem_of_mem hc
          rw [a j hj] at e; cases e
        · unfold fiC; rw [if_pos h, find_none a]; exact hu
    · obtain ⟨a, cap, rfl, _⟩ := hv.shape
      obtain rfl : l = [] := List.length_eq_zero_iff.1 (by omega)
      have e1 : fiE [] nm = 7 := by unfold fiE; rw [if_pos h, if_neg (by simp)]
      have e2 : fiC [] nm = zCk := by unfold fiC; rw [if_pos h]; rfl
      rw [e1, e2]
      exact refFind_nil a cap nm w HL
  · have e1 : fiE l nm = liE l := by unfold fiE; rw [if_neg h]
    have e2 : fiC l nm = zCk := by unfold fiC; rw [if_neg h]
    rw [e1, e2]
    exact refFind_bad v nm _ w (by simpa using h) (by simpa using h) HL
end Go.Proofs.YtpnlfeljmpfeoaaGreatDoor

/- Package cask: Print. -/
namespace Go.Proofs.YtpnlfeljmpfeoaaGreatDoor
open Go.RowKit

/-- what stands while Print writes: the builder in block b with the bytes tx; block q -/
def PS (w W : World) (b q : Nat) (tx : List UInt8) (o : Obj) : Prop := Below w.heap.size w W ∧ Bld W b b tx ∧ w.heap.size ≤ b ∧ b < q ∧ W.heap[q]? = some o
theorem PS.below {w W W' : World} {b q : Nat} {tx : List UInt8} {o : Obj} (h : PS w W b q tx o) (hb : Below W.heap.size W W') : PS w W' b q tx o := by
  obtain ⟨h1, h2, h3, h4, h5⟩ := h
  exact ⟨bel_trans h1 hb, h2.below hb, h3, h4, by rw [hb.block _ (Array.getElem?_eq_some_iff.1 h5).1]; exact h5⟩
theorem PS.new {w W : World} {b : Nat} {tx : List UInt8} (h1 : Below w.heap.size w W) (h2 : Bld W b b tx) (h3 : w.heap.size ≤ b) (o : Obj) : PS w (W.alloc o) b W.heap.size tx o :=
  ⟨h1.alloc h1.size o, h2.alloc o, h3, h2.lt, (MapKept.heap_alloc W _).1⟩
theorem PS.cells {w W : World} {b q : Nat} {tx : List UInt8} {cs : Array Value} {T : TypeId} (h : PS w W b q tx (.cells cs T)) (j : Nat) : W.cell? ⟨q, j, none⟩ = cs[j]? := Lib.cell_of_heap h.2.2.2.2 j
theorem PS.write {w W : World} {b q : Nat} {tx : List UInt8} {o : Obj} (h : PS w W b q tx o) (ho : ∀ c fz, o ≠ .cells c 5 fz) (s : ByteArray) (hs : tx.length + s.size ≤ 100000000000000) :
    Calls Tryz.prog 45 #[.pointer (some ⟨b, 0, none⟩), .string s] W fun e w' => e = .returned (.tuple #[.int .i64 s.size, .nilIface]) ∧ PS w w' b q (tx ++ s.data.toList) o := by
  obtain ⟨h1, h2, h3, h4, h5⟩ := h
  refine (writeS_any b b tx s W h2 hs (Nat.le_of_lt h2.lt)).mono ?_
  rintro e w' ⟨rfl, g1, g2, g3⟩
  exact ⟨rfl, h1.trans (g2.mono h3), g1, h3, h4, g3 q o h5 (by intro e; injection e; omega) ho⟩
/-- the builder alone -/
def PB (w W : World) (b : Nat) (tx : List UInt8) : Prop := Below w.heap.size w W ∧ Bld W b b tx ∧ w.heap.size ≤ b
theorem PS.bld {w W : World} {b q : Nat} {tx : List UInt8} {o : Obj} (h : PS w W b q tx o) : PB w W b tx := ⟨h.1, h.2.1, h.2.2.1⟩
theorem PB.below {w W W' : World} {b : Nat} {tx : List UInt8} (h : PB w W b tx) (hb : Below W.heap.size W W') : PB w W' b tx := ⟨bel_trans h.1 hb, h.2.1.below hb, h.2.2⟩
theorem PB.write {w W : World} {b : Nat} {tx : List UInt8} (h : PB w W b tx) (s : ByteArray) (hs : tx.length + s.size ≤ 100000000000000) :
    Calls Tryz.prog 45 #[.pointer (some ⟨b, 0, none⟩), .string s] W fun e w' => e = .returned (.tuple #[.int .i64 s.size, .nilIface]) ∧ PB w w' b (tx ++ s.data.toList) := by
  obtain ⟨h1, h2, h3⟩ := h
  refine (writeS_any b b tx s W h2 hs (Nat.le_of_lt h2.lt)).mono ?_
  rintro e w' ⟨rfl, g1, g2, g3⟩
  exact ⟨rfl, h1.trans (g2.mono h3), g1, h3⟩
theorem print_bad (v : Value) (E : Int) (w : World) (e1 : (E == 0) = false) (e2 : (E != 0) = true)
    (H1 : Hid (Calls Tryz.prog 16 #[v] w fun e w' => e = .returned (.int .i64 E) ∧ Below w.heap.size w w')) :
    Calls Tryz.prog 22 #[v] w fun e w' => e = .returned (.tuple #[str [], .int .i64 E]) ∧ Below w.heap.size w w' := by
  go_enter Tryz.func22, Tryz.ntmps22
  go_wp2_with fail
  refine H1.out.mono ?_
  rintro e w1 ⟨rfl, gg⟩
  have X1 := Lib.hid gg; clear gg
  go_wp2
  go_returns
  exact ⟨rfl, X1.out⟩
set_option maxHeartbeats 32000000 in
set_option maxRecDepth 100000 in
theorem print_some (b0 off n cap : Nat) (l : List Ck) (w : World) (hw : CV w) (n1 : n ≤ 32) (hn : Hid (n = l.length)) (hb : b0 < w.heap.size)
    (hc : Hid (∀ j (hj : j < l.length), CkAt w b0 off j l[j])) (hz : Hid (∀ c ∈ l, ccE c = 0))
    (H1 : Hid (Calls Tryz.prog 16 #[.slice (some ⟨b0, off, none⟩) n cap] w fun e w' => e = .returned (.int .i64 0) ∧ Below w.heap.size w w')) :
    Calls Tryz.prog 22 #[.slice (some ⟨b0, off, none⟩) n cap] w fun e w' => e = .returned (.tuple #[str (prT l), .int .i64 0]) ∧ Below w.heap.size w w' := by
  have HW := Lib.hid hw
  clear hw
  go_enter Tryz.func22, Tryz.ntmps22
  go_wp2_with fail
  refine H1.out.mono ?_
  rintro e w1 ⟨rfl, gg⟩
  have P0 : Hid (PB w (w1.alloc (.cells #[.pointer none, .slice none 0 0] 65)) w1.heap.size (prT (l.take 0))) := ⟨gg.alloc gg.size _, by rw [List.take_zero]; exact bld_new w1, gg.size⟩
  clear gg H1
  go_wp2_with fail
  generalize w1.heap.size = b at *
  go_loopw [17] (fun ii wr => ∃ k : Nat, k ≤ n ∧ ii = .int .i64 k ∧ Hid (PB w wr b (prT (l.take k)))) (fun ii _ => n - (intOf ii).toNat)
  case atStart => exact ⟨0, by omega, rfl, P0⟩
  case round =>
    obtain ⟨k, hk, rfl, hP⟩ := hrel
    by_cases hlt : k < n
    · have hkl : k < l.length := by rw [← hn.out]; exact hlt
      have l1 : (k : Int) < (n : Int) := by omega
      have hce := hz.out _ (List.getElem_mem hkl)
      obtain ⟨a, cp, c0, c1, c2, c3, hV, wd⟩ := (hc.out k hkl).below hb hP.out.1
      obtain ⟨hnm0, hps, hdc, hRP⟩ := ccE_pf hce
      have pn0 := hRP.n0
      have pn1 := hRP.n1
      obtain ⟨_, _, _, _, _, _, hV0, _⟩ := hc.out k hkl
      have hPW : ∃ p : Nat, l[k].ps = (p : Int) ∧ p < 3 ∧ ∃ S : ByteArray, S.data.toList = wPs l[k].ps ∧ w.cell? ⟨0, p, none⟩ = some (.string S) := by
        rcases hps with h | h
        · refine ⟨1, h, by omega, ⟨wLy.toArray⟩, ?_, HW.out.ly⟩
          rw [h]; rfl
        · refine ⟨2, h, by omega, ⟨wSt.toArray⟩, ?_, HW.out.st⟩
          rw [h]; rfl
      obtain ⟨p, hp, hp3, PW, hPW, hcT⟩ := hPW
      have eT := prT_succ l k hkl
      have bT := prT_le hz.out k (by omega)
      have bH := hd_le hce
      have bP := fun j hj => ptT_le hce j hj
      have HX := Lib.hid (fun j hj => pf_bd hce j hj)
      have HPT := Lib.hid (fun j (hj : j < l[k].pf.length) => ptT_succ l[k] j hj)
      have hVP : Hid (∀ W, Below w.heap.size w W → Pts W (.slice a l[k].pf.length cp) l[k].pf) := Lib.hid fun W hW => by
        obtain ⟨a', cp', g0, g1, g2, g3, hV0, _⟩ := hc.out k hkl
        have e2 : w.cell? ⟨b0, off + k * 4 + 2, none⟩ = some (.slice a l[k].pf.length cp) := by
          rw [← (bcell hP.out.1).1 _ _ hb]; exact c2
        rw [e2] at g2
        injection g2 with g2
        injection g2 with q1 q2 q3
        subst q1 q3
        exact hV0.below hW
      obtain ⟨pb, po, rfl, hpb, hpc⟩ := (hVP.out w (Below.refl _ _)).at (by omega)
      have HPC := Lib.hid hpc
      obtain ⟨D, hD⟩ : ∃ D : ByteArray, D = ⟨(Lib.itoa l[k].dc).toArray⟩ := ⟨_, rfl⟩
      obtain ⟨LN, hLN⟩ : ∃ LN : ByteArray, LN = ⟨(hdT l[k]).toArray⟩ := ⟨_, rfl⟩
      have K1 : Hid (∀ W tx o q, PS w W b q tx o → Calls Tryz.prog 47 #[.int .i64 l[k].dc] W fun e w' => e = .returned (.string D) ∧ PS w w' b q tx o) := fun W tx o q h =>
        (itoa_any l[k].dc W (by omega) (HW.out.below h.1)).mono fun _ _ g => ⟨by rw [hD]; exact g.1, h.below g.2⟩
      have K2 : Hid (∀ W tx o q, PS w W b q tx o → Calls Tryz.prog 46 #[.slice (some ⟨W.heap.size, 0, none⟩) 5 5] (W.alloc (.cells #[.string ⟨#[99, 97, 115, 107]⟩, .string l[k].nm, .string PW, .string ⟨#[100, 101, 99, 108, 97, 114, 101, 100]⟩, .string D] 9)) fun e w' => e = .returned (.string LN) ∧ PS w w' b q tx o) := fun W tx o q h => by
        have e : [(⟨#[99, 97, 115, 107]⟩ : ByteArray), l[k].nm, PW, ⟨#[100, 101, 99, 108, 97, 114, 101, 100]⟩, D].map (·.data.toList) = hdW l[k] := by
          simp only [List.map_cons, List.map_nil, hPW, hD]; rfl
        refine (line_any [⟨#[99, 97, 115, 107]⟩, l[k].nm, PW, ⟨#[100, 101, 99, 108, 97, 114, 101, 100]⟩, D] 5 W _ rfl rfl (by omega) (by rw [e]; omega)).mono fun _ _ g => ⟨?_, h.below g.2⟩
        rw [g.1, e, hLN]; rfl
      have K3 : Hid (∀ W tx cs q, tx.length ≤ 1000000 → PS w W b q tx (.cells cs 27) → Calls Tryz.prog 45 #[.pointer (some ⟨b, 0, none⟩), .string LN] W fun e w' => e = .returned (.tuple #[.int .i64 LN.size, .nilIface]) ∧ PS w w' b q (tx ++ hdT l[k]) (.cells cs 27)) := fun W tx cs q hl h => by
        have := h.write (by intro c fz e; injection e with _ e2 _; revert e2; decide) LN (by rw [hLN, str_size]; omega)
        rwa [hLN, show (⟨(hdT l[k]).toArray⟩ : ByteArray).data.toList = hdT l[k] from rfl, ← hLN] at this
      have B1 := Lib.hid ((PS.new hP.out.1 hP.out.2.1 hP.out.2.2 (.cells #[.string l[k].nm, .int .i64 p, .slice (some ⟨pb, po, none⟩) l[k].pf.length cp, .int .i64 l[k].dc] 27)).below (bel_drew _))
      have HS : Hid (∀ W tx, PS w W b wr.heap.size tx (.cells #[.string l[k].nm, .int .i64 p, .slice (some ⟨pb, po, none⟩) l[k].pf.length cp, .int .i64 l[k].dc] 27) → W.cell? ⟨wr.heap.size, 0, none⟩ = some (.string l[k].nm) ∧ W.cell? ⟨wr.heap.size, 1, none⟩ = some (.int .i64 p) ∧ W.cell? ⟨wr.heap.size, 2, none⟩ = some (.slice (some ⟨pb, po, none⟩) l[k].pf.length cp) ∧ W.cell? ⟨wr.heap.size, 3, none⟩ = some (.int .i64 l[k].dc) ∧ W.cell? ⟨0, p, none⟩ = some (.string PW)) := fun W tx h =>
        ⟨h.cells 0, h.cells 1, h.cells 2, h.cells 3, cell_bel hcT h.1⟩
      have hpl : Hid (l[k].pf.length ≤ 32) := pn1
      have p1 : (p : Int) < 3 := by omega
      have p0 : 0 ≤ (p : Int) := by omega
      rw [hp] at c1
      obtain ⟨t0, t1, t2, t3, t4⟩ := HS.out _ _ B1.out
      have s0 := cell_bel hcT hP.out.1
      clear hV wd hnm0 hps hdc hRP hV0 hpc hD hLN hPW hcT hVP hp hp3 t0 t1 t2 t3 t4
      generalize prT (l.take k) = tx at *
      generalize l[k] = c at *
      generalize hM : c.pf.length = m at *
      go_wp2_with fail
      have cellA : ∀ (W : World) (o : Obj) (x : Addr) (v : Value), W.cell? x = some v → (W.alloc o).cell? x = some v := fun W o x v h => cell_al o h
      obtain ⟨x0, x1, x2, x3, x4⟩ := HS.out _ _ B1.out
      have CA := Lib.hid cellA
      have htl : Hid (tx.length ≤ 1000000) := Lib.hid (by omega)
      clear x0 x1 x2 x3 x4 cellA
      go_region_held3 (fun w' => w'.cell? ⟨wr.heap.size, 0, none⟩ = some (.string c.nm) ∧ w'.cell? ⟨wr.heap.size, 1, none⟩ = some (.int .i64 p) ∧ w'.cell? ⟨wr.heap.size, 3, none⟩ = some (.int .i64 c.dc) ∧ w'.cell? ⟨0, p, none⟩ = some (.string PW)) (go_keep)
        (first | (go_at_call 47; (with_reducible refine (K1.out _ _ _ _ B1.out).mono ?_); rintro e w2 ⟨rfl, B2⟩; obtain ⟨x0, x1, x2, x3, x4⟩ := HS.out _ _ B2; replace B2 := Lib.hid B2; have y0 := CA.out _ (.cells #[.string ⟨#[99, 97, 115, 107]⟩, .string c.nm, .string PW, .string ⟨#[100, 101, 99, 108, 97, 114, 101, 100]⟩, .string D] 9) _ _ x0; have y1 := CA.out _ (.cells #[.string ⟨#[99, 97, 115, 107]⟩, .string c.nm, .string PW, .string ⟨#[100, 101, 99, 108, 97, 114, 101, 100]⟩, .string D] 9) _ _ x1; have y3 := CA.out _ (.cells #[.string ⟨#[99, 97, 115, 107]⟩, .string c.nm, .string PW, .string ⟨#[100, 101, 99, 108, 97, 114, 101, 100]⟩, .string D] 9) _ _ x3; have y4 := CA.out _ (.cells #[.string ⟨#[99, 97, 115, 107]⟩, .string c.nm, .string PW, .string ⟨#[100, 101, 99, 108, 97, 114, 101, 100]⟩, .string D] 9) _ _ x4) | (go_at_call 46; (with_reducible refine (K2.out _ _ _ _ B2.out).mono ?_); rintro e w3 ⟨rfl, B3⟩; obtain ⟨z0, z1, z2, z3, z4⟩ := HS.out _ _ B3; replace B3 := Lib.hid B3) | (go_at_call 45; (with_reducible refine (K3.out _ _ _ _ htl.out B3.out).mono ?_); rintro e w4 ⟨rfl, B4⟩; obtain ⟨v0, v1, v2, v3, v4⟩ := HS.out _ _ B4; replace B4 := Lib.hid B4))
      go_wp2_with fail
      have Q0 : Hid (PB w w4 b (tx ++ hdT c ++ ptT c 0)) := Lib.hid (by
        rw [show ptT c 0 = [] from rfl, List.append_nil]; exact B4.out.bld)
      have bQ : Hid (∀ j, j ≤ m → (tx ++ hdT c ++ ptT c j).length ≤ 1000000) := Lib.hid fun j hj => by
        have := bP j hj
        rw [List.length_append, List.length_append]; omega
      have hbase : Hid (Below w.heap.size w w4) := Lib.hid B4.out.1
      clear x0 x1 x2 x3 x4 y0 y1 y3 y4 z0 z1 z2 z3 z4 v0 v1 v2 v3 v4 c0 c1 c2 c3 s0 K1 K2 K3 B1 B2 B3 B4 HS htl bH bT
      go_loopw [36] (fun ii wr => ∃ j : Nat, j ≤ m ∧ ii = .int .i64 j ∧ Hid (PB w wr b (tx ++ hdT c ++ ptT c j))) (fun ii _ => m - (intOf ii).toNat)
      case atStart => exact ⟨0, by omega, rfl, Q0⟩
      case round =>
        obtain ⟨j, hj, rfl, hQ⟩ := hrel
        by_cases hjm : j < m
        · have l2 : (j : Int) < (m : Int) := by omega
          obtain ⟨c0, c1⟩ := HPC.out j hjm
          replace c0 := cell_bel c0 hQ.out.1
          replace c1 := cell_bel c1 hQ.out.1
          have hx := HX.out j hjm
          have eP := HPT.out j hjm
          have bL := pt_le _ _ hx.1 hx.2
          have bN := ptN_le _ _ hx.1 hx.2
          have bq := bQ.out j (by omega)
          generalize gX c.pf j = X at *
          generalize gR c.pf j = R at *
          obtain ⟨D1, hD1⟩ : ∃ D : ByteArray, D = ⟨(Lib.itoa X).toArray⟩ := ⟨_, rfl⟩
          obtain ⟨D2, hD2⟩ : ∃ D : ByteArray, D = ⟨(Lib.itoa R).toArray⟩ := ⟨_, rfl⟩
          obtain ⟨LN, hLN⟩ : ∃ LN : ByteArray, LN = ⟨(ptN (X, R)).toArray⟩ := ⟨_, rfl⟩
          have K1 : Hid (∀ W tx o q, PS w W b q tx o → Calls Tryz.prog 47 #[.int .i64 X] W fun e w' => e = .returned (.string D1) ∧ PS w w' b q tx o) := fun W tx o q h =>
            (itoa_any X W (by omega) (HW.out.below h.1)).mono fun _ _ g => ⟨by rw [hD1]; exact g.1, h.below g.2⟩
          have K2 : Hid (∀ W tx o q, PS w W b q tx o → Calls Tryz.prog 47 #[.int .i64 R] W fun e w' => e = .returned (.string D2) ∧ PS w w' b q tx o) := fun W tx o q h =>
            (itoa_any R W (by omega) (HW.out.below h.1)).mono fun _ _ g => ⟨by rw [hD2]; exact g.1, h.below g.2⟩
          have K3 : Hid (∀ W tx o q, PS w W b q tx o → Calls Tryz.prog 46 #[.slice (some ⟨W.heap.size, 0, none⟩) 4 4] (W.alloc (.cells #[.string ⟨#[97, 116]⟩, .string D1, .string ⟨#[114, 97, 100, 105, 117, 115]⟩, .string D2] 9)) fun e w' => e = .returned (.string LN) ∧ PS w w' b q tx o) := fun W tx o q h => by
            have e : [(⟨#[97, 116]⟩ : ByteArray), D1, ⟨#[114, 97, 100, 105, 117, 115]⟩, D2].map (·.data.toList) = ptW (X, R) := by
              simp only [List.map_cons, List.map_nil, hD1, hD2]; rfl
            refine (line_any [⟨#[97, 116]⟩, D1, ⟨#[114, 97, 100, 105, 117, 115]⟩, D2] 4 W _ rfl rfl (by omega) (by rw [e]; omega)).mono fun _ _ g => ⟨?_, h.below g.2⟩
            rw [g.1, e, hLN]; rfl
          have K4 : Hid (∀ W tx cs q, tx.length ≤ 1000000 → PS w W b q tx (.cells cs 46) → Calls Tryz.prog 45 #[.pointer (some ⟨b, 0, none⟩), .string LN] W fun e w' => e = .returned (.tuple #[.int .i64 LN.size, .nilIface]) ∧ PS w w' b q (tx ++ ptN (X, R)) (.cells cs 46)) := fun W tx cs q hl h => by
            have := h.write (by intro c fz e; injection e with _ e2 _; revert e2; decide) LN (by rw [hLN, str_size]; omega)
            rwa [hLN, show (⟨(ptN (X, R)).toArray⟩ : ByteArray).data.toList = ptN (X, R) from rfl, ← hLN] at this
          have B1 := Lib.hid ((PS.new hQ.out.1 hQ.out.2.1 hQ.out.2.2 (.cells #[.int .i64 X, .int .i64 R] 46)).below (bel_drew _))
          have HS : Hid (∀ W tx, PS w W b wr.heap.size tx (.cells #[.int .i64 X, .int .i64 R] 46) → W.cell? ⟨wr.heap.size, 0, none⟩ = some (.int .i64 X) ∧ W.cell? ⟨wr.heap.size, 1, none⟩ = some (.int .i64 R)) := fun W tx h => ⟨h.cells 0, h.cells 1⟩
          have BQ := Lib.hid bq
          have EP : Hid (tx ++ hdT c ++ ptT c j ++ ptN (X, R) = tx ++ hdT c ++ ptT c (j + 1)) := Lib.hid (by rw [eP]; simp only [List.append_assoc])
          clear hx eP bL bN bq bP hD1 hD2 hLN hQ hpl
          go_wp2_with fail
          go_region_held3 (fun w' => w'.cell? ⟨wr.heap.size, 0, none⟩ = some (.int .i64 X) ∧ w'.cell? ⟨wr.heap.size, 1, none⟩ = some (.int .i64 R)) (go_keep)
            (first | (go_at_call 47; (with_reducible refine (K1.out _ _ _ _ B1.out).mono ?_); rintro e w5 ⟨rfl, B2⟩; obtain ⟨x0, x1⟩ := HS.out _ _ B2; replace B2 := Lib.hid B2) | (go_at_call 47; (with_reducible refine (K2.out _ _ _ _ B2.out).mono ?_); rintro e w6 ⟨rfl, B3⟩; obtain ⟨y0, y1⟩ := HS.out _ _ B3; replace B3 := Lib.hid B3; have z0 := CA.out _ (.cells #[.string ⟨#[97, 116]⟩, .string D1, .string ⟨#[114, 97, 100, 105, 117, 115]⟩, .string D2] 9) _ _ y0; have z1 := CA.out _ (.cells #[.string ⟨#[97, 116]⟩, .string D1, .string ⟨#[114, 97, 100, 105, 117, 115]⟩, .string D2] 9) _ _ y1) | (go_at_call 46; (with_reducible refine (K3.out _ _ _ _ B3.out).mono ?_); rintro e w7 ⟨rfl, B4⟩; obtain ⟨v0, v1⟩ := HS.out _ _ B4; replace B4 := Lib.hid B4) | (go_at_call 45; (with_reducible refine (K4.out _ _ _ _ BQ.out B4.out).mono ?_); rintro e w8 ⟨rfl, B5⟩; obtain ⟨u0, u1⟩ := HS.out _ _ B5; replace B5 := Lib.hid B5))
          have Z := B5.out.bld
          rw [EP.out] at Z
          go_wp2
          go_roundw
          case rel => exact ⟨j + 1, by omega, by go_num, Z⟩
          case measure => simp [intOf]; omega
        · obtain rfl : j = m := by omega
          have bq := bQ.out j (by omega)
          obtain ⟨LN, hLN⟩ : ∃ LN : ByteArray, LN = ⟨enT.toArray⟩ := ⟨_, rfl⟩
          have K3 : Hid (∀ W, PB w W b (tx ++ hdT c ++ ptT c j) → Calls Tryz.prog 46 #[.slice (some ⟨W.heap.size, 0, none⟩) 1 1] (W.alloc (.cells #[.string ⟨#[101, 110, 100]⟩] 9)) fun e w' => e = .returned (.string LN) ∧ PB w w' b (tx ++ hdT c ++ ptT c j)) := fun W h => by
            refine (line_any [⟨#[101, 110, 100]⟩] 1 W _ rfl rfl (by omega) (by show (jn [wEn]).length ≤ _; decide)).mono fun _ _ g => ⟨?_, h.below g.2⟩
            rw [g.1, hLN]; rfl
          have K4 : Hid (∀ W, PB w W b (tx ++ hdT c ++ ptT c j) → Calls Tryz.prog 45 #[.pointer (some ⟨b, 0, none⟩), .string LN] W fun e w' => e = .returned (.tuple #[.int .i64 LN.size, .nilIface]) ∧ PB w w' b (tx ++ hdT c ++ ptT c j ++ enT)) := fun W h => by
            have := h.write LN (by rw [hLN, str_size, show enT.length = 4 from rfl]; omega)
            rwa [hLN, show (⟨enT.toArray⟩ : ByteArray).data.toList = enT from rfl, ← hLN] at this
          have ET := Lib.hid eT
          clear eT bq bQ bP HPC HX HPT hLN hc hz
          go_wp2_with fail
          refine (K3.out _ hQ.out).mono ?_
          rintro e w5 ⟨rfl, B2⟩
          replace B2 := Lib.hid B2
          go_wp2_with fail
          refine (K4.out _ B2.out).mono ?_
          rintro e w6 ⟨rfl, B3⟩
          rw [← ET.out] at B3
          go_wp2
          go_roundw
          case rel => exact ⟨k + 1, by omega, by go_num, B3⟩
          case measure => simp [intOf]; omega
    · obtain rfl : k = n := by omega
      have e : prT (l.take k) = prT l := by rw [hn.out, List.take_length]
      rw [e] at hP
      have HF := Lib.hid (string_any b b (prT l) wr hP.out.2.1 (Nat.le_of_lt hP.out.2.1.lt))
      go_wp2_with fail
      refine HF.out.mono ?_
      rintro e w2 ⟨rfl, gg⟩
      have X := Lib.hid (hP.out.1.trans (gg.mono hP.out.2.2))
      clear gg
      go_wp2
      go_returns
      exact ⟨rfl, X.out⟩
theorem print_nil (a : Option Addr) (cap : Nat) (w : World)
    (H1 : Hid (Calls Tryz.prog 16 #[.slice a 0 cap] w fun e w' => e = .returned (.int .i64 0) ∧ Below w.heap.size w w')) :
    Calls Tryz.prog 22 #[.slice a 0 cap] w fun e w' => e = .returned (.tuple #[str [], .int .i64 0]) ∧ Below w.heap.size w w' := by
  go_enter Tryz.func22, Tryz.ntmps22
  go_wp2_with fail
  refine H1.out.mono ?_
  rintro e w1 ⟨rfl, gg⟩
  have P0 : Hid (PB w (w1.alloc (.cells #[.pointer none, .slice none 0 0] 65)) w1.heap.size []) := ⟨gg.alloc gg.size _, bld_new w1, gg.size⟩
  clear gg H1
  go_wp2_with fail
  generalize w1.heap.size = b at *
  go_loopw [17] (fun ii wr => ii = .int .i64 0 ∧ Hid (PB w wr b [])) (fun _ _ => 0)
  case atStart => exact ⟨rfl, P0⟩
  case round =>
    obtain ⟨rfl, hP⟩ := hrel
    have HF := Lib.hid (string_any b b [] wr hP.out.2.1 (Nat.le_of_lt hP.out.2.1.lt))
    go_wp2_with fail
    refine HF.out.mono ?_
    rintro e w2 ⟨rfl, gg⟩
    have X := Lib.hid (hP.out.1.trans (gg.mono hP.out.2.2))
    clear gg
    go_wp2
    go_returns
    exact ⟨rfl, X.out⟩
/-- what Print returns -/
noncomputable def prS (l : List Ck) : List UInt8 := if liE l = 0 then prT l else []
theorem cPr_any (v : Value) (l : List Ck) (w : World) (hw : CV w) (hv : Cks w v l) :
    Calls Tryz.prog 22 #[v] w fun e w' => e = .returned (.tuple #[str (prS l), .int .i64 (liE l)]) ∧ Below w.heap.size w w' := by
  have HL := Lib.hid (cLi_any v l w hv)
  unfold prS
  by_cases h : liE l = 0
  · obtain ⟨hl, hz⟩ := liE_len h
    rw [if_pos h, h]
    rw [h] at HL
    by_cases h0 : 0 < l.length
    · obtain ⟨b, off, cap, rfl, hb, _, hc⟩ := hv.cks h0
      exact print_some b off _ cap l w hw hl rfl hb hc hz HL
    · obtain ⟨a, cap, rfl, _⟩ := hv.shape
      obtain rfl : l = [] := List.length_eq_zero_iff.1 (by omega)
      exact print_nil a cap w HL
  · rw [if_neg h]
    exact print_bad v _ w (by simpa using h) (by simpa using h) HL
end Go.Proofs.YtpnlfeljmpfeoaaGreatDoor

/- The reference of layer 8: Bung. -/
namespace Go.Proofs.YtpnlfeljmpfeoaaGreatDoor
open Go.RowKit

set_option maxHeartbeats 4000000 in
set_option maxRecDepth 100000 in
theorem refBung_ok (b off n cap : Nat) (l : List (Int × Int)) (w : World) (n0 : 1 ≤ n) (n1 : n ≤ 1000) (hb : b < w.heap.size)
    (hc : Hid (∀ j, j < n → w.cell? ⟨b, off + j * 2, none⟩ = some (.int .i64 (gX l j)) ∧ w.cell? ⟨b, off + j * 2 + 1, none⟩ = some (.int .i64 (gR l j))))
    (H1 : Hid (Calls Tryz.prog 44 #[.slice (some ⟨b, off, none⟩) n cap] w fun e w' => e = .returned (.int .i64 0) ∧ Below w.heap.size w w')) :
    Calls Tryz.prog 58 #[.slice (some ⟨b, off, none⟩) n cap] w fun e w' => e = .returned (.tuple #[.int .i64 (bg l n), .int .i64 0]) ∧ Below w.heap.size w w' := by
  go_enter Tryz.func58, Tryz.ntmps58
  go_wp2_with fail
  refine H1.out.mono ?_
  rintro e w1 ⟨rfl, gg⟩
  have X1 := Lib.hid gg; clear gg H1
  go_wp2_with fail
  go_loopw [5, 6] (fun bu ii wr => ∃ k : Nat, k ≤ n ∧ ii = .int .i64 k ∧ bu = .int .i64 (bg l k) ∧ Hid (Below w.heap.size w wr)) (fun _ ii _ => n - (intOf ii).toNat)
  case atStart => exact ⟨0, Nat.zero_le _, rfl, rfl, X1⟩
  case round =>
    obtain ⟨k, hk, rfl, rfl, hB⟩ := hrel
    by_cases hlt : k < n
    · have c1 : wr.cell? ⟨b, off + k * 2 + 1, none⟩ = some (.int .i64 (gR l k)) := by rw [(bcell hB.out).1 _ _ hb]; exact (hc.out k hlt).2
      have hg := bg_lt l k
      have hgl : bg l k < n := by omega
      have eb : bg l (k + 1) = if gR l (bg l k) < gR l k then k else bg l k := rfl
      have c2 : wr.cell? ⟨b, off + bg l k * 2 + 1, none⟩ = some (.int .i64 (gR l (bg l k))) := by rw [(bcell hB.out).1 _ _ hb]; exact (hc.out (bg l k) hgl).2
      have EB := Lib.hid eb
      have l1 : (k : Int) < (n : Int) := by omega
      clear eb hg
      generalize hgg : bg l k = g at *
      have l2 : (g : Int) < (n : Int) := by omega
      generalize gR l g = rg at *
      generalize gR l k = r at *
      clear hgg
      by_cases hq : rg < r
      · have e : bg l (k + 1) = k := by rw [EB.out, if_pos hq]
        clear EB
        go_wp2_with fail
        go_quiet (fail)
        go_wp2
        go_roundw
        case rel => exact ⟨k + 1, by omega, by go_num, by rw [e], bel_trans hB.out (bel_drewN _ _)⟩
        case measure => simp [intOf]; omega
      · have e : bg l (k + 1) = g := by rw [EB.out, if_neg hq]
        clear EB
        go_wp2_with fail
        go_quiet (fail)
        go_wp2
        go_roundw
        case rel => exact ⟨k + 1, by omega, by go_num, by rw [e], bel_trans hB.out (bel_drewN _ _)⟩
        case measure => simp [intOf]; omega
    · obtain rfl : k = n := by omega
      go_wp2
      go_returns
      exact ⟨rfl, hB.out⟩
theorem refBung_bad (v : Value) (E : Int) (w : World) (e1 : (E == 0) = false) (e2 : (E != 0) = true)
    (H1 : Hid (Calls Tryz.prog 44 #[v] w fun e w' => e = .returned (.int .i64 E) ∧ Below w.heap.size w w')) :
    Calls Tryz.prog 58 #[v] w fun e w' => e = .returned (.tuple #[.int .i64 0, .int .i64 E]) ∧ Below w.heap.size w w' := by
  go_enter Tryz.func58, Tryz.ntmps58
  go_wp2_with fail
  refine H1.out.mono ?_
  rintro e w1 ⟨rfl, gg⟩
  have X1 := Lib.hid gg; clear gg
  go_wp2
  go_returns
  exact ⟨rfl, X1.out⟩
theorem refBung_any (v : Value) (l : List (Int × Int)) (w : World) (hv : Pts w v l) :
    Calls Tryz.prog 58 #[v] w fun e w' => e = .returned (.tuple #[.int .i64 (buQ l), .int .i64 (ckE l)]) ∧ Below w.heap.size w w' := by
  have HC := Lib.hid (refCk_any v l w hv)
  unfold buQ
  by_cases h : ckE l = 0
  · have hR := (ckE_iff l).1 h
    have n0 := hR.n0
    have n1 := hR.n1
    rw [if_pos h, h]
    rw [h] at HC
    obtain ⟨a, cap, rfl, hl, hh⟩ := hv
    rcases hh with hh | ⟨b, off, rfl, hb, hc⟩
    · omega
    · exact refBung_ok b off l.length cap l w (by omega) (by omega) hb (Lib.hid hc) HC
  · rw [if_neg h]
    exact refBung_bad v _ w (by simpa using h) (by simpa using h) HC
end Go.Proofs.YtpnlfeljmpfeoaaGreatDoor

/- The reference of layer 9: Radius, Depth. -/
namespace Go.Proofs.YtpnlfeljmpfeoaaGreatDoor
open Go.RowKit

set_option maxHeartbeats 4000000 in
theorem refRad_ok (nm : ByteArray) (ps dc r : Int) (i n cap b off : Nat) (w : World) (hi : i < n) (hb : b < w.heap.size) (hc : w.cell? ⟨b, off + i * 2 + 1, none⟩ = some (.int .i64 r))
    (H1 : Hid (∀ W, Below w.heap.size w W → Calls Tryz.prog 58 #[.slice (some ⟨b, off, none⟩) n cap] W fun e w' => e = .returned (.tuple #[.int .i64 i, .int .i64 0]) ∧ Below W.heap.size W w')) :
    Calls Tryz.prog 38 #[.agg #[.string nm, .int .i64 ps, .slice (some ⟨b, off, none⟩) n cap, .int .i64 dc]] w fun e w' => e = .returned (.int .i64 r) ∧ Below w.heap.size w w' := by
  have F0 := Lib.hid (Quad.new w (.string nm) (.int .i64 ps) (.slice (some ⟨b, off, none⟩) n cap) (.int .i64 dc) 27)
  have C0 := Lib.hid hc
  clear hc
  have l1 : (i : Int) < (n : Int) := by omega
  have l2 : 0 ≤ (i : Int) := by omega
  go_enter Tryz.func38, Tryz.ntmps38
  go_wp2_with fail
  refine (H1.out _ (bel_alloc (Below.refl _ _))).mono ?_
  rintro e w1 ⟨rfl, gg⟩
  replace F0 := Lib.hid (F0.out.below gg)
  have X1 := Lib.hid (bel_alloc gg); clear gg
  obtain ⟨_, _, u2, _, _, _⟩ := F0.out
  have c1 : w1.cell? ⟨b, off + i * 2 + 1, none⟩ = some (.int .i64 r) := by rw [(bcell X1.out).1 _ _ hb]; exact C0.out
  go_wp2
  go_returns
  exact ⟨rfl, X1.out⟩
/-- the radius of the bung -/
def brQ (c : Ck) : Int := gR c.pf (bg c.pf c.pf.length)
theorem refRad_any (v : Value) (c : Ck) (w : World) (hv : CkV w v c) (h : ccE c = 0) :
    Calls Tryz.prog 38 #[v] w fun e w' => e = .returned (.int .i64 (brQ c)) ∧ Below w.heap.size w w' := by
  obtain ⟨_, _, _, hR⟩ := ccE_pf h
  have e0 := (ckE_iff _).2 hR
  obtain ⟨a, cap, rfl, hp, _⟩ := hv
  have n0 := hR.n0
  have hl : bg c.pf c.pf.length < c.pf.length := by have := bg_lt c.pf c.pf.length; omega
  have HB : Hid (∀ W, Below w.heap.size w W → _) := Lib.hid fun W hW => refBung_any _ c.pf W (hp.below hW)
  unfold buQ at HB
  rw [if_pos e0, e0] at HB
  obtain ⟨b, off, rfl, hb, hc⟩ := hp.at (by omega)
  exact refRad_ok _ _ _ _ _ _ cap b off w hl hb (hc _ hl).2 HB
/-- what Depth returns -/
def deQ (c : Ck) : Int := if ccE c = 0 then (if c.ps = 1 then 2 * brQ c else gX c.pf (c.pf.length - 1)) else 0
theorem refDep_bad (nm : ByteArray) (ps dc E : Int) (a : Option Addr) (n cap : Nat) (w : World) (e1 : (E == 0) = false) (e2 : (E != 0) = true)
    (H1 : Hid (∀ W, Below w.heap.size w W → Calls Tryz.prog 21 #[.agg #[.string nm, .int .i64 ps, .slice a n cap, .int .i64 dc]] W fun e w' => e = .returned (.int .i64 E) ∧ Below W.heap.size W w')) :
    Calls Tryz.prog 19 #[.agg #[.string nm, .int .i64 ps, .slice a n cap, .int .i64 dc]] w fun e w' => e = .returned (.tuple #[.int .i64 0, .int .i64 E]) ∧ Below w.heap.size w w' := by
  go_enter Tryz.func19, Tryz.ntmps19
  go_wp2_with fail
  refine (H1.out _ (bel_alloc (Below.refl _ _))).mono ?_
  rintro e w1 ⟨rfl, gg⟩
  have X1 := Lib.hid (bel_alloc gg); clear gg
  go_wp2
  go_returns
  exact ⟨rfl, X1.out⟩
set_option maxHeartbeats 4000000 in
theorem refDep_lying (nm : ByteArray) (dc r : Int) (a : Option Addr) (n cap : Nat) (w : World) (wr : IntKind.i64.wrap (2 * r) = 2 * r)
    (H1 : Hid (∀ W, Below w.heap.size w W → Calls Tryz.prog 21 #[.agg #[.string nm, .int .i64 1, .slice a n cap, .int .i64 dc]] W fun e w' => e = .returned (.int .i64 0) ∧ Below W.heap.size W w'))
    (H2 : Hid (∀ W, Below w.heap.size w W → Calls Tryz.prog 38 #[.agg #[.string nm, .int .i64 1, .slice a n cap, .int .i64 dc]] W fun e w' => e = .returned (.int .i64 r) ∧ Below W.heap.size W w')) :
    Calls Tryz.prog 19 #[.agg #[.string nm, .int .i64 1, .slice a n cap, .int .i64 dc]] w fun e w' => e = .returned (.tuple #[.int .i64 (2 * r), .int .i64 0]) ∧ Below w.heap.size w w' := by
  have F0 := Lib.hid (Quad.new w (.string nm) (.int .i64 1) (.slice a n cap) (.int .i64 dc) 27)
  go_enter Tryz.func19, Tryz.ntmps19
  go_wp2_with fail
  refine (H1.out _ (bel_alloc (Below.refl _ _))).mono ?_
  rintro e w1 ⟨rfl, gg⟩
  replace F0 := Lib.hid (F0.out.below gg)
  have X1 := Lib.hid (bel_alloc gg); clear gg
  obtain ⟨u0, u1, u2, u3, _, _⟩ := F0.out
  go_wp2_with fail
  refine (H2.out _ X1.out).mono ?_
  rintro e w2 ⟨rfl, gg⟩
  replace X1 := Lib.hid (bel_trans X1.out gg); clear gg
  go_wp2
  go_returns
  exact ⟨rfl, X1.out⟩
set_option maxHeartbeats 4000000 in
theorem refDep_standing (nm : ByteArray) (ps dc x : Int) (m cap b off : Nat) (w : World) (hps : (ps == 1) = false) (hb : b < w.heap.size) (hc : w.cell? ⟨b, off + m * 2, none⟩ = some (.int .i64 x)) (hm : m ≤ 1000)
    (H1 : Hid (∀ W, Below w.heap.size w W → Calls Tryz.prog 21 #[.agg #[.string nm, .int .i64 ps, .slice (some ⟨b, off, none⟩) (m + 1) cap, .int .i64 dc]] W fun e w' => e = .returned (.int .i64 0) ∧ Below W.heap.size W w')) :
    Calls Tryz.prog 19 #[.agg #[.string nm, .int .i64 ps, .slice (some ⟨b, off, none⟩) (m + 1) cap, .int .i64 dc]] w fun e w' => e = .returned (.tuple #[.int .i64 x, .int .i64 0]) ∧ Below w.heap.size w w' := by
  have F0 := Lib.hid (Quad.new w (.string nm) (.int .i64 ps) (.slice (some ⟨b, off, none⟩) (m + 1) cap) (.int .i64 dc) 27)
  have C0 := Lib.hid hc
  clear hc
  have wk : IntKind.i64.wrap ((m : Int) + 1 - 1) = (m : Int) := by simp only [IntKind.wrap_i64]; omega
  have wk2 : IntKind.i64.wrap (m : Int) = (m : Int) := by simp only [IntKind.wrap_i64]; omega
  go_enter Tryz.func19, Tryz.ntmps19
  go_wp2_with fail
  refine (H1.out _ (bel_alloc (Below.refl _ _))).mono ?_
  rintro e w1 ⟨rfl, gg⟩
  replace F0 := Lib.hid (F0.out.below gg)
  have X1 := Lib.hid (bel_alloc gg); clear gg
  obtain ⟨u0, u1, u2, u3, _, _⟩ := F0.out
  have c1 : w1.cell? ⟨b, off + m * 2, none⟩ = some (.int .i64 x) := by rw [(bcell X1.out).1 _ _ hb]; exact C0.out
  go_wp2
  go_returns
  exact ⟨rfl, X1.out⟩
theorem refDep_any (v : Value) (c : Ck) (w : World) (hv : CkV w v c) :
    Calls Tryz.prog 19 #[v] w fun e w' => e = .returned (.tuple #[.int .i64 (deQ c), .int .i64 (ccE c)]) ∧ Below w.heap.size w w' := by
  have HC : Hid (∀ W, Below w.heap.size w W → _) := Lib.hid fun W hW => refCkk_any v c W (hv.below hW)
  have HV := hv
  obtain ⟨a, cap, rfl, hp, _⟩ := hv
  unfold deQ
  by_cases h : ccE c = 0
  · have HR : Hid (∀ W, Below w.heap.size w W → _) := Lib.hid fun W hW => refRad_any _ c W (HV.below hW) h
    obtain ⟨_, hps, _, hR⟩ := ccE_pf h
    rw [if_pos h, h]
    rw [h] at HC
    have n0 := hR.n0
    have n1 := hR.n1
    by_cases h1 : c.ps = 1
    · have hl : bg c.pf c.pf.length < c.pf.length := by have := bg_lt c.pf c.pf.length; omega
      have br : 1 ≤ brQ c ∧ brQ c ≤ 100000 := hR.br _ hl
      rw [if_pos h1]
      rw [h1] at HC HR ⊢
      exact refDep_lying _ _ _ a _ cap w (wrap_in _ ⟨by omega, by omega⟩) HC HR
    · rw [if_neg h1]
      obtain ⟨b, off, rfl, hb, hc⟩ := hp.at (by omega)
      obtain ⟨m, hm⟩ : ∃ m, c.pf.length = m + 1 := ⟨c.pf.length - 1, by omega⟩
      have c0 := (hc m (by omega)).1
      rw [hm] at HC ⊢
      rw [Nat.add_sub_cancel]
      exact refDep_standing _ _ _ _ m cap b off w (by simpa using h1) hb c0 (by omega) HC
  · rw [if_neg h]
    exact refDep_bad _ _ _ _ a _ cap w (by simpa using h) (by simpa using h) HC
end Go.Proofs.YtpnlfeljmpfeoaaGreatDoor

/- Package profile: Length. -/
namespace Go.Proofs.YtpnlfeljmpfeoaaGreatDoor
open Go.RowKit

theorem len_bad (v : Value) (E : Int) (w : World) (e1 : (E == 0) = false) (e2 : (E != 0) = true)
    (H1 : Hid (Calls Tryz.prog 42 #[v] w fun e w' => e = .returned (.int .i64 E) ∧ Below w.heap.size w w')) :
    Calls Tryz.prog 36 #[v] w fun e w' => e = .returned (.tuple #[.int .i64 0, .int .i64 E]) ∧ Below w.heap.size w w' := by
  go_enter Tryz.func36, Tryz.ntmps36
  go_wp2_with fail
  refine H1.out.mono ?_
  rintro e w1 ⟨rfl, gg⟩
  have X1 := Lib.hid gg; clear gg
  go_wp2
  go_returns
  exact ⟨rfl, X1.out⟩
theorem len_ok (v : Value) (X : Int) (w : World)
    (H1 : Hid (Calls Tryz.prog 42 #[v] w fun e w' => e = .returned (.int .i64 0) ∧ Below w.heap.size w w'))
    (H2 : Hid (∀ W, Below w.heap.size w W → Calls Tryz.prog 57 #[v] W fun e w' => e = .returned (.int .i64 X) ∧ w' = W)) :
    Calls Tryz.prog 36 #[v] w fun e w' => e = .returned (.tuple #[.int .i64 X, .int .i64 0]) ∧ Below w.heap.size w w' := by
  go_enter Tryz.func36, Tryz.ntmps36
  go_wp2_with fail
  refine H1.out.mono ?_
  rintro e w1 ⟨rfl, gg⟩
  have X1 := Lib.hid gg; clear gg
  go_wp2_with fail
  refine (H2.out _ X1.out).mono ?_
  rintro e w2 ⟨rfl, hw⟩
  subst hw
  go_wp2
  go_returns
  exact ⟨rfl, X1.out⟩
theorem len_any (v : Value) (l : List (Int × Int)) (w : World) (hv : Pts w v l) :
    Calls Tryz.prog 36 #[v] w fun e w' => e = .returned (.tuple #[.int .i64 (lgQ l), .int .i64 (ckE l)]) ∧ Below w.heap.size w w' := by
  have HC := Lib.hid (ck_any v l w hv)
  unfold lgQ
  by_cases h : ckE l = 0
  · rw [if_pos h, h]
    rw [h] at HC
    exact len_ok v _ w HC (Lib.hid fun W hW => end_of (hv.below hW) h)
  · rw [if_neg h]
    exact len_bad v _ w (by simpa using h) (by simpa using h) HC
end Go.Proofs.YtpnlfeljmpfeoaaGreatDoor

/- Package profile: Bung. -/
namespace Go.Proofs.YtpnlfeljmpfeoaaGreatDoor
open Go.RowKit

set_option maxHeartbeats 4000000 in
set_option maxRecDepth 100000 in
theorem bung_ok (b off n cap : Nat) (l : List (Int × Int)) (w : World) (n0 : 1 ≤ n) (n1 : n ≤ 1000) (hb : b < w.heap.size)
    (hc : Hid (∀ j, j < n → w.cell? ⟨b, off + j * 2, none⟩ = some (.int .i64 (gX l j)) ∧ w.cell? ⟨b, off + j * 2 + 1, none⟩ = some (.int .i64 (gR l j))))
    (H1 : Hid (Calls Tryz.prog 42 #[.slice (some ⟨b, off, none⟩) n cap] w fun e w' => e = .returned (.int .i64 0) ∧ Below w.heap.size w w')) :
    Calls Tryz.prog 37 #[.slice (some ⟨b, off, none⟩) n cap] w fun e w' => e = .returned (.tuple #[.int .i64 (bg l n), .int .i64 0]) ∧ Below w.heap.size w w' := by
  go_enter Tryz.func37, Tryz.ntmps37
  go_wp2_with fail
  refine H1.out.mono ?_
  rintro e w1 ⟨rfl, gg⟩
  have X1 := Lib.hid gg; clear gg H1
  go_wp2_with fail
  go_loopw [5, 6, 7, 15] (fun bu _ _ ii wr => ∃ k : Nat, k ≤ n ∧ ii = .int .i64 k ∧ bu = .int .i64 (bg l k) ∧ Hid (Below w.heap.size w wr)) (fun _ _ _ ii _ => n - (intOf ii).toNat)
  case atStart => exact ⟨0, Nat.zero_le _, rfl, rfl, X1⟩
  case round =>
    obtain ⟨k, hk, rfl, rfl, hB⟩ := hrel
    by_cases hlt : k < n
    · have c0 : wr.cell? ⟨b, off + k * 2, none⟩ = some (.int .i64 (gX l k)) := by rw [(bcell hB.out).1 _ _ hb]; exact (hc.out k hlt).1
      have c1 : wr.cell? ⟨b, off + k * 2 + 1, none⟩ = some (.int .i64 (gR l k)) := by rw [(bcell hB.out).1 _ _ hb]; exact (hc.out k hlt).2
      have hg := bg_lt l k
      have hgl : bg l k < n := by omega
      have hbr : b < wr.heap.size := Nat.lt_of_lt_of_le hb hB.out.size
      have eb : bg l (k + 1) = if gR l (bg l k) < gR l k then k else bg l k := rfl
      have c2 : wr.cell? ⟨b, off + bg l k * 2 + 1, none⟩ = some (.int .i64 (gR l (bg l k))) := by rw [(bcell hB.out).1 _ _ hb]; exact (hc.out (bg l k) hgl).2
      have EB := Lib.hid eb
      clear eb hg
      generalize hgg : bg l k = g at *
      generalize gR l g = rg at *
      generalize gX l k = x at *
      generalize gR l k = r at *
      clear hgg
      have T := Lib.hid (Two.new wr (.int .i64 x) (.int .i64 r) 46)
      have hne : b ≠ wr.heap.size := Nat.ne_of_lt hbr
      have c3 : (wr.alloc (.cells #[.int .i64 x, .int .i64 r] 46)).cell? ⟨b, off + g * 2 + 1, none⟩ = some (.int .i64 rg) := by rw [World.cell?_alloc_lt wr _ _ hbr]; exact c2
      have hB2 := Lib.hid (bA hB.out (.cells #[.int .i64 x, .int .i64 r] 46))
      obtain ⟨t0, t1, _, _, _⟩ := T.out
      by_cases hq : rg < r
      · have e : bg l (k + 1) = k := by rw [EB.out, if_pos hq]
        clear EB
        go_wp2_with fail
        go_quiet (fail)
        go_wp2
        go_roundw
        case rel => exact ⟨k + 1, by omega, by go_num, by rw [e], bel_trans hB2.out (bel_drewN _ _)⟩
        case measure => simp [intOf]; omega
      · have e : bg l (k + 1) = g := by rw [EB.out, if_neg hq]
        clear EB
        go_wp2_with fail
        go_quiet (fail)
        go_wp2
        go_roundw
        case rel => exact ⟨k + 1, by omega, by go_num, by rw [e], bel_trans hB2.out (bel_drewN _ _)⟩
        case measure => simp [intOf]; omega
    · obtain rfl : k = n := by omega
      go_wp2
      go_returns
      exact ⟨rfl, hB.out⟩
theorem bung_bad (v : Value) (E : Int) (w : World) (e1 : (E == 0) = false) (e2 : (E != 0) = true)
    (H1 : Hid (Calls Tryz.prog 42 #[v] w fun e w' => e = .returned (.int .i64 E) ∧ Below w.heap.size w w')) :
    Calls Tryz.prog 37 #[v] w fun e w' => e = .returned (.tuple #[.int .i64 0, .int .i64 E]) ∧ Below w.heap.size w w' := by
  go_enter Tryz.func37, Tryz.ntmps37
  go_wp2_with fail
  refine H1.out.mono ?_
  rintro e w1 ⟨rfl, gg⟩
  have X1 := Lib.hid gg; clear gg
  go_wp2
  go_returns
  exact ⟨rfl, X1.out⟩
theorem bung_any (v : Value) (l : List (Int × Int)) (w : World) (hv : Pts w v l) :
    Calls Tryz.prog 37 #[v] w fun e w' => e = .returned (.tuple #[.int .i64 (buQ l), .int .i64 (ckE l)]) ∧ Below w.heap.size w w' := by
  have HC := Lib.hid (ck_any v l w hv)
  unfold buQ
  by_cases h : ckE l = 0
  · have hR := (ckE_iff l).1 h
    have n0 := hR.n0
    have n1 := hR.n1
    rw [if_pos h, h]
    rw [h] at HC
    obtain ⟨a, cap, rfl, hl, hh⟩ := hv
    rcases hh with hh | ⟨b, off, rfl, hb, hc⟩
    · omega
    · exact bung_ok b off l.length cap l w (by omega) (by omega) hb (Lib.hid hc) HC
  · rw [if_neg h]
    exact bung_bad v _ w (by simpa using h) (by simpa using h) HC
end Go.Proofs.YtpnlfeljmpfeoaaGreatDoor

/- Package cask: Depth. -/
namespace Go.Proofs.YtpnlfeljmpfeoaaGreatDoor
open Go.RowKit

theorem dep_bad (nm : ByteArray) (ps dc E : Int) (a : Option Addr) (n cap : Nat) (w : World) (e1 : (E == 0) = false) (e2 : (E != 0) = true)
    (H1 : Hid (∀ W, Below w.heap.size w W → Calls Tryz.prog 20 #[.agg #[.string nm, .int .i64 ps, .slice a n cap, .int .i64 dc]] W fun e w' => e = .returned (.int .i64 E) ∧ Below W.heap.size W w')) :
    Calls Tryz.prog 18 #[.agg #[.string nm, .int .i64 ps, .slice a n cap, .int .i64 dc]] w fun e w' => e = .returned (.tuple #[.int .i64 0, .int .i64 E]) ∧ Below w.heap.size w w' := by
  go_enter Tryz.func18, Tryz.ntmps18
  go_wp2_with fail
  refine (H1.out _ (bel_alloc (Below.refl _ _))).mono ?_
  rintro e w1 ⟨rfl, gg⟩
  have X1 := Lib.hid (bel_alloc gg); clear gg
  go_wp2
  go_returns
  exact ⟨rfl, X1.out⟩
set_option maxHeartbeats 4000000 in
theorem dep_lying (nm : ByteArray) (dc r : Int) (i n cap b off : Nat) (w : World) (hi : i < n) (hb : b < w.heap.size) (hc : Hid (w.cell? ⟨b, off + i * 2 + 1, none⟩ = some (.int .i64 r))) (wr : IntKind.i64.wrap (2 * r) = 2 * r)
    (H1 : Hid (∀ W, Below w.heap.size w W → Calls Tryz.prog 20 #[.agg #[.string nm, .int .i64 1, .slice (some ⟨b, off, none⟩) n cap, .int .i64 dc]] W fun e w' => e = .returned (.int .i64 0) ∧ Below W.heap.size W w'))
    (H2 : Hid (∀ W, Below w.heap.size w W → Calls Tryz.prog 37 #[.slice (some ⟨b, off, none⟩) n cap] W fun e w' => e = .returned (.tuple #[.int .i64 i, .int .i64 0]) ∧ Below W.heap.size W w')) :
    Calls Tryz.prog 18 #[.agg #[.string nm, .int .i64 1, .slice (some ⟨b, off, none⟩) n cap, .int .i64 dc]] w fun e w' => e = .returned (.tuple #[.int .i64 (2 * r), .int .i64 0]) ∧ Below w.heap.size w w' := by
  have F0 := Lib.hid (Quad.new w (.string nm) (.int .i64 1) (.slice (some ⟨b, off, none⟩) n cap) (.int .i64 dc) 27)
  have l1 : (i : Int) < (n : Int) := by omega
  have l2 : 0 ≤ (i : Int) := by omega
  go_enter Tryz.func18, Tryz.ntmps18
  go_wp2_with fail
  refine (H1.out _ (bel_alloc (Below.refl _ _))).mono ?_
  rintro e w1 ⟨rfl, gg⟩
  replace F0 := Lib.hid (F0.out.below gg)
  have X1 := Lib.hid (bel_alloc gg); clear gg
  obtain ⟨u0, u1, u2, u3, _, _⟩ := F0.out
  go_wp2_with fail
  refine (H2.out _ X1.out).mono ?_
  rintro e w2 ⟨rfl, gg⟩
  clear u0 u1 u2 u3
  replace F0 := Lib.hid (F0.out.below gg)
  replace X1 := Lib.hid (bel_trans X1.out gg); clear gg
  obtain ⟨_, _, u2, _, _, _⟩ := F0.out
  have c1 : w2.cell? ⟨b, off + i * 2 + 1, none⟩ = some (.int .i64 r) := by rw [(bcell X1.out).1 _ _ hb]; exact hc.out
  clear H1 H2 hc
  go_wp2
  go_returns
  exact ⟨rfl, X1.out⟩
set_option maxHeartbeats 4000000 in
theorem dep_standing (nm : ByteArray) (dc x : Int) (a : Option Addr) (n cap : Nat) (w : World)
    (H1 : Hid (∀ W, Below w.heap.size w W → Calls Tryz.prog 20 #[.agg #[.string nm, .int .i64 2, .slice a n cap, .int .i64 dc]] W fun e w' => e = .returned (.int .i64 0) ∧ Below W.heap.size W w'))
    (H2 : Hid (∀ W, Below w.heap.size w W → Calls Tryz.prog 36 #[.slice a n cap] W fun e w' => e = .returned (.tuple #[.int .i64 x, .int .i64 0]) ∧ Below W.heap.size W w')) :
    Calls Tryz.prog 18 #[.agg #[.string nm, .int .i64 2, .slice a n cap, .int .i64 dc]] w fun e w' => e = .returned (.tuple #[.int .i64 x, .int .i64 0]) ∧ Below w.heap.size w w' := by
  have F0 := Lib.hid (Quad.new w (.string nm) (.int .i64 2) (.slice a n cap) (.int .i64 dc) 27)
  go_enter Tryz.func18, Tryz.ntmps18
  go_wp2_with fail
  refine (H1.out _ (bel_alloc (Below.refl _ _))).mono ?_
  rintro e w1 ⟨rfl, gg⟩
  replace F0 := Lib.hid (F0.out.below gg)
  have X1 := Lib.hid (bel_alloc gg); clear gg
  obtain ⟨u0, u1, u2, u3, _, _⟩ := F0.out
  go_wp2_with fail
  refine (H2.out _ X1.out).mono ?_
  rintro e w2 ⟨rfl, gg⟩
  replace X1 := Lib.hid (bel_trans X1.out gg); clear gg
  go_wp2
  go_returns
  exact ⟨rfl, X1.out⟩
theorem cDe_any (v : Value) (c : Ck) (w : World) (hv : CkV w v c) :
    Calls Tryz.prog 18 #[v] w fun e w' => e = .returned (.tuple #[.int .i64 (deQ c), .int .i64 (ccE c)]) ∧ Below w.heap.size w w' := by
  have HC : Hid (∀ W, Below w.heap.size w W → _) := Lib.hid fun W hW => ckk_any v c W (hv.below hW)
  obtain ⟨a, cap, rfl, hp, _⟩ := hv
  unfold deQ
  by_cases h : ccE c = 0
  · obtain ⟨_, hps, _, hR⟩ := ccE_pf h
    have e0 := (ckE_iff _).2 hR
    rw [if_pos h, h]
    rw [h] at HC
    have n0 := hR.n0
    by_cases h1 : c.ps = 1
    · have hl : bg c.pf c.pf.length < c.pf.length := by have := bg_lt c.pf c.pf.length; omega
      have br : 1 ≤ brQ c ∧ brQ c ≤ 100000 := hR.br _ hl
      have HB : Hid (∀ W, Below w.heap.size w W → _) := Lib.hid fun W hW => bung_any _ c.pf W (hp.below hW)
      unfold buQ at HB
      rw [if_pos e0, e0] at HB
      obtain ⟨b, off, rfl, hb, hc⟩ := hp.at (by omega)
      rw [if_pos h1]
      rw [h1] at HC ⊢
      exact dep_lying _ _ _ _ _ cap b off w hl hb (hc _ hl).2 (wrap_in _ ⟨by omega, by omega⟩) HC HB
    · have h2 : c.ps = 2 := by omega
      have HB : Hid (∀ W, Below w.heap.size w W → _) := Lib.hid fun W hW => len_any _ c.pf W (hp.below hW)
      unfold lgQ at HB
      rw [if_pos e0, e0] at HB
      rw [if_neg h1]
      rw [h2] at HC ⊢
      exact dep_standing _ _ _ a _ cap w HC HB
  · rw [if_neg h]
    exact dep_bad _ _ _ _ a _ cap w (by simpa using h) (by simpa using h) HC
end Go.Proofs.YtpnlfeljmpfeoaaGreatDoor

/- Slices that read as lists of points: copies. -/
namespace Go.Proofs.YtpnlfeljmpfeoaaGreatDoor
open Go.RowKit Go.Sort

set_option maxRecDepth 100000 in
set_option maxHeartbeats 2000000 in
theorem clone_some (ad : Addr) (n c : Nat) (news : List Value) (w : World) (hl : news.length = n * 2) (hn : n ≤ 1000)
    (hc : Hid (∀ j u, news[j]? = some u → (w.alloc (.cells #[] 46)).cell? (ad.add j) = some u)) (h1 : Hid (∀ u ∈ news, u.oneCell' = true)) :
    Calls Tryz.prog 34 #[.slice (some ad) n c] w fun e w' => ∃ v', e = .returned v' ∧ w'.ownsRow w.heap.size 46 2 v' n news ∧ v' ≠ .slice none 0 0 ∧ Below w.heap.size w w' := by
  obtain ⟨i0, hi0, hz0, hz1, hz2⟩ := info_parts pt_info
  have q22 : ∀ (w : World) (a : Option Addr) (n c n' c' : Nat), (binOp .eql 25 (.slice a n c) (.slice none n' c')).run Tryz.prog w = .ok (.bool a.isNone) w := fun w a n c n' c' => Lib.run_eql_slice_nil w _ _ a n c n' c' Tryz.underlying25
  go_enter Tryz.func34, Tryz.ntmps34
  go_wp2_with (at_builtin; refine wpList_append_own _ rfl _ _ 25 rfl w.heap.size 46 i0 (.agg #[.int .i64 0, .int .i64 0]) 2 16 Tryz.underlying25 hi0 hz0 hz1 hz2 rfl (by omega) _ _ _ rfl (World.ownsRow_made w #[] 0 (Nat.le_refl _) (Nat.zero_le _) (by simp)) ad n c news rfl ?qc1 ?qc2 ?qc3 ?qc4 ?qc5 ?qc6 ?_)
  case qc1 => exact hl
  case qc2 => exact hc.out
  case qc3 => exact h1.out
  case qc4 => rw [Nat.zero_add]; unfold maxLen; omega
  case qc5 => rw [Nat.zero_add]; omega
  case qc6 => simp
  intro v' w1 hown hgrow hnil
  have HO := Lib.hid hown
  have HG := Lib.hid hgrow
  have HN := Lib.hid hnil
  clear hown hgrow hnil hl
  go_wp2
  go_ret
  refine ⟨v', rfl, by simpa using HO.out, ?_, ?_⟩
  · exact HN.out
  · exact ((Below.refl _ w).alloc (Nat.le_refl _) _).grown HG.out (by simp) (by intro k hk; simp [Value.ownBlock] at hk; omega)
set_option maxRecDepth 100000 in
theorem clone_none (n c : Nat) (w : World) :
    Calls Tryz.prog 34 #[.slice none n c] w fun e w' => e = .returned (.slice none 0 0) ∧ w' = w := by
  have q22 : ∀ (w : World) (a : Option Addr) (n c n' c' : Nat), (binOp .eql 25 (.slice a n c) (.slice none n' c')).run Tryz.prog w = .ok (.bool a.isNone) w := fun w a n c n' c' => Lib.run_eql_slice_nil w _ _ a n c n' c' Tryz.underlying25
  go_enter Tryz.func34, Tryz.ntmps34
  go_wp2
  go_ret
  exact ⟨rfl, rfl⟩
/-- a copy reads as what it is copied from -/
theorem clone_p (v : Value) (l : List (Int × Int)) (w : World) (h : Pts w v l) (hn : l.length ≤ 1000) :
    Calls Tryz.prog 34 #[v] w fun e w' => ∃ u, e = .returned u ∧ Pts w' u l ∧ Below w.heap.size w w' := by
  obtain ⟨a, c, rfl, hl, h⟩ := h
  cases a with
  | none =>
    rcases h with h | ⟨b, off, hx, _⟩
    · obtain rfl := List.length_eq_zero_iff.1 h
      refine (clone_none _ c w).mono fun _ w' g => ⟨_, g.1, ?_, by rw [g.2]; exact Below.refl _ _⟩
      exact pts_nil w'
    · cases hx
  | some ad =>
    refine (clone_some ad l.length c (flat l) w (flat_len l) hn ?_ (flat_one l)).mono fun _ w' ⟨u, g1, g2, _, g4⟩ => ⟨u, g1, OwnP.pts (show OwnP w' w.heap.size u l from g2), g4⟩
    intro j u hj
    rcases h with h | ⟨b, off, hx, hb, hc⟩
    · obtain rfl := List.length_eq_zero_iff.1 h
      simp [flat] at hj
    · obtain rfl := Option.some.inj hx
      obtain ⟨i, hi, ⟨rfl, rfl⟩ | ⟨rfl, rfl⟩⟩ := flat_inv l j u hj
      · rw [Go.WideShapes.add_plain, World.cell?_alloc_lt w _ _ hb]
        exact (hc i hi).1
      · rw [Go.WideShapes.add_plain, World.cell?_alloc_lt w _ _ hb, ← Nat.add_assoc]
        exact (hc i hi).2
end Go.Proofs.YtpnlfeljmpfeoaaGreatDoor

/- Package cask: Find. -/
namespace Go.Proofs.YtpnlfeljmpfeoaaGreatDoor
open Go.RowKit Go.Maps

/-- a copy lies in memory of the call's own -/
theorem clone_o (v : Value) (l : List (Int × Int)) (w : World) (h : Pts w v l) (hn : l.length ≤ 1000) :
    Calls Tryz.prog 34 #[v] w fun e w' => ∃ a cap, e = .returned (.slice a l.length cap) ∧ OwnP w' w.heap.size (.slice a l.length cap) l ∧ Below w.heap.size w w' := by
  obtain ⟨a, c, rfl, hl, h⟩ := h
  cases a with
  | none =>
    rcases h with h | ⟨b, off, hx, _⟩
    · obtain rfl := List.length_eq_zero_iff.1 h
      refine (clone_none _ c w).mono fun _ w' g => ⟨none, 0, g.1, ?_, by rw [g.2]; exact Below.refl _ _⟩
      exact World.ownsRow_nil _ _ _ _
    · cases hx
  | some ad =>
    refine (clone_some ad l.length c (flat l) w (flat_len l) hn ?_ (flat_one l)).mono fun _ w' ⟨u, g1, g2, g3, g4⟩ => ?_
    · intro j u hj
      rcases h with h | ⟨b, off, hx, hb, hc⟩
      · obtain rfl := List.length_eq_zero_iff.1 h
        simp [flat] at hj
      · obtain rfl := Option.some.inj hx
        obtain ⟨i, hi, ⟨rfl, rfl⟩ | ⟨rfl, rfl⟩⟩ := flat_inv l j u hj
        · rw [Go.WideShapes.add_plain, World.cell?_alloc_lt w _ _ hb]
          exact (hc i hi).1
        · rw [Go.WideShapes.add_plain, World.cell?_alloc_lt w _ _ hb, ← Nat.add_assoc]
          exact (hc i hi).2
    · have g2' := g2
      rcases g2.2 with ⟨hx, _⟩ | ⟨g, cap, cur, hx, _⟩
      · exact absurd hx g3
      · subst hx
        exact ⟨_, cap, g1, g2', g4⟩
theorem zeroI (w : World) : (zeroValue 3).run Tryz.prog w = .ok (.int .i64 0) w := by kernel_rfl
theorem find_bad (v : Value) (nm : ByteArray) (E : Int) (w : World) (e1 : (E == 0) = false) (e2 : (E != 0) = true)
    (H1 : Hid (∀ W, Below w.heap.size w W → Calls Tryz.prog 16 #[v] W fun e w' => e = .returned (.int .i64 E) ∧ Below W.heap.size W w')) :
    Calls Tryz.prog 12 #[v, .string nm] w fun e w' => ∃ u, e = .returned (.tuple #[u, .int .i64 E]) ∧ CkV w' u zCk ∧ Below w.heap.size w w' := by
  have F0 := Lib.hid (Quad.new w (.string ByteArray.empty) (.int .i64 0) (.slice none 0 0) (.int .i64 0) 27)
  go_enter Tryz.func12, Tryz.ntmps12
  go_wp2_with fail
  refine (H1.out _ (bel_alloc (Below.refl _ _))).mono ?_
  rintro e w1 ⟨rfl, gg⟩
  replace F0 := Lib.hid (F0.out.below gg)
  have X1 := Lib.hid (bel_alloc gg); clear gg
  obtain ⟨u0, u1, u2, u3, uf, _⟩ := F0.out
  have f0 := uf 0 (by omega)
  have f1 := uf 1 (by omega)
  have f2 := uf 2 (by omega)
  have f3 := uf 3 (by omega)
  clear uf
  go_wp2
  obtain ⟨t0, t1, t2, t3⟩ := quad_read w1 w.heap.size (.string ⟨#[]⟩) (.int .i64 0) (.slice none 0 0) (.int .i64 0) u0 u1 u2 u3
  refine bodyPost_ret (v := .tuple #[.agg #[.string ByteArray.empty, .int .i64 0, .slice none 0 0, .int .i64 0], .int .i64 E]) (by simp [results, Tryz.results12, go_sem, t0, t1, t2, t3]; rfl) rfl ?_
  exact ⟨_, rfl, ⟨none, 0, rfl, pts_nil _, by decide, by decide, by decide⟩, (((X1.out.setCell (Nat.le_refl _) _).setCell (Nat.le_refl _) _).setCell (Nat.le_refl _) _).setCell (Nat.le_refl _) _⟩
set_option maxHeartbeats 4000000 in
set_option maxRecDepth 100000 in
theorem find_no (v : Value) (n : Nat) (l : List Ck) (nm : ByteArray) (w : World) (hnm : nm.size ≤ 1000000) (hh : Maps.has (ix l n) (nk nm) = false)
    (H1 : Hid (∀ W, Below w.heap.size w W → Calls Tryz.prog 16 #[v] W fun e w' => e = .returned (.int .i64 0) ∧ Below W.heap.size W w'))
    (H2 : Hid (∀ W, Below w.heap.size w W → Calls Tryz.prog 33 #[v] W fun e w' => e = .returned (.map (some W.heap.size)) ∧ Ixs w' W.heap.size n l ∧ Below W.heap.size W w')) :
    Calls Tryz.prog 12 #[v, .string nm] w fun e w' => ∃ u, e = .returned (.tuple #[u, .int .i64 7]) ∧ CkV w' u zCk ∧ Below w.heap.size w w' := by
  have F0 := Lib.hid (Quad.new w (.string ByteArray.empty) (.int .i64 0) (.slice none 0 0) (.int .i64 0) 27)
  have hkey : keyOf Tryz.prog 9 (.string nm) = some (nk nm) := nk_of hnm
  go_enter Tryz.func12, Tryz.ntmps12
  go_wp2_with fail
  refine (H1.out _ (bel_alloc (Below.refl _ _))).mono ?_
  rintro e w1 ⟨rfl, gg⟩
  replace F0 := Lib.hid (F0.out.below gg)
  have X1 := Lib.hid (bel_alloc gg); clear gg
  go_wp2_with fail
  refine (H2.out _ X1.out).mono ?_
  rintro e w2 ⟨rfl, hM, gg⟩
  replace F0 := Lib.hid (F0.out.below gg)
  replace X1 := Lib.hid (bel_trans X1.out gg); clear gg
  obtain ⟨u0, u1, u2, u3, uf, _⟩ := F0.out
  have f0 := uf 0 (by omega)
  have f1 := uf 1 (by omega)
  have f2 := uf 2 (by omega)
  have f3 := uf 3 (by omega)
  clear uf H1 H2
  go_wp2_with (first
    | (at_lookup; refine wpList_lookup_own_ok_int _ rfl _ _ 54 rfl 9 3 .i64 mapLaw Tryz.underlying54 Tryz.underlying3 (zeroI _) w1.heap.size n (ix l n) rfl hM _ _ rfl hkey ?_; intro c hat hwc; clear hat hwc)
    | go_in)
  obtain ⟨t0, t1, t2, t3⟩ := quad_read w2 w.heap.size (.string ⟨#[]⟩) (.int .i64 0) (.slice none 0 0) (.int .i64 0) u0 u1 u2 u3
  refine bodyPost_ret (v := .tuple #[.agg #[.string ByteArray.empty, .int .i64 0, .slice none 0 0, .int .i64 0], .int .i64 7]) (by simp [results, Tryz.results12, go_sem, t0, t1, t2, t3]; rfl) rfl ?_
  exact ⟨_, rfl, ⟨none, 0, rfl, pts_nil _, by decide, by decide, by decide⟩, (((X1.out.setCell (Nat.le_refl _) _).setCell (Nat.le_refl _) _).setCell (Nat.le_refl _) _).setCell (Nat.le_refl _) _⟩
set_option maxHeartbeats 8000000 in
set_option maxRecDepth 100000 in
theorem find_yes (b off n cap j : Nat) (l : List Ck) (nm : ByteArray) (c : Ck) (w : World) (hj : j < n) (n1 : n ≤ 32) (hb : b < w.heap.size) (hp : c.pf.length ≤ 1000)
    (hc : Hid (CkAt w b off j c)) (hnm : nm.size ≤ 1000000) (hh : Maps.has (ix l n) (nk nm) = true) (hat : Hid ((ix l n).atKey (nk nm) (.lit (.int .i64 0)) = .lit (.int .i64 j)))
    (H1 : Hid (∀ W, Below w.heap.size w W → Calls Tryz.prog 16 #[.slice (some ⟨b, off, none⟩) n cap] W fun e w' => e = .returned (.int .i64 0) ∧ Below W.heap.size W w'))
    (H2 : Hid (∀ W, Below w.heap.size w W → Calls Tryz.prog 33 #[.slice (some ⟨b, off, none⟩) n cap] W fun e w' => e = .returned (.map (some W.heap.size)) ∧ Ixs w' W.heap.size n l ∧ Below W.heap.size W w')) :
    Calls Tryz.prog 12 #[.slice (some ⟨b, off, none⟩) n cap, .string nm] w fun e w' => ∃ u, e = .returned (.tuple #[u, .int .i64 0]) ∧ CkV w' u c ∧ Below w.heap.size w w' := by
  have F0 := Lib.hid (Quad.new w (.string ByteArray.empty) (.int .i64 0) (.slice none 0 0) (.int .i64 0) 27)
  have hkey : keyOf Tryz.prog 9 (.string nm) = some (nk nm) := nk_of hnm
  have l1 : (j : Int) < (n : Int) := by omega
  have l2 : 0 ≤ (j : Int) := by omega
  have HJ : Hid (∀ x : Int, (ix l n).atKey (nk nm) (.lit (.int .i64 0)) = .lit (.int .i64 x) → x = (j : Int)) := fun x h => by
    rw [hat.out] at h
    injection h with h
    injection h with _ h
    exact h.symm
  clear hat
  go_enter Tryz.func12, Tryz.ntmps12
  go_wp2_with fail
  refine (H1.out _ (bel_alloc (Below.refl _ _))).mono ?_
  rintro e w1 ⟨rfl, gg⟩
  replace F0 := Lib.hid (F0.out.below gg)
  have X1 := Lib.hid (bel_alloc gg); clear gg
  go_wp2_with fail
  refine (H2.out _ X1.out).mono ?_
  rintro e w2 ⟨rfl, hM, gg⟩
  replace F0 := Lib.hid (F0.out.below gg)
  replace X1 := Lib.hid (bel_trans X1.out gg); clear gg
  obtain ⟨a, cp, c0, c1, c2, c3, hP, wd⟩ := hc.out.below hb X1.out
  have HCL := Lib.hid (fun W (hW : Below w2.heap.size w2 W) => clone_o _ c.pf W (hP.below hW) hp)
  have WD := Lib.hid wd
  have G0 := Lib.hid (Quad.new w2 (.string c.nm) (.int .i64 c.ps) (.slice a c.pf.length cp) (.int .i64 c.dc) 27)
  clear hP wd H1 H2 hc
  go_wp2_with (first
    | (at_lookup; refine wpList_lookup_own_ok_int _ rfl _ _ 54 rfl 9 3 .i64 mapLaw Tryz.underlying54 Tryz.underlying3 (zeroI _) w1.heap.size n (ix l n) rfl hM _ _ rfl hkey ?_; intro x hat hwc; obtain rfl := HJ.out x hat; clear hat hwc)
    | fail)
  refine (HCL.out _ (bel_alloc (Below.refl _ _))).mono ?_
  rintro e w3 ⟨a', cp', rfl, hO, gg⟩
  have hs0 := F0.out.2.2.2.2.2
  replace F0 := Lib.hid (F0.out.below (bel_alloc gg))
  replace G0 := Lib.hid (G0.out.below gg)
  replace X1 := Lib.hid (bel_trans X1.out (bel_alloc gg))
  have hsz : w2.heap.size < w3.heap.size := G0.out.2.2.2.2.2
  have hne : w.heap.size ≠ w2.heap.size := by omega
  have hne2 : w2.heap.size ≠ w.heap.size := by omega
  have HO := Lib.hid hO
  clear gg hO HCL c0 c1 c2 c3 HJ hM
  obtain ⟨u0, u1, u2, u3, uf, _⟩ := F0.out
  have f0 := uf 0 (by omega)
  have f1 := uf 1 (by omega)
  have f2 := uf 2 (by omega)
  have f3 := uf 3 (by omega)
  obtain ⟨v0, v1, v2, v3, vf, _⟩ := G0.out
  have g2 := vf 2 (by omega)
  clear uf vf
  generalize hL : c.pf.length = L at *
  go_wp2
  have cc : ∀ i x, w3.cell? ⟨w.heap.size, i, none⟩ = some x → (w3.setCell ⟨w2.heap.size, 2, none⟩ (.slice a' L cp')).cell? ⟨w.heap.size, i, none⟩ = some x := fun i x h => by
    rw [World.cell?_setCell_other _ _ _ _ (by intro e; injection e; omega)]; exact h
  have s2 : (w2.alloc (.cells #[.string c.nm, .int .i64 c.ps, .slice a L cp, .int .i64 c.dc] 27)).heap.size = w2.heap.size + 1 := by simp
  obtain ⟨t0, t1, t2, t3⟩ := quad_read (w3.setCell ⟨w2.heap.size, 2, none⟩ (.slice a' L cp')) w.heap.size (.string c.nm) (.int .i64 c.ps) (.slice a' L cp') (.int .i64 c.dc) (cc _ _ u0) (cc _ _ u1) (cc _ _ u2) (cc _ _ u3)
  refine bodyPost_ret (v := .tuple #[.agg #[.string c.nm, .int .i64 c.ps, .slice a' L cp', .int .i64 c.dc], .int .i64 0]) (by simp [results, Tryz.results12, go_sem, t0, t1, t2, t3]) rfl ?_
  have HO' := HO.out
  rw [s2] at HO'
  have P2 : OwnP (((((w3.setCell ⟨w2.heap.size, 2, none⟩ (.slice a' L cp')).setCell ⟨w.heap.size, 0, none⟩ (.string c.nm)).setCell ⟨w.heap.size, 1, none⟩ (.int .i64 c.ps)).setCell ⟨w.heap.size, 2, none⟩ (.slice a' L cp')).setCell ⟨w.heap.size, 3, none⟩ (.int .i64 c.dc)) (w2.heap.size + 1) (.slice a' L cp') c.pf := own_far (own_far (own_far (own_far (own_far HO' (by omega)) (by omega)) (by omega)) (by omega)) (by omega)
  exact ⟨_, rfl, ⟨a', cp', by rw [hL], by rw [hL]; exact P2.pts, WD.out⟩, ((((X1.out.setCell (p := ⟨w2.heap.size, 2, none⟩) (Nat.le_of_lt hs0) _).setCell (p := ⟨w.heap.size, 0, none⟩) (Nat.le_refl _) _).setCell (p := ⟨w.heap.size, 1, none⟩) (Nat.le_refl _) _).setCell (p := ⟨w.heap.size, 2, none⟩) (Nat.le_refl _) _).setCell (p := ⟨w.heap.size, 3, none⟩) (Nat.le_refl _) _⟩
theorem find_last {l : List Ck} {nm : ByteArray} {j : Nat} (h : ¬ dupK l) (hj : j < l.length) (e : l[j].nm = nm) : l.find? (fun c => c.nm.toList == nm.toList) = some l[j] := by
  refine find_at hj (fun i hi hij => ?_) (by rw [nm_beq, decide_eq_true_eq]; exact e)
  rw [nm_beq, decide_eq_false_iff_not]
  intro e2
  exact h ⟨j, i, hj, hij, by rw [nm_beq, decide_eq_true_eq, e, e2]⟩
theorem liE_dup {l : List Ck} (h : liE l = 0) : ¬ dupK l := by
  unfold liE at h
  split at h
  · omega
  · split at h
    · split at h
      · omega
      · assumption
    · rename_i h1 h2; exact absurd h h2
theorem cFi_any (v : Value) (l : List Ck) (nm : ByteArray) (w : World) (hv : Cks w v l) (hnm : nm.size ≤ 1000000) :
    Calls Tryz.prog 12 #[v, .string nm] w fun e w' => ∃ u, e = .returned (.tuple #[u, .int .i64 (fiE l nm)]) ∧ CkV w' u (fiC l nm) ∧ Below w.heap.size w w' := by
  have HL : Hid (∀ W, Below w.heap.size w W → _) := Lib.hid fun W hW => cLi_any v l W (hv.below hW)
  by_cases h : liE l = 0
  · obtain ⟨hl, hcc⟩ := liE_len h
    have hd := liE_dup h
    rw [h] at HL
    have hnms : ∀ c ∈ l, c.nm.size ≤ 1000000 := fun c hc => by have := isNm_size (ccE_nm (hcc c hc)); omega
    have hp : ∀ c ∈ l, c.pf.length ≤ 1000 := fun c hc => by
      have := (ccE_pf (hcc c hc)).2.2.2.n1; omega
    have HI : Hid (∀ W, Below w.heap.size w W → Calls Tryz.prog 33 #[v] W fun e w' => e = .returned (.map (some W.heap.size)) ∧ Ixs w' W.heap.size l.length l ∧ Below W.heap.size W w') := fun W hW => by
      by_cases h0 : 0 < l.length
      · obtain ⟨b, off, cap, rfl, hb, hcap, hc⟩ := (hv.below hW).cks h0
        exact idx_some b off _ cap l W (by omega) rfl hb hc hnms
      · obtain ⟨a, cap, rfl, _⟩ := hv.shape
        obtain rfl : l = [] := List.length_eq_zero_iff.1 (by omega)
        exact idx_nil a cap W
    have hD : ∀ j (hj : j < l.length), l.getD j zCk = l[j] := fun j hj => by simp [List.getD, List.getElem?_eq_getElem hj]
    cases hh : Maps.has (ix l l.length) (nk nm) with
    | false =>
      have hno : ∀ j (hj : j < l.length), (l[j].nm.toList == nm.toList) = false := fun j hj => by
        rw [nm_beq, decide_eq_false_iff_not]
        intro e
        have := (ix_has l l.length nm).2 ⟨j, hj, by rw [hD j hj]; exact e⟩
        rw [hh] at this; cases this
      have e1 : fiE l nm = 7 := by
        unfold fiE
        rw [if_pos h, if_neg]
        rintro ⟨c, hc, e⟩
        obtain ⟨j, hj, rfl⟩ := List.getElem_of_mem hc
        rw [hno j hj] at e; cases e
      have e2 : fiC l nm = zCk := by unfold fiC; rw [if_pos h, find_none hno]; rfl
      rw [e1, e2]
      exact find_no v l.length l nm w hnm hh HL HI
    | true =>
      obtain ⟨j, hj, hn, hat⟩ := ix_at l l.length nm (.lit (.int .i64 0)) hh
      rw [hD j hj] at hn
      have e1 : fiE l nm = 0 := by unfold fiE; rw [if_pos h, if_pos ⟨_, List.getElem_mem hj, by rw [nm_beq, decide_eq_true_eq]; exact hn⟩]
      have e2 : fiC l nm = l[j] := by unfold fiC; rw [if_pos h, find_last hd hj hn]; rfl
      rw [e1, e2]
      obtain ⟨b, off, cap, rfl, hb, hcap, hc⟩ := hv.cks (by omega)
      exact find_yes b off _ cap j l nm l[j] w hj hl hb (hp _ (List.getElem_mem hj)) (hc j hj) hnm hh hat HL HI
  · have e1 : fiE l nm = liE l := by unfold fiE; rw [if_neg h]
    have e2 : fiC l nm = zCk := by unfold fiC; rw [if_neg h]
    rw [e1, e2]
    exact find_bad v nm _ w (by simpa using h) (by simpa using h) HL
end Go.Proofs.YtpnlfeljmpfeoaaGreatDoor

/- The reference of layer 8: Same. -/
namespace Go.Proofs.YtpnlfeljmpfeoaaGreatDoor
open Go.RowKit

theorem same_lens (a c : Option Addr) (n cap m cap2 : Nat) (w : World) (h : ((n : Int) != (m : Int)) = true) :
    Calls Tryz.prog 35 #[.slice a n cap, .slice c m cap2] w fun e w' => e = .returned (.bool false) ∧ Below w.heap.size w w' := by
  go_enter Tryz.func35, Tryz.ntmps35
  go_wp2
  go_returns
  exact ⟨rfl, Below.refl _ _⟩
theorem same_nil (a c : Option Addr) (cap cap2 : Nat) (w : World) :
    Calls Tryz.prog 35 #[.slice a 0 cap, .slice c 0 cap2] w fun e w' => e = .returned (.bool true) ∧ Below w.heap.size w w' := by
  go_enter Tryz.func35, Tryz.ntmps35
  go_wp2_with fail
  go_loopw [5] (fun ii wr => ii = .int .i64 0 ∧ Hid (Below w.heap.size w wr)) (fun _ _ => 0)
  case atStart => exact ⟨rfl, Below.refl _ _⟩
  case round =>
    obtain ⟨rfl, hB⟩ := hrel
    go_wp2
    go_returns
    exact ⟨rfl, hB.out⟩
set_option maxHeartbeats 4000000 in
theorem same_some (b off b2 off2 n cap cap2 : Nat) (f g f2 g2 : Nat → Int) (S : Bool) (w : World) (n1 : n ≤ 1000) (hb : b < w.heap.size) (hb2 : b2 < w.heap.size)
    (hc : Hid (∀ j, j < n → w.cell? ⟨b, off + j * 2, none⟩ = some (.int .i64 (f j)) ∧ w.cell? ⟨b, off + j * 2 + 1, none⟩ = some (.int .i64 (g j))))
    (hc2 : Hid (∀ j, j < n → w.cell? ⟨b2, off2 + j * 2, none⟩ = some (.int .i64 (f2 j)) ∧ w.cell? ⟨b2, off2 + j * 2 + 1, none⟩ = some (.int .i64 (g2 j))))
    (h1 : Hid ((∃ j, j < n ∧ samP (f j) (g j) (f2 j) (g2 j) = false) → S = false)) (h2 : Hid ((∀ j, j < n → samP (f j) (g j) (f2 j) (g2 j) = true) → S = true)) :
    Calls Tryz.prog 35 #[.slice (some ⟨b, off, none⟩) n cap, .slice (some ⟨b2, off2, none⟩) n cap2] w fun e w' => e = .returned (.bool S) ∧ Below w.heap.size w w' := by
  go_enter Tryz.func35, Tryz.ntmps35
  go_wp2_with fail
  go_loopw [5] (fun ii wr => ∃ k : Nat, k ≤ n ∧ ii = .int .i64 k ∧ Hid (Below w.heap.size w wr) ∧ Hid (∀ j, j < k → samP (f j) (g j) (f2 j) (g2 j) = true)) (fun ii _ => n - (intOf ii).toNat)
  case atStart => exact ⟨0, Nat.zero_le _, rfl, Below.refl _ _, fun j hj => by omega⟩
  case round =>
    obtain ⟨k, hk, rfl, hB, ha⟩ := hrel
    by_cases hlt : k < n
    · have c0 : wr.cell? ⟨b, off + k * 2, none⟩ = some (.int .i64 (f k)) := by rw [(bcell hB.out).1 _ _ hb]; exact (hc.out k hlt).1
      have c1 : wr.cell? ⟨b, off + k * 2 + 1, none⟩ = some (.int .i64 (g k)) := by rw [(bcell hB.out).1 _ _ hb]; exact (hc.out k hlt).2
      have d0 : wr.cell? ⟨b2, off2 + k * 2, none⟩ = some (.int .i64 (f2 k)) := by rw [(bcell hB.out).1 _ _ hb2]; exact (hc2.out k hlt).1
      have d1 : wr.cell? ⟨b2, off2 + k * 2 + 1, none⟩ = some (.int .i64 (g2 k)) := by rw [(bcell hB.out).1 _ _ hb2]; exact (hc2.out k hlt).2
      have HF : Hid (samP (f k) (g k) (f2 k) (g2 k) = false → S = false) := fun h => h1.out ⟨k, hlt, h⟩
      have HT : Hid (samP (f k) (g k) (f2 k) (g2 k) = true → ∀ j, j < k + 1 → samP (f j) (g j) (f2 j) (g2 j) = true) := fun h j hj => by
        by_cases e : j = k
        · rw [e]; exact h
        · exact ha.out j (by omega)
      have l1 : (k : Int) < (n : Int) := by omega
      generalize f k = x at *
      generalize g k = y at *
      generalize f2 k = u at *
      generalize g2 k = v at *
      cases hq : samP x y u v with
      | false =>
        obtain rfl := HF.out hq
        have q1 : ∀ W, (binOp .neq 46 (.agg #[.int .i64 x, .int .i64 y]) (.agg #[.int .i64 u, .int .i64 v])).run Tryz.prog W = .ok (.bool true) W := fun W => by rw [run_neq_point, hq]; rfl
        clear HF HT hq
        go_wp2_with fail
        go_quiet (fail)
        go_wp2
        go_returns
        exact ⟨rfl, bel_trans hB.out (bel_drewN _ _)⟩
      | true =>
        have ha2 := Lib.hid (HT.out hq)
        have q1 : ∀ W, (binOp .neq 46 (.agg #[.int .i64 x, .int .i64 y]) (.agg #[.int .i64 u, .int .i64 v])).run Tryz.prog W = .ok (.bool false) W := fun W => by rw [run_neq_point, hq]; rfl
        clear HF HT hq
        go_wp2_with fail
        go_quiet (fail)
        go_wp2
        go_roundw
        case rel => exact ⟨k + 1, by omega, by go_num, bel_trans hB.out (bel_drewN _ _), ha2⟩
        case measure => simp [intOf]; omega
    · obtain rfl : k = n := by omega
      have hS := h2.out ha.out
      subst hS
      go_wp2
      go_returns
      exact ⟨rfl, hB.out⟩
/-- Same says whether two lists are equal -/
theorem same_any (v u : Value) (l m : List (Int × Int)) (w : World) (hv : Pts w v l) (hu : Pts w u m) (hn : l.length ≤ 1000) :
    Calls Tryz.prog 35 #[v, u] w fun e w' => e = .returned (.bool (l == m)) ∧ Below w.heap.size w w' := by
  obtain ⟨a, cap, rfl, hl, hh⟩ := hv
  obtain ⟨c, cap2, rfl, hl2, hh2⟩ := hu
  by_cases hlen : l.length = m.length
  · rcases hh with hh | ⟨b, off, rfl, hb, hc⟩
    · have e1 := List.length_eq_zero_iff.1 hh
      have e2 := List.length_eq_zero_iff.1 (hlen ▸ hh)
      subst e1 e2
      exact same_nil a c cap cap2 w
    · rcases hh2 with hh2 | ⟨b2, off2, rfl, hb2, hc2⟩
      · have e2 := List.length_eq_zero_iff.1 hh2
        have e1 := List.length_eq_zero_iff.1 (hlen.trans hh2)
        subst e1 e2
        exact same_nil _ c cap cap2 w
      · rw [← hlen] at hc2 ⊢
        refine same_some b off b2 off2 l.length cap cap2 (gX l) (gR l) (gX m) (gR m) _ w hn hb hb2 hc hc2 (fun ⟨j, hj, h⟩ => ?_) (fun h => ?_)
        · rw [beq_eq_false_iff_ne]
          intro e
          subst e
          simp [samP] at h
        · rw [beq_iff_eq]; exact sam_eq hlen h
  · have := same_lens a c l.length cap m.length cap2 w (by simpa using fun e : (l.length : Int) = m.length => hlen (by omega))
    refine this.mono fun _ _ g => ⟨?_, g.2⟩
    rw [g.1]
    congr 2
    symm
    rw [beq_eq_false_iff_ne]
    intro e; exact hlen (by rw [e])
end Go.Proofs.YtpnlfeljmpfeoaaGreatDoor

/- The reference of layer 9: SameCask. -/
namespace Go.Proofs.YtpnlfeljmpfeoaaGreatDoor
open Go.RowKit

/-! ### SameCask -/
set_option maxHeartbeats 4000000 in
theorem refSC_0 (nm nm2 : ByteArray) (ps dc ps2 dc2 : Int) (a a2 : Option Addr) (n cap n2 cap2 : Nat) (B : Bool) (w : World) (q1 : (nm.toList == nm2.toList) = false)
    (H2 : Hid (∀ W, Below w.heap.size w W → Calls Tryz.prog 35 #[.slice a n cap, .slice a2 n2 cap2] W fun e w' => e = .returned (.bool B) ∧ Below W.heap.size W w')) :
    Calls Tryz.prog 15 #[.agg #[.string nm, .int .i64 ps, .slice a n cap, .int .i64 dc], .agg #[.string nm2, .int .i64 ps2, .slice a2 n2 cap2, .int .i64 dc2]] w fun e w' => e = .returned (.bool false) ∧ Below w.heap.size w w' := by
  go_enter Tryz.func15, Tryz.ntmps15
  go_wp2
  go_returns
  exact ⟨rfl, bel_alloc (bel_alloc (Below.refl _ _))⟩
set_option maxHeartbeats 4000000 in
theorem refSC_1 (nm nm2 : ByteArray) (ps dc ps2 dc2 : Int) (a a2 : Option Addr) (n cap n2 cap2 : Nat) (B : Bool) (w : World) (q1 : (nm.toList == nm2.toList) = true) (q2 : (ps == ps2) = false)
    (H2 : Hid (∀ W, Below w.heap.size w W → Calls Tryz.prog 35 #[.slice a n cap, .slice a2 n2 cap2] W fun e w' => e = .returned (.bool B) ∧ Below W.heap.size W w')) :
    Calls Tryz.prog 15 #[.agg #[.string nm, .int .i64 ps, .slice a n cap, .int .i64 dc], .agg #[.string nm2, .int .i64 ps2, .slice a2 n2 cap2, .int .i64 dc2]] w fun e w' => e = .returned (.bool false) ∧ Below w.heap.size w w' := by
  go_enter Tryz.func15, Tryz.ntmps15
  go_wp2
  go_returns
  exact ⟨rfl, bel_alloc (bel_alloc (Below.refl _ _))⟩
set_option maxHeartbeats 4000000 in
theorem refSC_2 (nm nm2 : ByteArray) (ps dc ps2 dc2 : Int) (a a2 : Option Addr) (n cap n2 cap2 : Nat) (B : Bool) (w : World) (q1 : (nm.toList == nm2.toList) = true) (q2 : (ps == ps2) = true) (q3 : (dc == dc2) = false)
    (H2 : Hid (∀ W, Below w.heap.size w W → Calls Tryz.prog 35 #[.slice a n cap, .slice a2 n2 cap2] W fun e w' => e = .returned (.bool B) ∧ Below W.heap.size W w')) :
    Calls Tryz.prog 15 #[.agg #[.string nm, .int .i64 ps, .slice a n cap, .int .i64 dc], .agg #[.string nm2, .int .i64 ps2, .slice a2 n2 cap2, .int .i64 dc2]] w fun e w' => e = .returned (.bool false) ∧ Below w.heap.size w w' := by
  go_enter Tryz.func15, Tryz.ntmps15
  go_wp2
  go_returns
  exact ⟨rfl, bel_alloc (bel_alloc (Below.refl _ _))⟩
set_option maxHeartbeats 4000000 in
theorem refSC_3 (nm nm2 : ByteArray) (ps dc ps2 dc2 : Int) (a a2 : Option Addr) (n cap n2 cap2 : Nat) (B : Bool) (w : World) (q1 : (nm.toList == nm2.toList) = true) (q2 : (ps == ps2) = true) (q3 : (dc == dc2) = true)
    (H2 : Hid (∀ W, Below w.heap.size w W → Calls Tryz.prog 35 #[.slice a n cap, .slice a2 n2 cap2] W fun e w' => e = .returned (.bool B) ∧ Below W.heap.size W w')) :
    Calls Tryz.prog 15 #[.agg #[.string nm, .int .i64 ps, .slice a n cap, .int .i64 dc], .agg #[.string nm2, .int .i64 ps2, .slice a2 n2 cap2, .int .i64 dc2]] w fun e w' => e = .returned (.bool B) ∧ Below w.heap.size w w' := by
  go_enter Tryz.func15, Tryz.ntmps15
  go_wp2_with fail
  refine (H2.out _ (bel_alloc (bel_alloc (Below.refl _ _)))).mono ?_
  rintro e w1 ⟨rfl, gg⟩
  have X1 := Lib.hid (bel_alloc (bel_alloc gg)); clear gg
  go_wp2
  go_returns
  exact ⟨rfl, X1.out⟩
/-- two casks are equal -/
def sameK (c d : Ck) : Bool := (c.nm.toList == d.nm.toList) && (c.ps == d.ps) && (c.dc == d.dc) && (c.pf == d.pf)
theorem refSC_any (v u : Value) (c d : Ck) (w : World) (hv : CkV w v c) (hu : CkV w u d) (hn : c.pf.length ≤ 1000) :
    Calls Tryz.prog 15 #[v, u] w fun e w' => e = .returned (.bool (sameK c d)) ∧ Below w.heap.size w w' := by
  obtain ⟨a, cap, rfl, hp, _⟩ := hv
  obtain ⟨a2, cap2, rfl, hp2, _⟩ := hu
  have HS : Hid (∀ W, Below w.heap.size w W → _) := Lib.hid fun W hW => same_any _ _ c.pf d.pf W (hp.below hW) (hp2.below hW) hn
  unfold sameK
  cases q1 : (c.nm.toList == d.nm.toList) with
  | false => exact refSC_0 _ _ _ _ _ _ _ _ _ _ _ _ _ w q1 HS
  | true =>
    cases q2 : (c.ps == d.ps) with
    | false => exact refSC_1 _ _ _ _ _ _ _ _ _ _ _ _ _ w q1 q2 HS
    | true =>
      cases q3 : (c.dc == d.dc) with
      | false => exact refSC_2 _ _ _ _ _ _ _ _ _ _ _ _ _ w q1 q2 q3 HS
      | true => exact refSC_3 _ _ _ _ _ _ _ _ _ _ _ _ _ w q1 q2 q3 HS
theorem sameK_iff (c d : Ck) : sameK c d = true ↔ c = d := by
  obtain ⟨a, b, l, e⟩ := c
  obtain ⟨a2, b2, l2, e2⟩ := d
  simp only [sameK, Bool.and_eq_true, beq_iff_eq, Ck.mk.injEq, ByteArray.toList_eq]
  constructor
  · rintro ⟨⟨⟨h1, h2⟩, h3⟩, h4⟩
    exact ⟨ByteArray.ext (Array.ext' h1), h2, h4, h3⟩
  · rintro ⟨rfl, rfl, rfl, rfl⟩
    exact ⟨⟨⟨rfl, rfl⟩, rfl⟩, rfl⟩
end Go.Proofs.YtpnlfeljmpfeoaaGreatDoor

/- The reference of layer 9: Same. -/
namespace Go.Proofs.YtpnlfeljmpfeoaaGreatDoor
open Go.RowKit

theorem refSame_lens (a c : Option Addr) (n cap m cap2 : Nat) (w : World) (h : ((n : Int) != (m : Int)) = true) :
    Calls Tryz.prog 26 #[.slice a n cap, .slice c m cap2] w fun e w' => e = .returned (.bool false) ∧ Below w.heap.size w w' := by
  go_enter Tryz.func26, Tryz.ntmps26
  go_wp2
  go_returns
  exact ⟨rfl, Below.refl _ _⟩
theorem refSame_nil (a c : Option Addr) (cap cap2 : Nat) (w : World) :
    Calls Tryz.prog 26 #[.slice a 0 cap, .slice c 0 cap2] w fun e w' => e = .returned (.bool true) ∧ Below w.heap.size w w' := by
  go_enter Tryz.func26, Tryz.ntmps26
  go_wp2_with fail
  go_loopw [5] (fun ii wr => ii = .int .i64 0 ∧ Hid (Below w.heap.size w wr)) (fun _ _ => 0)
  case atStart => exact ⟨rfl, Below.refl _ _⟩
  case round =>
    obtain ⟨rfl, hB⟩ := hrel
    go_wp2
    go_returns
    exact ⟨rfl, hB.out⟩
set_option maxHeartbeats 8000000 in
set_option maxRecDepth 100000 in
theorem refSame_some (b off b2 off2 n cap cap2 : Nat) (l m : List Ck) (S : Bool) (w : World) (n1 : n ≤ 1000) (hn : Hid (n = l.length)) (hm : Hid (n = m.length)) (hb : b < w.heap.size) (hb2 : b2 < w.heap.size)
    (hp : Hid (∀ c ∈ l, c.pf.length ≤ 1000))
    (hc : Hid (∀ j (hj : j < l.length), CkAt w b off j l[j])) (hc2 : Hid (∀ j (hj : j < m.length), CkAt w b2 off2 j m[j]))
    (h1 : Hid (∀ j (hj : j < l.length) (hk : j < m.length), sameK l[j] m[j] = false → S = false)) (h2 : Hid ((∀ j (hj : j < l.length) (hk : j < m.length), sameK l[j] m[j] = true) → S = true)) :
    Calls Tryz.prog 26 #[.slice (some ⟨b, off, none⟩) n cap, .slice (some ⟨b2, off2, none⟩) n cap2] w fun e w' => e = .returned (.bool S) ∧ Below w.heap.size w w' := by
  go_enter Tryz.func26, Tryz.ntmps26
  go_wp2_with fail
  go_loopw [5] (fun ii wr => ∃ k : Nat, k ≤ n ∧ ii = .int .i64 k ∧ Hid (Below w.heap.size w wr) ∧ Hid (∀ j (hj : j < l.length) (hk : j < m.length), j < k → sameK l[j] m[j] = true)) (fun ii _ => n - (intOf ii).toNat)
  case atStart => exact ⟨0, Nat.zero_le _, rfl, Below.refl _ _, fun j hj hk h => by omega⟩
  case round =>
    obtain ⟨k, hk, rfl, hB, ha⟩ := hrel
    by_cases hlt : k < n
    · have hkl : k < l.length := by rw [← hn.out]; exact hlt
      have hkm : k < m.length := by rw [← hm.out]; exact hlt
      have g1 := (hc.out k hkl).below hb (bel_trans hB.out (bel_drew wr))
      have g2 := (hc2.out k hkm).below hb2 (bel_trans hB.out (bel_drew wr))
      obtain ⟨a, cp, c0, c1, c2, c3, hP, wd⟩ := g1
      obtain ⟨a2, cp2, e0, e1, e2, e3, hP2, wd2⟩ := g2
      have HC := Lib.hid (refSC_any _ _ l[k] m[k] wr.drew ⟨a, cp, rfl, hP, wd⟩ ⟨a2, cp2, rfl, hP2, wd2⟩ (hp.out _ (List.getElem_mem hkl)))
      have HT : Hid (sameK l[k] m[k] = true → ∀ j (hj : j < l.length) (hk : j < m.length), j < k + 1 → sameK l[j] m[j] = true) := fun h j hj hj2 hj3 => by
        by_cases e : j = k
        · subst e; exact h
        · exact ha.out j hj hj2 (by omega)
      have HF : Hid (sameK l[k] m[k] = false → S = false) := fun h => h1.out _ hkl hkm h
      have hB2 := Lib.hid (bel_trans hB.out (bel_drew wr))
      have l1 : (k : Int) < (n : Int) := by omega
      clear hP hP2 wd wd2 ha h1 h2 hc hc2 hB
      generalize l[k] = c at *
      generalize m[k] = d at *
      go_wp2_with fail
      go_still_tail 8, (by kernel_rfl)
      change wpList _ _ _ _ _ wr.drew
      generalize wr.drew = wq at *
      cases hq : sameK c d with
      | false =>
        obtain rfl := HF.out hq
        rw [hq] at HC
        clear HF HT hq
        go_wp2_with fail
        refine HC.out.mono ?_
        rintro e w1 ⟨rfl, gg⟩
        have X1 := Lib.hid (bel_trans hB2.out gg); clear gg
        go_wp2
        go_returns
        exact ⟨rfl, X1.out⟩
      | true =>
        have hx := Lib.hid (HT.out hq)
        rw [hq] at HC
        clear HF HT hq
        go_wp2_with fail
        refine HC.out.mono ?_
        rintro e w1 ⟨rfl, gg⟩
        have X1 := Lib.hid (bel_trans hB2.out gg); clear gg
        go_wp2
        go_roundw
        case rel => exact ⟨k + 1, by omega, by go_num, X1, hx⟩
        case measure => simp [intOf]; omega
    · obtain rfl : k = n := by omega
      obtain rfl := h2.out (fun j hj hk => ha.out j hj hk (by have := hn.out; omega))
      go_wp2
      go_returns
      exact ⟨rfl, hB.out⟩
theorem cks_eq {l m : List Ck} (h : l.length = m.length) (hs : ∀ j (hj : j < l.length) (hk : j < m.length), sameK l[j] m[j] = true) : l = m :=
  List.ext_getElem h fun j h1 h2 => (sameK_iff _ _).1 (hs j h1 h2)
open Classical in
theorem refSame_any (v u : Value) (l m : List Ck) (w : World) (hv : Cks w v l) (hu : Cks w u m) (hl : l.length ≤ 1000) (hp : ∀ c ∈ l, c.pf.length ≤ 1000) :
    Calls Tryz.prog 26 #[v, u] w fun e w' => e = .returned (.bool (decide (l = m))) ∧ Below w.heap.size w w' := by
  by_cases hlen : l.length = m.length
  · by_cases h0 : 0 < l.length
    · obtain ⟨b, off, cap, rfl, hb, _, hc⟩ := hv.cks h0
      obtain ⟨b2, off2, cap2, rfl, hb2, _, hc2⟩ := hu.cks (by omega)
      rw [← hlen]
      refine refSame_some b off b2 off2 _ cap cap2 l m _ w hl rfl hlen hb hb2 hp hc hc2 (fun j hj hk h => ?_) (fun h => ?_)
      · show decide _ = false
        refine decide_eq_false fun e => ?_
        subst e
        rw [(sameK_iff _ _).2 rfl] at h
        cases h
      · show decide _ = true
        exact decide_eq_true (cks_eq hlen h)
    · obtain ⟨a, cap, rfl, _⟩ := hv.shape
      obtain ⟨a2, cap2, rfl, _⟩ := hu.shape
      obtain rfl : l = [] := List.length_eq_zero_iff.1 (by omega)
      obtain rfl : m = [] := List.length_eq_zero_iff.1 (by simpa using hlen.symm)
      rw [decide_eq_true rfl]
      exact refSame_nil a a2 cap cap2 w
  · obtain ⟨a, cap, rfl, _⟩ := hv.shape
    obtain ⟨a2, cap2, rfl, _⟩ := hu.shape
    rw [decide_eq_false (fun e => hlen (by rw [e]))]
    exact refSame_lens a a2 _ cap _ cap2 w (by simp only [bne_iff_ne, ne_eq]; omega)
end Go.Proofs.YtpnlfeljmpfeoaaGreatDoor

/- The reference of layer 9: Print. -/
namespace Go.Proofs.YtpnlfeljmpfeoaaGreatDoor
open Go.RowKit

theorem refWord_any (p : Int) (w : World) : Calls Tryz.prog 49 #[.int .i64 p] w fun e w' => e = .returned (.string ⟨(wPs p).toArray⟩) ∧ w' = w := by
  have e1 := @rfl _ (wPs p)
  unfold wPs at e1 ⊢
  by_cases h : p = 1
  · have : (p == 1) = true := by simpa using h
    rw [if_pos h]
    go_enter Tryz.func49, Tryz.ntmps49
    go_wp2
    go_returns
    exact ⟨rfl, rfl⟩
  · have : (p == 1) = false := by simpa using h
    rw [if_neg h]
    go_enter Tryz.func49, Tryz.ntmps49
    go_wp2
    go_returns
    exact ⟨rfl, rfl⟩
theorem refPrint_bad (v : Value) (E : Int) (w : World) (e1 : (E == 0) = false) (e2 : (E != 0) = true)
    (H1 : Hid (Calls Tryz.prog 17 #[v] w fun e w' => e = .returned (.int .i64 E) ∧ Below w.heap.size w w')) :
    Calls Tryz.prog 23 #[v] w fun e w' => e = .returned (.tuple #[str [], .int .i64 E]) ∧ Below w.heap.size w w' := by
  go_enter Tryz.func23, Tryz.ntmps23
  go_wp2_with fail
  refine H1.out.mono ?_
  rintro e w1 ⟨rfl, gg⟩
  have X1 := Lib.hid gg; clear gg
  go_wp2
  go_returns
  exact ⟨rfl, X1.out⟩
theorem refPrint_nil (a : Option Addr) (cap : Nat) (w : World)
    (H1 : Hid (Calls Tryz.prog 17 #[.slice a 0 cap] w fun e w' => e = .returned (.int .i64 0) ∧ Below w.heap.size w w')) :
    Calls Tryz.prog 23 #[.slice a 0 cap] w fun e w' => e = .returned (.tuple #[str [], .int .i64 0]) ∧ Below w.heap.size w w' := by
  go_enter Tryz.func23, Tryz.ntmps23
  go_wp2_with fail
  refine H1.out.mono ?_
  rintro e w1 ⟨rfl, gg⟩
  have P0 := Lib.hid gg
  clear gg H1
  go_wp2_with fail
  go_loopw [5, 6] (fun ss ii wr => ss = str [] ∧ ii = .int .i64 0 ∧ Hid (Below w.heap.size w wr)) (fun _ _ _ => 0)
  case atStart => exact ⟨rfl, rfl, P0⟩
  case round =>
    obtain ⟨rfl, rfl, hP⟩ := hrel
    go_wp2
    go_returns
    exact ⟨rfl, hP.out⟩
/-- what stands in a round -/
def RS (w W : World) (q : Nat) (x y z u : Value) : Prop := Below w.heap.size w W ∧ Quad q W x y z u
theorem RS.below {w W W' : World} {q : Nat} {x y z u : Value} (h : RS w W q x y z u) (hb : Below W.heap.size W W') : RS w W' q x y z u := ⟨bel_trans h.1 hb, h.2.below hb⟩
theorem RS.cells {w W : World} {q : Nat} {x y z u : Value} (h : RS w W q x y z u) : W.cell? ⟨q, 0, none⟩ = some x ∧ W.cell? ⟨q, 1, none⟩ = some y ∧ W.cell? ⟨q, 2, none⟩ = some z ∧ W.cell? ⟨q, 3, none⟩ = some u :=
  ⟨h.2.1, h.2.2.1, h.2.2.2.1, h.2.2.2.2.1⟩
/-- a text in a slot -/
def IsS (v : Value) (l : List UInt8) : Prop := ∃ S : ByteArray, v = .string S ∧ S.data.toList = l ∧ S.size ≤ 1000000
theorem addS {a b c : ByteArray} (h : a.size + b.size ≤ 9223372036854775807) (hc : a ++ b = c) (W : World) : (binOp .add 9 (.string a) (.string b)).run Tryz.prog W = .ok (.string c) W := by
  subst hc
  have := run_string_add_sum (P := Tryz.prog) W a b h
  simp [binOp, run_underlying Tryz.underlying9, this, Result.andThen]
set_option maxHeartbeats 32000000 in
set_option maxRecDepth 100000 in
theorem refPrint_some (b0 off n cap : Nat) (l : List Ck) (w : World) (hw : CV w) (n1 : n ≤ 32) (hn : Hid (n = l.length)) (hb : b0 < w.heap.size)
    (hc : Hid (∀ j (hj : j < l.length), CkAt w b0 off j l[j])) (hz : Hid (∀ c ∈ l, ccE c = 0))
    (H1 : Hid (Calls Tryz.prog 17 #[.slice (some ⟨b0, off, none⟩) n cap] w fun e w' => e = .returned (.int .i64 0) ∧ Below w.heap.size w w')) :
    Calls Tryz.prog 23 #[.slice (some ⟨b0, off, none⟩) n cap] w fun e w' => ∃ v, e = .returned (.tuple #[v, .int .i64 0]) ∧ IsS v (prT l) ∧ Below w.heap.size w w' := by
  have HW := Lib.hid hw
  clear hw
  go_enter Tryz.func23, Tryz.ntmps23
  go_wp2_with fail
  refine H1.out.mono ?_
  rintro e w1 ⟨rfl, gg⟩
  have P0 := Lib.hid gg
  clear gg H1
  go_wp2_with fail
  go_loopw [5, 6] (fun ss ii wr => ∃ k : Nat, k ≤ n ∧ ii = .int .i64 k ∧ Hid (IsS ss (prT (l.take k))) ∧ Hid (Below w.heap.size w wr)) (fun _ ii _ => n - (intOf ii).toNat)
  case atStart => exact ⟨0, by omega, rfl, ⟨_, rfl, rfl, by decide⟩, P0⟩
  case round =>
    obtain ⟨k, hk, rfl, ⟨S, rfl, hS, sS⟩, hP⟩ := hrel
    by_cases hlt : k < n
    · have hkl : k < l.length := by rw [← hn.out]; exact hlt
      have l1 : (k : Int) < (n : Int) := by omega
      have hce := hz.out _ (List.getElem_mem hkl)
      obtain ⟨a, cp, g0, g1, g2, g3, hV, wd⟩ := hc.out k hkl
      have c0 := cell_bel g0 hP.out
      have c1 := cell_bel g1 hP.out
      have c2 := cell_bel g2 hP.out
      have c3 := cell_bel g3 hP.out
      obtain ⟨hnm0, hps, hdc, hRP⟩ := ccE_pf hce
      have pn0 := hRP.n0
      have pn1 := hRP.n1
      have eT := prT_succ l k hkl
      have bT := prT_le hz.out k (by omega)
      have bH := hd_le hce
      have bP := fun j hj => ptT_le hce j hj
      have HX := Lib.hid (fun j hj => pf_bd hce j hj)
      have HPT := Lib.hid (fun j (hj : j < l[k].pf.length) => ptT_succ l[k] j hj)
      have hns := (isNm_size hnm0).2
      obtain ⟨pb, po, rfl, hpb, hpc⟩ := hV.at (by omega)
      have HPC := Lib.hid hpc
      obtain ⟨D, hD⟩ : ∃ D : ByteArray, D = ⟨(Lib.itoa l[k].dc).toArray⟩ := ⟨_, rfl⟩
      have sD : D.size ≤ 21 := by rw [hD, str_size]; exact Lib.itoa_length_le _ (by omega) (by omega)
      obtain ⟨PW, hPW⟩ : ∃ PW : ByteArray, PW = ⟨(wPs l[k].ps).toArray⟩ := ⟨_, rfl⟩
      have sPW : PW.size ≤ 8 := by rw [hPW, str_size]; unfold wPs; split <;> decide
      have K1 : Hid (∀ W, Calls Tryz.prog 49 #[.int .i64 l[k].ps] W fun e w' => e = .returned (.string PW) ∧ w' = W) := fun W => by rw [hPW]; exact refWord_any _ W
      have K2 : Hid (∀ W x y z u q, RS w W q x y z u → Calls Tryz.prog 47 #[.int .i64 l[k].dc] W fun e w' => e = .returned (.string D) ∧ RS w w' q x y z u) := fun W x y z u q h =>
        (itoa_any l[k].dc W (by omega) (HW.out.below h.1)).mono fun _ _ g => ⟨by rw [hD]; exact g.1, h.below g.2⟩
      have B1 : Hid (RS w (wr.alloc (.cells #[.string l[k].nm, .int .i64 l[k].ps, .slice (some ⟨pb, po, none⟩) l[k].pf.length cp, .int .i64 l[k].dc] 27)).drew wr.heap.size (.string l[k].nm) (.int .i64 l[k].ps) (.slice (some ⟨pb, po, none⟩) l[k].pf.length cp) (.int .i64 l[k].dc)) :=
        Lib.hid (RS.below ⟨hP.out.alloc hP.out.size _, Quad.new wr _ _ _ _ _⟩ (bel_drew _))
      have n1 : ¬ 9223372036854775807 < 5 + l[k].nm.size := by omega
      have n2 : ¬ 9223372036854775807 < 5 + l[k].nm.size + 1 := by omega
      have n3 : ¬ 9223372036854775807 < 5 + l[k].nm.size + 1 + PW.size := by omega
      have n4 : ¬ 9223372036854775807 < 5 + l[k].nm.size + 1 + PW.size + 10 := by omega
      have n5 : ¬ 9223372036854775807 < 5 + l[k].nm.size + 1 + PW.size + 10 + D.size := by omega
      have n6 : ¬ 9223372036854775807 < 5 + l[k].nm.size + 1 + PW.size + 10 + D.size + 1 := by omega
      have n7 : ¬ 9223372036854775807 < S.size + (5 + l[k].nm.size + 1 + PW.size + 10 + D.size + 1) := by omega
      have HT : Hid ((S ++ (((((((⟨#[99, 97, 115, 107, 32]⟩ : ByteArray) ++ l[k].nm) ++ ⟨#[32]⟩) ++ PW) ++ ⟨#[32, 100, 101, 99, 108, 97, 114, 101, 100, 32]⟩) ++ D) ++ ⟨#[10]⟩)).data.toList = prT (l.take k) ++ hdT l[k]) := Lib.hid (by
        simp only [ByteArray.data_append, Array.toList_append, hS, hPW, hD]
        unfold hdT hdW
        simp [jn, wCask, wDe])
      clear sPW
      clear hV wd hnm0 hps hdc hRP hpc hD hPW g0 g1 g2 g3 hS sD hns
      generalize prT (l.take k) = tx at *
      generalize l[k] = c at *
      generalize hM : c.pf.length = m at *
      go_wp2_with fail
      go_region_held3 (fun w' => w'.cell? ⟨wr.heap.size, 0, none⟩ = some (.string c.nm) ∧ w'.cell? ⟨wr.heap.size, 1, none⟩ = some (.int .i64 c.ps) ∧ w'.cell? ⟨wr.heap.size, 3, none⟩ = some (.int .i64 c.dc)) (go_keep)
        (first | (go_at_call 49; (with_reducible refine (K1.out _).mono ?_); rintro e w2 ⟨rfl, hw2⟩; subst hw2) | (go_at_call 47; (with_reducible refine (K2.out _ _ _ _ _ _ B1.out).mono ?_); rintro e w3 ⟨rfl, B2⟩; obtain ⟨x0, x1, x2, x3⟩ := B2.cells; replace B2 := Lib.hid B2))
      go_wp2_with fail
      generalize hSS : S ++ ((⟨#[99, 97, 115, 107, 32]⟩ : ByteArray) ++ c.nm ++ ⟨#[32]⟩ ++ PW ++ ⟨#[32, 100, 101, 99, 108, 97, 114, 101, 100, 32]⟩ ++ D ++ ⟨#[10]⟩) = S1 at *
      have bQ : Hid (∀ j, j ≤ m → (tx ++ hdT c ++ ptT c j).length ≤ 1000000) := Lib.hid fun j hj => by
        have := bP j hj
        rw [List.length_append, List.length_append]; omega
      have toS : Hid (∀ (T : ByteArray) j, j ≤ m → T.data.toList = tx ++ hdT c ++ ptT c j → IsS (.string T) (tx ++ hdT c ++ ptT c j)) := Lib.hid fun T j hj h => ⟨T, rfl, h, by
        have := bQ.out j hj
        rw [← h, Array.length_toList] at this; exact this⟩
      have Q0 : Hid (IsS (.string S1) (tx ++ hdT c ++ ptT c 0)) := Lib.hid (toS.out S1 0 (by omega) (by
        rw [show ptT c 0 = [] from rfl, List.append_nil]; exact HT.out))
      clear HT hSS c0 c1 c2 c3 x0 x1 x2 x3 K1 K2 B1 bT bH bP sS n1 n2 n3 n4 n5 n6 n7
      generalize wr.heap.size = q at *
      go_loopw [5, 8] (fun ss ii wr => ∃ j : Nat, j ≤ m ∧ ii = .int .i64 j ∧ Hid (IsS ss (tx ++ hdT c ++ ptT c j)) ∧ Hid (RS w wr q (.string c.nm) (.int .i64 c.ps) (.slice (some ⟨pb, po, none⟩) m cp) (.int .i64 c.dc))) (fun _ ii _ => m - (intOf ii).toNat)
      case atStart => exact ⟨0, by omega, rfl, Q0, B2⟩
      case round =>
        obtain ⟨j, hj, rfl, ⟨S, rfl, hS, sS⟩, hQ⟩ := hrel
        by_cases hjm : j < m
        · have l2 : (j : Int) < (m : Int) := by omega
          have l3 : 0 ≤ (j : Int) := by omega
          obtain ⟨d0, d1, d2, d3⟩ := hQ.out.cells
          obtain ⟨c0, c1⟩ := HPC.out j hjm
          have g0 := cell_bel c0 hQ.out.1
          have g1 := cell_bel c1 hQ.out.1
          have hx := HX.out j hjm
          have eP := HPT.out j hjm
          generalize gX c.pf j = X at *
          generalize gR c.pf j = R at *
          obtain ⟨D1, hD1⟩ : ∃ D : ByteArray, D = ⟨(Lib.itoa X).toArray⟩ := ⟨_, rfl⟩
          obtain ⟨D2, hD2⟩ : ∃ D : ByteArray, D = ⟨(Lib.itoa R).toArray⟩ := ⟨_, rfl⟩
          have sD1 : D1.size ≤ 21 := by rw [hD1, str_size]; exact Lib.itoa_length_le _ (by omega) (by omega)
          have sD2 : D2.size ≤ 21 := by rw [hD2, str_size]; exact Lib.itoa_length_le _ (by omega) (by omega)
          have K1 : Hid (∀ W x y z u q, RS w W q x y z u → Calls Tryz.prog 47 #[.int .i64 X] W fun e w' => e = .returned (.string D1) ∧ RS w w' q x y z u) := fun W x y z u q h =>
            (itoa_any X W (by omega) (HW.out.below h.1)).mono fun _ _ g => ⟨by rw [hD1]; exact g.1, h.below g.2⟩
          have K2 : Hid (∀ W x y z u q, RS w W q x y z u → Calls Tryz.prog 47 #[.int .i64 R] W fun e w' => e = .returned (.string D2) ∧ RS w w' q x y z u) := fun W x y z u q h =>
            (itoa_any R W (by omega) (HW.out.below h.1)).mono fun _ _ g => ⟨by rw [hD2]; exact g.1, h.below g.2⟩
          have B1 := Lib.hid (hQ.out.below (bel_drew _))
          have n1 : ¬ 9223372036854775807 < 3 + D1.size := by omega
          have n2 : ¬ 9223372036854775807 < 3 + D1.size + 8 := by omega
          have n3 : ¬ 9223372036854775807 < 3 + D1.size + 8 + D2.size := by omega
          have n4 : ¬ 9223372036854775807 < 3 + D1.size + 8 + D2.size + 1 := by omega
          have n5 : ¬ 9223372036854775807 < S.size + (3 + D1.size + 8 + D2.size + 1) := by omega
          have HT : Hid ((S ++ ((((⟨#[97, 116, 32]⟩ : ByteArray) ++ D1) ++ ⟨#[32, 114, 97, 100, 105, 117, 115, 32]⟩ ++ D2) ++ ⟨#[10]⟩)).data.toList = tx ++ hdT c ++ ptT c (j + 1)) := Lib.hid (by
            rw [eP]
            simp only [ByteArray.data_append, Array.toList_append, hS, hD1, hD2]
            unfold ptN ptW
            simp [jn, wAt, wRa])
          have CB : Hid (∀ W, RS w W q (.string c.nm) (.int .i64 c.ps) (.slice (some ⟨pb, po, none⟩) m cp) (.int .i64 c.dc) → W.cell? ⟨pb, po + j * 2, none⟩ = some (.int .i64 X) ∧ W.cell? ⟨pb, po + j * 2 + 1, none⟩ = some (.int .i64 R)) := Lib.hid fun W h => ⟨cell_bel c0 h.1, cell_bel c1 h.1⟩
          have TS := Lib.hid (fun T h => toS.out T (j + 1) (by omega) h)
          clear hx eP sD1 sD2 hD1 hD2 hQ hS c0 c1 HX HPT HPC bQ toS
          go_wp2_with fail
          go_region_held3 (fun w' => w'.cell? ⟨q, 2, none⟩ = some (.slice (some ⟨pb, po, none⟩) m cp) ∧ w'.cell? ⟨pb, po + j * 2, none⟩ = some (.int .i64 X) ∧ w'.cell? ⟨pb, po + j * 2 + 1, none⟩ = some (.int .i64 R)) (go_keep)
            (first | (go_at_call 47; (with_reducible refine (K1.out _ _ _ _ _ _ B1.out).mono ?_); rintro e w5 ⟨rfl, B2⟩; obtain ⟨x0, x1, x2, x3⟩ := B2.cells; obtain ⟨x4, x5⟩ := CB.out _ B2; replace B2 := Lib.hid B2) | (go_at_call 47; (with_reducible refine (K2.out _ _ _ _ _ _ B2.out).mono ?_); rintro e w6 ⟨rfl, B3⟩; obtain ⟨y0, y1, y2, y3⟩ := B3.cells; obtain ⟨y4, y5⟩ := CB.out _ B3; replace B3 := Lib.hid B3))
          have Z := Lib.hid (TS.out _ HT.out)
          clear HT
          go_wp2
          go_roundw
          case rel => exact ⟨j + 1, by omega, by go_num, Z, B3⟩
          case measure => simp [intOf]; omega
        · obtain rfl : j = m := by omega
          obtain ⟨d0, d1, d2, d3⟩ := hQ.out.cells
          have n5 : ¬ 9223372036854775807 < S.size + 4 := by omega
          have HT : Hid ((S ++ (⟨#[101, 110, 100, 10]⟩ : ByteArray)).data.toList = prT (l.take (k + 1))) := Lib.hid (by
            rw [eT]
            simp only [ByteArray.data_append, Array.toList_append, hS]
            rfl)
          have hle : (prT (l.take (k + 1))).length ≤ 1000000 := by
            have := prT_le hz.out (k + 1) (by omega)
            omega
          have Z : Hid (IsS (.string (S ++ (⟨#[101, 110, 100, 10]⟩ : ByteArray))) (prT (l.take (k + 1)))) := Lib.hid ⟨_, rfl, HT.out, by
            rw [← HT.out, Array.length_toList] at hle; exact hle⟩
          have HB := Lib.hid hQ.out.1
          clear HT hle hS eT HPC HX HPT hc hz bQ toS hQ
          go_wp2
          go_roundw
          case rel => exact ⟨k + 1, by omega, by go_num, Z, HB⟩
          case measure => simp [intOf]; omega
    · obtain rfl : k = n := by omega
      have e : prT (l.take k) = prT l := by rw [hn.out, List.take_length]
      rw [e] at hS
      have HS := Lib.hid hS
      clear hS
      go_wp2
      go_returns
      exact ⟨_, rfl, ⟨S, rfl, HS.out, sS⟩, hP.out⟩
theorem IsS.str {v : Value} {l : List UInt8} (h : IsS v l) : v = str l := by
  obtain ⟨S, rfl, rfl, _⟩ := h
  unfold Go.Proofs.YtpnlfeljmpfeoaaGreatDoor.str
  congr 1
theorem refPrint_any (v : Value) (l : List Ck) (w : World) (hw : CV w) (hv : Cks w v l) :
    Calls Tryz.prog 23 #[v] w fun e w' => e = .returned (.tuple #[str (if liE l = 0 then prT l else []), .int .i64 (liE l)]) ∧ Below w.heap.size w w' := by
  have HL := Lib.hid (refList_any v l w hv)
  by_cases h : liE l = 0
  · obtain ⟨hl, hz⟩ := liE_len h
    rw [if_pos h, h]
    rw [h] at HL
    by_cases h0 : 0 < l.length
    · obtain ⟨b, off, cap, rfl, hb, _, hc⟩ := hv.cks h0
      exact (refPrint_some b off _ cap l w hw hl rfl hb hc hz HL).mono fun e w' ⟨u, g1, g2, g3⟩ => ⟨by rw [g1, g2.str], g3⟩
    · obtain ⟨a, cap, rfl, _⟩ := hv.shape
      obtain rfl : l = [] := List.length_eq_zero_iff.1 (by omega)
      exact refPrint_nil a cap w HL
  · rw [if_neg h]
    exact refPrint_bad v _ w (by simpa using h) (by simpa using h) HL
end Go.Proofs.YtpnlfeljmpfeoaaGreatDoor
