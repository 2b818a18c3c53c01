/-
  The statement CaskJoined of spile/spilelaw09 holds: for every input the call returns true, and each argument reads afterwards as it read before. (The listed package variables hold what the program lays: the card ties them.)
-/
import Derived.Test.YtpnlfeljmpfeoaaGreatDoorM4
import Derived.Test.YtpnlfeljmpfeoaaGreatDoorCards
import Derived.Test.YtpnlfeljmpfeoaaGreatDoorTie
import Derived.Below
import Derived.Carry
import Derived.Lib.LaidTab
import Derived.Deep.DeepHandedRow
import Derived.SevenTiedPlain
import Derived.Lay

set_option linter.unusedVariables false
set_option linter.unusedSimpArgs false

namespace Go.Proofs.YtpnlfeljmpfeoaaGreatDoor
open Go.RowKit

theorem wf_u8 {n : Int} (h : (Lit.int .u8 n).wf = true) : 0 ≤ n ∧ n ≤ 255 := by
  simp [Lit.wf] at h
  have e1 : IntKind.u8.min = 0 := by decide
  have e2 : IntKind.u8.max = 255 := by decide
  omega
theorem liE_iff (l : List Ck) : liE l = 0 ↔ l.length ≤ 32 ∧ (∀ c ∈ l, ccE c = 0) ∧ ¬ dupK l := by
  constructor
  · intro h
    obtain ⟨h1, h2⟩ := liE_sm h
    refine ⟨h1, h2, fun hd => ?_⟩
    unfold liE at h
    rw [if_neg (by omega), if_pos ((fE_zero l).2 h2), if_pos hd] at h
    cases h
  · rintro ⟨h1, h2, h3⟩
    unfold liE
    rw [if_neg (by omega), if_pos ((fE_zero l).2 h2), if_neg h3]
theorem liE_take {l : List Ck} (h : liE l = 0) (k : Nat) : liE (l.take k) = 0 := by
  obtain ⟨h1, h2, h3⟩ := (liE_iff l).1 h
  refine (liE_iff _).2 ⟨by rw [List.length_take]; omega, fun c hc => h2 c (List.mem_of_mem_take hc), ?_⟩
  rintro ⟨i, j, hi, hj, e⟩
  rw [List.length_take] at hi
  refine h3 ⟨i, j, by omega, hj, ?_⟩
  simpa using e
theorem liE_drop {l : List Ck} (h : liE l = 0) (k : Nat) : liE (l.drop k) = 0 := by
  obtain ⟨h1, h2, h3⟩ := (liE_iff l).1 h
  refine (liE_iff _).2 ⟨by rw [List.length_drop]; omega, fun c hc => h2 c (List.mem_of_mem_drop hc), ?_⟩
  rintro ⟨i, j, hi, hj, e⟩
  rw [List.length_drop] at hi
  refine h3 ⟨k + i, k + j, by omega, by omega, ?_⟩
  simpa using e
theorem joined {l : List Ck} (h : liE l = 0) (k : Nat) : prS (l.take k) ++ prS (l.drop k) = prS l := by
  unfold prS
  rw [if_pos h, if_pos (liE_take h k), if_pos (liE_drop h k), ← prT_app, List.take_append_drop]
theorem few_take {l : List Ck} (h : fewB l = true) (k : Nat) : fewB (l.take k) = true := by
  unfold fewB at h ⊢
  simp only [Bool.and_eq_true, decide_eq_true_eq, List.all_eq_true] at h ⊢
  exact ⟨fun c hc => h.1 c (List.mem_of_mem_take hc), by rw [List.length_take]; omega⟩
theorem few_drop {l : List Ck} (h : fewB l = true) (k : Nat) : fewB (l.drop k) = true := by
  unfold fewB at h ⊢
  simp only [Bool.and_eq_true, decide_eq_true_eq, List.all_eq_true] at h ⊢
  exact ⟨fun c hc => h.1 c (List.mem_of_mem_drop hc), by rw [List.length_drop]; omega⟩
/-- the first casks of a slice -/
theorem cks_upto {w : World} {a : Option Addr} {n cap k : Nat} {l : List Ck} (h : Cks w (.slice a n cap) l) (hk : k ≤ n) : Cks w (sliced a 0 k cap 4) (l.take k) := by
  obtain ⟨a', cap', e, hc, hh⟩ := h
  simp only [Value.slice.injEq] at e
  obtain ⟨rfl, rfl, rfl⟩ := e
  have hl : (l.take k).length = k := by rw [List.length_take]; omega
  unfold sliced
  by_cases h0 : k = 0
  · subst h0
    exact ⟨_, cap, by rw [hl]; rfl, by rw [hl]; omega, .inl (by rw [hl])⟩
  · rcases hh with hh | ⟨b, off, rfl, hb, hcs⟩
    · omega
    · rw [if_neg (by omega)]
      refine ⟨some ⟨b, off, none⟩, cap, by rw [hl]; simp [Go.WideShapes.add_plain], by rw [hl]; omega, .inr ⟨b, off, rfl, hb, fun j hj => ?_⟩⟩
      rw [hl] at hj
      have := hcs j (by omega)
      rwa [List.getElem_take]
/-- the last casks of a slice -/
theorem cks_from {w : World} {a : Option Addr} {n cap k : Nat} {l : List Ck} (h : Cks w (.slice a n cap) l) (hk : k ≤ n) : Cks w (sliced a k n cap 4) (l.drop k) := by
  obtain ⟨a', cap', e, hc, hh⟩ := h
  simp only [Value.slice.injEq] at e
  obtain ⟨rfl, rfl, rfl⟩ := e
  have hl : (l.drop k).length = l.length - k := by rw [List.length_drop]
  unfold sliced
  by_cases h0 : k = l.length
  · exact ⟨_, cap - k, by rw [hl], by rw [hl]; omega, .inl (by rw [hl]; omega)⟩
  · rcases hh with hh | ⟨b, off, rfl, hb, hcs⟩
    · omega
    · rw [if_neg (by omega)]
      refine ⟨some ⟨b, off + k * 4, none⟩, cap - k, by rw [hl]; simp [Go.WideShapes.add_plain], by rw [hl]; omega, .inr ⟨b, off + k * 4, rfl, hb, fun j hj => ?_⟩⟩
      rw [hl] at hj
      have := hcs (k + j) (by omega)
      rw [Nat.add_mul, ← Nat.add_assoc] at this
      rwa [List.getElem_drop]
set_option maxRecDepth 100000 in
theorem sl_up (a : Option Addr) (n cap k : Nat) (h : k ≤ n) (hc : n ≤ cap) (w : World) :
    (Instr.slice 22 (.slice a n cap) none (some (.int .i64 k)) none).run Tryz.prog w = .ok (sliced a 0 k cap 4) w := by
  have := run_slice_h (P := Tryz.prog) (w := w) 22 a n cap Tryz.underlying22 .i64 (k : Int) (by omega) (by omega)
  exact this
set_option maxRecDepth 100000 in
theorem sl_fr (a : Option Addr) (n cap k : Nat) (h : k ≤ n) (w : World) :
    (Instr.slice 22 (.slice a n cap) (some (.int .i64 k)) none none).run Tryz.prog w = .ok (sliced a k n cap 4) w := by
  have := run_slice_l (P := Tryz.prog) (w := w) 22 a n cap Tryz.underlying22 .i64 (k : Int) (by omega) (by omega)
  exact this
end Go.Proofs.YtpnlfeljmpfeoaaGreatDoor

namespace Go.Proofs.YtpnlfeljmpfeoaaGreatDoor.caskJoined
open Go.ChangeShapes Go.WideShapes Go.ChangeAt Go.RowKit
open Go.ChangeMaps (open_string shut_string)
set_option linter.unusedVariables false

set_option maxRecDepth 100000 in
set_option maxHeartbeats 8000000 in
theorem core (a : Option Addr) (n cap k : Nat) (y : Int) (B1 : Bool) (E : Int) (t t1 t2 : ByteArray) (v1 v2 : Value) (l : List Ck) (w : World)
    (hn : n ≤ 9223372036854775000 ∨ B1 = false) (hy : 0 ≤ y ∧ y ≤ 255) (hk : y % ((n : Int) + 1) = (k : Int)) (hkn : k ≤ n)
    (hE : (E = 0 ∧ ((t1 ++ t2).toList == t.toList) = true ∧ t1.size + t2.size ≤ 1000000) ∨ ((E != 0) = true ∧ (t.toList == []) = true))
    (HV : Hid (Cks w (.slice a n cap) l))
    (S1 : ∀ W, (Instr.slice 22 (.slice a n cap) none (some (.int .i64 k)) none).run Tryz.prog W = .ok v1 W)
    (S2 : ∀ W, (Instr.slice 22 (.slice a n cap) (some (.int .i64 k)) none none).run Tryz.prog W = .ok v2 W)
    (HA : Hid (Calls Tryz.prog 10 #[] w fun e w' => e = .returned (.bool true) ∧ Below w.heap.size w w'))
    (HF : Hid (∀ W, Below w.heap.size w W → Calls Tryz.prog 11 #[.slice a n cap] W fun e w' => e = .returned (.bool B1) ∧ w' = W))
    (HC : Hid (B1 = true → ∀ W, Below w.heap.size w W → Calls Tryz.prog 13 #[.slice a n cap] W fun e w' => ∃ u, e = .returned u ∧ Cks w' u l ∧ Below W.heap.size W w'))
    (HC1 : Hid (B1 = true → ∀ W, Below w.heap.size w W → Calls Tryz.prog 13 #[v1] W fun e w' => ∃ u, e = .returned u ∧ Cks w' u (l.take k) ∧ Below W.heap.size W w'))
    (HC2 : Hid (B1 = true → ∀ W, Below w.heap.size w W → Calls Tryz.prog 13 #[v2] W fun e w' => ∃ u, e = .returned u ∧ Cks w' u (l.drop k) ∧ Below W.heap.size W w'))
    (H1 : Hid (∀ v W, Below w.heap.size w W → Cks W v l → Calls Tryz.prog 22 #[v] W fun e w' => e = .returned (.tuple #[.string t, .int .i64 E]) ∧ Below W.heap.size W w'))
    (H2 : Hid (E = 0 → ∀ v W, Below w.heap.size w W → Cks W v (l.take k) → Calls Tryz.prog 22 #[v] W fun e w' => e = .returned (.tuple #[.string t1, .int .i64 0]) ∧ Below W.heap.size W w'))
    (H3 : Hid (E = 0 → ∀ v W, Below w.heap.size w W → Cks W v (l.drop k) → Calls Tryz.prog 22 #[v] W fun e w' => e = .returned (.tuple #[.string t2, .int .i64 0]) ∧ Below W.heap.size W w')) :
    Calls Tryz.prog 8 #[.slice a n cap, .int .u8 y] w fun e w' => e = .returned (.bool true) ∧ Below w.heap.size w w' := by
  have q5 : IntKind.i64.wrap (k : Int) = (k : Int) ∨ B1 = false := by
    rcases hn with h | h
    · exact .inl (by simp only [IntKind.wrap_i64]; omega)
    · exact .inr h
  have q2 : IntKind.i64.wrap (y % ((n : Int) + 1)) = (k : Int) ∨ B1 = false := by
    rcases hn with h | h
    · exact .inl (by rw [hk]; simp only [IntKind.wrap_i64]; omega)
    · exact .inr h
  clear hkn
  go_enter Tryz.func8, Tryz.ntmps8
  go_wp2_with fail
  refine HA.out.mono ?_
  rintro e w1 ⟨rfl, gg⟩
  have X := Lib.hid gg; clear gg HA
  go_wp2_with fail
  refine (HF.out _ X.out).mono ?_
  rintro e w2 ⟨rfl, hw⟩
  subst hw
  clear HF
  cases B1 with
  | false =>
    clear hE hn q2 q5
    go_wp2
    go_returns
    exact ⟨rfl, X.out⟩
  | true =>
    have hn' : n ≤ 9223372036854775000 := hn.elim id (fun h => by cases h)
    have K0 := Lib.hid (fun W => HC.out rfl W)
    have K1 := Lib.hid (fun W => HC1.out rfl W)
    have K2 := Lib.hid (fun W => HC2.out rfl W)
    clear HC HC1 HC2 hn
    rcases hE with ⟨rfl, f2, f3⟩ | ⟨f1, f2⟩
    · have P2 := Lib.hid (fun v W => H2.out rfl v W)
      have P3 := Lib.hid (fun v W => H3.out rfl v W)
      clear H2 H3
      have q1 : IntKind.i64.wrap ((n : Int) + 1) = (n : Int) + 1 := by simp only [IntKind.wrap_i64]; omega
      replace q2 := q2.elim id (fun h => by cases h)
      have q4 : IntKind.i64.wrap y = y := by simp only [IntKind.wrap_i64]; omega
      replace q5 := q5.elim id (fun h => by cases h)
      have z1 : ((n : Int) + 1 == 0) = false := by rw [beq_eq_false_iff_ne]; omega
      have z2 : (n : Int) + 1 ≠ 0 := by omega
      have tm : y.tmod ((n : Int) + 1) = (k : Int) := by rw [Int.tmod_eq_emod_of_nonneg hy.1]; exact hk
      have cc : ¬ 9223372036854775807 < t1.size + t2.size := by omega
      go_wp2_with fail
      refine (K0.out _ X.out).mono ?_
      rintro e w3 ⟨u, rfl, hu, gg⟩
      replace X := Lib.hid (bel_trans X.out gg); clear gg K0
      have C1 := Lib.hid hu
      obtain ⟨a2, cap2, rfl, _⟩ := hu
      go_wp2_with fail
      refine (H1.out _ _ X.out C1.out).mono ?_
      rintro e w4 ⟨rfl, gg⟩
      replace X := Lib.hid (bel_trans X.out gg); clear gg H1 C1
      go_wp2_with fail
      refine (K1.out _ X.out).mono ?_
      rintro e w5 ⟨u, rfl, hu, gg⟩
      replace X := Lib.hid (bel_trans X.out gg); clear gg K1
      have C1 := Lib.hid hu
      obtain ⟨a3, cap3, rfl, hz⟩ := hu
      clear hz
      generalize (List.take k l).length = n3 at *
      go_wp2_with fail
      refine (P2.out _ _ X.out C1.out).mono ?_
      rintro e w6 ⟨rfl, gg⟩
      replace X := Lib.hid (bel_trans X.out gg); clear gg P2 C1
      go_wp2_with fail
      refine (K2.out _ X.out).mono ?_
      rintro e w7 ⟨u, rfl, hu, gg⟩
      replace X := Lib.hid (bel_trans X.out gg); clear gg K2
      have C1 := Lib.hid hu
      obtain ⟨a4, cap4, rfl, hz⟩ := hu
      clear hz
      generalize (List.drop k l).length = n4 at *
      go_wp2_with fail
      refine (P3.out _ _ X.out C1.out).mono ?_
      rintro e w8 ⟨rfl, gg⟩
      replace X := Lib.hid (bel_trans X.out gg); clear gg P3 C1
      go_wp2
      go_returns
      exact ⟨rfl, X.out⟩
    · clear H2 H3 K1 K2 S1 S2 q2 q5
      go_wp2_with fail
      refine (K0.out _ X.out).mono ?_
      rintro e w3 ⟨u, rfl, hu, gg⟩
      replace X := Lib.hid (bel_trans X.out gg); clear gg K0
      have C1 := Lib.hid hu
      obtain ⟨a2, cap2, rfl, _⟩ := hu
      go_wp2_with fail
      refine (H1.out _ _ X.out C1.out).mono ?_
      rintro e w4 ⟨rfl, gg⟩
      replace X := Lib.hid (bel_trans X.out gg); clear gg H1 C1
      go_wp2
      go_returns
      exact ⟨rfl, X.out⟩
theorem walk (v : Value) (l : List Ck) (y : Int) (w : World) (hv : Cks w v l) (hy : 0 ≤ y ∧ y ≤ 255) (hw : CV w) :
    Calls Tryz.prog 8 #[v, .int .u8 y] w fun e w' => e = .returned (.bool true) ∧ Below w.heap.size w w' := by
  have HA := Lib.hid (awake_any w hw)
  have hv' := hv
  obtain ⟨a, cap, rfl, ⟨hc1, hc2⟩, _⟩ := hv'
  obtain ⟨k, hk, hkn⟩ : ∃ k : Nat, y % ((l.length : Int) + 1) = (k : Int) ∧ k ≤ l.length := by
    have h1 := Int.emod_nonneg y (show (l.length : Int) + 1 ≠ 0 by omega)
    have h2 := Int.emod_lt_of_pos y (show 0 < (l.length : Int) + 1 by omega)
    exact ⟨(y % ((l.length : Int) + 1)).toNat, by omega, by omega⟩
  refine core a l.length cap k y (fewB l) (liE l) ⟨(prS l).toArray⟩ ⟨(prS (l.take k)).toArray⟩ ⟨(prS (l.drop k)).toArray⟩ (sliced a 0 k cap 4) (sliced a k l.length cap 4) l w ?_ hy hk hkn ?_ (Lib.hid hv) (sl_up a _ cap k hkn hc1) (sl_fr a _ cap k hkn) HA (Lib.hid fun W hW => refFew_any _ l W (hv.below hW)) (Lib.hid fun h W hW => copy_is _ l W (hv.below hW) h)
    (Lib.hid fun h W hW => copy_is _ _ W (cks_upto (hv.below hW) hkn) (few_take h k)) (Lib.hid fun h W hW => copy_is _ _ W (cks_from (hv.below hW) hkn) (few_drop h k))
    (Lib.hid fun u W hW hu => cPr_any u l W (hw.below hW) hu) (Lib.hid fun h u W hW hu => ?_) (Lib.hid fun h u W hW hu => ?_)
  · cases hf : fewB l with
    | false => exact .inr rfl
    | true => exact .inl (by have := (fewB_small hf).1; omega)
  · by_cases h : liE l = 0
    · refine .inl ⟨h, ?_, ?_⟩
      · rw [beq_iff_eq]
        rw [ByteArray.toList_eq, ByteArray.toList_eq, ← joined h k]
        simp [ByteArray.data_append]
      · rw [str_size, str_size]
        have h1 := prT_fits h
        have h2 := congrArg List.length (joined h k)
        have h3 : prS l = prT l := by unfold prS; rw [if_pos h]
        rw [List.length_append, h3] at h2
        omega
    · refine .inr ⟨by simpa using h, ?_⟩
      have : prS l = [] := by unfold prS; rw [if_neg h]
      rw [this, beq_lit]; exact decide_eq_true rfl
  · have := cPr_any u _ W (hw.below hW) hu
    rwa [liE_take h k] at this
  · have := cPr_any u _ W (hw.below hW) hu
    rwa [liE_drop h k] at this

set_option maxRecDepth 100000 in
theorem contract (H : Type) (enc : TypeId × Value → H) (W : World) (base : Nat) (args : Array Value) (ds gs : List (DataW H)) (before : List MemPlace)
    (hval : ∀ (j : Nat) t v, Tryz.f8.params[j]? = some t → args[j]? = some v → Value.okWide Tryz.prog W .any base t v)
    (hW : DataW.Whole enc Tryz.prog Tryz.f8.params.toList Rows.caskJoinedSpec.vars false W args.toList ds gs before) (hL : laidMetH Tryz.prog Rows.caskJoinedRow.laid W) (hSh : W.ShapedOpen Tryz.prog) :
    Calls Tryz.prog 8 args W fun e W' => ∃ v, e = .returned v ∧ Rows.caskJoinedSpec.post enc Tryz.prog Tryz.f8 false true false false W args v W' := by
  have hW' := hW
  obtain ⟨p, q, hA0, hV, rfl, hfz, hnd⟩ := hW
  have hA : DataW.TrodAll enc Tryz.prog W 0 (fun _ => true) true Tryz.f8.params.toList args.toList ds p := hA0
  rw [Tryz.params8] at hA hval
  obtain ⟨v0, vs0, d0, ds0, p0, q0, hargs, rfl, rfl, h0, r0⟩ := trodAll_cons hA
  obtain ⟨v1, vs1, d1, ds1, p1, q1, rfl, rfl, rfl, h1, r1⟩ := trodAll_cons r0
  obtain ⟨rfl, rfl, rfl⟩ := trodAll_nil r1
  obtain rfl : args = #[v0, v1] := by cases args; simp_all
  obtain ⟨rfl, rfl⟩ := trodVars_none hV
  have k0 := h0
  have lt0 : ∀ x ∈ p0, x.block < W.heap.size := by obtain ⟨m, hm⟩ := k0; exact DataW.trod_lt m _ _ _ hm
  have k1 := h1
  have lt1 : ∀ x ∈ p1, x.block < W.heap.size := by obtain ⟨m, hm⟩ := k1; exact DataW.trod_lt m _ _ _ hm
  obtain ⟨z0, w0⟩ := open_cks (hval 0 22 v0 rfl rfl) h0
  obtain ⟨a1, rfl, rfl, rfl, w1⟩ := open_int Tryz.underlying5 (hval 1 5 v1 rfl rfl) h1
  clear hA0
  refine (walk v0 z0 a1 W w0 (wf_u8 w1) (laid_of rfl hL hSh)).mono fun e W' ⟨he, bel⟩ => ?_
  subst he
  exact ⟨_, rfl, _, _, _, [], _, [], hW', trodAll_mk1 (shut_bool Tryz.underlying4 _), (trodAll_cons_mk (Below.trod laidOut (by kernel_rfl) (of_decide_eq_true (by kernel_rfl)) k0 bel lt0) (trodAll_cons_mk (Below.trod laidOut (by kernel_rfl) (of_decide_eq_true (by kernel_rfl)) k1 bel lt1) trodAll_mk0)), rfl, bel.frame _, fun h => by cases h⟩

noncomputable def laidWorld (os : Os) : World := World.laidAll Tryz.prog os Rows.caskJoinedRow.laid
theorem laid_met (os : Os) : laidMet Tryz.prog Rows.caskJoinedRow.laid ((laidWorld os).forCall (fun _ _ => 0) ⟨#[], #[.slice none 0 0, .int .u8 0], []⟩).memory :=
  laidMet_laidAll _ (by kernel_rfl) (by kernel_rfl)
theorem reads (os : Os) {H : Type} (enc : TypeId × Value → H) : ∃ places, DataW.whole enc Tryz.prog ((laidWorld os).forCall (fun _ _ => 0) ⟨#[], #[.slice none 0 0, .int .u8 0], []⟩).memory Tryz.f8.params.toList Rows.caskJoinedSpec.vars false (#[.slice none 0 0, .int .u8 0] : Array Value).toList 8 = some ([.nil, .lit (.int .u8 0)], [], places) :=
  ⟨[], by kernel_rfl⟩

set_option maxRecDepth 100000 in
theorem lifted (os : Os) (started : os.Started) (H : Type) (enc : TypeId × Value → H) (F : Stop.Interp) :
    ReturnsInHanded {} Tryz.checked os 8 .any ((OpenSpec.ofChange Rows.caskJoinedSpec).preRow enc Tryz.prog Tryz.f8 Rows.caskJoinedRow.domain false Rows.caskJoinedRow.laid) (((OpenSpec.ofChange Rows.caskJoinedSpec).at F).post enc Tryz.prog Tryz.f8 false true false false) := by
  obtain ⟨places, hx⟩ := reads os enc
  refine returnsInHanded_of_row (C := Tryz.checked) (s := OpenSpec.ofChange Rows.caskJoinedSpec) own started (by kernel_rfl) Tryz.func8
    (witness_row_at (enc := enc) (C := Tryz.checked) false (laidWorld os) #[.slice none 0 0, .int .u8 0] (World.laidAll_os _ _ _) (by kernel_rfl) (by kernel_rfl) (by kernel_rfl)
      (OpenSpec.preRow_of_cond 8 hx (by kernel_rfl) (fun k hk => by cases hk) (by kernel_rfl) (laid_met os))) ?_
  intro W base args ds gs before hval hW _ _ _ hL hSh _
  exact contract H enc W base args ds gs before hval hW hL hSh

theorem said : Rows.CaskJoinedSaid :=
  OpenClaim.holds_of_cond 8 Tryz.f8 rfl rfl rfl rfl rfl rfl rfl ⟨rfl, rfl, rfl, rfl, rfl⟩ rfl rfl rfl rfl rfl (by kernel_rfl) Tryz.func8 (by kernel_rfl)
    (of_decide_eq_true (by kernel_rfl)) (by unfold Func.isWrapper; first | (rw [if_pos (by decide +kernel)]; kernel_rfl) | (rw [if_neg (by decide +kernel)]; exact ⟨rfl, rfl⟩))
    (fun os started H enc _ F => by rw [OpenClaim.pre_eq_preRow]; exact lifted os started H enc F)

theorem plain (f : FuncId) (fn : Func) (hf : Tryz.pinned.checked.prog.funcNamed "spile/spilelaw09.CaskJoined" = some f) (hfn : Tryz.pinned.checked.prog.funcs[f]? = some fn) :
    true = Tryz.pinned.checked.prog.looks [] ∧ ∀ (j : Nat) t, fn.params[j]? = some t → Tryz.pinned.checked.prog.wantsStandIn t = false := by
  obtain rfl : f = 8 := Option.some.inj ((show Tryz.prog.funcNamed "spile/spilelaw09.CaskJoined" = some 8 by kernel_rfl).symm.trans hf) |>.symm
  obtain rfl : fn = Tryz.f8 := (Option.some.inj (Tryz.func8.symm.trans hfn)).symm
  refine ⟨by kernel_rfl, fun j t ht => ?_⟩
  rw [Tryz.params8] at ht
  rcases j with _ | _ | j
  · obtain rfl : t = 22 := by simpa using ht.symm
    exact (show Tryz.prog.wantsStandIn 22 = false by kernel_rfl)
  · obtain rfl : t = 5 := by simpa using ht.symm
    exact (show Tryz.prog.wantsStandIn 5 = false by kernel_rfl)
  · simp at ht

theorem proved : Rows.CaskJoinedCardSaid :=
  Claim7.holds_tied_plain_at .later [] _ _ _ _ said (fun _ h => by cases h) (by kernel_rfl) (fun _ h => by cases h) caskJoined_row_tie rfl ⟨rfl, rfl⟩ (by kernel_rfl) rfl plain (by kernel_rfl)
#print axioms proved
end Go.Proofs.YtpnlfeljmpfeoaaGreatDoor.caskJoined
