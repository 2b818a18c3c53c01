/-
  The statement RoundingTotals of spile/spilelaw02 holds: for every input the call returns true, and each argument reads afterwards as it read before. (The listed package variables hold what the program lays: the card ties them.)
-/
import Derived.Test.YtlpngfngdigchaaDoorAwake2
import Derived.Test.YtlpngfngdigchaaDoorMath3
import Derived.Test.YtlpngfngdigchaaDoorClone
import Derived.Test.YtlpngfngdigchaaDoorOpen
import Derived.Test.YtlpngfngdigchaaDoorCards
import Derived.Test.YtlpngfngdigchaaDoorTie
import Derived.Below
import Derived.Carry
import Derived.Lib.LaidTab
import Derived.Deep.DeepHandedRow
import Derived.SevenTiedPlain
namespace Go.Proofs.YtlpngfngdigchaaDoor.roundingTotals
open Go.ChangeShapes Go.WideShapes Go.ChangeAt Go.RowKit
open Go.ChangeMaps (open_string shut_string)
set_option linter.unusedVariables false

theorem totals_many (v : Value) (l : List Int) (b rule : Int) (w : World) (hw : WordsIs w) (hv : Ins w v l) (h : 65 < l.length) :
    Calls Tryd.prog 9 #[v, .int .i64 b, .int .i64 rule] w fun e w' => e = .returned (.bool true) ∧ Below w.heap.size w w' := by
  have HA := Lib.hid (awake_any w hw); clear hw
  obtain ⟨ad, cap, rfl, hl, hc⟩ := hv
  clear hc
  generalize l.length = n at *
  go_enter Tryd.func9, Tryd.ntmps9
  go_wp2_with fail
  refine HA.out.mono ?_
  rintro e w1 ⟨rfl, h1⟩
  have HB := Lib.hid h1; clear h1
  go_wp2
  go_ret
  exact ⟨rfl, HB.out⟩

theorem totals_err (v : Value) (l : List Int) (b rule x : Int) (w : World) (hw : WordsIs w) (hv : Ins w v l) (h : l.length ≤ 65) (hx : (x != 0) = true)
    (HT : Hid (∀ u W, Ins W u l → Calls Tryd.prog 17 #[u, .int .i64 b, .int .i64 rule] W fun e w' => e = .returned (.tuple #[.int .i64 0, .int .i64 0, .int .i64 x]) ∧ Below W.heap.size W w')) :
    Calls Tryd.prog 9 #[v, .int .i64 b, .int .i64 rule] w fun e w' => e = .returned (.bool true) ∧ Below w.heap.size w w' := by
  have HA := Lib.hid (awake_any w hw); clear hw
  have HV := Lib.hid hv
  have HC := Lib.hid (fun W (h1 : Below w.heap.size w W) => clone_any v l W (hv.below h1) (by omega))
  obtain ⟨ad, cap, rfl, hl, hc⟩ := hv
  clear hc
  generalize hn : l.length = n at *
  go_enter Tryd.func9, Tryd.ntmps9
  go_wp2_with fail
  refine HA.out.mono ?_
  rintro e w1 ⟨rfl, h1⟩
  have HB := Lib.hid h1; clear h1
  go_wp2_with fail
  refine (HC.out _ HB.out).mono ?_
  rintro e w2 ⟨u, rfl, hu, h1⟩
  have HU := Lib.hid hu; clear hu
  replace HB := Lib.hid (bel_trans HB.out h1); clear h1
  go_wp2_with fail
  refine (HT.out u _ HU.out).mono ?_
  rintro e w3 ⟨rfl, h1⟩
  replace HB := Lib.hid (bel_trans HB.out h1); clear h1
  go_wp2
  go_ret
  exact ⟨rfl, HB.out⟩

set_option maxHeartbeats 2000000 in
theorem totals_ok (v : Value) (l : List Int) (b rule t r q f rr : Int) (w : World) (hw : WordsIs w) (hv : Ins w v l) (h : l.length ≤ 64) (hall : ∀ k, 0 ≤ (l.take k).sum ∧ (l.take k).sum ≤ 8246337208320000)
    (tb0 : -16492674416640064 ≤ t * b) (tb1 : t * b ≤ 16492674416640064) (hr0 : -8246337208320064 ≤ r) (hr1 : r ≤ 8246337208320064)
    (hs : (t * b + r != l.sum) = false) (hq : Hid (f = 0 → (rule = 1 → t ≤ q) ∧ (rule = 2 → q ≤ t)))
    (HT : Hid (∀ u W, Ins W u l → Calls Tryd.prog 17 #[u, .int .i64 b, .int .i64 rule] W fun e w' => e = .returned (.tuple #[.int .i64 t, .int .i64 r, .int .i64 0]) ∧ Below W.heap.size W w'))
    (HQ : Hid (∀ W, Calls Tryd.prog 11 #[.int .i64 l.sum, .int .i64 b, .int .i64 1] W fun e w' => e = .returned (.tuple #[.int .i64 q, .int .i64 rr, .int .i64 f]) ∧ Below W.heap.size W w')) :
    Calls Tryd.prog 9 #[v, .int .i64 b, .int .i64 rule] w fun e w' => e = .returned (.bool true) ∧ Below w.heap.size w w' := by
  have HA := Lib.hid (awake_any w hw); clear hw
  have HV := Lib.hid hv
  have HALL := Lib.hid hall
  have HC := Lib.hid (fun W (h1 : Below w.heap.size w W) => clone_any v l W (hv.below h1) (by omega))
  obtain ⟨ad, cap, rfl, hl, hc⟩ := hv
  clear hc hall
  generalize hn : l.length = n at *
  have HN := Lib.hid hn
  clear hn
  go_enter Tryd.func9, Tryd.ntmps9
  go_wp2_with fail
  refine HA.out.mono ?_
  rintro e w1 ⟨rfl, h1⟩
  have HB := Lib.hid h1; clear h1
  go_wp2_with fail
  refine (HC.out _ HB.out).mono ?_
  rintro e w2 ⟨u, rfl, hu, h1⟩
  have HU := Lib.hid hu; clear hu
  replace HB := Lib.hid (bel_trans HB.out h1); clear h1
  go_wp2_with fail
  refine (HT.out u _ HU.out).mono ?_
  rintro e w3 ⟨rfl, h1⟩
  replace HB := Lib.hid (bel_trans HB.out h1); clear h1
  go_wp2_with fail
  go_loopw [10, 40] (fun s i wr => ∃ k : Nat, k ≤ n ∧ i = .int .i64 k ∧ s = .int .i64 (l.take k).sum ∧ Hid (Below w.heap.size w wr)) (fun _ i _ => n - (intOf i).toNat)
  case atStart => exact ⟨0, Nat.zero_le _, rfl, by simp, HB⟩
  case round =>
    obtain ⟨k, hk, rfl, rfl, hb⟩ := hrel
    by_cases hlt : k < n
    · have hkz : k < l.length := by rw [HN.out]; exact hlt
      have HS := Lib.hid (sum_take_succ l k hkz)
      have p := HALL.out k
      have p2 := HALL.out (k + 1)
      rw [HS.out] at p2
      obtain ⟨ad', cap', hveq, _, hin⟩ := HV.out.below hb.out
      have hcell : ∃ b off, ad = some ⟨b, off, none⟩ ∧ wr.cell? ⟨b, off + k, none⟩ = some (.int .i64 (l.getD k 0)) := by
        simp only [Value.slice.injEq] at hveq
        rcases hin with hin | ⟨b, off, e, _, hc⟩
        · omega
        · exact ⟨b, off, by rw [hveq.1, e], hc k hkz⟩
      clear hveq hin ad' cap'
      obtain ⟨g, off, rfl, hcell⟩ := hcell
      obtain ⟨p1, p3⟩ := p
      obtain ⟨p4, p5⟩ := p2
      clear hkz
      generalize l.getD k 0 = z at *
      generalize (l.take k).sum = s at *
      go_wp2
      go_roundw
      case rel => exact ⟨k + 1, by omega, by go_num, by rw [HS.out], hb⟩
      case measure => simp [intOf]; omega
    · obtain rfl : k = n := by omega
      have HTk : (l.take k).sum = l.sum := by rw [List.take_of_length_le (by have := HN.out; omega)]
      have p := HALL.out k
      rw [HTk] at p ⊢
      obtain ⟨p1, p3⟩ := p
      clear HTk
      generalize l.sum = S at *
      go_wp2_with fail
      refine (HQ.out _).mono ?_
      rintro e w4 ⟨rfl, h1⟩
      have HB2 := Lib.hid (bel_trans hb.out h1); clear h1
      by_cases hf : f = 0
      · have g := hq.out hf
        subst hf
        by_cases r1 : rule = 1
        · have := g.1 r1
          clear g hq
          subst r1
          go_wp2
          all_goals go_ret
          all_goals exact ⟨ret_bool (by first | rfl | (simp; try omega)), HB2.out⟩
        · by_cases r2 : rule = 2
          · have := g.2 r2
            clear g hq
            subst r2
            go_wp2
            all_goals go_ret
            all_goals exact ⟨ret_bool (by first | rfl | (simp; try omega)), HB2.out⟩
          · have n1 := bneq r1
            have n2 := bneq r2
            clear g hq
            go_wp2
            all_goals go_ret
            all_goals exact ⟨ret_bool (by first | rfl | (simp; try omega)), HB2.out⟩
      · have n1 := bneq hf
        clear hq
        go_wp2
        all_goals go_ret
        all_goals exact ⟨ret_bool (by first | rfl | (simp; try omega)), HB2.out⟩

theorem take_bd (l : List Int) (h : ∀ x ∈ l, 0 ≤ x ∧ x ≤ 128849018880000) (hl : l.length ≤ 64) (k : Nat) : 0 ≤ (l.take k).sum ∧ (l.take k).sum ≤ 8246337208320000 := by
  have g : ∀ m : List Int, (∀ x ∈ m, 0 ≤ x ∧ x ≤ 128849018880000) → 0 ≤ m.sum ∧ m.sum ≤ 128849018880000 * m.length := by
    intro m
    induction m with
    | nil => simp
    | cons x m ih =>
      intro hm
      have := ih fun y hy => hm y (by simp [hy])
      have := hm x (by simp)
      simp only [List.sum_cons, List.length_cons]
      omega
  have := g (l.take k) (fun x hx => h x (List.mem_of_mem_take hx))
  have := List.length_take_le k l
  have : (l.take k).length ≤ l.length := by rw [List.length_take]; omega
  omega

theorem walk (v : Value) (l : List Int) (b rule : Int) (w : World) (hv : Ins w v l) (wl : ∀ z ∈ l, (Lit.int .i64 z).wf = true) (wb : -9223372036854775808 ≤ b ∧ b ≤ 9223372036854775807) (wc : -9223372036854775808 ≤ rule ∧ rule ≤ 9223372036854775807) (hw : WordsIs w) :
    Calls Tryd.prog 9 #[v, .int .i64 b, .int .i64 rule] w fun e w' => e = .returned (.bool true) ∧ Below w.heap.size w w' := by
  by_cases hm : 65 < l.length
  · exact totals_many v l b rule w hw hv hm
  by_cases h : totE l b rule = 0
  · have h' := h
    unfold totE at h'
    split at h'
    · rename_i hr
      split at h'
      · omega
      · rename_i h64
        split at h'
        · rename_i hd
          split at h'
          · rename_i ha
            have hx : ∀ x ∈ l, 0 ≤ x ∧ x ≤ 128849018880000 := fun x hx => (isAm_iff x).1 (List.all_eq_true.1 ha x hx)
            have hz : ∀ x ∈ l, quoE x b rule = 0 := fun x hx' => by
              have := hx x hx'
              unfold quoE; rw [hr, if_pos rfl, if_pos ⟨by omega, by omega, hd⟩]
            have e1 : totS l b rule = (l.map fun x => quoQ x b rule).sum := by unfold totS totQ; rw [if_pos h]
            have e2 : totX l b rule = (l.map fun x => quoR x b rule).sum := by unfold totX totR; rw [if_pos h]
            have s := near_sums l b rule hz
            have sg := rests_sign l b rule hz
            have rb := map_bd (fun x => quoR x b rule) 128849018880001 (fun x => by have := quo_bd x b rule; omega) l
            have tk := take_bd l hx (by omega)
            have sb := tk l.length
            rw [List.take_length] at sb
            obtain ⟨b0, b1⟩ := (isDivB_iff b).1 hd
            rw [← e1, ← e2] at s
            rw [← e2] at sg rb
            refine totals_ok v l b rule (totS l b rule) (totX l b rule) (quoQ l.sum b 1) (quoE l.sum b 1) (quoR l.sum b 1) w hw hv (by omega) tk (by omega) (by omega) (by omega) (by omega) (by rw [s]; simp) ?_ (fun u W hu => by have := total_any u l b rule W hu; rwa [h] at this) (fun W => quotient_any _ b 1 W)
            intro hf
            have n := near_of l.sum b 1 hf
            have ns := n.sum
            have nd := n.down rfl
            have nh := n.hi
            have eq : quoQ l.sum b 1 = l.sum / b := by unfold quoQ; rw [if_pos hf]; rfl
            constructor
            · intro hr1
              have := sg.1 hr1
              rw [eq]
              exact Int.le_ediv_of_mul_le (by omega) (by omega)
            · intro hr2
              have := sg.2 hr2
              rw [eq]
              have : l.sum / b ≤ totS l b rule * b / b := Int.ediv_le_ediv (by omega) (by omega)
              rwa [Int.mul_ediv_cancel _ (by omega)] at this
          · omega
        · omega
    · omega
  · refine totals_err v l b rule (totE l b rule) w hw hv (by omega) (bneq h) (fun u W hu => ?_)
    have := total_any u l b rule W hu
    have e1 : totS l b rule = 0 := by unfold totS; rw [if_neg h]
    have e2 : totX l b rule = 0 := by unfold totX; rw [if_neg h]
    rwa [e1, e2] at this

set_option maxRecDepth 100000 in
theorem contract (H : Type) (enc : TypeId × Value → H) (W : World) (base : Nat) (args : Array Value) (ds gs : List (DataW H)) (before : List MemPlace)
    (hval : ∀ (j : Nat) t v, Tryd.f9.params[j]? = some t → args[j]? = some v → Value.okWide Tryd.prog W .any base t v)
    (hW : DataW.Whole enc Tryd.prog Tryd.f9.params.toList Rows.roundingTotalsSpec.vars false W args.toList ds gs before) (hL : laidMetH Tryd.prog Rows.roundingTotalsRow.laid W) :
    Calls Tryd.prog 9 args W fun e W' => ∃ v, e = .returned v ∧ Rows.roundingTotalsSpec.post enc Tryd.prog Tryd.f9 false true false false W args v W' := by
  have hW' := hW
  obtain ⟨p, q, hA0, hV, rfl, hfz, hnd⟩ := hW
  have hA : DataW.TrodAll enc Tryd.prog W 0 (fun _ => true) true Tryd.f9.params.toList args.toList ds p := hA0
  rw [Tryd.params9] at hA hval
  obtain ⟨v0, vs0, d0, ds0, p0, q0, hargs, rfl, rfl, h0, r0⟩ := trodAll_cons hA
  obtain ⟨v1, vs1, d1, ds1, p1, q1, rfl, rfl, rfl, h1, r1⟩ := trodAll_cons r0
  obtain ⟨v2, vs2, d2, ds2, p2, q2, rfl, rfl, rfl, h2, r2⟩ := trodAll_cons r1
  obtain ⟨rfl, rfl, rfl⟩ := trodAll_nil r2
  obtain rfl : args = #[v0, v1, v2] := by cases args; simp_all
  obtain ⟨rfl, rfl⟩ := trodVars_none hV
  have k0 := h0
  have lt0 : ∀ x ∈ p0, x.block < W.heap.size := by obtain ⟨m, hm⟩ := k0; exact DataW.trod_lt m _ _ _ hm
  have k1 := h1
  have lt1 : ∀ x ∈ p1, x.block < W.heap.size := by obtain ⟨m, hm⟩ := k1; exact DataW.trod_lt m _ _ _ hm
  have k2 := h2
  have lt2 : ∀ x ∈ p2, x.block < W.heap.size := by obtain ⟨m, hm⟩ := k2; exact DataW.trod_lt m _ _ _ hm
  obtain ⟨z0, w0, b0⟩ := open_intSlice Tryd.underlying32 Tryd.underlying3 (by kernel_rfl) (hval 0 32 v0 rfl rfl) h0
  obtain ⟨a1, rfl, rfl, rfl, w1⟩ := open_int Tryd.underlying3 (hval 1 3 v1 rfl rfl) h1
  obtain ⟨a2, rfl, rfl, rfl, w2⟩ := open_int Tryd.underlying3 (hval 2 3 v2 rfl rfl) h2
  clear hA0
  refine (walk v0 z0 a1 a2 W w0 b0 (wf_bd w1) (wf_bd w2) (words_of hL)).mono fun e W' ⟨he, bel⟩ => ?_
  subst he
  exact ⟨_, rfl, _, _, _, [], _, [], hW', trodAll_mk1 (shut_bool Tryd.underlying4 _), (trodAll_cons_mk (Below.trod laidOut (by kernel_rfl) (of_decide_eq_true (by kernel_rfl)) k0 bel lt0) (trodAll_cons_mk (Below.trod laidOut (by kernel_rfl) (of_decide_eq_true (by kernel_rfl)) k1 bel lt1) (trodAll_cons_mk (Below.trod laidOut (by kernel_rfl) (of_decide_eq_true (by kernel_rfl)) k2 bel lt2) trodAll_mk0))), rfl, bel.frame _, fun h => by cases h⟩

noncomputable def laidWorld (os : Os) : World :=
  { World.holding Tryd.prog os ⟨#[], #[], []⟩ with heap := (World.holding Tryd.prog os ⟨#[], #[], []⟩).heap.modify 0 fun
      | .cells _ t frozen => .cells (wordsL.map str).toArray t frozen
      | o => o }
theorem laid_met (os : Os) : laidMet Tryd.prog Rows.roundingTotalsRow.laid ((laidWorld os).forCall (fun _ _ => 0) ⟨#[], #[.slice none 0 0, .int .i64 0, .int .i64 0], []⟩).memory :=
  laidMet_of_run' 8 (by kernel_rfl) (by kernel_rfl)
theorem reads (os : Os) {H : Type} (enc : TypeId × Value → H) : ∃ places, DataW.whole enc Tryd.prog ((laidWorld os).forCall (fun _ _ => 0) ⟨#[], #[.slice none 0 0, .int .i64 0, .int .i64 0], []⟩).memory Tryd.f9.params.toList Rows.roundingTotalsSpec.vars false (#[.slice none 0 0, .int .i64 0, .int .i64 0] : Array Value).toList 8 = some ([.nil, .lit (.int .i64 0), .lit (.int .i64 0)], [], places) :=
  ⟨[], by kernel_rfl⟩

set_option maxRecDepth 100000 in
theorem lifted (os : Os) (started : os.Started) (H : Type) (enc : TypeId × Value → H) (F : Stop.Interp) :
    ReturnsInHanded {} Tryd.checked os 9 .any ((OpenSpec.ofChange Rows.roundingTotalsSpec).preRow enc Tryd.prog Tryd.f9 Rows.roundingTotalsRow.domain false Rows.roundingTotalsRow.laid) (((OpenSpec.ofChange Rows.roundingTotalsSpec).at F).post enc Tryd.prog Tryd.f9 false true false false) := by
  obtain ⟨places, hx⟩ := reads os enc
  refine returnsInHanded_of_row (C := Tryd.checked) (s := OpenSpec.ofChange Rows.roundingTotalsSpec) own started (by kernel_rfl) Tryd.func9
    (witness_row_at (enc := enc) (C := Tryd.checked) false (laidWorld os) #[.slice none 0 0, .int .i64 0, .int .i64 0] rfl (by kernel_rfl) (by kernel_rfl) (by kernel_rfl)
      (OpenSpec.preRow_of_cond 8 hx (by kernel_rfl) (fun k hk => by cases hk) (by kernel_rfl) (laid_met os))) ?_
  intro W base args ds gs before hval hW _ _ _ hL _ _
  exact contract H enc W base args ds gs before hval hW hL

theorem said : Rows.RoundingTotalsSaid :=
  OpenClaim.holds_of_cond 9 Tryd.f9 rfl rfl rfl rfl rfl rfl rfl ⟨rfl, rfl, rfl, rfl, rfl⟩ rfl rfl rfl rfl rfl (by kernel_rfl) Tryd.func9 (by kernel_rfl)
    (of_decide_eq_true (by kernel_rfl)) (by unfold Func.isWrapper; first | (rw [if_pos (by decide +kernel)]; kernel_rfl) | (rw [if_neg (by decide +kernel)]; exact ⟨rfl, rfl⟩))
    (fun os started H enc _ F => by rw [OpenClaim.pre_eq_preRow]; exact lifted os started H enc F)

theorem plain (f : FuncId) (fn : Func) (hf : Tryd.pinned.checked.prog.funcNamed "spile/spilelaw02.RoundingTotals" = some f) (hfn : Tryd.pinned.checked.prog.funcs[f]? = some fn) :
    false = Tryd.pinned.checked.prog.looks [] ∧ ∀ (j : Nat) t, fn.params[j]? = some t → Tryd.pinned.checked.prog.wantsStandIn t = false := by
  obtain rfl : f = 9 := Option.some.inj ((show Tryd.prog.funcNamed "spile/spilelaw02.RoundingTotals" = some 9 by kernel_rfl).symm.trans hf) |>.symm
  obtain rfl : fn = Tryd.f9 := (Option.some.inj (Tryd.func9.symm.trans hfn)).symm
  refine ⟨by kernel_rfl, fun j t ht => ?_⟩
  rw [Tryd.params9] at ht
  rcases j with _ | _ | _ | j
  · obtain rfl : t = 32 := by simpa using ht.symm
    exact (show Tryd.prog.wantsStandIn 32 = false by kernel_rfl)
  · obtain rfl : t = 3 := by simpa using ht.symm
    exact (show Tryd.prog.wantsStandIn 3 = false by kernel_rfl)
  · obtain rfl : t = 3 := by simpa using ht.symm
    exact (show Tryd.prog.wantsStandIn 3 = false by kernel_rfl)
  · simp at ht

theorem proved : Rows.RoundingTotalsCardSaid :=
  Claim7.holds_tied_plain_at .later [] _ _ _ _ said (fun _ h => by cases h) (by kernel_rfl) (fun _ h => by cases h) roundingTotals_row_tie rfl ⟨rfl, rfl⟩ (by kernel_rfl) rfl plain (by kernel_rfl)
#print axioms proved
end Go.Proofs.YtlpngfngdigchaaDoor.roundingTotals
