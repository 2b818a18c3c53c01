/-
  The statement UnitOrder of spile/spilelaw03 holds: for every input the call returns true, and each argument reads afterwards as it read before. (The listed package variables hold what the program lays: the card ties them.)
-/
import Derived.Test.YtdhckbjebccdbaaDoorULaw
import Derived.Test.YtdhckbjebccdbaaDoorUOM
import Derived.Test.YtdhckbjebccdbaaDoorUClone
import Derived.Test.YtdhckbjebccdbaaDoorUQOpen
import Derived.Test.YtdhckbjebccdbaaDoorUOrdC
import Derived.Test.YtdhckbjebccdbaaDoorOpenU
import Derived.Test.YtdhckbjebccdbaaDoorCards
import Derived.Test.YtdhckbjebccdbaaDoorTie
import Derived.Below
import Derived.Carry
import Derived.Lib.LaidTab
import Derived.Deep.DeepHandedRow
import Derived.SevenTiedPlain
import Derived.Lay
namespace Go.Proofs.YtdhckbjebccdbaaDoor.unitOrder
open Go.ChangeShapes Go.WideShapes Go.ChangeAt Go.RowKit
open Go.ChangeMaps (open_string shut_string)
set_option linter.unusedVariables false

theorem order_long (a : Option Addr) (n cap : Nat) (w : World) (h : 65 < n) (hn : n ≤ 9223372036854775807)
    (HA : Hid (∀ W, Below w.heap.size w W → Calls Tryd.prog 10 #[] W fun e w' => e = .returned (.bool true) ∧ Below W.heap.size W w')) :
    Calls Tryd.prog 9 #[.slice a n cap] w fun e w' => e = .returned (.bool true) ∧ Below w.heap.size w w' := by
  go_enter Tryd.func9, Tryd.ntmps9
  go_wp2_with fail
  refine (HA.out _ (Below.refl _ _)).mono ?_
  rintro e w1 ⟨rfl, gg⟩
  have X1 := Lib.hid gg; clear gg
  go_wp2
  go_returns
  exact ⟨rfl, X1.out⟩

set_option maxRecDepth 100000 in
set_option maxHeartbeats 8000000 in
theorem order_a (a : Option Addr) (n cap : Nat) (l : List (Int × Int)) (K A E K2 A2 E2 : Int) (w : World) (h : n ≤ 65)
    (hv : Hid (Qs w (.slice a n cap) l))
    (HA : Hid (∀ W, Below w.heap.size w W → Calls Tryd.prog 10 #[] W fun e w' => e = .returned (.bool true) ∧ Below W.heap.size W w'))
    (HC : Hid (∀ W, Qs W (.slice a n cap) l → Calls Tryd.prog 22 #[.slice a n cap] W fun e w' => ∃ u, e = .returned u ∧ Own2 w' W.heap.size u l ∧ Below W.heap.size W w'))
    (HS : Hid (∀ u W, Below w.heap.size w W → Qs W u l → Calls Tryd.prog 21 #[u] W fun e w' => e = .returned (.tuple #[.agg #[.int .i64 K, .int .i64 A], .int .i64 E]) ∧ Below W.heap.size W w'))
    (HV : Hid (∀ u W0 W B, Own2 W B u l → Below B W0 W → Calls Tryd.prog 27 #[u] W fun e w' => e = .returned (.tuple #[]) ∧ Qs w' u l.reverse ∧ Below B W0 w'))
    (HT : Hid (∀ u W, Below w.heap.size w W → Qs W u l.reverse → Calls Tryd.prog 21 #[u] W fun e w' => e = .returned (.tuple #[.agg #[.int .i64 K2, .int .i64 A2], .int .i64 E2]) ∧ Below W.heap.size W w'))
    (h1 : Hid ((E = 0 ∧ n < 2 ∧ (K == 0) = false ∧ ((E2 = 0 ∧ K2 = K ∧ A2 = A) ∨ E2 = 15)) ∨ (E = 15 ∧ K = 0 ∧ A = 0 ∧ (E2 = 0 ∨ E2 = 15)) ∨ ((E == 0) = false ∧ (E == 15) = false ∧ (E2 == 0) = false ∧ (E2 == 15) = false ∧ K = 0 ∧ A = 0))) :
    Calls Tryd.prog 9 #[.slice a n cap] w fun e w' => e = .returned (.bool true) ∧ Below w.heap.size w w' := by
  go_enter Tryd.func9, Tryd.ntmps9
  go_wp2_with fail
  refine (HA.out _ (Below.refl _ _)).mono ?_
  rintro e w1 ⟨rfl, gg⟩
  have X1 := Lib.hid gg; clear gg
  go_wp2_with fail
  refine (HC.out _ (hv.out.below X1.out)).mono ?_
  rintro e w2 ⟨u1, rfl, hu, gg⟩
  replace X1 := Lib.hid (bel_trans X1.out gg); clear gg
  have HU := Lib.hid hu.qs; clear hu
  go_wp2_with fail
  refine (HS.out _ _ X1.out HU.out).mono ?_
  rintro e w3 ⟨rfl, gg⟩
  replace X1 := Lib.hid (bel_trans X1.out gg); clear gg HU
  go_wp2_with fail
  have T1 := Lib.hid (Two.new w3 (.int .i64 K) (.int .i64 A) 23)
  replace X1 := Lib.hid (bel_trans X1.out (bel_alloc (Below.refl (w3.alloc (.cells #[.int .i64 K, .int .i64 A] 23)).heap.size _)))
  refine (HC.out _ (hv.out.below X1.out)).mono ?_
  rintro e w4 ⟨u2, rfl, hu, gg⟩
  have HU := Lib.hid (HV.out u2 _ w4 _ hu gg)
  clear hu gg
  go_wp2_with fail
  refine HU.out.mono ?_
  rintro e w5 ⟨rfl, hq, gg⟩
  clear HU
  have HU := Lib.hid hq
  replace T1 := Lib.hid (T1.out.below gg)
  replace X1 := Lib.hid (bel_trans X1.out gg); clear gg hq
  go_wp2_with fail
  refine (HT.out _ _ X1.out HU.out).mono ?_
  rintro e w6 ⟨rfl, gg⟩
  clear HU
  replace T1 := Lib.hid (T1.out.below gg)
  replace X1 := Lib.hid (bel_trans X1.out gg); clear gg HC HS HV HT HA
  rcases h1.out with ⟨rfl, hn2, hk, ⟨rfl, rfl, rfl⟩ | rfl⟩ | ⟨rfl, rfl, rfl, rfl | rfl⟩ | ⟨e1, e2, e3, e4, rfl, rfl⟩
  · clear h1
    have HQ1 := fun W => run_neq_qty K2 A2 K2 A2 W
    rw [show (!samQ K2 A2 K2 A2) = false by simp [samQ]] at HQ1
    have HQ2 := fun W => run_neq_qty K2 A2 0 0 W
    rw [show (!samQ K2 A2 0 0) = true by simp [samQ, hk]] at HQ2
    obtain ⟨p0, p1, _, _, hlt⟩ := T1.out
    go_wp2
    go_ret
    exact ⟨rfl, bel_trans X1.out (bel_alloc (Below.refl _ _))⟩
  · clear h1
    have HQ2 := fun W => run_neq_qty K A 0 0 W
    rw [show (!samQ K A 0 0) = true by simp [samQ, hk]] at HQ2
    obtain ⟨p0, p1, _, _, hlt⟩ := T1.out
    go_wp2
    go_ret
    exact ⟨rfl, bel_trans X1.out (bel_alloc (Below.refl _ _))⟩
  · clear h1
    have HQ2 := fun W => run_neq_qty 0 0 0 0 W
    rw [show (!samQ 0 0 0 0) = false by decide] at HQ2
    obtain ⟨p0, p1, _, _, hlt⟩ := T1.out
    go_wp2
    go_ret
    exact ⟨rfl, bel_trans X1.out (bel_alloc (Below.refl _ _))⟩
  · clear h1
    have HQ2 := fun W => run_neq_qty 0 0 0 0 W
    rw [show (!samQ 0 0 0 0) = false by decide] at HQ2
    obtain ⟨p0, p1, _, _, hlt⟩ := T1.out
    go_wp2
    go_ret
    exact ⟨rfl, bel_trans X1.out (bel_alloc (Below.refl _ _))⟩
  · clear h1
    have e5 : (E != 0) = true := by simp only [bne, e1]; rfl
    have HQ2 := fun W => run_neq_qty 0 0 0 0 W
    rw [show (!samQ 0 0 0 0) = false by decide] at HQ2
    obtain ⟨p0, p1, _, _, hlt⟩ := T1.out
    go_wp2
    go_ret
    exact ⟨rfl, bel_trans X1.out (bel_alloc (Below.refl _ _))⟩

theorem take_qs {w : World} {b off cap : Nat} {l : List (Int × Int)} (hcap2 : cap ≤ 9223372036854775807) (hb : b < w.heap.size) (h2 : 2 ≤ l.length) (hcap : l.length ≤ cap)
    (hc : ∀ j, j < l.length → w.cell? ⟨b, off + j * 2, none⟩ = some (.int .i64 (l.getD j (0, 0)).1) ∧ w.cell? ⟨b, off + j * 2 + 1, none⟩ = some (.int .i64 (l.getD j (0, 0)).2)) : Qs w (.slice (some ⟨b, off, none⟩) 2 cap) (l.take 2) := by
  have hlen : (l.take 2).length = 2 := by rw [List.length_take]; omega
  refine ⟨some ⟨b, off, none⟩, cap, by rw [hlen], ⟨by omega, hcap2⟩, .inr ⟨b, off, rfl, hb, fun j hj => ?_⟩⟩
  rw [hlen] at hj
  have := hc j (by omega)
  rw [List.getD_eq_getElem?_getD, List.getElem?_take, if_pos hj, ← List.getD_eq_getElem?_getD]
  exact this
theorem drop_cells {w : World} {b off : Nat} {l : List (Int × Int)}
    (hc : ∀ j, j < l.length → w.cell? ⟨b, off + j * 2, none⟩ = some (.int .i64 (l.getD j (0, 0)).1) ∧ w.cell? ⟨b, off + j * 2 + 1, none⟩ = some (.int .i64 (l.getD j (0, 0)).2)) :
    ∀ j u, (flat (l.drop 2))[j]? = some u → w.cell? ⟨b, off + 4 + j, none⟩ = some u := by
  intro j u hj
  obtain ⟨i, hi, h⟩ := flat_inv _ j u hj
  rw [List.length_drop] at hi
  have hg : (l.drop 2).getD i (0, 0) = l.getD (i + 2) (0, 0) := by
    rw [List.getD_eq_getElem?_getD, List.getElem?_drop, Nat.add_comm, ← List.getD_eq_getElem?_getD]
  rw [hg] at h
  have := hc (i + 2) (by omega)
  rcases h with ⟨rfl, rfl⟩ | ⟨rfl, rfl⟩
  · rw [show off + 4 + i * 2 = off + (i + 2) * 2 by omega]; exact this.1
  · rw [show off + 4 + (i * 2 + 1) = off + (i + 2) * 2 + 1 by omega]; exact this.2

theorem walk (v : Value) (l : List (Int × Int)) (w : World) (hv : Qs w v l) (hw : LaidU w) :
    Calls Tryd.prog 9 #[v] w fun e w' => e = .returned (.bool true) ∧ Below w.heap.size w w' := by
  have HA : Hid (∀ W, Below w.heap.size w W → Calls Tryd.prog 10 #[] W fun e w' => e = .returned (.bool true) ∧ Below W.heap.size W w') := fun W h => awake_any W (hw.below h)
  have hv' := hv
  obtain ⟨a, cap, rfl, hl, h⟩ := hv'
  by_cases hlong : 65 < l.length
  · exact order_long _ _ _ _ hlong (by omega) HA
  · have HV : Hid (∀ u W0 W B, Own2 W B u l → Below B W0 W → Calls Tryd.prog 27 #[u] W fun e w' => e = .returned (.tuple #[]) ∧ Qs w' u l.reverse ∧ Below B W0 w') := fun u W0 W B h1 h2 => reverse_q u l B W0 W h1 h2 (by omega)
    have hce : (suE l = 0 ∨ suE l = 15) ↔ (suE l.reverse = 0 ∨ suE l.reverse = 15) := by rw [suE_caE, suE_caE, caE_rev]
    by_cases hE : suE l = 0 ∧ 2 ≤ l.length
    · obtain ⟨hE, h2⟩ := hE
      obtain ⟨j1, j2, j3, j4⟩ := su_joined l hE h2
      rcases h with h | ⟨b, off, rfl, hb, hc⟩
      · omega
      · have h1 : Hid ((suE l.reverse = 0 ∧ suK l.reverse = suK l ∧ suA l.reverse = suA l) ∨ suE l.reverse = 15) := by
          show _ ∨ _
          rcases hce.1 (.inl hE) with e | e
          · have := su_rev l hE e
            exact .inl ⟨e, this.1, this.2⟩
          · exact .inr e
        have HS : Hid (∀ u W, Below w.heap.size w W → Qs W u l → Calls Tryd.prog 21 #[u] W fun e w' => e = .returned (.tuple #[.agg #[.int .i64 (suK l), .int .i64 (suA l)], .int .i64 0]) ∧ Below W.heap.size W w') := fun u W hW hu => by
          have := sum_any u l W (hw.below hW) hu
          rw [hE] at this; exact this
        have HS2 : Hid (∀ u W, Below w.heap.size w W → Qs W u (l.take 2) → Calls Tryd.prog 21 #[u] W fun e w' => e = .returned (.tuple #[.agg #[.int .i64 (suK (l.take 2)), .int .i64 (suA (l.take 2))], .int .i64 0]) ∧ Below W.heap.size W w') := fun u W hW hu => by
          have := sum_any u (l.take 2) W (hw.below hW) hu
          rw [j1] at this; exact this
        have HS3 : Hid (∀ u W, Below w.heap.size w W → Qs W u ((suK (l.take 2), suA (l.take 2)) :: l.drop 2) → Calls Tryd.prog 21 #[u] W fun e w' => e = .returned (.tuple #[.agg #[.int .i64 (suK l), .int .i64 (suA l)], .int .i64 0]) ∧ Below W.heap.size W w') := fun u W hW hu => by
          have := sum_any u _ W (hw.below hW) hu
          rw [j2, j3, j4] at this; exact this
        have hT := take_qs hl.2 hb h2 hl.1 hc
        have hD := drop_cells hc
        by_cases hcap3 : cap = 2
        · subst hcap3
          have hn : l.length = 2 := by omega
          have hd : l.drop 2 = [] := List.drop_eq_nil_iff.2 (by omega)
          rw [hn] at hv ⊢
          exact order_c b off l _ _ _ _ _ _ _ w hv HA (fun W hW => clone_q _ l W hW (by omega)) HS HV (fun u W hW hu => sum_any u _ W (hw.below hW) hu)
            (fun W hW => (clone_q _ (l.take 2) W hW (by rw [List.length_take]; omega)).mono fun e w' ⟨u, g1, g2, g3⟩ => ⟨u, g1, g2.qs, g3⟩) HS2 HS3 hT hb (by rw [hd]; intro j u hj; simp [flat] at hj) hn h1
        · exact order_b b off l.length cap l _ _ _ _ _ _ _ w (by omega) h2 hcap3 hl.1 hl.2 hv HA (fun W hW => clone_q _ l W hW (by omega)) HS HV (fun u W hW hu => sum_any u _ W (hw.below hW) hu)
            (fun W hW => (clone_q _ (l.take 2) W hW (by rw [List.length_take]; omega)).mono fun e w' ⟨u, g1, g2, g3⟩ => ⟨u, g1, g2.qs, g3⟩) HS2 HS3 hT hb hD rfl h1
    · refine order_a a l.length cap l _ _ _ _ _ _ w (by omega) hv HA (fun W hW => clone_q _ l W hW (by omega)) (fun u W hW hu => sum_any u l W (hw.below hW) hu) HV (fun u W hW hu => sum_any u _ W (hw.below hW) hu) ?_
      show _ ∨ _ ∨ _
      by_cases h0 : suE l = 0
      · left
        refine ⟨h0, by omega, by simpa using su_kind l h0, ?_⟩
        rcases hce.1 (.inl h0) with e | e
        · have := su_rev l h0 e
          exact .inl ⟨e, this.1, this.2⟩
        · exact .inr e
      · right
        obtain ⟨k0, a0⟩ := su_no l h0
        by_cases h15 : suE l = 15
        · exact .inl ⟨h15, k0, a0, hce.1 (.inr h15)⟩
        · right
          have hr : ¬ (suE l.reverse = 0 ∨ suE l.reverse = 15) := fun h => (hce.2 h).elim h0 h15
          refine ⟨by simpa using h0, by simpa using h15, ?_, ?_, k0, a0⟩
          · simpa using fun e => hr (.inl e)
          · simpa using fun e => hr (.inr e)

set_option maxRecDepth 100000 in
theorem contract (H : Type) (enc : TypeId × Value → H) (W : World) (base : Nat) (args : Array Value) (ds gs : List (DataW H)) (before : List MemPlace)
    (hval : ∀ (j : Nat) t v, Tryd.f9.params[j]? = some t → args[j]? = some v → Value.okWide Tryd.prog W .any base t v)
    (hW : DataW.Whole enc Tryd.prog Tryd.f9.params.toList Rows.unitOrderSpec.vars false W args.toList ds gs before) (hL : laidMetH Tryd.prog Rows.unitOrderRow.laid W) (hSh : W.ShapedOpen Tryd.prog) :
    Calls Tryd.prog 9 args W fun e W' => ∃ v, e = .returned v ∧ Rows.unitOrderSpec.post enc Tryd.prog Tryd.f9 false true false false W args v W' := by
  have hW' := hW
  obtain ⟨p, q, hA0, hV, rfl, hfz, hnd⟩ := hW
  have hA : DataW.TrodAll enc Tryd.prog W 0 (fun _ => true) true Tryd.f9.params.toList args.toList ds p := hA0
  rw [Tryd.params9] at hA hval
  obtain ⟨v0, vs0, d0, ds0, p0, q0, hargs, rfl, rfl, h0, r0⟩ := trodAll_cons hA
  obtain ⟨rfl, rfl, rfl⟩ := trodAll_nil r0
  obtain rfl : args = #[v0] := by cases args; simp_all
  obtain ⟨rfl, rfl⟩ := trodVars_none hV
  have k0 := h0
  have lt0 : ∀ x ∈ p0, x.block < W.heap.size := by obtain ⟨m, hm⟩ := k0; exact DataW.trod_lt m _ _ _ hm
  obtain ⟨z0, w0⟩ := open_qtys (hval 0 36 v0 rfl rfl) h0
  clear hA0
  refine (walk v0 z0 W w0 (laid_of rfl hL hSh)).mono fun e W' ⟨he, bel⟩ => ?_
  subst he
  exact ⟨_, rfl, _, _, _, [], _, [], hW', trodAll_mk1 (shut_bool Tryd.underlying4 _), (trodAll_cons_mk (Below.trod laidOut (by kernel_rfl) (of_decide_eq_true (by kernel_rfl)) k0 bel lt0) trodAll_mk0), rfl, bel.frame _, fun h => by cases h⟩

noncomputable def laidWorld (os : Os) : World := World.laidAll Tryd.prog os Rows.unitOrderRow.laid
theorem laid_met (os : Os) : laidMet Tryd.prog Rows.unitOrderRow.laid ((laidWorld os).forCall (fun _ _ => 0) ⟨#[], #[.slice none 0 0], []⟩).memory :=
  laidMet_laidAll _ (by kernel_rfl) (by kernel_rfl)
theorem reads (os : Os) {H : Type} (enc : TypeId × Value → H) : ∃ places, DataW.whole enc Tryd.prog ((laidWorld os).forCall (fun _ _ => 0) ⟨#[], #[.slice none 0 0], []⟩).memory Tryd.f9.params.toList Rows.unitOrderSpec.vars false (#[.slice none 0 0] : Array Value).toList 8 = some ([.nil], [], places) :=
  ⟨[], by kernel_rfl⟩

set_option maxRecDepth 100000 in
theorem lifted (os : Os) (started : os.Started) (H : Type) (enc : TypeId × Value → H) (F : Stop.Interp) :
    ReturnsInHanded {} Tryd.checked os 9 .any ((OpenSpec.ofChange Rows.unitOrderSpec).preRow enc Tryd.prog Tryd.f9 Rows.unitOrderRow.domain false Rows.unitOrderRow.laid) (((OpenSpec.ofChange Rows.unitOrderSpec).at F).post enc Tryd.prog Tryd.f9 false true false false) := by
  obtain ⟨places, hx⟩ := reads os enc
  refine returnsInHanded_of_row (C := Tryd.checked) (s := OpenSpec.ofChange Rows.unitOrderSpec) own started (by kernel_rfl) Tryd.func9
    (witness_row_at (enc := enc) (C := Tryd.checked) false (laidWorld os) #[.slice none 0 0] (World.laidAll_os _ _ _) (by kernel_rfl) (by kernel_rfl) (by kernel_rfl)
      (OpenSpec.preRow_of_cond 8 hx (by kernel_rfl) (fun k hk => by cases hk) (by kernel_rfl) (laid_met os))) ?_
  intro W base args ds gs before hval hW _ _ _ hL hSh _
  exact contract H enc W base args ds gs before hval hW hL hSh

theorem said : Rows.UnitOrderSaid :=
  OpenClaim.holds_of_cond 9 Tryd.f9 rfl rfl rfl rfl rfl rfl rfl ⟨rfl, rfl, rfl, rfl, rfl⟩ rfl rfl rfl rfl rfl (by kernel_rfl) Tryd.func9 (by kernel_rfl)
    (of_decide_eq_true (by kernel_rfl)) (by unfold Func.isWrapper; first | (rw [if_pos (by decide +kernel)]; kernel_rfl) | (rw [if_neg (by decide +kernel)]; exact ⟨rfl, rfl⟩))
    (fun os started H enc _ F => by rw [OpenClaim.pre_eq_preRow]; exact lifted os started H enc F)

theorem plain (f : FuncId) (fn : Func) (hf : Tryd.pinned.checked.prog.funcNamed "spile/spilelaw03.UnitOrder" = some f) (hfn : Tryd.pinned.checked.prog.funcs[f]? = some fn) :
    false = Tryd.pinned.checked.prog.looks [] ∧ ∀ (j : Nat) t, fn.params[j]? = some t → Tryd.pinned.checked.prog.wantsStandIn t = false := by
  obtain rfl : f = 9 := Option.some.inj ((show Tryd.prog.funcNamed "spile/spilelaw03.UnitOrder" = some 9 by kernel_rfl).symm.trans hf) |>.symm
  obtain rfl : fn = Tryd.f9 := (Option.some.inj (Tryd.func9.symm.trans hfn)).symm
  refine ⟨by kernel_rfl, fun j t ht => ?_⟩
  rw [Tryd.params9] at ht
  rcases j with _ | j
  · obtain rfl : t = 36 := by simpa using ht.symm
    exact (show Tryd.prog.wantsStandIn 36 = false by kernel_rfl)
  · simp at ht

theorem proved : Rows.UnitOrderCardSaid :=
  Claim7.holds_tied_plain_at .later [] _ _ _ _ said (fun _ h => by cases h) (by kernel_rfl) (fun _ h => by cases h) unitOrder_row_tie rfl ⟨rfl, rfl⟩ (by kernel_rfl) rfl plain (by kernel_rfl)
#print axioms proved
end Go.Proofs.YtdhckbjebccdbaaDoor.unitOrder
