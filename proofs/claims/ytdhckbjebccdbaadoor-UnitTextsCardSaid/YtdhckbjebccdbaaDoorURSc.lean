/- The reference of layer 3: scaled. -/
import Derived.Test.YtdhckbjebccdbaaDoorURTw
namespace Go.Proofs.YtdhckbjebccdbaaDoor
open Go.RowKit

/-- the places, followed by zeros -/
def pz (P : List UInt8) (d : Nat) : List UInt8 := P ++ List.replicate d 48
theorem pz_at (P : List UInt8) (d j : Nat) (hj : j < d) : (pz P d).take (j + 1) = (pz P d).take j ++ (if P.drop j = [] then [48] else (P.drop j).take 1) := by
  have hl : j < (pz P d).length := by unfold pz; rw [List.length_append, List.length_replicate]; omega
  rw [List.take_succ_eq_append_getElem hl]
  congr 1
  by_cases h : j < P.length
  · rw [if_neg (by intro hc; have := List.drop_eq_nil_iff.1 hc; omega), List.drop_eq_getElem_cons h, List.take_succ_cons, List.take_zero]
    congr 1
    exact List.getElem_append_left h
  · rw [if_pos (List.drop_eq_nil_iff.2 (by omega))]
    congr 1
    exact (List.getElem_append_right (by omega)).trans (List.getElem_replicate _)
theorem pz_end (P : List UInt8) (d : Nat) (h : P.length ≤ d) : (pz P d).take d = P ++ List.replicate (d - P.length) 48 := by
  unfold pz
  rw [List.take_append, List.take_of_length_le h, List.take_replicate, Nat.min_eq_left (by omega)]
theorem ext_mk (l : List UInt8) (a b : Nat) : (⟨l.toArray⟩ : ByteArray).extract a b = ⟨((l.drop a).take (b - a)).toArray⟩ := by
  apply Go.WideShapes.bytes_inj
  rw [ext_list]
theorem val_take_le (l : List UInt8) (i : Nat) (h : dgs l = true) : val (l.take i) ≤ val l := by
  have hd : dgs (l.take i) = true ∧ dgs (l.drop i) = true := by
    have : dgs (l.take i ++ l.drop i) = true := by rw [List.take_append_drop]; exact h
    rw [dgs_app, Bool.and_eq_true] at this
    exact this
  conv => rhs; rw [← List.take_append_drop i l, ← valF_app]
  exact valF_ge _ _ hd.2 (val_bd _ hd.1).1

set_option maxRecDepth 100000 in
set_option maxHeartbeats 4000000 in
theorem refScaled_core (W P : List UInt8) (f V : Int) (d : Nat) (w : World) (hd : d ≤ 8) (zW : W.length ≤ 30) (zP : P.length ≤ 30) (hW : Hid (dgs W = true)) (hP : Hid (dgs P = true)) (f0 : 1 ≤ f) (f1 : f ≤ 100000000) (hf : Hid (f = 10 ^ d))
    (hV : Hid (V = scV W P d)) :
    Calls Tryd.prog 39 #[.string ⟨W.toArray⟩, .string ⟨P.toArray⟩, .int .i64 f, .int .i64 1125899906842624] w fun e w' => e = .returned (.int .i64 V) ∧ Below w.heap.size w w' := by
  go_enter Tryd.func39, Tryd.ntmps39
  go_wp2_with fail
  go_loopw [0, 1, 2] (fun ww pp ff wr => ∃ (j : Nat) (WB PB : ByteArray) (F : Int), j ≤ d ∧ ww = .string WB ∧ pp = .string PB ∧ ff = .int .i64 F ∧ 1 ≤ F ∧ F ≤ 100000000 ∧ WB.size ≤ 30 + j ∧ PB.size ≤ 30 ∧ Hid (F = 10 ^ (d - j)) ∧ Hid (WB = ⟨(W ++ (pz P d).take j).toArray⟩) ∧ Hid (PB = ⟨(P.drop j).toArray⟩) ∧ Hid (Below w.heap.size w wr)) (fun _ _ ff _ => (intOf ff).toNat)
  case atStart => exact ⟨0, _, _, f, by omega, rfl, rfl, rfl, f0, f1, by rw [str_size]; omega, by rw [str_size]; omega, hf, by show _ = _; simp, by show _ = _; simp, Below.refl _ _⟩
  case round =>
    obtain ⟨j, WB, PB, F, hj, rfl, rfl, rfl, F0, F1, sW, sP, hF, hWB, hPB, hB⟩ := hrel
    by_cases hgt : 1 < F
    · have hjd : j < d := by
        apply Classical.byContradiction
        intro h
        have := hF.out
        rw [show d - j = 0 by omega] at this
        omega
      have hG : Hid (F / 10 = 10 ^ (d - (j + 1))) := by
        show _ = _
        rw [hF.out, show d - j = d - (j + 1) + 1 by omega, Int.pow_succ, Int.mul_ediv_cancel _ (by omega)]
      have hG1 : 1 ≤ F / 10 := by have := ten_pos (d - (j + 1)); rw [hG.out]; exact this
      have HS := Lib.hid (pz_at P d j hjd)
      by_cases hp : PB.toList = []
      · have hp1 : (PB.toList == []) = true := by rw [hp]; rfl
        have hdn : P.drop j = [] := by have := hp; rw [ByteArray.toList_eq, hPB.out] at this; simpa using this
        go_wp2
        go_roundw
        case rel =>
          refine ⟨j + 1, _, _, _, by omega, rfl, rfl, rfl, hG1, by omega, ?_, sP, hG, ?_, ?_, hB⟩
          · have z48 : (⟨#[48]⟩ : ByteArray).size = 1 := rfl
            rw [ByteArray.size_append]; omega
          · show _ = _
            rw [HS.out, if_pos hdn, hWB.out, show (⟨#[48]⟩ : ByteArray) = ⟨[48].toArray⟩ from rfl, app_mk, List.append_assoc]
          · show _ = _
            have h3 := List.drop_eq_nil_iff.1 hdn
            rw [hPB.out, hdn, List.drop_eq_nil_iff.2 (show P.length ≤ j + 1 by omega)]
        case measure => simp [intOf]; omega
      · have hp1 : (PB.toList == []) = false := by simpa using hp
        have hdn : ¬ P.drop j = [] := fun h => hp (by rw [ByteArray.toList_eq, hPB.out, h])
        have sP1 : 1 ≤ PB.size := by
          rw [hPB.out, str_size]
          exact List.length_pos_iff.2 hdn
        have sE : (PB.extract 0 1).size = 1 := by rw [ByteArray.size_extract]; omega
        go_wp2_with fail
        go_quiet (fail)
        go_wp2
        go_roundw
        case rel =>
          refine ⟨j + 1, _, _, _, by omega, rfl, rfl, rfl, hG1, by omega, ?_, ?_, hG, ?_, ?_, bel_trans hB.out (bel_drewN _ _)⟩
          · rw [ByteArray.size_append, sE]; omega
          · rw [ByteArray.size_extract]; omega
          · show _ = _
            rw [HS.out, if_neg hdn, hWB.out, hPB.out, ext_mk, app_mk, List.append_assoc, List.drop_zero]
          · show _ = _
            rw [hPB.out, str_size, ext_mk, List.drop_drop, List.take_of_length_le (by simp; omega)]
        case measure => simp [intOf]; omega
    · obtain rfl : F = 1 := by omega
      have hjd : j = d := by
        apply Classical.byContradiction
        intro h
        have h3 := hF.out
        rw [show d - j = d - j - 1 + 1 by omega, Int.pow_succ] at h3
        have := ten_pos (d - j - 1)
        omega
      subst hjd
      by_cases hlt : j < P.length
      · have hp : (PB.toList == []) = false := by
          rw [ByteArray.toList_eq, hPB.out]
          simp; omega
        have hp2 : (PB.toList != []) = true := by simp only [bne, hp]; rfl
        have hv : V = -1 := by rw [hV.out]; unfold scV; rw [if_pos hlt]
        subst hv
        go_wp2
        go_returns
        exact ⟨rfl, hB.out⟩
      · have hp : (PB.toList == []) = true := by
          rw [ByteArray.toList_eq, hPB.out, List.drop_eq_nil_iff.2 (by omega)]; rfl
        have hp2 : (PB.toList != []) = false := by simp only [bne, hp]; rfl
        have hZ : Hid (WB.data.toList = W ++ P ++ List.replicate (j - P.length) 48) := by
          show _ = _
          rw [hWB.out, pz_end P j (by omega), List.append_assoc]
        have hdz : Hid (dgs WB.data.toList = true) := by
          show _ = _
          rw [hZ.out, dgs_app, dgs_app, hW.out, hP.out, (zeros_val _).2]; rfl
        have hv1 : Hid (1125899906842624 < val WB.data.toList → V = -1) := fun h => by
          rw [hV.out]; unfold scV; rw [if_neg hlt, ← hZ.out, if_pos h]
        have hv2 : Hid (val WB.data.toList ≤ 1125899906842624 → V = val WB.data.toList) := fun h => by
          rw [hV.out]; unfold scV; rw [if_neg hlt, ← hZ.out, if_neg (by omega)]
        clear hV hZ hWB hPB hF hW hP hf
        go_wp2_with fail
        have HB1 := hB
        clear hB
        go_loopw [9, 10] (fun nn ii wr => ∃ (i : Nat) (m : Int), i ≤ WB.size ∧ nn = .int .i64 m ∧ ii = .int .i64 i ∧ 0 ≤ m ∧ m ≤ 1125899906842624 ∧ Hid (m = val (WB.data.toList.take i)) ∧ Hid (Below w.heap.size w wr)) (fun _ ii _ => WB.size - (intOf ii).toNat)
        case atStart => exact ⟨0, 0, by omega, rfl, rfl, by omega, by omega, by show _ = _; simp [val], HB1⟩
        case round =>
          obtain ⟨i, m, hi, rfl, rfl, m0, m1, hm, hB⟩ := hrel
          by_cases hlt2 : i < WB.size
          · have hts := take_snoc WB i hlt2
            have hcd : isDg WB[i] = true := by
              cases hq : isDg WB[i] with
              | true => rfl
              | false => have := dgs_take WB i hlt2 hq; rw [hdz.out] at this; cases this
            obtain ⟨c0, c1⟩ := (isDg_iff _).1 hcd
            have HM : Hid (10 * m + ((WB[i].toNat : Int) - 48) = val (WB.data.toList.take (i + 1))) := by show _ = _; rw [hts, val_snoc, hm.out]
            clear hts hcd
            by_cases hbig : 1125899906842624 < 10 * m + ((WB[i].toNat : Int) - 48)
            · have hv := hv1.out (by
                have := val_take_le WB.data.toList (i + 1) hdz.out
                rw [← HM.out] at this; omega)
              subst hv
              clear hv1 hv2
              go_wp2
              go_returns
              exact ⟨rfl, hB.out⟩
            · go_wp2
              go_roundw
              case rel => exact ⟨i + 1, _, by omega, rfl, by go_num, by omega, by omega, HM, hB⟩
              case measure => simp [intOf]; omega
          · obtain rfl : i = WB.size := by omega
            have hm' := hm.out
            rw [take_all WB WB.size (Nat.le_refl _)] at hm'
            have hv := hv2.out (by rw [← hm']; exact m1)
            rw [← hm'] at hv
            subst hv
            clear hm'
            go_wp2
            go_returns
            exact ⟨rfl, hB.out⟩
end Go.Proofs.YtdhckbjebccdbaaDoor
