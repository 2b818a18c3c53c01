/- The reference of layer 3: Parse, as the program's. -/
import Derived.Test.YtdhckbjebccdbaaDoorURPa
namespace Go.Proofs.YtdhckbjebccdbaaDoor
open Go.RowKit

theorem dcB_parts (l : List UInt8) (h : dcB l = true) : dgs (dgW l) = true ∧ dgs (dgP l) = true ∧ (dgW l).length ≤ 20 ∧ (dgP l).length ≤ 20 ∧ dcN l = sval (sval 0 (dgW l)) (dgP l) ∧ dcG l = dgG l ∧ dcC l = (dgP l).length := by
  have h' := h
  unfold dcB at h'
  simp only [Bool.and_eq_true, decide_eq_true_eq, Bool.or_eq_true, Bool.not_eq_true'] at h'
  obtain ⟨⟨⟨⟨hw, hz⟩, _⟩, ht⟩, _⟩ := h'
  have hw' := hw
  simp only [rdB, Bool.and_eq_true] at hw'
  have hp : dgs (dgP l) = true := by
    rcases ht with ht | ht
    · have : dgP l = [] := by
        unfold dgT at ht
        unfold dgP
        rcases cut_is (dgU l) 46 with hc | hc
        · rw [hc]
        · rw [hc.1] at ht; cases ht
      rw [this]; rfl
    · have := ht.1
      simp only [rdB, Bool.and_eq_true] at this
      exact this.1
  refine ⟨hw'.1, hp, by omega, by omega, ?_, by unfold dcG; rw [h]; rfl, by unfold dcC; rw [if_pos h]⟩
  unfold dcN
  rw [if_pos h]
  have e1 : dg1 l = sval 0 (dgW l) := by unfold dg1 rdV; rw [if_pos hw'.1]
  unfold dgN
  cases hT : dgT l with
  | true => rw [if_pos rfl]; unfold dg2 rdV; rw [if_pos hp, e1]
  | false =>
    have : dgP l = [] := by
      unfold dgT at hT
      unfold dgP
      rcases cut_is (dgU l) 46 with hc | hc
      · rw [hc]
      · rw [hc.1] at hT; cases hT
    rw [if_neg (by simp), this, e1]; rfl

theorem refParse_any (s : ByteArray) (w : World) (hs : s.size ≤ 9223372036854775807) :
    Calls Tryd.prog 20 #[.string s] w fun e w' => e = .returned (.tuple #[.agg #[.int .i64 (psK s.data.toList), .int .i64 (psA s.data.toList)], .int .i64 (psE s.data.toList)]) ∧ Below w.heap.size w w' := by
  have hl : s.data.toList.length = s.size := by simp
  have hno : ∀ E, psE s.data.toList = E → E ≠ 0 → psK s.data.toList = 0 ∧ psA s.data.toList = 0 ∧ psE s.data.toList = E := by
    intro E h1 h2
    unfold psK psA
    rw [h1, if_neg h2, if_neg h2]
    exact ⟨rfl, rfl, rfl⟩
  by_cases h64 : 64 < s.size
  · obtain ⟨e1, e2, e3⟩ := hno 8 (by unfold psE; rw [if_pos (by omega)]) (by omega)
    rw [e1, e2, e3]
    exact refParse_long s w h64 hs
  · have HX := fun V => refIndex_any s 32 32 V rfl hs
    rcases index_cut s.data.toList 32 with h | ⟨h0, h⟩
    · rw [h] at HX
      have hc : Lib.cut s.data.toList [32] = (s.data.toList, [], false) := by unfold Lib.cut; rw [h, if_neg (by omega)]
      obtain ⟨e1, e2, e3⟩ := hno 3 (by unfold psE psU; rw [if_neg (by omega), hc, if_pos (show isU [] = false by decide)]) (by omega)
      rw [e1, e2, e3]
      exact refParse_none s w (by omega) HX
    · obtain ⟨i, hi⟩ := Int.eq_ofNat_of_zero_le h0
      rw [hi] at HX h
      have hlt : i + 1 ≤ s.size := by
        have h2 := congrArg List.length h
        rw [List.length_append, List.length_cons, List.length_take, List.length_drop] at h2
        simp only [Int.toNat_natCast] at h2
        omega
      have hc : Lib.cut s.data.toList [32] = (s.data.toList.take i, s.data.toList.drop (i + 1), true) := by
        unfold Lib.cut
        rw [hi, if_pos (by omega)]; rfl
      have eN : (s.extract 0 i).data.toList = psN s.data.toList := by
        unfold psN; rw [hc, ext_list, List.drop_zero, Nat.sub_zero]
      have eU : (s.extract (i + 1) s.size).data.toList = psU s.data.toList := by
        unfold psU; rw [hc, ext_list, List.take_of_length_le (by simp)]
      have zN : (s.extract 0 i).size ≤ 100 := by rw [ByteArray.size_extract]; omega
      have HU := fun V => refUnit_any (s.extract (i + 1) s.size) V (by rw [ByteArray.size_extract]; omega)
      have HS := fun V => refSplit_any (s.extract 0 i) V zN
      rw [eU] at HU
      rw [eN] at HS
      have hE : psE s.data.toList = (if isU (psU s.data.toList) = false then 3 else if dcB (psN s.data.toList) = false then 3 else if tiB (dcC (psN s.data.toList)) (uF (psU s.data.toList)) = false then 2 else if qE (uK (psU s.data.toList)) (psV s.data.toList) = 0 then 0 else 2) := by
        unfold psE; rw [if_neg (by omega)]
      have hV : psV s.data.toList = tiV (dcG (psN s.data.toList)) (dcN (psN s.data.toList)) (dcC (psN s.data.toList)) (uF (psU s.data.toList)) := rfl
      have hK : psK s.data.toList = if psE s.data.toList = 0 then uK (psU s.data.toList) else 0 := rfl
      have hAA : psA s.data.toList = if psE s.data.toList = 0 then psV s.data.toList else 0 := rfl
      generalize psN s.data.toList = N at *
      generalize psU s.data.toList = U at *
      generalize psV s.data.toList = PV at *
      generalize psE s.data.toList = PE at *
      generalize psK s.data.toList = PK at *
      generalize psA s.data.toList = PA at *
      cases hu : isU U with
      | false =>
        have e1 : uE U = 4 := by unfold uE; rw [if_neg (by rw [hu]; simp)]
        rw [e1] at HU
        rw [hu, if_pos rfl] at hE
        refine refParse_core s _ _ _ _ i (dcB N) (dgG N) _ _ 4 0 0 PK PA PE w (by omega) hlt rfl rfl HX HU HS (fun h => by omega) (fun h => by omega) (by cases dgG N <;> simp) (by omega) (.inl ⟨rfl, ?_, ?_, hE⟩)
        · rw [hK, hE]; rfl
        · rw [hAA, hE]; rfl
      | true =>
        have e1 : uE U = 0 := by unfold uE; rw [if_pos hu]
        rw [e1] at HU
        rw [hu, if_neg (by simp)] at hE
        obtain ⟨d, hd8, hdF⟩ := unit_pow U hu
        have hub := unit_bd U hu
        cases hb : dcB N with
        | false =>
          rw [hb, if_pos rfl] at hE
          rw [hb] at HS
          refine refParse_core s _ _ ⟨#[]⟩ ⟨#[]⟩ i false false _ _ 0 0 0 PK PA PE w (by omega) hlt rfl rfl HX HU (fun V => (HS V).mono fun e w' ⟨⟨g, X, Y, g1, _⟩, g3⟩ => ⟨⟨g, X, Y, g1, fun hb => by cases hb⟩, g3⟩) (fun _ h => by cases h) (fun _ h => by cases h) (.inr ⟨rfl, rfl⟩) (by omega) (.inr (.inl ⟨rfl, rfl, ?_, ?_, hE⟩))
          · rw [hK, hE]; rfl
          · rw [hAA, hE]; rfl
        | true =>
          rw [hb, if_neg (by simp)] at hE
          rw [hb] at HS
          obtain ⟨p1, p2, p3, p4, p5, p6, p7⟩ := dcB_parts N hb
          have HV : ∀ W, Calls Tryd.prog 39 #[.string ⟨(dgW N).toArray⟩, .string ⟨(dgP N).toArray⟩, .int .i64 (uF U), .int .i64 1125899906842624] W fun e w' => e = .returned (.int .i64 (scV (dgW N) (dgP N) d)) ∧ Below W.heap.size W w' :=
            fun W => refScaled_core (dgW N) (dgP N) (uF U) _ d W hd8 (by omega) (by omega) p1 p2 hub.2.2.1 hub.2.2.2 hdF rfl
          rw [p5, p6, p7, hdF] at hV
          rw [p7, hdF] at hE
          have hS' : ∀ V, Calls Tryd.prog 38 #[.string (s.extract 0 i)] V fun e w' => (∃ g X Y, e = .returned (.tuple #[.bool g, .string X, .string Y, .bool true]) ∧ (true = true → g = dgG N ∧ X = ⟨(dgW N).toArray⟩ ∧ Y = ⟨(dgP N).toArray⟩)) ∧ Below V.heap.size V w' := HS
          rcases sc_same (dgW N) (dgP N) d hd8 p1 p2 with ⟨t1, t2⟩ | ⟨t1, t2, t3⟩
          · rw [t1, if_pos rfl] at hE
            rw [t2] at HV
            refine refParse_core s _ _ _ _ i true (dgG N) _ _ 0 (-1) (if dgG N = true then 1 else -1) PK PA PE w (by omega) hlt rfl rfl HX HU hS' (fun _ _ => HV) (fun _ _ h => by omega) (by cases dgG N <;> simp) (by omega) (.inr (.inr (.inl ⟨rfl, rfl, by omega, ?_, ?_, hE⟩)))
            · rw [hK, hE]; rfl
            · rw [hAA, hE]; rfl
          · rw [t1, if_neg (by simp)] at hE
            rw [t2] at hV
            rcases t3 with ⟨t3, t4⟩ | ⟨t3, t4, t5⟩
            · rw [t3] at HV
              have hq : qE (uK U) PV ≠ 0 := by
                intro hq
                have := qE_bd _ _ hq
                rw [hV] at this
                cases hg : dgG N <;> rw [hg] at this <;> simp at this <;> omega
              rw [if_neg hq] at hE
              refine refParse_core s _ _ _ _ i true (dgG N) _ _ 0 (-1) (if dgG N = true then 1 else -1) PK PA PE w (by omega) hlt rfl rfl HX HU hS' (fun _ _ => HV) (fun _ _ h => by omega) (by cases dgG N <;> simp) (by omega) (.inr (.inr (.inl ⟨rfl, rfl, by omega, ?_, ?_, hE⟩)))
              · rw [hK, hE]; rfl
              · rw [hAA, hE]; rfl
            · rw [t5] at hV
              generalize scV (dgW N) (dgP N) d = v at *
              have hA : dgG N = true ∧ PV = -v ∨ dgG N = false ∧ PV = v := by
                cases hg : dgG N <;> rw [hg] at hV
                · exact .inr ⟨rfl, hV⟩
                · exact .inl ⟨rfl, hV⟩
              by_cases hq : qE (uK U) PV = 0
              · rw [if_pos hq] at hE
                refine refParse_core s _ _ _ _ i true (dgG N) _ _ 0 v PV PK PA PE w (by omega) hlt rfl rfl HX HU hS' (fun _ _ => HV) (fun _ _ _ W => refIn_any _ PV W hub.1 hub.2.1) hA t4 (.inr (.inr (.inr (.inr ⟨rfl, rfl, t3, hq, ?_, ?_, hE⟩))))
                · rw [hK, hE]; rfl
                · rw [hAA, hE]; rfl
              · rw [if_neg hq] at hE
                refine refParse_core s _ _ _ _ i true (dgG N) _ _ 0 v PV PK PA PE w (by omega) hlt rfl rfl HX HU hS' (fun _ _ => HV) (fun _ _ _ W => refIn_any _ PV W hub.1 hub.2.1) hA t4 (.inr (.inr (.inr (.inl ⟨rfl, rfl, t3, hq, ?_, ?_, hE⟩))))
                · rw [hK, hE]; rfl
                · rw [hAA, hE]; rfl
end Go.Proofs.YtdhckbjebccdbaaDoor
