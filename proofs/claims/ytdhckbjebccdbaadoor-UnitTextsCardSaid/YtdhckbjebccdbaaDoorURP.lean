/- The reference of layer 3: split as a whole, Print. -/
import Derived.Test.YtdhckbjebccdbaaDoorURSpA
import Derived.Test.YtdhckbjebccdbaaDoorURSpC
import Derived.Test.YtdhckbjebccdbaaDoorURSc
import Derived.Test.YtdhckbjebccdbaaDoorURefU
namespace Go.Proofs.YtdhckbjebccdbaaDoor
open Go.RowKit

theorem refSplit_of (s U : ByteArray) (neg : Bool) (w : World) (zU : U.size ≤ 100) (hU : U.data.toList = dgU s.data.toList) (hn : dgG s.data.toList = neg)
    (hF : (∀ W, Calls Tryd.prog 37 #[.string U, .int .u8 46] W fun e w' => e = .returned (.int .i64 (-1)) ∧ W = w') →
      Calls Tryd.prog 38 #[.string s] w fun e w' => e = .returned (.tuple #[.bool neg, .string U, .string ⟨#[]⟩, .bool (spB neg false U.data.toList [])]) ∧ Below w.heap.size w w')
    (hT : ∀ (i : Nat) (W P : ByteArray), i + 1 ≤ U.size → W = U.extract 0 i → P = U.extract (i + 1) U.size → (∀ V, Calls Tryd.prog 37 #[.string U, .int .u8 46] V fun e w' => e = .returned (.int .i64 i) ∧ V = w') →
      Calls Tryd.prog 38 #[.string s] w fun e w' => SpIs neg W P e ∧ Below w.heap.size w w') :
    Calls Tryd.prog 38 #[.string s] w fun e w' => (∃ g W P, e = .returned (.tuple #[.bool g, .string W, .string P, .bool (dcB s.data.toList)]) ∧
      (dcB s.data.toList = true → g = dgG s.data.toList ∧ W = ⟨(dgW s.data.toList).toArray⟩ ∧ P = ⟨(dgP s.data.toList).toArray⟩)) ∧ Below w.heap.size w w' := by
  have HX := fun V => refIndex_any U 46 46 V rfl (by omega)
  rcases index_cut U.data.toList 46 with h | ⟨h0, h⟩
  · rw [h] at HX
    have hc : Lib.cut (dgU s.data.toList) [46] = (dgU s.data.toList, [], false) := by
      unfold Lib.cut
      rw [← hU, h, if_neg (by omega)]
    have hT0 : dgT s.data.toList = false := by unfold dgT; rw [hc]
    have hW0 : dgW s.data.toList = U.data.toList := by unfold dgW; rw [hc, hU]
    have hP0 : dgP s.data.toList = [] := by unfold dgP; rw [hc]
    have hd := dcB_sp s.data.toList (fun _ => hP0)
    rw [hn, hT0, hW0, hP0] at hd
    refine (hF HX).mono ?_
    rintro e w' ⟨rfl, hb⟩
    refine ⟨⟨neg, U, ⟨#[]⟩, by rw [hd], fun _ => ⟨hn.symm, ?_, ?_⟩⟩, hb⟩
    · rw [hW0]
    · rw [hP0]
  · obtain ⟨i, hi⟩ := Int.eq_ofNat_of_zero_le h0
    rw [hi] at HX h
    have hlt : i + 1 ≤ U.size := by
      have h2 := congrArg List.length h
      rw [List.length_append, List.length_cons, List.length_take, List.length_drop] at h2
      have h3 : U.data.toList.length = U.size := by simp
      simp only [Int.toNat_natCast] at h2
      omega
    have hc : Lib.cut (dgU s.data.toList) [46] = (U.data.toList.take i, U.data.toList.drop (i + 1), true) := by
      unfold Lib.cut
      rw [← hU, hi, if_pos (by omega)]; rfl
    have hT0 : dgT s.data.toList = true := by unfold dgT; rw [hc]
    have eW : (U.extract 0 i).data.toList = dgW s.data.toList := by
      unfold dgW; rw [hc, ext_list, List.drop_zero, Nat.sub_zero]
    have eP : (U.extract (i + 1) U.size).data.toList = dgP s.data.toList := by
      unfold dgP; rw [hc, ext_list, List.take_of_length_le (by simp)]
    have hd := dcB_sp s.data.toList (fun h => by rw [hT0] at h; cases h)
    rw [hn, hT0, ← eW, ← eP] at hd
    refine (hT i _ _ hlt rfl rfl HX).mono ?_
    rintro e w' ⟨⟨g, W', P', rfl, hg⟩, hb⟩
    refine ⟨⟨g, W', P', by rw [hd], fun h => ?_⟩, hb⟩
    rw [hd] at h
    obtain ⟨g1, g2, g3⟩ := hg h
    exact ⟨by rw [g1, hn], by rw [g2, ← eW], by rw [g3, ← eP]⟩
theorem refSplit_any (s : ByteArray) (w : World) (hs : s.size ≤ 100) :
    Calls Tryd.prog 38 #[.string s] w fun e w' => (∃ g W P, e = .returned (.tuple #[.bool g, .string W, .string P, .bool (dcB s.data.toList)]) ∧
      (dcB s.data.toList = true → g = dgG s.data.toList ∧ W = ⟨(dgW s.data.toList).toArray⟩ ∧ P = ⟨(dgP s.data.toList).toArray⟩)) ∧ Below w.heap.size w w' := by
  have HD : Hid (∀ (t : ByteArray) W, t.size ≤ 100 → Calls Tryd.prog 48 #[.string t] W fun e w' => e = .returned (.bool (rdB t.data.toList)) ∧ W = w') := fun t W h => refDigs_any t W (by omega)
  have hl : s.data.toList.length = s.size := by simp
  by_cases h0 : s.size = 0
  · have he : s.data.toList = [] := List.eq_nil_of_length_eq_zero (by omega)
    refine refSplit_of s s false w hs (by rw [he]; rfl) (by rw [he]; rfl) (fun HX => refSplit_FB s s w hs rfl h0 HX HD) (fun i W P hi _ _ _ => by omega)
  · have hp : 0 < s.size := by omega
    have hc : s.data.toList = s[0] :: s.data.toList.drop 1 := by
      have h1 : 0 < s.data.toList.length := by omega
      conv => lhs; rw [← List.drop_zero (l := s.data.toList), List.drop_eq_getElem_cons h1]
      rfl
    by_cases h45 : s[0].toNat = 45
    · have hb : s[0] = 45 := UInt8.toNat_inj.1 h45
      have hpre : Lib.hasPrefix s.data.toList [45] = true := by rw [hc, hb]; simp [Lib.hasPrefix, List.isPrefixOf]
      have hU : (s.extract 1 s.size).data.toList = dgU s.data.toList := by
        unfold dgU Lib.trimPrefix
        rw [if_pos hpre, ext_list, List.take_of_length_le (by simp)]; rfl
      refine refSplit_of s (s.extract 1 s.size) true w (by rw [ByteArray.size_extract]; omega) hU hpre (fun HX => refSplit_FA s _ w hs rfl hp h45 HX HD) (fun i W P hi hW hP HX => refSplit_TA s _ W P i w hs rfl hp h45 hi hW hP HX HD)
    · have hpre : Lib.hasPrefix s.data.toList [45] = false := by
        rw [hc]
        simp only [Lib.hasPrefix, List.isPrefixOf, Bool.and_true]
        rw [beq_eq_false_iff_ne]
        intro h; exact h45 (by rw [← h]; rfl)
      have hU : s.data.toList = dgU s.data.toList := by
        unfold dgU Lib.trimPrefix
        rw [hpre]; rfl
      refine refSplit_of s s false w hs hU hpre (fun HX => refSplit_FC s s w hs rfl hp h45 HX HD) (fun i W P hi hW hP HX => refSplit_TC s s W P i w hs rfl hp h45 hi hW hP HX HD)

theorem refPrint_core (k a Q K F U E : Int) (s D X : ByteArray) (w : World)
    (H1 : Hid (∀ W, Below w.heap.size w W → Calls Tryd.prog 16 #[.agg #[.int .i64 k, .int .i64 a]] W fun e w' => e = .returned (.int .i64 Q) ∧ Below W.heap.size W w'))
    (H2 : Hid (∀ W, Below w.heap.size w W → Calls Tryd.prog 12 #[.string s] W fun e w' => e = .returned (.tuple #[.int .i64 K, .int .i64 F, .int .i64 U]) ∧ Below W.heap.size W w'))
    (H3 : Hid (∀ W, Below w.heap.size w W → Q = 0 → U = 0 → Calls Tryd.prog 34 #[.int .i64 a, .int .i64 F] W fun e w' => e = .returned (.string D) ∧ Below W.heap.size W w'))
    (h : (((Q == 0) = false ∧ (Q != 0) = true) ∧ E = 1 ∧ X = ⟨#[]⟩) ∨ (Q = 0 ∧ ((U == 0) = false ∧ (U != 0) = true) ∧ E = U ∧ X = ⟨#[]⟩) ∨ (Q = 0 ∧ U = 0 ∧ ((K == k) = false ∧ (K != k) = true) ∧ E = 10 ∧ X = ⟨#[]⟩) ∨ (Q = 0 ∧ U = 0 ∧ K = k ∧ E = 0 ∧ D.size ≤ 40 ∧ s.size ≤ 5 ∧ X = D ++ ⟨#[32]⟩ ++ s)) :
    Calls Tryd.prog 18 #[.agg #[.int .i64 k, .int .i64 a], .string s] w fun e w' => e = .returned (.tuple #[.string X, .int .i64 E]) ∧ Below w.heap.size w w' := by
  have HH := Lib.hid h; clear h
  have X0 : Hid (Below w.heap.size w (w.alloc (.cells #[.int .i64 k, .int .i64 a] 23))) := bel_alloc (Below.refl _ _)
  go_enter Tryd.func18, Tryd.ntmps18
  go_wp2_with fail
  refine (H1.out _ X0.out).mono ?_
  rintro e w1 ⟨rfl, h1⟩
  have c0 := (bcell h1).1 w.heap.size 0 (by simp)
  have c1 := (bcell h1).1 w.heap.size 1 (by simp)
  simp [go_sem] at c0 c1
  replace X0 := Lib.hid (bel_trans X0.out h1)
  have hz : w.heap.size < w1.heap.size := by have := h1.size; simp at this; omega
  clear h1
  rcases HH.out with ⟨⟨q1, q2⟩, rfl, rfl⟩ | ⟨rfl, ⟨q1, q2⟩, rfl, rfl⟩ | ⟨rfl, rfl, ⟨q1, q2⟩, rfl, rfl⟩ | ⟨rfl, rfl, rfl, rfl, z1, z2, rfl⟩
  · clear HH
    go_wp2
    go_returns
    exact ⟨rfl, X0.out⟩
  all_goals
    clear HH
    go_wp2_with fail
    refine (H2.out _ X0.out).mono ?_
    rintro e w2 ⟨rfl, h1⟩
    have d0 := ((bcell h1).1 w.heap.size 0 hz).trans c0
    have d1 := ((bcell h1).1 w.heap.size 1 hz).trans c1
    replace X0 := Lib.hid (bel_trans X0.out h1)
    clear h1
  · go_wp2
    go_returns
    exact ⟨rfl, X0.out⟩
  · go_wp2
    go_returns
    exact ⟨rfl, X0.out⟩
  · go_wp2_with fail
    refine (H3.out _ X0.out trivial trivial).mono ?_
    rintro e w3 ⟨rfl, h1⟩
    replace X0 := Lib.hid (bel_trans X0.out h1)
    clear h1
    go_wp2
    go_returns
    exact ⟨rfl, X0.out⟩

theorem refPrint_any (k a : Int) (s : ByteArray) (w : World) (hw : LaidU w) (hsz : s.size ≤ 9223372036854775807) :
    Calls Tryd.prog 18 #[.agg #[.int .i64 k, .int .i64 a], .string s] w fun e w' => e = .returned (.tuple #[str (prL k a s.data.toList), .int .i64 (prE k a s.data.toList)]) ∧ Below w.heap.size w w' := by
  have hs : s.size = s.data.toList.length := by simp
  have hd := fun (h0 : qE k a = 0) (h1 : uE s.data.toList = 0) => (show isU s.data.toList = true by unfold uE at h1; split at h1; assumption; omega)
  refine refPrint_core k a (qE k a) (uK s.data.toList) (uF s.data.toList) (uE s.data.toList) _ s ⟨(dec a (uF s.data.toList)).toArray⟩ _ w (fun W h => refCheck_any k a W) (fun W h => refUnit_any s W hsz) (fun W h h0 h1 => ?_) ?_
  · have b := unit_bd _ (hd h0 h1)
    have q := qE_bd k a h0
    obtain ⟨d, hd8, hdF⟩ := unit_pow _ (hd h0 h1)
    have := refDec_any a d W (hw.below h) (by omega) (by omega) hd8
    rw [← hdF] at this
    exact this
  · unfold prL prE uE
    by_cases hq : qE k a = 0
    · right
      rw [if_pos hq]
      cases hu : isU s.data.toList with
      | false => left; exact ⟨hq, by decide, rfl, rfl⟩
      | true =>
        right
        have b := unit_bd _ hu
        have q := qE_bd k a hq
        have l := unit_len _ hu
        by_cases hk : uK s.data.toList = k
        · right
          simp only [hk, if_true]
          refine ⟨hq, trivial, trivial, trivial, ?_, by omega, ?_⟩
          · rw [str_size]; exact dec_bd a _ (by omega) (by omega) b.2.2.1 b.2.2.2
          · rw [show (⟨#[32]⟩ : ByteArray) = ⟨[32].toArray⟩ from rfl, app_mk]
            conv => rhs; rw [show s = ⟨s.data.toList.toArray⟩ by simp]
            rw [app_mk]
        · left
          simp only [hk, if_true, if_false]
          exact ⟨hq, trivial, ⟨by simpa using hk, by simpa using hk⟩, trivial, by rw [if_neg (by omega)]⟩
    · left
      rw [if_neg hq]
      exact ⟨⟨by simpa using hq, by simpa using hq⟩, rfl, by rw [if_neg (by omega)]⟩
end Go.Proofs.YtdhckbjebccdbaaDoor
