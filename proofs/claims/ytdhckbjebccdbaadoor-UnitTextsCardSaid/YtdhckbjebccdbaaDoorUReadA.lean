/- Package unit: what readDecimal answers. -/
import Derived.Test.YtdhckbjebccdbaaDoorUReadB
namespace Go.Proofs.YtdhckbjebccdbaaDoor
open Go.RowKit

/-- the parts of a decimal number -/
def dgU (l : List UInt8) : List UInt8 := Lib.trimPrefix l [45]
def dgG (l : List UInt8) : Bool := Lib.hasPrefix l [45]
def dgW (l : List UInt8) : List UInt8 := (Lib.cut (dgU l) [46]).1
def dgP (l : List UInt8) : List UInt8 := (Lib.cut (dgU l) [46]).2.1
def dgT (l : List UInt8) : Bool := (Lib.cut (dgU l) [46]).2.2
def dg1 (l : List UInt8) : Int := rdV 0 (dgW l)
def dg2 (l : List UInt8) : Int := rdV (dg1 l) (dgP l)
def dgN (l : List UInt8) : Int := if dgT l = true then dg2 l else dg1 l
/-- whether a text is a decimal number; what it reads as -/
def dcB (l : List UInt8) : Bool := rdB (dgW l) && decide ((dgW l).length + (dgP l).length ≤ 20) && (!((dgW l).head? == some 48) || dgW l == [48]) && (!dgT l || (rdB (dgP l) && !Lib.hasSuffix (dgP l) [48])) && !(dgG l && (dgN l == 0))
def dcG (l : List UInt8) : Bool := dcB l && dgG l
def dcN (l : List UInt8) : Int := if dcB l = true then dgN l else 0
def dcC (l : List UInt8) : Int := if dcB l = true then (dgP l).length else 0

theorem cut_len (l m : List UInt8) : (Lib.cut l m).1.length ≤ l.length ∧ (Lib.cut l m).2.1.length ≤ l.length := by
  unfold Lib.cut
  split
  · simp; omega
  · simp
theorem trimP_len (l m : List UInt8) : (Lib.trimPrefix l m).length ≤ l.length := by
  unfold Lib.trimPrefix
  split
  · simp
  · exact Nat.le_refl _
theorem dgW_len (l : List UInt8) : (dgW l).length ≤ l.length ∧ (dgP l).length ≤ l.length := by
  have h1 := cut_len (dgU l) [46]
  have h2 := trimP_len l [45]
  exact ⟨Nat.le_trans h1.1 h2, Nat.le_trans h1.2 h2⟩

theorem readIs_any (s : ByteArray) (w : World) (hw : LaidU w) (hs : s.size ≤ 100) :
    ReadIs w s ⟨(dgU s.data.toList).toArray⟩ ⟨(dgW s.data.toList).toArray⟩ ⟨(dgP s.data.toList).toArray⟩ (dgG s.data.toList) (dgT s.data.toList) (dg1 s.data.toList) (dg2 s.data.toList) (rdB (dgW s.data.toList)) (rdB (dgP s.data.toList)) (Lib.hasSuffix (dgP s.data.toList) [48]) := by
  have hl : s.data.toList.length ≤ 100 := by rw [Array.length_toList]; exact hs
  have hz := dgW_len s.data.toList
  have hv := trimP_len s.data.toList [45]
  refine ⟨fun V => ?_, fun V hV => ?_, fun V => ?_, fun hb V => ?_, fun V => ?_⟩
  · refine (Tryd.strings_CutPrefix s ⟨#[45]⟩ V).mono ?_
    rintro e w' ⟨rfl, rfl⟩
    exact ⟨rfl, Below.refl _ _⟩
  · obtain ⟨m, hm⟩ := (hw.below hV).2.2
    refine (Tryd.strings_Cut ⟨(dgU s.data.toList).toArray⟩ ⟨#[46]⟩ m V (by show (dgU s.data.toList).toArray.size < _; rw [List.size_toArray]; unfold dgU; omega) hm).mono ?_
    rintro e w' ⟨rfl, n, rfl⟩
    exact ⟨rfl, bel_drewN _ _⟩
  · exact digits_any 0 ⟨(dgW s.data.toList).toArray⟩ V (by omega) (by omega) (by show (dgW s.data.toList).toArray.size ≤ _; rw [List.size_toArray]; omega)
  · have hb := rdV_bd 0 (dgW s.data.toList) (by omega) (by omega)
    exact digits_any (dg1 s.data.toList) ⟨(dgP s.data.toList).toArray⟩ V hb.1 hb.2 (by show (dgP s.data.toList).toArray.size ≤ _; rw [List.size_toArray]; omega)
  · exact Tryd.strings_HasSuffix ⟨(dgP s.data.toList).toArray⟩ ⟨#[48]⟩ V (by show (dgP s.data.toList).toArray.size ≤ _; rw [List.size_toArray]; omega)

theorem head_is (l : List UInt8) (h0 : 0 < (⟨l.toArray⟩ : ByteArray).size) : l.head? = some (⟨l.toArray⟩ : ByteArray)[0] := by
  cases l with
  | nil => simp [ByteArray.size] at h0
  | cons c l => rfl

theorem read_any (s : ByteArray) (w : World) (hw : LaidU w) (hs : s.size ≤ 100) :
    Calls Tryd.prog 35 #[.string s] w fun e w' => e = .returned (.tuple #[.agg #[.bool (dcG s.data.toList), .int .i64 (dcN s.data.toList), .int .i64 (dcC s.data.toList)], .bool (dcB s.data.toList)]) ∧ Below w.heap.size w w' := by
  have H := readIs_any s w hw hs
  have hl : s.data.toList.length ≤ 100 := by rw [Array.length_toList]; exact hs
  have hz := dgW_len s.data.toList
  have zW : (⟨(dgW s.data.toList).toArray⟩ : ByteArray).size = (dgW s.data.toList).length := List.size_toArray
  have zP : (⟨(dgP s.data.toList).toArray⟩ : ByteArray).size = (dgP s.data.toList).length := List.size_toArray
  have tW : (⟨(dgW s.data.toList).toArray⟩ : ByteArray).toList = dgW s.data.toList := toList_mk _
  have no : dcB s.data.toList = false → dcG s.data.toList = false ∧ dcN s.data.toList = 0 ∧ dcC s.data.toList = 0 := fun h => by simp [dcG, dcN, dcC, h]
  have yes : dcB s.data.toList = true → dcG s.data.toList = dgG s.data.toList ∧ dcN s.data.toList = dgN s.data.toList ∧ dcC s.data.toList = (dgP s.data.toList).length := fun h => by simp [dcG, dcN, dcC, h]
  have fails : dcB s.data.toList = false → (Calls Tryd.prog 35 #[.string s] w fun e w' => e = .returned (.tuple #[.agg #[.bool false, .int .i64 0, .int .i64 0], .bool false]) ∧ Below w.heap.size w w') → Calls Tryd.prog 35 #[.string s] w fun e w' => e = .returned (.tuple #[.agg #[.bool (dcG s.data.toList), .int .i64 (dcN s.data.toList), .int .i64 (dcC s.data.toList)], .bool (dcB s.data.toList)]) ∧ Below w.heap.size w w' := fun h g => by
    obtain ⟨e1, e2, e3⟩ := no h
    rw [e1, e2, e3, h]; exact g
  cases b1 : rdB (dgW s.data.toList) with
  | false =>
    exact fails (by simp [dcB, b1]) (read_whole _ _ _ _ _ _ _ _ _ _ _ w H (by omega) (by omega) (.inl b1))
  | true =>
    by_cases hq : (dgW s.data.toList).length + (dgP s.data.toList).length ≤ 20
    · have h0 : 0 < (⟨(dgW s.data.toList).toArray⟩ : ByteArray).size := by
        rw [zW]
        cases hd : dgW s.data.toList with
        | nil => rw [hd] at b1; simp [rdB] at b1
        | cons c l => simp
      have hh := head_is _ h0
      have h48 : ((dgW s.data.toList).head? == some 48) = true ↔ (⟨(dgW s.data.toList).toArray⟩ : ByteArray)[0].toNat = 48 := by
        rw [hh]
        simp only [beq_iff_eq, Option.some.injEq]
        constructor
        · intro h; rw [h]; rfl
        · intro h; exact UInt8.toNat.inj h
      by_cases hk : ((dgW s.data.toList).head? == some 48) = true ∧ (dgW s.data.toList == [48]) = false
      · exact fails (by unfold dcB; rw [hk.1, hk.2]; simp) (read_whole _ _ _ _ _ _ _ _ _ _ _ w H (by omega) (by omega) (.inr (.inr ⟨b1, by omega, h0, h48.1 hk.1, by rw [tW]; exact hk.2⟩)))
      · have hW : (((⟨(dgW s.data.toList).toArray⟩ : ByteArray)[0].toNat : Int) == 48) = false ∨ ((⟨(dgW s.data.toList).toArray⟩ : ByteArray)[0].toNat = 48 ∧ ((⟨(dgW s.data.toList).toArray⟩ : ByteArray).toList == [48]) = true) := by
          rw [tW]
          by_cases g : ((dgW s.data.toList).head? == some 48) = true
          · exact .inr ⟨h48.1 g, by simpa [g] using hk⟩
          · refine .inl ?_
            have : ¬ (⟨(dgW s.data.toList).toArray⟩ : ByteArray)[0].toNat = 48 := fun hc => g (h48.2 hc)
            simp only [beq_eq_false_iff_ne, ne_eq]
            omega
        have hk2 : (!((dgW s.data.toList).head? == some 48) || dgW s.data.toList == [48]) = true := by
          cases g1 : ((dgW s.data.toList).head? == some 48) <;> cases g2 : (dgW s.data.toList == [48]) <;> simp_all
        by_cases hp : dgT s.data.toList = true ∧ (rdB (dgP s.data.toList) = false ∨ (rdB (dgP s.data.toList) = true ∧ Lib.hasSuffix (dgP s.data.toList) [48] = true))
        · refine fails ?_ ?_
          · unfold dcB; rw [hp.1]; rcases hp.2 with g | ⟨g1, g2⟩
            · rw [g]; simp
            · rw [g1, g2]; simp
          · rw [hp.1] at H
            exact read_bad _ _ _ _ _ _ _ _ _ _ w H (by omega) (by omega) b1 (by omega) h0 _ rfl hW hp.2
        · have hN : (dgT s.data.toList = false ∧ dgN s.data.toList = dg1 s.data.toList) ∨ (dgT s.data.toList = true ∧ rdB (dgP s.data.toList) = true ∧ Lib.hasSuffix (dgP s.data.toList) [48] = false ∧ dgN s.data.toList = dg2 s.data.toList) := by
            unfold dgN
            cases g1 : dgT s.data.toList <;> cases g2 : rdB (dgP s.data.toList) <;> cases g3 : Lib.hasSuffix (dgP s.data.toList) [48] <;> simp_all
          have hp2 : (!dgT s.data.toList || (rdB (dgP s.data.toList) && !Lib.hasSuffix (dgP s.data.toList) [48])) = true := by
            rcases hN with ⟨g, _⟩ | ⟨g1, g2, g3, _⟩
            · rw [g]; rfl
            · rw [g1, g2, g3]; rfl
          refine (read_rest _ _ _ _ _ _ _ _ _ _ _ _ _ w H (by omega) (by omega) b1 (by omega) h0 _ rfl hW (by rw [zP]) hN).mono ?_
          rintro e w' ⟨rfl, hb⟩
          refine ⟨?_, hb⟩
          have hd : dcB s.data.toList = !(dgG s.data.toList && (dgN s.data.toList == 0)) := by
            unfold dcB
            rw [b1, decide_eq_true hq, hk2, hp2]; rfl
          cases g : (dgG s.data.toList && (dgN s.data.toList == 0)) with
          | true =>
            rw [g] at hd
            obtain ⟨e1, e2, e3⟩ := no hd
            rw [e1, e2, e3, hd]; rfl
          | false =>
            rw [g] at hd
            obtain ⟨e1, e2, e3⟩ := yes hd
            rw [e1, e2, e3, hd]; rfl
    · exact fails (by unfold dcB; rw [decide_eq_false hq]; simp) (read_whole _ _ _ _ _ _ _ _ _ _ _ w H (by omega) (by omega) (.inr (.inl ⟨b1, by omega⟩)))

theorem dc_bd (l : List UInt8) (hl : l.length ≤ 100) : 0 ≤ dcN l ∧ dcN l ≤ 1125899906842625 ∧ 0 ≤ dcC l ∧ dcC l ≤ 100 := by
  have hz := dgW_len l
  have h1 := rdV_bd 0 (dgW l) (by omega) (by omega)
  have h2 := rdV_bd (dg1 l) (dgP l) h1.1 h1.2
  have h3 : 0 ≤ dgN l ∧ dgN l ≤ 1125899906842625 := by
    unfold dgN
    split
    · exact h2
    · exact h1
  unfold dcN dcC
  split
  · omega
  · omega
end Go.Proofs.YtdhckbjebccdbaaDoor
