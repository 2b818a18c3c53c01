/-
  The statement MixOrder of spile/spilelaw21 holds: for every input the call returns true, and each argument reads afterwards as it read before.
-/
import Derived.Test.YtfkcgdnpfngdkaaM2
import Derived.Test.YtfkcgdnpfngdkaaShelfR
import Derived.StillTailTactics
import Derived.Deep.SlicePairs
import Derived.Below
import Derived.Carry

set_option linter.unusedVariables false
set_option linter.unusedSimpArgs false

namespace Go.Proofs.Ytfkcgdnpfngdkaa
open Go.RowKit Go.Sort

set_option maxRecDepth 100000 in
set_option maxHeartbeats 2000000 in
theorem cloneL_some (ad : Addr) (n c : Nat) (news : List Value) (w : World) (hl : news.length = n * 2) (hn : n ≤ 1000)
    (hc : Hid (∀ j u, news[j]? = some u → (w.alloc (.cells #[] 24)).cell? (ad.add j) = some u)) (h1 : Hid (∀ u ∈ news, u.oneCell' = true)) :
    Calls Try.prog 24 #[.slice (some ad) n c] w fun e w' => ∃ v', e = .returned v' ∧ w'.ownsRow w.heap.size 24 2 v' n news ∧ v' ≠ .slice none 0 0 ∧ Below w.heap.size w w' := by
  obtain ⟨i0, hi0, hz0, hz1, hz2⟩ := info_parts lq_info
  have q22 : ∀ (w : World) (a : Option Addr) (n c n' c' : Nat), (binOp .eql 22 (.slice a n c) (.slice none n' c')).run Try.prog w = .ok (.bool a.isNone) w := fun w a n c n' c' => Lib.run_eql_slice_nil w _ _ a n c n' c' Try.underlying22
  go_enter Try.func24, Try.ntmps24
  go_wp2_with (at_builtin; refine wpList_append_own _ rfl _ _ 22 rfl w.heap.size 24 i0 (.agg #[.int .i64 0, .int .i64 0]) 2 16 Try.underlying22 hi0 hz0 hz1 hz2 rfl (by omega) _ _ _ rfl (World.ownsRow_made w #[] 0 (Nat.le_refl _) (Nat.zero_le _) (by simp)) ad n c news rfl ?qc1 ?qc2 ?qc3 ?qc4 ?qc5 ?qc6 ?_)
  case qc1 => exact hl
  case qc2 => exact hc.out
  case qc3 => exact h1.out
  case qc4 => rw [Nat.zero_add]; unfold maxLen; omega
  case qc5 => rw [Nat.zero_add]; omega
  case qc6 => simp
  intro v' w1 hown hgrow hnil
  have HO := Lib.hid hown
  have HG := Lib.hid hgrow
  have HN := Lib.hid hnil
  clear hown hgrow hnil hl
  go_wp2
  go_ret
  refine ⟨v', rfl, by simpa using HO.out, ?_, ?_⟩
  · exact HN.out
  · exact ((Below.refl _ w).alloc (Nat.le_refl _) _).grown HG.out (by simp) (by intro k hk; simp [Value.ownBlock] at hk; omega)
set_option maxRecDepth 100000 in
theorem cloneL_none (n c : Nat) (w : World) :
    Calls Try.prog 24 #[.slice none n c] w fun e w' => e = .returned (.slice none 0 0) ∧ w' = w := by
  have q22 : ∀ (w : World) (a : Option Addr) (n c n' c' : Nat), (binOp .eql 22 (.slice a n c) (.slice none n' c')).run Try.prog w = .ok (.bool a.isNone) w := fun w a n c n' c' => Lib.run_eql_slice_nil w _ _ a n c n' c' Try.underlying22
  go_enter Try.func24, Try.ntmps24
  go_wp2
  go_ret
  exact ⟨rfl, rfl⟩
/-- a slice of the call's own that reads as a list of points, and can be written -/
def WPts (w : World) (B : Nat) (v : Value) (l : List (Int × Int)) : Prop :=
  ∃ g cap, v = .slice (some ⟨g, 0, none⟩) l.length cap ∧ (l.length ≤ cap ∧ cap ≤ 9223372036854775807) ∧ B ≤ g ∧ g < w.heap.size ∧
    ∀ j, j < l.length → (w.cell? ⟨g, j * 2, none⟩ = some (.int .i64 (gX l j)) ∧ w.cell? ⟨g, j * 2 + 1, none⟩ = some (.int .i64 (gR l j))) ∧ w.frozen? ⟨g, j * 2, none⟩ = false ∧ w.frozen? ⟨g, j * 2 + 1, none⟩ = false
theorem WPts.pts {w : World} {B : Nat} {v : Value} {l : List (Int × Int)} (h : WPts w B v l) : Pts w v l := by
  obtain ⟨g, cap, rfl, h1, h2, h3, h4⟩ := h
  exact ⟨_, cap, rfl, h1, .inr ⟨g, 0, rfl, h3, fun j hj => by rw [Nat.zero_add]; exact (h4 j hj).1⟩⟩
def encQ (q : Int × Int) : List Value := [.int .i64 q.1, .int .i64 q.2]
theorem reverse_p (u : Value) (l : List (Int × Int)) (B : Nat) (w0 w : World) (h : OwnL w B u l) (h0 : l.length ≠ 0) (hb : Below B w0 w) (hn : l.length ≤ 1000) :
    Calls Try.prog 25 #[u] w fun e w' => e = .returned (.tuple #[]) ∧ WPts w' B u l.reverse ∧ Below B w0 w' := by
  have h' := h
  obtain ⟨_, h2⟩ := h
  rcases h2 with ⟨rfl, hn0⟩ | ⟨g, cap, cur, rfl, hg, hh, hc, hm, hs, ht⟩
  · exact absurd hn0 h0
  · have hlt : g < w.heap.size := by
      rcases Nat.lt_or_ge g w.heap.size with h | h
      · exact h
      · rw [Array.getElem?_eq_none h] at hh; cases hh
    have hcell := World.ownsRow.cells h' (g := g) rfl
    have hH : HoldsK encQ 2 w g 0 l.toArray := by
      intro j hj
      rw [size_flatK] at hj
      have hj' : j < l.length * 2 := by simpa using hj
      refine ⟨?_, by simp [World.frozen?, hh]⟩
      rw [get_flatK _ _ _ _ hj, ← Go.WideShapes.add_plain]
      refine hcell j _ ?_
      have hf := flat_at l (j / 2) (by omega)
      have hgd : l.toArray[j / 2]! = l.getD (j / 2) (0, 0) := by
        rw [getElem!_pos l.toArray (j / 2) (by simp; omega), List.getD_eq_getElem?_getD, List.getElem?_eq_getElem (by omega)]; simp
      rw [hgd]
      rcases Nat.mod_two_eq_zero_or_one j with e | e
      · rw [e]
        have hj2 : j = j / 2 * 2 := by omega
        have := hf.1
        rw [← hj2] at this
        rw [this]; rfl
      · rw [e]
        have hj2 : j = j / 2 * 2 + 1 := by omega
        have := hf.2
        rw [← hj2] at this
        rw [this]; rfl
    have hr := AnyQ.slices_Reverse Try.reverseQ 2 Try.isAgg24 Try.sizeOf24 encQ (fun _ => rfl) (fun x v hv => by simp [encQ] at hv; rcases hv with rfl | rfl <;> rfl) g 0 cap l.toArray w hH (by simp; omega)
    rw [show l.toArray.size = l.length by simp] at hr
    refine hr.mono ?_
    rintro e w' ⟨rfl, n, rfl⟩
    refine ⟨rfl, ⟨g, cap, by rw [List.length_reverse], ?_, hg, ?_, fun j hj => ?_⟩, Lib.below_putRow hb hg⟩
    · rw [List.length_reverse]; unfold maxLen at hm; omega
    · show g < (putRow id (Sort.ahead w n) g 0 _).heap.size
      rw [size_putRow]; exact hlt
    · rw [List.length_reverse] at hj
      have hP := holdsK_putRowK encQ 2 (Sort.ahead w n) g 0 l.toArray l.toArray.reverse (holdsK_ahead encQ 2 w n g 0 _ hH) (by simp)
      have hgd : l.toArray.reverse[j]! = l.reverse.getD j (0, 0) := by
        rw [getElem!_pos l.toArray.reverse j (by simp; omega), List.getD_eq_getElem?_getD, List.getElem?_eq_getElem (by simp; omega)]; simp
      have p0 := hP.cell (i := j) (c := 0) (by simp; omega) (by omega)
      have p1 := hP.cell (i := j) (c := 1) (by simp; omega) (by omega)
      rw [hgd] at p0 p1
      rw [Nat.zero_add] at p0 p1
      exact ⟨⟨p0.1, p1.1⟩, p0.2, p1.2⟩

theorem Pts.part {W : World} {a : Option Addr} {n cap : Nat} {l : List (Int × Int)} (h : Pts W (.slice a n cap) l) {i k : Nat} (hi : i ≤ k) (hk : k ≤ n) : Pts W (sliced a i k cap 2) ((l.take k).drop i) := by
  have hl := h.len
  obtain ⟨a', cap', e, ⟨hc1, hc2⟩, hh⟩ := h
  simp only [Value.slice.injEq] at e
  obtain ⟨rfl, rfl, rfl⟩ := e
  have len : ((l.take k).drop i).length = k - i := by rw [List.length_drop, List.length_take]; omega
  unfold sliced
  by_cases h0 : i = k
  · exact ⟨_, cap - i, by rw [len], by rw [len]; omega, .inl (by rw [len]; omega)⟩
  · rcases hh with hh | ⟨b, off, rfl, hb, hcs⟩
    · omega
    · rw [if_neg (by omega)]
      refine ⟨some ⟨b, off + i * 2, none⟩, cap - i, by rw [len]; simp [Go.WideShapes.add_plain], by rw [len]; omega, .inr ⟨b, off + i * 2, rfl, hb, fun j hj => ?_⟩⟩
      rw [len] at hj
      have := hcs (i + j) (by omega)
      have gx : gX ((l.take k).drop i) j = gX l (i + j) ∧ gR ((l.take k).drop i) j = gR l (i + j) := by
        unfold gX gR
        simp only [List.getD_eq_getElem?_getD, List.getElem?_drop, List.getElem?_take]
        rw [if_pos (by omega)]
        exact ⟨rfl, rfl⟩
      rw [gx.1, gx.2]
      rw [Nat.add_mul, ← Nat.add_assoc] at this
      exact this
theorem reverse_none (a : Option Addr) (cap : Nat) (w : World) :
    Calls Try.prog 25 #[.slice a 0 cap] w fun e w' => e = .returned (.tuple #[]) ∧ w' = w := by
  go_enter Try.func25, Try.ntmps25
  go_wp2_with fail
  go_loopw [2, 3] (fun i j wr => i = .int .i64 0 ∧ j = .int .i64 (-1) ∧ wr = w) (fun _ _ _ => 0)
  case atStart => exact ⟨rfl, rfl, rfl⟩
  case round =>
    obtain ⟨rfl, rfl, rfl⟩ := hrel
    go_wp2
    go_returns
    exact ⟨rfl, rfl⟩
/-- a copy of liquids -/
theorem cloneL_any (v : Value) (l : List (Int × Int)) (w : World) (h : Pts w v l) (hn : l.length ≤ 1000) :
    Calls Try.prog 24 #[v] w fun e w' => ∃ u, e = .returned u ∧ OwnL w' w.heap.size u l ∧ Below w.heap.size w w' := by
  obtain ⟨a, c, rfl, hl, h⟩ := h
  cases a with
  | none =>
    rcases h with h | ⟨b, off, hx, _⟩
    · obtain rfl := List.length_eq_zero_iff.1 h
      refine (cloneL_none _ c w).mono fun _ w' g => ⟨_, g.1, ⟨rfl, .inl ⟨rfl, rfl⟩⟩, by rw [g.2]; exact Below.refl _ _⟩
    · cases hx
  | some ad =>
    refine (cloneL_some ad l.length c (flat l) w (flat_len l) hn ?_ (flat_one l)).mono fun _ w' ⟨u, g1, g2, _, g4⟩ => ⟨u, g1, g2, g4⟩
    intro j u hj
    rcases h with h | ⟨b, off, hx, hb, hc⟩
    · obtain rfl := List.length_eq_zero_iff.1 h
      simp [flat] at hj
    · obtain rfl := Option.some.inj hx
      obtain ⟨i, hi, ⟨rfl, rfl⟩ | ⟨rfl, rfl⟩⟩ := flat_inv l j u hj
      · rw [Go.WideShapes.add_plain, World.cell?_alloc_lt w _ _ hb]
        exact (hc i hi).1
      · rw [Go.WideShapes.add_plain, World.cell?_alloc_lt w _ _ hb, ← Nat.add_assoc]
        exact (hc i hi).2
/-- turned around -/
theorem reverseL_any (u : Value) (l : List (Int × Int)) (B : Nat) (w0 w : World) (h : OwnL w B u l) (hb : Below B w0 w) (hn : l.length ≤ 1000) :
    Calls Try.prog 25 #[u] w fun e w' => e = .returned (.tuple #[]) ∧ Pts w' u l.reverse ∧ Below B w0 w' := by
  by_cases h0 : l.length = 0
  · have hp := h.pts
    obtain rfl := List.length_eq_zero_iff.1 h0
    obtain ⟨a, cap, rfl, _, _⟩ := id hp
    exact (reverse_none a cap w).mono fun _ w' g => ⟨g.1, by rw [g.2]; exact hp, by rw [g.2]; exact hb⟩
  · exact (reverse_p u l B w0 w h h0 hb hn).mono fun _ w' g => ⟨g.1, g.2.1.pts, g.2.2⟩
set_option maxRecDepth 100000 in
theorem sl_low (a : Option Addr) (n cap k : Nat) (hk : k ≤ n) (hc : n ≤ cap) (w : World) :
    (Instr.slice 22 (.slice a n cap) none (some (.int .i64 k)) none).run Try.prog w = .ok (sliced a 0 k cap 2) w := by
  have := run_slice_h (P := Try.prog) (w := w) 22 a n cap Try.underlying22 .i64 (k : Int) (by omega) (by omega)
  exact this
set_option maxRecDepth 100000 in
theorem sl_high (a : Option Addr) (n cap k : Nat) (hk : k ≤ n) (hc : n ≤ cap) (w : World) :
    (Instr.slice 22 (.slice a n cap) (some (.int .i64 k)) none none).run Try.prog w = .ok (sliced a k n cap 2) w := by
  have := run_slice_l (P := Try.prog) (w := w) 22 a n cap Try.underlying22 .i64 (k : Int) (by omega) (by omega)
  exact this
theorem wf_u8 {n : Int} (h : (Lit.int .u8 n).wf = true) : 0 ≤ n ∧ n ≤ 255 := by
  simp [Lit.wf] at h
  have e1 : IntKind.u8.min = 0 := by decide
  have e2 : IntKind.u8.max = 255 := by decide
  omega
end Go.Proofs.Ytfkcgdnpfngdkaa

namespace Go.Proofs.Ytfkcgdnpfngdkaa.mixOrder
open Go.ChangeShapes Go.WideShapes Go.ChangeAt Go.RowKit
open Go.ChangeMaps (open_string shut_string)
set_option linter.unusedVariables false

theorem rev_at {l : List (Int × Int)} {j : Nat} (h : j < l.length) : gX l.reverse j = gX l (l.length - 1 - j) ∧ gR l.reverse j = gR l (l.length - 1 - j) := by
  unfold gX gR
  rw [List.getD_eq_getElem?_getD, List.getD_eq_getElem?_getD, List.getElem?_reverse h]
  exact ⟨rfl, rfl⟩
theorem allP_rev (l : List (Int × Int)) : allP l.reverse = allP l := by
  rw [Bool.eq_iff_iff, allP_iff, allP_iff]
  exact ⟨fun h q hq => h q (List.mem_reverse.2 hq), fun h q hq => h q (List.mem_reverse.1 hq)⟩
theorem suE_rev (l : List (Int × Int)) : suE l.reverse = suE l := by unfold suE; rw [List.length_reverse, allP_rev, sm_rev, sm_rev]
theorem riE_rev (t l : List (Int × Int)) : riE t l.reverse = riE t l := by
  unfold riE
  rw [List.length_reverse, suE_rev]
  by_cases h : 8 < l.length
  · rw [if_pos h, if_pos h]
  · rw [if_neg h, if_neg h]
    have e : (dnE t ≠ 0 ∨ ∃ j, j < l.length ∧ wrB t l.reverse j = true) ↔ (dnE t ≠ 0 ∨ ∃ j, j < l.length ∧ wrB t l j = true) := by
      constructor
      · rintro (g | ⟨j, hj, g⟩)
        · exact .inl g
        · refine .inr ⟨l.length - 1 - j, by omega, ?_⟩
          unfold wrB at *
          rwa [(rev_at hj).1, (rev_at hj).2] at g
      · rintro (g | ⟨j, hj, g⟩)
        · exact .inl g
        · refine .inr ⟨l.length - 1 - j, by omega, ?_⟩
          have := rev_at (l := l) (j := l.length - 1 - j) (by omega)
          rw [show l.length - 1 - (l.length - 1 - j) = j by omega] at this
          unfold wrB at *
          rwa [this.1, this.2]
    by_cases g : dnE t ≠ 0 ∨ ∃ j, j < l.length ∧ wrB t l j = true
    · rw [if_pos g, if_pos (e.2 g)]
    · rw [if_neg g, if_neg fun x => g (e.1 x)]
theorem coV_rev (t l : List (Int × Int)) : coV t l.reverse = coV t l := by unfold coV; rw [riE_rev, sm_rev, sm_rev, sm_rev]
theorem coV_one (t : List (Int × Int)) (A M : Int) : coV t [(A, M)] = 0 := by
  unfold coV
  have e : sm (vlV t) [(A, M)] = vlV t A M + 0 := rfl
  have e1 : sm fA [(A, M)] = A + 0 := rfl
  have e2 : sm fM [(A, M)] = M + 0 := rfl
  split
  · rw [e, e1, e2, Int.add_zero, Int.add_zero, Int.add_zero]; omega
  · rfl
/-- a part of liquids that can be mixed can be mixed -/
theorem dry_sum : ∀ l : List (Int × Int), allP l = true → sm fM l = 0 → sm fA l = 0
  | [], _, _ => rfl
  | q :: l, h, e => by
    have hq := plB_iff.1 (allP_iff.1 h q List.mem_cons_self)
    have hl : allP l = true := allP_iff.2 fun x hx => allP_iff.1 h x (List.mem_cons_of_mem _ hx)
    have b := (mix_bd hl).2.1
    have e1 : sm fA (q :: l) = q.1 + sm fA l := by simp [sm, fA]
    have e2 : sm fM (q :: l) = q.2 + sm fM l := by simp [sm, fM]
    rw [e2] at e
    have i := dry_sum l hl (by omega)
    rw [e1, i, hq.2.2.2.2 (by omega)]; rfl
theorem part_ok {l p : List (Int × Int)} (h : suE l = 0) (hl : p.length ≤ l.length) (hp : allP p = true) (hA : sm fA p ≤ sm fA l) (hM : sm fM p ≤ sm fM l) : suE p = 0 := by
  obtain ⟨h1, h2, h3⟩ := suE_zero.1 h
  obtain ⟨p1, p2, p3, p4, p5⟩ := plB_iff.1 h3
  have b := mix_bd hp
  exact suE_zero.2 ⟨by omega, hp, plB_iff.2 ⟨b.1.1, by omega, b.2.1, by omega, fun e => dry_sum p hp e⟩⟩
theorem parts_ok {l : List (Int × Int)} (h : suE l = 0) (k : Nat) : suE (l.take k) = 0 ∧ suE (l.drop k) = 0 ∧ suE [(sm fA (l.take k), sm fM (l.take k)), (sm fA (l.drop k), sm fM (l.drop k))] = 0 := by
  obtain ⟨h1, h2, h3⟩ := suE_zero.1 h
  have s1 := sm_split fA l k
  have s2 := sm_split fM l k
  have b1 := mix_bd (allP_take h2 k)
  have b2 := mix_bd (allP_drop h2 k)
  have r1 := part_ok h (p := l.take k) (by rw [List.length_take]; omega) (allP_take h2 k) (by omega) (by omega)
  have r2 := part_ok h (p := l.drop k) (by rw [List.length_drop]; omega) (allP_drop h2 k) (by omega) (by omega)
  refine ⟨r1, r2, suE_zero.2 ⟨by simp, allP_iff.2 fun q hq => ?_, ?_⟩⟩
  · simp only [List.mem_cons, List.not_mem_nil, or_false] at hq
    rcases hq with rfl | rfl
    · exact (suE_zero.1 r1).2.2
    · exact (suE_zero.1 r2).2.2
  · rw [sm_two, sm_two]
    show plB (sm fA (l.take k) + (sm fA (l.drop k) + 0)) (sm fM (l.take k) + (sm fM (l.drop k) + 0)) = true
    rw [Int.add_zero, Int.add_zero, s1, s2]; exact h3
theorem two_sum {l : List (Int × Int)} (k : Nat) : sm fA [(sm fA (l.take k), sm fM (l.take k)), (sm fA (l.drop k), sm fM (l.drop k))] = sm fA l ∧ sm fM [(sm fA (l.take k), sm fM (l.take k)), (sm fA (l.drop k), sm fM (l.drop k))] = sm fM l := by
  rw [sm_two, sm_two]
  constructor
  · show sm fA (l.take k) + (sm fA (l.drop k) + 0) = _
    rw [Int.add_zero]; exact sm_split fA l k
  · show sm fM (l.take k) + (sm fM (l.drop k) + 0) = _
    rw [Int.add_zero]; exact sm_split fM l k
set_option maxHeartbeats 16000000 in
set_option maxRecDepth 100000 in
theorem long1 (a : Option Addr) (n cap : Nat) (b : Option Addr) (m cap2 : Nat) (t l : List (Int × Int)) (c : Int) (w : World) (NV : Hid (Pts w (.slice a n cap) t)) (LV : Hid (Pts w (.slice b m cap2) l)) (hf : fwB t.length = false) :
    Calls Try.prog 8 #[.slice a n cap, .slice b m cap2, .int .u8 c] w fun e w' => e = .returned (.bool true) ∧ Below w.heap.size w w' := by
  have HA := Lib.hid (fun W => awakeM_any W)
  have FW := Lib.hid (fun v W h => few_any v t W h)
  rw [hf] at FW
  have HB := Lib.hid (Below.refl w.heap.size w)
  go_enter Try.func8, Try.ntmps8
  go_wp2_with fail
  refine (HA.out _).mono ?_
  rintro e w3 ⟨rfl, h1⟩
  replace NV := Lib.hid (NV.out.below h1)
  replace LV := Lib.hid (LV.out.below h1)
  replace HB := Lib.hid (bel_trans HB.out h1); clear h1
  go_wp2_with fail
  refine (FW.out _ _ NV.out).mono ?_
  rintro e w90 ⟨rfl, hw⟩
  subst hw
  go_wp2
  go_returns
  exact ⟨rfl, HB.out⟩
set_option maxHeartbeats 16000000 in
set_option maxRecDepth 100000 in
theorem long2 (a : Option Addr) (n cap : Nat) (b : Option Addr) (m cap2 : Nat) (t l : List (Int × Int)) (c : Int) (w : World) (NV : Hid (Pts w (.slice a n cap) t)) (LV : Hid (Pts w (.slice b m cap2) l)) (hf : fwB t.length = true) (d : decide (8 < (m : Int)) = true) :
    Calls Try.prog 8 #[.slice a n cap, .slice b m cap2, .int .u8 c] w fun e w' => e = .returned (.bool true) ∧ Below w.heap.size w w' := by
  have HA := Lib.hid (fun W => awakeM_any W)
  have FW := Lib.hid (fun v W h => few_any v t W h)
  rw [hf] at FW
  have HB := Lib.hid (Below.refl w.heap.size w)
  go_enter Try.func8, Try.ntmps8
  go_wp2_with fail
  refine (HA.out _).mono ?_
  rintro e w6 ⟨rfl, h1⟩
  replace NV := Lib.hid (NV.out.below h1)
  replace LV := Lib.hid (LV.out.below h1)
  replace HB := Lib.hid (bel_trans HB.out h1); clear h1
  go_wp2_with fail
  refine (FW.out _ _ NV.out).mono ?_
  rintro e w90 ⟨rfl, hw⟩
  subst hw
  go_wp2
  go_returns
  exact ⟨rfl, HB.out⟩
set_option maxHeartbeats 16000000 in
set_option maxRecDepth 100000 in
theorem bad (a : Option Addr) (n cap : Nat) (b : Option Addr) (m cap2 : Nat) (t l : List (Int × Int)) (c : Int) (E : Int) (w : World) (NV : Hid (Pts w (.slice a n cap) t)) (LV : Hid (Pts w (.slice b m cap2) l)) (hf : fwB t.length = true) (d : decide (8 < (m : Int)) = false) (hE : (E != 0) = true) (C1 : Hid (∀ W, Pts W (.slice b m cap2) l → Calls Try.prog 11 #[.slice b m cap2] W fun e w' => e = .returned (.tuple #[.agg #[.int .i64 0, .int .i64 0], .int .i64 E]) ∧ Below W.heap.size W w')) :
    Calls Try.prog 8 #[.slice a n cap, .slice b m cap2, .int .u8 c] w fun e w' => e = .returned (.bool true) ∧ Below w.heap.size w w' := by
  have qz : ∀ W, (binOp .eql 24 (.agg #[.int .i64 0, .int .i64 0]) (.agg #[.int .i64 0, .int .i64 0])).run Try.prog W = .ok (.bool true) W := fun W => by rw [run_eql_liq]; simp [samP, samB]
  have HA := Lib.hid (fun W => awakeM_any W)
  have FW := Lib.hid (fun v W h => few_any v t W h)
  rw [hf] at FW
  have HB := Lib.hid (Below.refl w.heap.size w)
  go_enter Try.func8, Try.ntmps8
  go_wp2_with fail
  refine (HA.out _).mono ?_
  rintro e w9 ⟨rfl, h1⟩
  replace NV := Lib.hid (NV.out.below h1)
  replace LV := Lib.hid (LV.out.below h1)
  replace HB := Lib.hid (bel_trans HB.out h1); clear h1
  go_wp2_with fail
  refine (FW.out _ _ NV.out).mono ?_
  rintro e w90 ⟨rfl, hw⟩
  subst hw
  go_wp2_with fail
  refine (C1.out _ LV.out).mono ?_
  rintro e w10 ⟨rfl, h1⟩
  replace NV := Lib.hid (NV.out.below h1)
  replace LV := Lib.hid (LV.out.below h1)
  replace HB := Lib.hid (bel_trans HB.out h1); clear h1
  have T7 := Lib.hid (Two.new (w10) (.int .i64 0) (.int .i64 0) 24)
  replace NV := Lib.hid (NV.out.alloc (.cells #[.int .i64 0, .int .i64 0] 24))
  replace LV := Lib.hid (LV.out.alloc (.cells #[.int .i64 0, .int .i64 0] 24))
  replace HB := Lib.hid (bel_trans HB.out (bel_alloc (Below.refl _ ((w10).alloc (.cells #[.int .i64 0, .int .i64 0] 24)))))
  obtain ⟨T70, T71, T72, T73, T74⟩ := T7.out
  go_wp2
  go_returns
  exact ⟨rfl, HB.out⟩
set_option maxHeartbeats 16000000 in
set_option maxRecDepth 100000 in
theorem goodA (a : Option Addr) (n cap : Nat) (b : Option Addr) (m cap2 : Nat) (t l : List (Int × Int)) (c : Int) (A M A1 M1 A2 M2 E P F : Int) (sv1 sv2 : Value) (l1 l2 : List (Int × Int)) (w : World) (NV : Hid (Pts w (.slice a n cap) t)) (LV : Hid (Pts w (.slice b m cap2) l)) (hf : fwB t.length = true) (d : decide (8 < (m : Int)) = false) (hE : (E == 0) = true) (hm : m ≤ 8) (hl : l.length ≤ 1000) (k : Nat) (hk : c % ((m : Int) + 1) = (k : Int)) (hc0 : 0 ≤ c ∧ c ≤ 255)
    (C1 : Hid (∀ W, Pts W (.slice b m cap2) l → Calls Try.prog 11 #[.slice b m cap2] W fun e w' => e = .returned (.tuple #[.agg #[.int .i64 A, .int .i64 M], .int .i64 0]) ∧ Below W.heap.size W w')) (C2 : Hid (∀ v W, Pts W v l.reverse → Calls Try.prog 11 #[v] W fun e w' => e = .returned (.tuple #[.agg #[.int .i64 A, .int .i64 M], .int .i64 0]) ∧ Below W.heap.size W w')) (q1 : ∀ w, (Instr.slice 22 (.slice b m cap2) none (some (.int .i64 k)) none).run Try.prog w = .ok sv1 w) (q2 : ∀ w, (Instr.slice 22 (.slice b m cap2) (some (.int .i64 k)) none none).run Try.prog w = .ok sv2 w)
    (P1 : Hid (∀ W, Pts W (.slice b m cap2) l → Pts W sv1 l1)) (P2 : Hid (∀ W, Pts W (.slice b m cap2) l → Pts W sv2 l2)) (C3 : Hid (∀ W, Pts W sv1 l1 → Calls Try.prog 11 #[sv1] W fun e w' => e = .returned (.tuple #[.agg #[.int .i64 A1, .int .i64 M1], .int .i64 0]) ∧ Below W.heap.size W w')) (C4 : Hid (∀ W, Pts W sv2 l2 → Calls Try.prog 11 #[sv2] W fun e w' => e = .returned (.tuple #[.agg #[.int .i64 A2, .int .i64 M2], .int .i64 0]) ∧ Below W.heap.size W w')) (C5 : Hid (∀ v W, Pts W v [(A1, M1), (A2, M2)] → Calls Try.prog 11 #[v] W fun e w' => e = .returned (.tuple #[.agg #[.int .i64 A, .int .i64 M], .int .i64 0]) ∧ Below W.heap.size W w'))
    (C6 : Hid (∀ v W, Pts W (.slice a n cap) t → Pts W v [(A, M)] → Calls Try.prog 19 #[.slice a n cap, v] W fun e w' => e = .returned (.tuple #[.int .i64 0, .int .i64 E]) ∧ Below W.heap.size W w')) (C7 : Hid (∀ W, Pts W (.slice a n cap) t → Pts W (.slice b m cap2) l → Calls Try.prog 19 #[.slice a n cap, (.slice b m cap2)] W fun e w' => e = .returned (.tuple #[.int .i64 P, .int .i64 F]) ∧ Below W.heap.size W w')) (C8 : Hid (∀ v W, Pts W (.slice a n cap) t → Pts W v l.reverse → Calls Try.prog 19 #[.slice a n cap, v] W fun e w' => e = .returned (.tuple #[.int .i64 P, .int .i64 F]) ∧ Below W.heap.size W w')) :
    Calls Try.prog 8 #[.slice a n cap, .slice b m cap2, .int .u8 c] w fun e w' => e = .returned (.bool true) ∧ Below w.heap.size w w' := by
  have w1 : IntKind.i64.wrap c = c := wrap_in _ ⟨by omega, by omega⟩
  have w2 : IntKind.i64.wrap ((m : Int) + 1) = (m : Int) + 1 := wrap_in _ ⟨by omega, by omega⟩
  have w3 : ((m : Int) + 1 == 0) = false := by rw [beq_eq_false_iff_ne]; omega
  have qe : ∀ W, (binOp .neq 24 (.agg #[.int .i64 A, .int .i64 M]) (.agg #[.int .i64 A, .int .i64 M])).run Try.prog W = .ok (.bool false) W := fun W => by rw [run_neq_liq]; simp [samP, samB]
  have HA := Lib.hid (fun W => awakeM_any W)
  have FW := Lib.hid (fun v W h => few_any v t W h)
  rw [hf] at FW
  have HB := Lib.hid (Below.refl w.heap.size w)
  go_enter Try.func8, Try.ntmps8
  go_wp2_with fail
  refine (HA.out _).mono ?_
  rintro e w15 ⟨rfl, h1⟩
  replace NV := Lib.hid (NV.out.below h1)
  replace LV := Lib.hid (LV.out.below h1)
  replace HB := Lib.hid (bel_trans HB.out h1); clear h1
  go_wp2_with fail
  refine (FW.out _ _ NV.out).mono ?_
  rintro e w90 ⟨rfl, hw⟩
  subst hw
  go_wp2_with fail
  refine (C1.out _ LV.out).mono ?_
  rintro e w16 ⟨rfl, h1⟩
  replace NV := Lib.hid (NV.out.below h1)
  replace LV := Lib.hid (LV.out.below h1)
  replace HB := Lib.hid (bel_trans HB.out h1); clear h1
  clear C1 HA FW
  have T7 := Lib.hid (Two.new (w16) (.int .i64 A) (.int .i64 M) 24)
  replace NV := Lib.hid (NV.out.alloc (.cells #[.int .i64 A, .int .i64 M] 24))
  replace LV := Lib.hid (LV.out.alloc (.cells #[.int .i64 A, .int .i64 M] 24))
  replace HB := Lib.hid (bel_trans HB.out (bel_alloc (Below.refl _ ((w16).alloc (.cells #[.int .i64 A, .int .i64 M] 24)))))
  go_wp2_with fail
  refine (cloneL_any _ l _ LV.out hl).mono ?_
  rintro e w50 ⟨u, rfl, hO, h1⟩
  go_wp2_with fail
  refine (reverseL_any u l _ _ w50 hO h1 hl).mono ?_
  rintro e w51 ⟨rfl, hR, h2⟩
  have RV := Lib.hid hR
  replace NV := Lib.hid (NV.out.below h2)
  replace LV := Lib.hid (LV.out.below h2)
  replace T7 := Lib.hid (T7.out.below h2)
  replace HB := Lib.hid (bel_trans HB.out h2)
  clear h1 h2 hO hR
  go_wp2_with fail
  refine (C2.out _ _ RV.out).mono ?_
  rintro e w20 ⟨rfl, h1⟩
  replace NV := Lib.hid (NV.out.below h1)
  replace LV := Lib.hid (LV.out.below h1)
  replace T7 := Lib.hid (T7.out.below h1)
  replace RV := Lib.hid (RV.out.below h1)
  replace HB := Lib.hid (bel_trans HB.out h1); clear h1
  clear C2
  have T10 := Lib.hid (Two.new (w20) (.int .i64 A) (.int .i64 M) 24)
  replace NV := Lib.hid (NV.out.alloc (.cells #[.int .i64 A, .int .i64 M] 24))
  replace LV := Lib.hid (LV.out.alloc (.cells #[.int .i64 A, .int .i64 M] 24))
  replace RV := Lib.hid (RV.out.alloc (.cells #[.int .i64 A, .int .i64 M] 24))
  replace T7 := Lib.hid (T7.out.alloc (.cells #[.int .i64 A, .int .i64 M] 24))
  replace HB := Lib.hid (bel_trans HB.out (bel_alloc (Below.refl _ ((w20).alloc (.cells #[.int .i64 A, .int .i64 M] 24)))))
  go_wp2_with fail
  refine (C3.out _ (P1.out _ LV.out)).mono ?_
  rintro e w22 ⟨rfl, h1⟩
  replace NV := Lib.hid (NV.out.below h1)
  replace LV := Lib.hid (LV.out.below h1)
  replace T7 := Lib.hid (T7.out.below h1)
  replace RV := Lib.hid (RV.out.below h1)
  replace T10 := Lib.hid (T10.out.below h1)
  replace HB := Lib.hid (bel_trans HB.out h1); clear h1
  clear C3 P1
  have T13 := Lib.hid (Two.new (w22) (.int .i64 A1) (.int .i64 M1) 24)
  replace NV := Lib.hid (NV.out.alloc (.cells #[.int .i64 A1, .int .i64 M1] 24))
  replace LV := Lib.hid (LV.out.alloc (.cells #[.int .i64 A1, .int .i64 M1] 24))
  replace RV := Lib.hid (RV.out.alloc (.cells #[.int .i64 A1, .int .i64 M1] 24))
  replace T7 := Lib.hid (T7.out.alloc (.cells #[.int .i64 A1, .int .i64 M1] 24))
  replace T10 := Lib.hid (T10.out.alloc (.cells #[.int .i64 A1, .int .i64 M1] 24))
  replace HB := Lib.hid (bel_trans HB.out (bel_alloc (Below.refl _ ((w22).alloc (.cells #[.int .i64 A1, .int .i64 M1] 24)))))
  go_wp2_with fail
  refine (C4.out _ (P2.out _ LV.out)).mono ?_
  rintro e w24 ⟨rfl, h1⟩
  replace NV := Lib.hid (NV.out.below h1)
  replace LV := Lib.hid (LV.out.below h1)
  replace T7 := Lib.hid (T7.out.below h1)
  replace RV := Lib.hid (RV.out.below h1)
  replace T10 := Lib.hid (T10.out.below h1)
  replace T13 := Lib.hid (T13.out.below h1)
  replace HB := Lib.hid (bel_trans HB.out h1); clear h1
  clear C4 P2
  have T15 := Lib.hid (Two.new (w24) (.int .i64 A2) (.int .i64 M2) 24)
  replace NV := Lib.hid (NV.out.alloc (.cells #[.int .i64 A2, .int .i64 M2] 24))
  replace LV := Lib.hid (LV.out.alloc (.cells #[.int .i64 A2, .int .i64 M2] 24))
  replace RV := Lib.hid (RV.out.alloc (.cells #[.int .i64 A2, .int .i64 M2] 24))
  replace T7 := Lib.hid (T7.out.alloc (.cells #[.int .i64 A2, .int .i64 M2] 24))
  replace T10 := Lib.hid (T10.out.alloc (.cells #[.int .i64 A2, .int .i64 M2] 24))
  replace T13 := Lib.hid (T13.out.alloc (.cells #[.int .i64 A2, .int .i64 M2] 24))
  replace HB := Lib.hid (bel_trans HB.out (bel_alloc (Below.refl _ ((w24).alloc (.cells #[.int .i64 A2, .int .i64 M2] 24)))))
  obtain ⟨T130, T131, T132, T133, T134⟩ := T13.out
  obtain ⟨T150, T151, T152, T153, T154⟩ := T15.out
  have L5 := Lib.hid (pts_litT 24 (w24.alloc (.cells #[.int .i64 A2, .int .i64 M2] 24)) [(A1, M1), (A2, M2)] [.int .i64 A1, .int .i64 M1, .int .i64 A2, .int .i64 M2] rfl (by simp))
  simp only [World.size_alloc] at L5
  replace NV := Lib.hid (NV.out.alloc (.cells #[.int .i64 A1, .int .i64 M1, .int .i64 A2, .int .i64 M2] 24))
  replace LV := Lib.hid (LV.out.alloc (.cells #[.int .i64 A1, .int .i64 M1, .int .i64 A2, .int .i64 M2] 24))
  replace RV := Lib.hid (RV.out.alloc (.cells #[.int .i64 A1, .int .i64 M1, .int .i64 A2, .int .i64 M2] 24))
  replace T7 := Lib.hid (T7.out.alloc (.cells #[.int .i64 A1, .int .i64 M1, .int .i64 A2, .int .i64 M2] 24))
  replace T10 := Lib.hid (T10.out.alloc (.cells #[.int .i64 A1, .int .i64 M1, .int .i64 A2, .int .i64 M2] 24))
  replace T13 := Lib.hid (T13.out.alloc (.cells #[.int .i64 A1, .int .i64 M1, .int .i64 A2, .int .i64 M2] 24))
  replace T15 := Lib.hid (T15.out.alloc (.cells #[.int .i64 A1, .int .i64 M1, .int .i64 A2, .int .i64 M2] 24))
  replace HB := Lib.hid (bel_trans HB.out (bel_alloc (Below.refl _ ((w24.alloc (.cells #[.int .i64 A2, .int .i64 M2] 24)).alloc (.cells #[.int .i64 A1, .int .i64 M1, .int .i64 A2, .int .i64 M2] 24)))))
  go_wp2_with fail
  refine (C5.out _ _ L5.out).mono ?_
  rintro e w28 ⟨rfl, h1⟩
  replace NV := Lib.hid (NV.out.below h1)
  replace LV := Lib.hid (LV.out.below h1)
  replace T7 := Lib.hid (T7.out.below h1)
  replace RV := Lib.hid (RV.out.below h1)
  replace T10 := Lib.hid (T10.out.below h1)
  replace T13 := Lib.hid (T13.out.below h1)
  replace T15 := Lib.hid (T15.out.below h1)
  replace HB := Lib.hid (bel_trans HB.out h1); clear h1
  clear T130 T131 T132 T133 T134
  clear T150 T151 T152 T153 T154
  clear T13 T15
  clear L5 C5
  have T17 := Lib.hid (Two.new (w28) (.int .i64 A) (.int .i64 M) 24)
  replace NV := Lib.hid (NV.out.alloc (.cells #[.int .i64 A, .int .i64 M] 24))
  replace LV := Lib.hid (LV.out.alloc (.cells #[.int .i64 A, .int .i64 M] 24))
  replace RV := Lib.hid (RV.out.alloc (.cells #[.int .i64 A, .int .i64 M] 24))
  replace T7 := Lib.hid (T7.out.alloc (.cells #[.int .i64 A, .int .i64 M] 24))
  replace T10 := Lib.hid (T10.out.alloc (.cells #[.int .i64 A, .int .i64 M] 24))
  replace HB := Lib.hid (bel_trans HB.out (bel_alloc (Below.refl _ ((w28).alloc (.cells #[.int .i64 A, .int .i64 M] 24)))))
  obtain ⟨T70, T71, T72, T73, T74⟩ := T7.out
  obtain ⟨T100, T101, T102, T103, T104⟩ := T10.out
  obtain ⟨T170, T171, T172, T173, T174⟩ := T17.out
  have L6 := Lib.hid (pts_litT 24 (w28.alloc (.cells #[.int .i64 A, .int .i64 M] 24)) [(A, M)] [.int .i64 A, .int .i64 M] rfl (by simp))
  simp only [World.size_alloc] at L6
  replace NV := Lib.hid (NV.out.alloc (.cells #[.int .i64 A, .int .i64 M] 24))
  replace LV := Lib.hid (LV.out.alloc (.cells #[.int .i64 A, .int .i64 M] 24))
  replace RV := Lib.hid (RV.out.alloc (.cells #[.int .i64 A, .int .i64 M] 24))
  replace T7 := Lib.hid (T7.out.alloc (.cells #[.int .i64 A, .int .i64 M] 24))
  replace T10 := Lib.hid (T10.out.alloc (.cells #[.int .i64 A, .int .i64 M] 24))
  replace T17 := Lib.hid (T17.out.alloc (.cells #[.int .i64 A, .int .i64 M] 24))
  replace HB := Lib.hid (bel_trans HB.out (bel_alloc (Below.refl _ ((w28.alloc (.cells #[.int .i64 A, .int .i64 M] 24)).alloc (.cells #[.int .i64 A, .int .i64 M] 24)))))
  go_wp2_with fail
  refine (C6.out _ _ NV.out L6.out).mono ?_
  rintro e w34 ⟨rfl, h1⟩
  replace NV := Lib.hid (NV.out.below h1)
  replace LV := Lib.hid (LV.out.below h1)
  replace T7 := Lib.hid (T7.out.below h1)
  replace RV := Lib.hid (RV.out.below h1)
  replace T10 := Lib.hid (T10.out.below h1)
  replace T17 := Lib.hid (T17.out.below h1)
  replace HB := Lib.hid (bel_trans HB.out h1); clear h1
  clear T70 T71 T72 T73 T74
  clear T100 T101 T102 T103 T104
  clear T170 T171 T172 T173 T174
  clear T7 T10 T17
  clear C6 L6
  go_wp2_with fail
  refine (C7.out _ NV.out LV.out).mono ?_
  rintro e w37 ⟨rfl, h1⟩
  replace NV := Lib.hid (NV.out.below h1)
  replace LV := Lib.hid (LV.out.below h1)
  replace RV := Lib.hid (RV.out.below h1)
  replace HB := Lib.hid (bel_trans HB.out h1); clear h1
  clear C7
  go_wp2_with fail
  refine (C8.out _ _ NV.out RV.out).mono ?_
  rintro e w38 ⟨rfl, h1⟩
  replace NV := Lib.hid (NV.out.below h1)
  replace LV := Lib.hid (LV.out.below h1)
  replace RV := Lib.hid (RV.out.below h1)
  replace HB := Lib.hid (bel_trans HB.out h1); clear h1
  clear C8
  go_wp2
  go_returns
  exact ⟨rfl, HB.out⟩
set_option maxHeartbeats 16000000 in
set_option maxRecDepth 100000 in
theorem goodB (a : Option Addr) (n cap : Nat) (b : Option Addr) (m cap2 : Nat) (t l : List (Int × Int)) (c : Int) (A M A1 M1 A2 M2 E P F : Int) (sv1 sv2 : Value) (l1 l2 : List (Int × Int)) (w : World) (NV : Hid (Pts w (.slice a n cap) t)) (LV : Hid (Pts w (.slice b m cap2) l)) (hf : fwB t.length = true) (d : decide (8 < (m : Int)) = false) (hE : (E == 0) = false) (hm : m ≤ 8) (hl : l.length ≤ 1000) (k : Nat) (hk : c % ((m : Int) + 1) = (k : Int)) (hc0 : 0 ≤ c ∧ c ≤ 255)
    (C1 : Hid (∀ W, Pts W (.slice b m cap2) l → Calls Try.prog 11 #[.slice b m cap2] W fun e w' => e = .returned (.tuple #[.agg #[.int .i64 A, .int .i64 M], .int .i64 0]) ∧ Below W.heap.size W w')) (C2 : Hid (∀ v W, Pts W v l.reverse → Calls Try.prog 11 #[v] W fun e w' => e = .returned (.tuple #[.agg #[.int .i64 A, .int .i64 M], .int .i64 0]) ∧ Below W.heap.size W w')) (q1 : ∀ w, (Instr.slice 22 (.slice b m cap2) none (some (.int .i64 k)) none).run Try.prog w = .ok sv1 w) (q2 : ∀ w, (Instr.slice 22 (.slice b m cap2) (some (.int .i64 k)) none none).run Try.prog w = .ok sv2 w)
    (P1 : Hid (∀ W, Pts W (.slice b m cap2) l → Pts W sv1 l1)) (P2 : Hid (∀ W, Pts W (.slice b m cap2) l → Pts W sv2 l2)) (C3 : Hid (∀ W, Pts W sv1 l1 → Calls Try.prog 11 #[sv1] W fun e w' => e = .returned (.tuple #[.agg #[.int .i64 A1, .int .i64 M1], .int .i64 0]) ∧ Below W.heap.size W w')) (C4 : Hid (∀ W, Pts W sv2 l2 → Calls Try.prog 11 #[sv2] W fun e w' => e = .returned (.tuple #[.agg #[.int .i64 A2, .int .i64 M2], .int .i64 0]) ∧ Below W.heap.size W w')) (C5 : Hid (∀ v W, Pts W v [(A1, M1), (A2, M2)] → Calls Try.prog 11 #[v] W fun e w' => e = .returned (.tuple #[.agg #[.int .i64 A, .int .i64 M], .int .i64 0]) ∧ Below W.heap.size W w'))
    (C6 : Hid (∀ v W, Pts W (.slice a n cap) t → Pts W v [(A, M)] → Calls Try.prog 19 #[.slice a n cap, v] W fun e w' => e = .returned (.tuple #[.int .i64 0, .int .i64 E]) ∧ Below W.heap.size W w')) (C7 : Hid (∀ W, Pts W (.slice a n cap) t → Pts W (.slice b m cap2) l → Calls Try.prog 19 #[.slice a n cap, (.slice b m cap2)] W fun e w' => e = .returned (.tuple #[.int .i64 P, .int .i64 F]) ∧ Below W.heap.size W w')) (C8 : Hid (∀ v W, Pts W (.slice a n cap) t → Pts W v l.reverse → Calls Try.prog 19 #[.slice a n cap, v] W fun e w' => e = .returned (.tuple #[.int .i64 P, .int .i64 F]) ∧ Below W.heap.size W w')) :
    Calls Try.prog 8 #[.slice a n cap, .slice b m cap2, .int .u8 c] w fun e w' => e = .returned (.bool true) ∧ Below w.heap.size w w' := by
  have w1 : IntKind.i64.wrap c = c := wrap_in _ ⟨by omega, by omega⟩
  have w2 : IntKind.i64.wrap ((m : Int) + 1) = (m : Int) + 1 := wrap_in _ ⟨by omega, by omega⟩
  have w3 : ((m : Int) + 1 == 0) = false := by rw [beq_eq_false_iff_ne]; omega
  have qe : ∀ W, (binOp .neq 24 (.agg #[.int .i64 A, .int .i64 M]) (.agg #[.int .i64 A, .int .i64 M])).run Try.prog W = .ok (.bool false) W := fun W => by rw [run_neq_liq]; simp [samP, samB]
  have HA := Lib.hid (fun W => awakeM_any W)
  have FW := Lib.hid (fun v W h => few_any v t W h)
  rw [hf] at FW
  have HB := Lib.hid (Below.refl w.heap.size w)
  go_enter Try.func8, Try.ntmps8
  go_wp2_with fail
  refine (HA.out _).mono ?_
  rintro e w41 ⟨rfl, h1⟩
  replace NV := Lib.hid (NV.out.below h1)
  replace LV := Lib.hid (LV.out.below h1)
  replace HB := Lib.hid (bel_trans HB.out h1); clear h1
  go_wp2_with fail
  refine (FW.out _ _ NV.out).mono ?_
  rintro e w90 ⟨rfl, hw⟩
  subst hw
  go_wp2_with fail
  refine (C1.out _ LV.out).mono ?_
  rintro e w42 ⟨rfl, h1⟩
  replace NV := Lib.hid (NV.out.below h1)
  replace LV := Lib.hid (LV.out.below h1)
  replace HB := Lib.hid (bel_trans HB.out h1); clear h1
  clear C1 HA FW
  have T7 := Lib.hid (Two.new (w42) (.int .i64 A) (.int .i64 M) 24)
  replace NV := Lib.hid (NV.out.alloc (.cells #[.int .i64 A, .int .i64 M] 24))
  replace LV := Lib.hid (LV.out.alloc (.cells #[.int .i64 A, .int .i64 M] 24))
  replace HB := Lib.hid (bel_trans HB.out (bel_alloc (Below.refl _ ((w42).alloc (.cells #[.int .i64 A, .int .i64 M] 24)))))
  go_wp2_with fail
  refine (cloneL_any _ l _ LV.out hl).mono ?_
  rintro e w50 ⟨u, rfl, hO, h1⟩
  go_wp2_with fail
  refine (reverseL_any u l _ _ w50 hO h1 hl).mono ?_
  rintro e w51 ⟨rfl, hR, h2⟩
  have RV := Lib.hid hR
  replace NV := Lib.hid (NV.out.below h2)
  replace LV := Lib.hid (LV.out.below h2)
  replace T7 := Lib.hid (T7.out.below h2)
  replace HB := Lib.hid (bel_trans HB.out h2)
  clear h1 h2 hO hR
  go_wp2_with fail
  refine (C2.out _ _ RV.out).mono ?_
  rintro e w46 ⟨rfl, h1⟩
  replace NV := Lib.hid (NV.out.below h1)
  replace LV := Lib.hid (LV.out.below h1)
  replace T7 := Lib.hid (T7.out.below h1)
  replace RV := Lib.hid (RV.out.below h1)
  replace HB := Lib.hid (bel_trans HB.out h1); clear h1
  clear C2
  have T10 := Lib.hid (Two.new (w46) (.int .i64 A) (.int .i64 M) 24)
  replace NV := Lib.hid (NV.out.alloc (.cells #[.int .i64 A, .int .i64 M] 24))
  replace LV := Lib.hid (LV.out.alloc (.cells #[.int .i64 A, .int .i64 M] 24))
  replace RV := Lib.hid (RV.out.alloc (.cells #[.int .i64 A, .int .i64 M] 24))
  replace T7 := Lib.hid (T7.out.alloc (.cells #[.int .i64 A, .int .i64 M] 24))
  replace HB := Lib.hid (bel_trans HB.out (bel_alloc (Below.refl _ ((w46).alloc (.cells #[.int .i64 A, .int .i64 M] 24)))))
  go_wp2_with fail
  refine (C3.out _ (P1.out _ LV.out)).mono ?_
  rintro e w48 ⟨rfl, h1⟩
  replace NV := Lib.hid (NV.out.below h1)
  replace LV := Lib.hid (LV.out.below h1)
  replace T7 := Lib.hid (T7.out.below h1)
  replace RV := Lib.hid (RV.out.below h1)
  replace T10 := Lib.hid (T10.out.below h1)
  replace HB := Lib.hid (bel_trans HB.out h1); clear h1
  clear C3 P1
  have T13 := Lib.hid (Two.new (w48) (.int .i64 A1) (.int .i64 M1) 24)
  replace NV := Lib.hid (NV.out.alloc (.cells #[.int .i64 A1, .int .i64 M1] 24))
  replace LV := Lib.hid (LV.out.alloc (.cells #[.int .i64 A1, .int .i64 M1] 24))
  replace RV := Lib.hid (RV.out.alloc (.cells #[.int .i64 A1, .int .i64 M1] 24))
  replace T7 := Lib.hid (T7.out.alloc (.cells #[.int .i64 A1, .int .i64 M1] 24))
  replace T10 := Lib.hid (T10.out.alloc (.cells #[.int .i64 A1, .int .i64 M1] 24))
  replace HB := Lib.hid (bel_trans HB.out (bel_alloc (Below.refl _ ((w48).alloc (.cells #[.int .i64 A1, .int .i64 M1] 24)))))
  go_wp2_with fail
  refine (C4.out _ (P2.out _ LV.out)).mono ?_
  rintro e w50 ⟨rfl, h1⟩
  replace NV := Lib.hid (NV.out.below h1)
  replace LV := Lib.hid (LV.out.below h1)
  replace T7 := Lib.hid (T7.out.below h1)
  replace RV := Lib.hid (RV.out.below h1)
  replace T10 := Lib.hid (T10.out.below h1)
  replace T13 := Lib.hid (T13.out.below h1)
  replace HB := Lib.hid (bel_trans HB.out h1); clear h1
  clear C4 P2
  have T15 := Lib.hid (Two.new (w50) (.int .i64 A2) (.int .i64 M2) 24)
  replace NV := Lib.hid (NV.out.alloc (.cells #[.int .i64 A2, .int .i64 M2] 24))
  replace LV := Lib.hid (LV.out.alloc (.cells #[.int .i64 A2, .int .i64 M2] 24))
  replace RV := Lib.hid (RV.out.alloc (.cells #[.int .i64 A2, .int .i64 M2] 24))
  replace T7 := Lib.hid (T7.out.alloc (.cells #[.int .i64 A2, .int .i64 M2] 24))
  replace T10 := Lib.hid (T10.out.alloc (.cells #[.int .i64 A2, .int .i64 M2] 24))
  replace T13 := Lib.hid (T13.out.alloc (.cells #[.int .i64 A2, .int .i64 M2] 24))
  replace HB := Lib.hid (bel_trans HB.out (bel_alloc (Below.refl _ ((w50).alloc (.cells #[.int .i64 A2, .int .i64 M2] 24)))))
  obtain ⟨T130, T131, T132, T133, T134⟩ := T13.out
  obtain ⟨T150, T151, T152, T153, T154⟩ := T15.out
  have L5 := Lib.hid (pts_litT 24 (w50.alloc (.cells #[.int .i64 A2, .int .i64 M2] 24)) [(A1, M1), (A2, M2)] [.int .i64 A1, .int .i64 M1, .int .i64 A2, .int .i64 M2] rfl (by simp))
  simp only [World.size_alloc] at L5
  replace NV := Lib.hid (NV.out.alloc (.cells #[.int .i64 A1, .int .i64 M1, .int .i64 A2, .int .i64 M2] 24))
  replace LV := Lib.hid (LV.out.alloc (.cells #[.int .i64 A1, .int .i64 M1, .int .i64 A2, .int .i64 M2] 24))
  replace RV := Lib.hid (RV.out.alloc (.cells #[.int .i64 A1, .int .i64 M1, .int .i64 A2, .int .i64 M2] 24))
  replace T7 := Lib.hid (T7.out.alloc (.cells #[.int .i64 A1, .int .i64 M1, .int .i64 A2, .int .i64 M2] 24))
  replace T10 := Lib.hid (T10.out.alloc (.cells #[.int .i64 A1, .int .i64 M1, .int .i64 A2, .int .i64 M2] 24))
  replace T13 := Lib.hid (T13.out.alloc (.cells #[.int .i64 A1, .int .i64 M1, .int .i64 A2, .int .i64 M2] 24))
  replace T15 := Lib.hid (T15.out.alloc (.cells #[.int .i64 A1, .int .i64 M1, .int .i64 A2, .int .i64 M2] 24))
  replace HB := Lib.hid (bel_trans HB.out (bel_alloc (Below.refl _ ((w50.alloc (.cells #[.int .i64 A2, .int .i64 M2] 24)).alloc (.cells #[.int .i64 A1, .int .i64 M1, .int .i64 A2, .int .i64 M2] 24)))))
  go_wp2_with fail
  refine (C5.out _ _ L5.out).mono ?_
  rintro e w54 ⟨rfl, h1⟩
  replace NV := Lib.hid (NV.out.below h1)
  replace LV := Lib.hid (LV.out.below h1)
  replace T7 := Lib.hid (T7.out.below h1)
  replace RV := Lib.hid (RV.out.below h1)
  replace T10 := Lib.hid (T10.out.below h1)
  replace T13 := Lib.hid (T13.out.below h1)
  replace T15 := Lib.hid (T15.out.below h1)
  replace HB := Lib.hid (bel_trans HB.out h1); clear h1
  clear T130 T131 T132 T133 T134
  clear T150 T151 T152 T153 T154
  clear T13 T15
  clear L5 C5
  have T17 := Lib.hid (Two.new (w54) (.int .i64 A) (.int .i64 M) 24)
  replace NV := Lib.hid (NV.out.alloc (.cells #[.int .i64 A, .int .i64 M] 24))
  replace LV := Lib.hid (LV.out.alloc (.cells #[.int .i64 A, .int .i64 M] 24))
  replace RV := Lib.hid (RV.out.alloc (.cells #[.int .i64 A, .int .i64 M] 24))
  replace T7 := Lib.hid (T7.out.alloc (.cells #[.int .i64 A, .int .i64 M] 24))
  replace T10 := Lib.hid (T10.out.alloc (.cells #[.int .i64 A, .int .i64 M] 24))
  replace HB := Lib.hid (bel_trans HB.out (bel_alloc (Below.refl _ ((w54).alloc (.cells #[.int .i64 A, .int .i64 M] 24)))))
  obtain ⟨T70, T71, T72, T73, T74⟩ := T7.out
  obtain ⟨T100, T101, T102, T103, T104⟩ := T10.out
  obtain ⟨T170, T171, T172, T173, T174⟩ := T17.out
  have L6 := Lib.hid (pts_litT 24 (w54.alloc (.cells #[.int .i64 A, .int .i64 M] 24)) [(A, M)] [.int .i64 A, .int .i64 M] rfl (by simp))
  simp only [World.size_alloc] at L6
  replace NV := Lib.hid (NV.out.alloc (.cells #[.int .i64 A, .int .i64 M] 24))
  replace LV := Lib.hid (LV.out.alloc (.cells #[.int .i64 A, .int .i64 M] 24))
  replace RV := Lib.hid (RV.out.alloc (.cells #[.int .i64 A, .int .i64 M] 24))
  replace T7 := Lib.hid (T7.out.alloc (.cells #[.int .i64 A, .int .i64 M] 24))
  replace T10 := Lib.hid (T10.out.alloc (.cells #[.int .i64 A, .int .i64 M] 24))
  replace T17 := Lib.hid (T17.out.alloc (.cells #[.int .i64 A, .int .i64 M] 24))
  replace HB := Lib.hid (bel_trans HB.out (bel_alloc (Below.refl _ ((w54.alloc (.cells #[.int .i64 A, .int .i64 M] 24)).alloc (.cells #[.int .i64 A, .int .i64 M] 24)))))
  go_wp2_with fail
  refine (C6.out _ _ NV.out L6.out).mono ?_
  rintro e w60 ⟨rfl, h1⟩
  replace NV := Lib.hid (NV.out.below h1)
  replace LV := Lib.hid (LV.out.below h1)
  replace T7 := Lib.hid (T7.out.below h1)
  replace RV := Lib.hid (RV.out.below h1)
  replace T10 := Lib.hid (T10.out.below h1)
  replace T17 := Lib.hid (T17.out.below h1)
  replace HB := Lib.hid (bel_trans HB.out h1); clear h1
  clear T70 T71 T72 T73 T74
  clear T100 T101 T102 T103 T104
  clear T170 T171 T172 T173 T174
  clear T7 T10 T17
  clear C6 L6
  go_wp2_with fail
  refine (C7.out _ NV.out LV.out).mono ?_
  rintro e w63 ⟨rfl, h1⟩
  replace NV := Lib.hid (NV.out.below h1)
  replace LV := Lib.hid (LV.out.below h1)
  replace RV := Lib.hid (RV.out.below h1)
  replace HB := Lib.hid (bel_trans HB.out h1); clear h1
  clear C7
  go_wp2_with fail
  refine (C8.out _ _ NV.out RV.out).mono ?_
  rintro e w64 ⟨rfl, h1⟩
  replace NV := Lib.hid (NV.out.below h1)
  replace LV := Lib.hid (LV.out.below h1)
  replace RV := Lib.hid (RV.out.below h1)
  replace HB := Lib.hid (bel_trans HB.out h1); clear h1
  clear C8
  go_wp2
  go_returns
  exact ⟨rfl, HB.out⟩
theorem walk (v : Value) (t : List (Int × Int)) (u : Value) (l : List (Int × Int)) (c : Int) (w : World) (hv : Pts w v t) (hu : Pts w u l) (hc : 0 ≤ c ∧ c ≤ 255) :
    Calls Try.prog 8 #[v, u, .int .u8 c] w fun e w' => e = .returned (.bool true) ∧ Below w.heap.size w w' := by
  obtain ⟨a, cap, rfl, _, _⟩ := id hv
  obtain ⟨b, cap2, rfl, hcl, _⟩ := id hu
  cases hf : fwB t.length with
  | false => exact long1 a _ cap b _ cap2 t l c w hv hu hf
  | true =>
    by_cases h8 : 8 < l.length
    · exact long2 a _ cap b _ cap2 t l c w hv hu hf (decide_eq_true (by omega))
    · have C1 := fun W h => mxSu_any (.slice b l.length cap2) l W h
      by_cases he : suE l = 0
      · have em := Int.emod_nonneg c (show (l.length : Int) + 1 ≠ 0 by omega)
        have em2 := Int.emod_lt_of_pos c (show (0 : Int) < (l.length : Int) + 1 by omega)
        obtain ⟨k, hk⟩ : ∃ k : Nat, c % ((l.length : Int) + 1) = (k : Int) := ⟨(c % ((l.length : Int) + 1)).toNat, by omega⟩
        have hkl : k ≤ l.length := by omega
        obtain ⟨r1, r2, r3⟩ := parts_ok he k
        have C2 := fun v W h => mxSu_any v l.reverse W h
        have C3 := fun W h => mxSu_any (sliced b 0 k cap2 2) (l.take k) W h
        have C4 := fun W h => mxSu_any (sliced b k l.length cap2 2) (l.drop k) W h
        have C5 := fun v W h => mxSu_any v [(sm fA (l.take k), sm fM (l.take k)), (sm fA (l.drop k), sm fM (l.drop k))] W h
        rw [he, (suV_ok he).1, (suV_ok he).2] at C1
        rw [suE_rev, he, (suV_ok (l := l.reverse) (by rw [suE_rev]; exact he)).1, (suV_ok (l := l.reverse) (by rw [suE_rev]; exact he)).2, sm_rev, sm_rev] at C2
        rw [r1, (suV_ok r1).1, (suV_ok r1).2] at C3
        rw [r2, (suV_ok r2).1, (suV_ok r2).2] at C4
        rw [r3, (suV_ok r3).1, (suV_ok r3).2, (two_sum k).1, (two_sum k).2] at C5
        have C6 := fun v W h g => mxCo_any (.slice a t.length cap) v t [(sm fA l, sm fM l)] W h g
        have C7 := fun W h g => mxCo_any (.slice a t.length cap) (.slice b l.length cap2) t l W h g
        have C8 := fun v W h g => mxCo_any (.slice a t.length cap) v t l.reverse W h g
        rw [coV_one] at C6
        rw [coV_rev, riE_rev] at C8
        have P1 : ∀ W, Pts W (.slice b l.length cap2) l → Pts W (sliced b 0 k cap2 2) (l.take k) := fun W h => by
          have := h.part (i := 0) (k := k) (by omega) hkl
          rwa [List.drop_zero] at this
        have P2 : ∀ W, Pts W (.slice b l.length cap2) l → Pts W (sliced b k l.length cap2 2) (l.drop k) := fun W h => by
          have := h.part (i := k) (k := l.length) hkl (Nat.le_refl _)
          rwa [List.take_length] at this
        cases hE : (riE t [(sm fA l, sm fM l)] == 0) with
        | true => exact goodA a _ cap b _ cap2 t l c _ _ _ _ _ _ _ _ _ _ _ _ _ w hv hu hf (decide_eq_false (by omega)) hE (by omega) (by omega) k hk hc (Lib.hid C1) (Lib.hid C2) (sl_low b l.length cap2 k hkl hcl.1) (sl_high b l.length cap2 k hkl hcl.1) (Lib.hid P1) (Lib.hid P2) (Lib.hid C3) (Lib.hid C4) (Lib.hid C5) (Lib.hid C6) (Lib.hid C7) (Lib.hid C8)
        | false => exact goodB a _ cap b _ cap2 t l c _ _ _ _ _ _ _ _ _ _ _ _ _ w hv hu hf (decide_eq_false (by omega)) hE (by omega) (by omega) k hk hc (Lib.hid C1) (Lib.hid C2) (sl_low b l.length cap2 k hkl hcl.1) (sl_high b l.length cap2 k hkl hcl.1) (Lib.hid P1) (Lib.hid P2) (Lib.hid C3) (Lib.hid C4) (Lib.hid C5) (Lib.hid C6) (Lib.hid C7) (Lib.hid C8)
      · rw [show suA l = 0 by unfold suA; rw [if_neg he], show suM l = 0 by unfold suM; rw [if_neg he]] at C1
        exact bad a _ cap b _ cap2 t l c _ w hv hu hf (decide_eq_false (by omega)) (by rw [bne_iff_ne]; exact he) (Lib.hid C1)

set_option maxRecDepth 100000 in
theorem lifted (os : Os) (started : os.Started) (H : Type) (enc : TypeId × Value → H) :
    ReturnsInHanded {} Try.checked os 8 .any (Rows.mixOrderSpec.pre6 enc Try.prog Try.f8 Rows.mixOrderRow.domain false) (Rows.mixOrderSpec.post enc Try.prog Try.f8 false true false false) := by
  refine returnsInHanded_of_change (C := Try.checked) own started (by kernel_rfl) Try.func8
    (ChangeSpec.witness6 (enc := enc) (C := Try.checked) false ⟨#[], #[.slice none 0 0, .slice none 0 0, .int .u8 0], []⟩ 8 (by kernel_rfl) (by kernel_rfl) (by kernel_rfl) (by kernel_rfl)) ?_
  intro W base args ds gs before hval0 hW hcnd _
  have hval : ∀ (j : Nat) t v, Try.f8.params[j]? = some t → args[j]? = some v → Value.okWide Try.prog W .any base t v := hval0
  clear hval0
  have hW' := hW
  obtain ⟨p, q, hA0, hV, rfl, hfz, hnd⟩ := hW
  have hA : DataW.TrodAll enc Try.prog W 0 (fun _ => true) true Try.f8.params.toList args.toList ds p := hA0
  rw [Try.params8] at hA hval
  obtain ⟨v0, vs0, d0, ds0, p0, q0, hargs, rfl, rfl, h0, r0⟩ := trodAll_cons hA
  obtain ⟨v1, vs1, d1, ds1, p1, q1, rfl, rfl, rfl, h1, r1⟩ := trodAll_cons r0
  obtain ⟨v2, vs2, d2, ds2, p2, q2, rfl, rfl, rfl, h2, r2⟩ := trodAll_cons r1
  obtain ⟨rfl, rfl, rfl⟩ := trodAll_nil r2
  obtain rfl : args = #[v0, v1, v2] := by cases args; simp_all
  obtain ⟨rfl, rfl⟩ := trodVars_none hV
  have k0 := h0
  have lt0 : ∀ x ∈ p0, x.block < W.heap.size := by obtain ⟨m, hm⟩ := k0; exact DataW.trod_lt m _ _ _ hm
  have k1 := h1
  have lt1 : ∀ x ∈ p1, x.block < W.heap.size := by obtain ⟨m, hm⟩ := k1; exact DataW.trod_lt m _ _ _ hm
  have k2 := h2
  have lt2 : ∀ x ∈ p2, x.block < W.heap.size := by obtain ⟨m, hm⟩ := k2; exact DataW.trod_lt m _ _ _ hm
  obtain ⟨z0, w0⟩ := open_pts (hval 0 36 v0 rfl rfl) h0
  obtain ⟨z1, w1⟩ := open_lqs (hval 1 22 v1 rfl rfl) h1
  obtain ⟨a2, rfl, rfl, rfl, w2⟩ := open_int Try.underlying5 (hval 2 5 v2 rfl rfl) h2
  clear hA0
  refine (walk v0 z0 v1 z1 a2 W w0 w1 (wf_u8 w2)).mono fun e W' ⟨he, bel⟩ => ?_
  subst he
  exact ⟨_, rfl, _, _, _, [], _, [], hW', trodAll_mk1 (shut_bool Try.underlying4 _), (trodAll_cons_mk (Below.trod laidOut (by kernel_rfl) (of_decide_eq_true (by kernel_rfl)) k0 bel lt0) (trodAll_cons_mk (Below.trod laidOut (by kernel_rfl) (of_decide_eq_true (by kernel_rfl)) k1 bel lt1) (trodAll_cons_mk (Below.trod laidOut (by kernel_rfl) (of_decide_eq_true (by kernel_rfl)) k2 bel lt2) trodAll_mk0))), rfl, bel.frame _, fun h => by cases h⟩

theorem over : Rows.mixOrderRow.holds Try.pinned (OpenSpec.ofChange Rows.mixOrderSpec) :=
  OpenClaim.holds_of_wide 8 Try.f8 rfl rfl rfl rfl rfl rfl rfl ⟨rfl, rfl, rfl, rfl, rfl⟩ rfl rfl rfl rfl rfl (by kernel_rfl) Try.func8 (by kernel_rfl)
    (of_decide_eq_true (by kernel_rfl)) (by unfold Func.isWrapper; first | (rw [if_pos (by decide +kernel)]; kernel_rfl) | (rw [if_neg (by decide +kernel)]; exact ⟨rfl, rfl⟩))
    (fun os started H enc _ => lifted os started H enc)

theorem proved : Rows.MixOrderSaid := over
#print axioms proved
end Go.Proofs.Ytfkcgdnpfngdkaa.mixOrder
