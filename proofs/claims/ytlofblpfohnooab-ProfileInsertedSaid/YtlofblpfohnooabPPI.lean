/- Package profile: Insert. -/
import Derived.Test.YtlofblpfohnooabPPH
import Derived.Deep.RegionLaw
import Derived.Deep.RegionLawGrows
import Derived.Laws.AppendOwn
namespace Go.Proofs.Ytlofblpfohnooab
open Go.RowKit

/-- what Insert returns -/
noncomputable def ixE (l : List (Int × Int)) (x : Int) : Int :=
  if plE l x = 0 then (if gX l (pc l x - 1) = x ∨ gX l (pc l x) = x then 6 else if rdL l x ≠ rdH l x then 10 else if l.length = 32 then 12 else 0) else plE l x
noncomputable def ixL (l : List (Int × Int)) (x : Int) : List (Int × Int) := if ixE l x = 0 then l.take (pc l x) ++ [(x, rdL l x)] ++ l.drop (pc l x) else []

theorem flat_take (l : List (Int × Int)) (i : Nat) : flat (l.take i) = (flat l).take (i * 2) := by
  induction l generalizing i with
  | nil => simp [flat]
  | cons q l ih =>
    cases i with
    | zero => simp [flat]
    | succ i =>
      rw [show (i + 1) * 2 = i * 2 + 1 + 1 by omega]
      simp only [List.take_succ_cons, flat, ih]
theorem flat_drop (l : List (Int × Int)) (i : Nat) : flat (l.drop i) = (flat l).drop (i * 2) := by
  induction l generalizing i with
  | nil => simp [flat]
  | cons q l ih =>
    cases i with
    | zero => simp [flat]
    | succ i =>
      rw [show (i + 1) * 2 = i * 2 + 1 + 1 by omega]
      simp only [List.drop_succ_cons, flat, ih]
/-- the cells of a list that lies in memory -/
theorem flat_cells {W : World} {b off n : Nat} {l : List (Int × Int)} (hn : n = l.length) (hc : ∀ j, j < n → W.cell? ⟨b, off + j * 2, none⟩ = some (.int .i64 (gX l j)) ∧ W.cell? ⟨b, off + j * 2 + 1, none⟩ = some (.int .i64 (gR l j))) :
    ∀ j u, (flat l)[j]? = some u → W.cell? ⟨b, off + j, none⟩ = some u := by
  intro j u hj
  obtain ⟨i, hi, ⟨rfl, rfl⟩ | ⟨rfl, rfl⟩⟩ := flat_inv l j u hj
  · exact (hc i (by omega)).1
  · rw [← Nat.add_assoc]; exact (hc i (by omega)).2
theorem take_cells {W : World} {b off n : Nat} {l : List (Int × Int)} (i : Nat) (h : ∀ j u, (flat l)[j]? = some u → W.cell? ⟨b, off + j, none⟩ = some u) :
    ∀ j u, (flat (l.take i))[j]? = some u → W.cell? ((⟨b, off, none⟩ : Addr).add j) = some u := by
  intro j u hj
  rw [flat_take, List.getElem?_take] at hj
  split at hj
  · rw [Go.WideShapes.add_plain]; exact h j u hj
  · cases hj
theorem drop_cells {W : World} {b off : Nat} {l : List (Int × Int)} (i : Nat) (h : ∀ j u, (flat l)[j]? = some u → W.cell? ⟨b, off + j, none⟩ = some u) :
    ∀ j u, (flat (l.drop i))[j]? = some u → W.cell? ((⟨b, off + i * 2, none⟩ : Addr).add j) = some u := by
  intro j u hj
  rw [flat_drop, List.getElem?_drop] at hj
  rw [Go.WideShapes.add_plain, Nat.add_assoc]
  exact h _ u hj
theorem new_pt (W : World) (x y : Value) (t : TypeId) : ∀ j u, [x, y][j]? = some u → (W.alloc (.cells #[x, y] t)).cell? ((⟨W.heap.size, 0, none⟩ : Addr).add j) = some u := by
  intro j u hj
  match j, hj with
  | 0, hj => simp at hj; subst hj; simp [Addr.add, go_sem]
  | 1, hj => simp at hj; subst hj; simp [Addr.add, go_sem]
  | j + 2, hj => simp at hj

theorem Ins_bad (v : Value) (x E : Int) (w : World) (e1 : (E == 0) = false) (e2 : (E != 0) = true)
    (H1 : Hid (Calls Try.prog 34 #[v, .int .i64 x] w fun e w' => e = .returned (.int .i64 E) ∧ Below w.heap.size w w')) :
    Calls Try.prog 20 #[v, .int .i64 x] w fun e w' => e = .returned (.tuple #[.slice none 0 0, .int .i64 E]) ∧ Below w.heap.size w w' := by
  go_enter Try.func20, Try.ntmps20
  go_wp2_with fail
  refine H1.out.mono ?_
  rintro e w1 ⟨rfl, gg⟩
  have X1 := Lib.hid gg; clear gg
  go_wp2
  go_returns
  exact ⟨rfl, X1.out⟩
set_option maxHeartbeats 4000000 in
theorem Ins_twice (v : Value) (x a p b q i : Int) (w : World) (h : (a == x) = true ∧ (x == a) = true ∨ (a == x) = false ∧ (x == a) = false ∧ (b == x) = true ∧ (x == b) = true)
    (H1 : Hid (Calls Try.prog 34 #[v, .int .i64 x] w fun e w' => e = .returned (.int .i64 0) ∧ Below w.heap.size w w'))
    (H2 : Hid (∀ W, Below w.heap.size w W → Calls Try.prog 35 #[v, .int .i64 x] W fun e w' => e = .returned (.tuple #[.agg #[.int .i64 a, .int .i64 p, .int .i64 b, .int .i64 q], .int .i64 i]) ∧ Below W.heap.size W w')) :
    Calls Try.prog 20 #[v, .int .i64 x] w fun e w' => e = .returned (.tuple #[.slice none 0 0, .int .i64 6]) ∧ Below w.heap.size w w' := by
  go_enter Try.func20, Try.ntmps20
  go_wp2_with fail
  refine H1.out.mono ?_
  rintro e w1 ⟨rfl, gg⟩
  have X1 := Lib.hid gg; clear gg
  go_wp2_with fail
  refine (H2.out _ X1.out).mono ?_
  rintro e w2 ⟨rfl, gg⟩
  replace X1 := Lib.hid (bel_trans X1.out gg); clear gg
  rcases h with ⟨h1, h2⟩ | ⟨h1, h2, h3, h4⟩
  · go_wp2
    go_returns
    exact ⟨rfl, bA X1.out _⟩
  · go_wp2
    go_returns
    exact ⟨rfl, bA X1.out _⟩
set_option maxHeartbeats 4000000 in
theorem Ins_none (ad : Option Addr) (n cap : Nat) (x a p b q i L H E : Int) (w : World) (h1 : (a == x) = false) (h2 : (x == a) = false) (h3 : (b == x) = false) (h4 : (x == b) = false)
    (h : ((L != H) = true ∧ E = 10) ∨ ((L != H) = false ∧ n = 32 ∧ E = 12))
    (H1 : Hid (Calls Try.prog 34 #[.slice ad n cap, .int .i64 x] w fun e w' => e = .returned (.int .i64 0) ∧ Below w.heap.size w w'))
    (H2 : Hid (∀ W, Below w.heap.size w W → Calls Try.prog 35 #[.slice ad n cap, .int .i64 x] W fun e w' => e = .returned (.tuple #[.agg #[.int .i64 a, .int .i64 p, .int .i64 b, .int .i64 q], .int .i64 i]) ∧ Below W.heap.size W w'))
    (H3 : Hid (∀ W, Calls Try.prog 36 #[.agg #[.int .i64 a, .int .i64 p, .int .i64 b, .int .i64 q], .int .i64 x] W fun e w' => e = .returned (.agg #[.int .i64 L, .int .i64 H]) ∧ Below W.heap.size W w')) :
    Calls Try.prog 20 #[.slice ad n cap, .int .i64 x] w fun e w' => e = .returned (.tuple #[.slice none 0 0, .int .i64 E]) ∧ Below w.heap.size w w' := by
  go_enter Try.func20, Try.ntmps20
  go_wp2_with fail
  refine H1.out.mono ?_
  rintro e w1 ⟨rfl, gg⟩
  have X1 := Lib.hid gg; clear gg
  go_wp2_with fail
  refine (H2.out _ X1.out).mono ?_
  rintro e w2 ⟨rfl, gg⟩
  replace X1 := Lib.hid (bel_trans X1.out gg); clear gg
  go_wp2_with fail
  refine (H3.out _).mono ?_
  rintro e w3 ⟨rfl, gg⟩
  replace X1 := Lib.hid (bA (bel_trans X1.out (bel_alloc gg)) (.cells #[.int .i64 L, .int .i64 H] 33)); clear gg
  rcases h with ⟨g1, rfl⟩ | ⟨g1, rfl, rfl⟩
  · go_wp2
    go_returns
    exact ⟨rfl, X1.out⟩
  · go_wp2
    go_returns
    exact ⟨rfl, X1.out⟩
set_option maxHeartbeats 16000000 in
set_option maxRecDepth 1000000 in
theorem Ins_ok (b off n cap i : Nat) (l : List (Int × Int)) (x a p c q L : Int) (w : World) (h1 : (a == x) = false) (h2 : (x == a) = false) (h3 : (c == x) = false) (h4 : (x == c) = false) (n1 : n < 32) (i0 : 1 ≤ i) (i1 : i < n) (hcap : n ≤ cap) (hcap2 : cap ≤ 9223372036854775807) (hn : Hid (n = l.length)) (hb : b < w.heap.size)
    (hc : Hid (∀ j u, (flat l)[j]? = some u → w.cell? ⟨b, off + j, none⟩ = some u))
    (H1 : Hid (Calls Try.prog 34 #[.slice (some ⟨b, off, none⟩) n cap, .int .i64 x] w fun e w' => e = .returned (.int .i64 0) ∧ Below w.heap.size w w'))
    (H2 : Hid (∀ W, Below w.heap.size w W → Calls Try.prog 35 #[.slice (some ⟨b, off, none⟩) n cap, .int .i64 x] W fun e w' => e = .returned (.tuple #[.agg #[.int .i64 a, .int .i64 p, .int .i64 c, .int .i64 q], .int .i64 i]) ∧ Below W.heap.size W w'))
    (H3 : Hid (∀ W, Calls Try.prog 36 #[.agg #[.int .i64 a, .int .i64 p, .int .i64 c, .int .i64 q], .int .i64 x] W fun e w' => e = .returned (.agg #[.int .i64 L, .int .i64 L]) ∧ Below W.heap.size W w')) :
    Calls Try.prog 20 #[.slice (some ⟨b, off, none⟩) n cap, .int .i64 x] w fun e w' => ∃ v, e = .returned (.tuple #[v, .int .i64 0]) ∧ Pts w' v (l.take i ++ [(x, L)] ++ l.drop i) ∧ Below w.heap.size w w' := by
  obtain ⟨ti, hi, hz0, hz1, hz2⟩ := info_parts pt_info
  have lt : Hid ((flat (l.take i)).length = i * 2) := by show _ = _; rw [flat_len, List.length_take]; have := hn.out; omega
  have ld : Hid ((flat (l.drop i)).length = (n - i) * 2) := by show _ = _; rw [flat_len, List.length_drop]; have := hn.out; omega
  have HC : Hid (∀ W, Below w.heap.size w W → ∀ j u, (flat l)[j]? = some u → W.cell? ⟨b, off + j, none⟩ = some u) := fun W hW j u hj => ((bcell hW).1 _ _ hb).trans (hc.out j u hj)
  clear hc
  go_enter Try.func20, Try.ntmps20
  go_wp2_with fail
  refine H1.out.mono ?_
  rintro e w1 ⟨rfl, gg⟩
  have X1 := Lib.hid gg; clear gg
  go_wp2_with fail
  refine (H2.out _ X1.out).mono ?_
  rintro e w2 ⟨rfl, gg⟩
  replace X1 := Lib.hid (bel_trans X1.out gg); clear gg
  go_wp2_with fail
  refine (H3.out _).mono ?_
  rintro e w3 ⟨rfl, gg⟩
  replace X1 := Lib.hid (bel_trans X1.out (bel_alloc gg)); clear gg
  have l1 : (i : Int) ≤ (cap : Int) := by omega
  have l2 : i ≤ cap := by omega
  have l3 : (i : Int) ≤ (n : Int) := by omega
  have l4 : i ≤ n := by omega
  have l5 : ¬ (n : Int) = 32 := by omega
  have l6 : ((n : Int) == 32) = false := by rw [beq_eq_false_iff_ne]; exact l5
  have l7 : i ≠ cap := by omega
  have l8 : cap ≠ i := by omega
  have l9 : (L != L) = false := by simp
  have TB := Lib.hid (Two.new w3 (.int .i64 L) (.int .i64 L) 33)
  have XA : Hid (Below w.heap.size w (((w3.alloc (.cells #[.int .i64 L, .int .i64 L] 33)).alloc (.cells #[.int .i64 x, .int .i64 L] 30)).drew)) := bel_trans (bA (bA X1.out _) _) (bel_drew _)
  have NP : Hid (∀ j u, [(.int .i64 x : Value), .int .i64 L][j]? = some u → (((w3.alloc (.cells #[.int .i64 L, .int .i64 L] 33)).alloc (.cells #[.int .i64 x, .int .i64 L] 30)).drew).cell? ((⟨w3.heap.size + 1, 0, none⟩ : Addr).add j) = some u) := by
    have := new_pt (w3.alloc (.cells #[.int .i64 L, .int .i64 L] 33)) (.int .i64 x) (.int .i64 L) 30
    rw [World.size_alloc] at this
    exact this
  have NT : Hid (∀ b', some (⟨b, off, none⟩ : Addr) = some b' → ∀ j u, (flat (l.take i))[j]? = some u → (((w3.alloc (.cells #[.int .i64 L, .int .i64 L] 33)).alloc (.cells #[.int .i64 x, .int .i64 L] 30)).drew).cell? (b'.add j) = some u) := by
    intro b' hb'
    obtain rfl := Option.some.inj hb'
    exact take_cells (n := n) i (HC.out _ XA.out)
  have hn3 : w.heap.size ≤ w3.heap.size := X1.out.size
  go_wp2_with fail
  go_region_law (refine step_append_grows rfl (.tmp 49) (.tmp 54) 22 rfl 30 ti (.agg #[.int .i64 0, .int .i64 0]) 2 16 Try.underlying22 hi hz0 hz1 hz2 rfl (by decide) (some ⟨b, off, none⟩) i i (flat (l.take i)) (by simp [Act.eval, Act.put]) (fun h => by cases h) lt.out NT.out ⟨w3.heap.size + 1, 0, none⟩ 1 1 [.int .i64 x, .int .i64 L] (by simp [Act.eval, Act.put]) rfl NP.out (by intro u hu; simp at hu; rcases hu with rfl | rfl <;> rfl) (by omega) (by unfold maxLen; omega) (by omega) ?_; intro v1 w5 hown1 hgrow1)
  all_goals
    have XB : Hid (Below w.heap.size w w5) := XA.out.grown hgrow1 (by have := XA.out.size; exact this) (fun k e => by cases e)
    have hsz := hgrow1.size
    clear NT NP TB
    go_wp2_with (at_builtin; refine wpList_append_own _ rfl _ _ 22 rfl _ 30 ti (.agg #[.int .i64 0, .int .i64 0]) 2 16 Try.underlying22 hi hz0 hz1 hz2 rfl (by omega) _ _ _ rfl hown1 ⟨b, off + i * 2, none⟩ (n - i) (cap - i) (flat (l.drop i)) ?r0 ?r1 ?r2 ?r3 ?r4 ?r5 ?r6 ?_)
    case r0 => first | rfl | simp [Act.eval, Act.put]
    case r1 => exact ld.out
    case r2 => exact drop_cells i (HC.out _ XB.out)
    case r3 => exact flat_one _
    case r4 => unfold maxLen; omega
    case r5 => omega
    case r6 => exact hsz
    intro v2 w6 hown2 hgrow2 _
    have R : ∃ B, OwnP w6 B v2 (l.take i ++ [(x, L)] ++ l.drop i) := by
      unfold OwnP
      refine ⟨w3.heap.size + 1 + 1, ?_⟩
      rw [flat_app, flat_app, List.length_append, List.length_append, List.length_take, List.length_drop, show min i l.length + [(x, L)].length + (l.length - i) = i + 1 + (n - i) by have := hn.out; simp; omega, List.append_assoc]
      exact hown2
    have P := Lib.hid (R.choose_spec.pts)
    have XC := Lib.hid (XB.out.grown hgrow2 XB.out.size (fun j hj => Nat.le_trans XA.out.size ((hown1.lt j hj).1)))
    clear hown1 hown2 hgrow1 hgrow2 R XB XA
    go_wp2
    go_returns
    exact ⟨_, rfl, P.out, XC.out⟩
theorem ins_any (v : Value) (l : List (Int × Int)) (x : Int) (w : World) (hv : Pts w v l) :
    Calls Try.prog 20 #[v, .int .i64 x] w fun e w' => ∃ u, e = .returned (.tuple #[u, .int .i64 (ixE l x)]) ∧ Pts w' u (ixL l x) ∧ Below w.heap.size w w' := by
  have HC := Lib.hid (place_any v l x w hv)
  unfold ixL
  by_cases h : plE l x = 0
  · obtain ⟨hR, x0, x1⟩ := plE_zero.1 h
    have hi := pc_is hR.n0 x1
    have e : ixE l x = (if gX l (pc l x - 1) = x ∨ gX l (pc l x) = x then 6 else if rdL l x ≠ rdH l x then 10 else if l.length = 32 then 12 else 0) := by unfold ixE; rw [if_pos h]
    rw [h] at HC
    have H2 : Hid (∀ W, Below w.heap.size w W → _) := fun W hW => find_of (hv.below hW) hR x _ hi
    have H3 : Hid (∀ W, _) := fun W => at_of hR x0 hi W
    by_cases g1 : gX l (pc l x - 1) = x ∨ gX l (pc l x) = x
    · have e1 : ixE l x = 6 := by rw [e, if_pos g1]
      rw [e1, if_neg (by omega)]
      refine (Ins_twice v x _ _ _ _ _ w ?_ HC H2).mono fun _ w' g => ⟨_, g.1, pts_nil w', g.2⟩
      by_cases g2 : gX l (pc l x - 1) = x
      · left; rw [g2]; simp
      · right
        have g3 : gX l (pc l x) = x := by rcases g1 with g | g; exact absurd g g2; exact g
        exact ⟨by simpa using g2, by simpa using fun e => g2 e.symm, by simpa using g3, by simpa using g3.symm⟩
    · have k1 : ¬ gX l (pc l x - 1) = x := fun h => g1 (.inl h)
      have k2 : ¬ gX l (pc l x) = x := fun h => g1 (.inr h)
      have a1 : (gX l (pc l x - 1) == x) = false := by simpa using k1
      have a2 : (x == gX l (pc l x - 1)) = false := by simpa using fun e => k1 e.symm
      have a3 : (gX l (pc l x) == x) = false := by simpa using k2
      have a4 : (x == gX l (pc l x)) = false := by simpa using fun e => k2 e.symm
      have hvs := hv
      obtain ⟨ad, cap, rfl, hl, hh⟩ := hvs
      by_cases g2 : rdL l x = rdH l x
      · by_cases g3 : l.length = 32
        · have e1 : ixE l x = 12 := by rw [e, if_neg g1, if_neg (by simpa using g2), if_pos g3]
          rw [e1, if_neg (by omega)]
          exact (Ins_none ad l.length cap x _ _ _ _ _ _ _ 12 w a1 a2 a3 a4 (.inr ⟨by simpa using g2, g3, rfl⟩) HC H2 H3).mono fun _ w' g => ⟨_, g.1, pts_nil w', g.2⟩
        · have e1 : ixE l x = 0 := by rw [e, if_neg g1, if_neg (by simpa using g2), if_neg g3]
          rw [e1, if_pos rfl]
          have n0 := hR.n0
          have n1 := hR.n1
          rcases hh with hh | ⟨b, off, rfl, hb, hc⟩
          · omega
          · rw [← g2] at H3
            exact Ins_ok b off l.length cap (pc l x) l x _ _ _ _ _ w a1 a2 a3 a4 (by omega) hi.h1 hi.h2 hl.1 hl.2 (Lib.hid rfl) hb (Lib.hid (flat_cells rfl hc)) HC H2 H3
      · have e1 : ixE l x = 10 := by rw [e, if_neg g1, if_pos g2]
        rw [e1, if_neg (by omega)]
        exact (Ins_none ad l.length cap x _ _ _ _ _ _ _ 10 w a1 a2 a3 a4 (.inl ⟨by simpa using g2, rfl⟩) HC H2 H3).mono fun _ w' g => ⟨_, g.1, pts_nil w', g.2⟩
  · have e : ixE l x = plE l x := by unfold ixE; rw [if_neg h]
    rw [e, if_neg h]
    exact (Ins_bad v x _ w (by simpa using h) (by simpa using h) HC).mono fun _ w' g => ⟨_, g.1, pts_nil w', g.2⟩
end Go.Proofs.Ytlofblpfohnooab
