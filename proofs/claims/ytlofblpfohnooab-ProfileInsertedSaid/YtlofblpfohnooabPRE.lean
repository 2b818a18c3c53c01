/- The reference of layer 8: Insert. -/
import Derived.Test.YtlofblpfohnooabPRD
import Derived.Test.YtlofblpfohnooabPPI
import Derived.Test.YtlofblpfohnooabPSt
namespace Go.Proofs.Ytlofblpfohnooab
open Go.RowKit

/-- the first place that is not below x -/
noncomputable def fp (l : List (Int × Int)) (x : Int) : Nat := if x = 0 then 0 else pc l x
theorem fp_below {l : List (Int × Int)} {x : Int} (h : RP l) (x0 : 0 ≤ x) (x1 : x ≤ gX l (l.length - 1)) : fp l x < l.length ∧ (∀ k, k < fp l x → gX l k < x) ∧ ¬ gX l (fp l x) < x := by
  have hi := pc_is h.n0 x1
  have n0 := h.n0
  have z := h.x0
  unfold fp
  by_cases e : x = 0
  · rw [if_pos e]
    exact ⟨by omega, fun k hk => by omega, by omega⟩
  · rw [if_neg e]
    refine ⟨hi.h2, fun k hk => ?_, by have := hi.h3; omega⟩
    by_cases hk0 : k = 0
    · subst hk0; omega
    · exact hi.h4 k (by omega) hk
theorem fp_twice {l : List (Int × Int)} {x : Int} (h : RP l) (x0 : 0 ≤ x) (x1 : x ≤ gX l (l.length - 1)) : (gX l (pc l x - 1) = x ∨ gX l (pc l x) = x) ↔ gX l (fp l x) = x := by
  have hi := pc_is h.n0 x1
  have z := h.x0
  have h1 := hi.h1
  have h3 := hi.h3
  unfold fp
  by_cases e : x = 0
  · rw [if_pos e]
    have e1 : pc l x = 1 := by
      refine pc_of ⟨by omega, by have := h.n0; omega, ?_, fun j j1 j2 => by omega⟩
      have := (h.bx 1 (by have := h.n0; omega)).1
      omega
    rw [e1]
    exact ⟨fun _ => by rw [z, e], fun _ => .inl (by show gX l 0 = x; rw [z, e])⟩
  · rw [if_neg e]
    refine ⟨fun g => ?_, fun g => .inr g⟩
    rcases g with g | g
    · by_cases e1 : pc l x = 1
      · rw [e1] at g
        have : gX l 0 = x := g
        omega
      · have := hi.h4 (pc l x - 1) (by omega) (by omega)
        omega
    · exact g
theorem fp_pc {l : List (Int × Int)} {x : Int} (h : RP l) (hn : ¬ gX l (fp l x) = x) : fp l x = pc l x ∧ x ≠ 0 := by
  have z := h.x0
  unfold fp at hn ⊢
  by_cases e : x = 0
  · rw [if_pos e] at hn; omega
  · rw [if_neg e]; exact ⟨rfl, e⟩

theorem rIns_bad (v : Value) (x E : Int) (w : World) (e1 : (E == 0) = false) (e2 : (E != 0) = true)
    (H1 : Hid (Calls Try.prog 37 #[v, .int .i64 x] w fun e w' => e = .returned (.int .i64 E) ∧ Below w.heap.size w w')) :
    Calls Try.prog 21 #[v, .int .i64 x] w fun e w' => e = .returned (.tuple #[.slice none 0 0, .int .i64 E]) ∧ Below w.heap.size w w' := by
  go_enter Try.func21, Try.ntmps21
  go_wp2_with fail
  refine H1.out.mono ?_
  rintro e w1 ⟨rfl, gg⟩
  have X1 := Lib.hid gg; clear gg
  go_wp2
  go_returns
  exact ⟨rfl, X1.out⟩
/-- a list of points is appended to an empty slice, as one step of a region that draws its order -/
theorem step_first {ops : Array Oper} {o : Oper} {a : Act} {w : World} {K : Act → World → Prop} {Q : Exit → Act → World → Prop} {E : Prop} (hg : o.guard = none) (s x : Operand)
    (hop : o.op = Op.call { callee := Callee.builtin Builtin.append, args := #[s, x], argTypes := #[22, 22] })
    (hs : ∃ g, a.eval s = .slice (some ⟨g, 0, none⟩) 0 0) (b off n c : Nat) (hx : a.eval x = .slice (some ⟨b, off, none⟩) n c) (l : List (Int × Int)) (hl : (flat l).length = n * 2)
    (hc : ∀ j u, (flat l)[j]? = some u → w.cell? ((⟨b, off, none⟩ : Addr).add j) = some u) (h0 : 0 < n) (hn : n ≤ 1000)
    (h : ∀ v' w', w'.ownsRow w.heap.size 30 2 v' n (flat l) → w.grownBy w' none → K (a.put o.dst v') w') :
    if Region.wanted o (yielded ops a.tmps) = true then Oper.wp Try.prog o a w K Q else E := by
  obtain ⟨i0, hi, hz0, hz1, hz2⟩ := info_parts pt_info
  obtain ⟨g, hs⟩ := hs
  refine step_append_grows hg s x 22 hop 30 i0 (.agg #[.int .i64 0, .int .i64 0]) 2 16 Try.underlying22 hi hz0 hz1 hz2 rfl (by decide) (some ⟨g, 0, none⟩) 0 0 [] hs (fun h => by cases h) rfl (fun b' hb' j u hj => by cases hj) ⟨b, off, none⟩ n c (flat l) hx hl hc (flat_one _) (by omega) (by unfold maxLen; omega) (by omega) (fun v' w' h1 h2 => h v' w' (by simpa using h1) h2)
set_option maxHeartbeats 16000000 in
set_option maxRecDepth 1000000 in
theorem rIns_ok (b off n cap i : Nat) (l : List (Int × Int)) (x L H E : Int) (w : World) (n0 : 2 ≤ n) (n1 : n ≤ 32) (i1 : i < n) (hcap : n ≤ cap) (hcap2 : cap ≤ 9223372036854775807) (hn : Hid (n = l.length)) (hb : b < w.heap.size)
    (hc : Hid (∀ j, j < n → w.cell? ⟨b, off + j * 2, none⟩ = some (.int .i64 (gX l j)) ∧ w.cell? ⟨b, off + j * 2 + 1, none⟩ = some (.int .i64 (gR l j))))
    (hlo : Hid (∀ k, k < i → gX l k < x)) (hhi : Hid (¬ gX l i < x))
    (h : (gX l i = x ∧ E = 6) ∨ (gX l i ≠ x ∧ (L != H) = true ∧ E = 10) ∨ (gX l i ≠ x ∧ L = H ∧ n = 32 ∧ E = 12) ∨ (gX l i ≠ x ∧ L = H ∧ n < 32 ∧ 1 ≤ i ∧ E = 0))
    (H1 : Hid (Calls Try.prog 37 #[.slice (some ⟨b, off, none⟩) n cap, .int .i64 x] w fun e w' => e = .returned (.int .i64 0) ∧ Below w.heap.size w w'))
    (H2 : Hid (∀ W, Below w.heap.size w W → Calls Try.prog 38 #[.slice (some ⟨b, off, none⟩) n cap, .int .i64 x] W fun e w' => e = .returned (.agg #[.int .i64 L, .int .i64 H]) ∧ Below W.heap.size W w')) :
    Calls Try.prog 21 #[.slice (some ⟨b, off, none⟩) n cap, .int .i64 x] w fun e w' => ∃ v, e = .returned (.tuple #[v, .int .i64 E]) ∧ Pts w' v (if E = 0 then l.take i ++ [(x, L)] ++ l.drop i else []) ∧ Below w.heap.size w w' := by
  obtain ⟨ti, hi, hz0, hz1, hz2⟩ := info_parts pt_info
  have HH := Lib.hid h
  clear h
  go_enter Try.func21, Try.ntmps21
  go_wp2_with fail
  refine H1.out.mono ?_
  rintro e w1 ⟨rfl, gg⟩
  have X1 := Lib.hid gg; clear gg
  go_wp2_with fail
  go_loopw [7] (fun ii wr => ∃ k : Nat, k ≤ i ∧ ii = .int .i64 k ∧ w1 = wr) (fun ii _ => n - (intOf ii).toNat)
  case atStart => exact ⟨0, Nat.zero_le _, rfl, rfl⟩
  case round =>
    obtain ⟨k, hk, rfl, rfl⟩ := hrel
    have hlt : k < n := by omega
    have c0 : w1.cell? ⟨b, off + k * 2, none⟩ = some (.int .i64 (gX l k)) := by rw [(bcell X1.out).1 _ _ hb]; exact (hc.out k hlt).1
    have l1 : (k : Int) < (n : Int) := by omega
    by_cases hki : k < i
    · have g := hlo.out k hki
      generalize gX l k = y at *
      go_wp2
      go_roundw
      case rel => exact ⟨k + 1, by omega, by go_num, by first | rfl | trivial⟩
      case measure => simp [intOf]; omega
    · obtain rfl : k = i := by omega
      have g := hhi.out
      have lt : Hid ((flat (l.take k)).length = k * 2) := by show _ = _; rw [flat_len, List.length_take]; have := hn.out; omega
      have ld : Hid ((flat (l.drop k)).length = (n - k) * 2) := by show _ = _; rw [flat_len, List.length_drop]; have := hn.out; omega
      have HC : Hid (∀ W, Below w.heap.size w W → ∀ j u, (flat l)[j]? = some u → W.cell? ⟨b, off + j, none⟩ = some u) := fun W hW j u hj => ((bcell hW).1 _ _ hb).trans (flat_cells hn.out hc.out j u hj)
      clear hlo hhi hc
      obtain ⟨y, hy⟩ : ∃ y, gX l k = y := ⟨_, rfl⟩
      rw [hy] at c0 g HH
      rcases HH.out with ⟨rfl, rfl⟩ | ⟨g1, g2, rfl⟩ | ⟨g1, rfl, rfl, rfl⟩ | ⟨g1, rfl, g3, g4, rfl⟩
      · go_wp2
        go_returns
        exact ⟨_, rfl, pts_nil _, X1.out⟩
      · have q1 : (y == x) = false := by simpa using g1
        go_wp2_with fail
        refine (H2.out _ X1.out).mono ?_
        rintro e w2 ⟨rfl, gg⟩
        have X2 := Lib.hid (bA (bel_trans X1.out gg) (.cells #[.int .i64 L, .int .i64 H] 33)); clear gg
        go_wp2
        go_returns
        exact ⟨_, rfl, pts_nil _, X2.out⟩
      · have q1 : (y == x) = false := by simpa using g1
        go_wp2_with fail
        refine (H2.out _ X1.out).mono ?_
        rintro e w2 ⟨rfl, gg⟩
        have X2 := Lib.hid (bA (bel_trans X1.out gg) (.cells #[.int .i64 L, .int .i64 L] 33)); clear gg
        go_wp2
        go_returns
        exact ⟨_, rfl, pts_nil _, X2.out⟩
      · have q1 : (y == x) = false := by simpa using g1
        have l3 : (k : Int) ≤ (cap : Int) := by omega
        have l4 : k ≤ cap := by omega
        have l5 : ((n : Int) == 32) = false := by rw [beq_eq_false_iff_ne]; omega
        have l6 : ¬ (n : Int) = 32 := by omega
        have l7 : k ≠ cap := by omega
        have l8 : cap ≠ k := by omega
        have l9 : (k : Int) ≤ (n : Int) := by omega
        go_wp2_with fail
        refine (H2.out _ X1.out).mono ?_
        rintro e w2 ⟨rfl, gg⟩
        have X2 := Lib.hid (bel_trans X1.out gg); clear gg
        have XA : Hid (Below w.heap.size w (((w2.alloc (.cells #[.int .i64 L, .int .i64 L] 33)).alloc (.cells #[] 30)).drew)) := bel_trans (bA (bA X2.out _) _) (bel_drew _)
        have XB : Hid (Below w.heap.size w ((((w2.alloc (.cells #[.int .i64 L, .int .i64 L] 33)).alloc (.cells #[] 30)).alloc (.cells #[.int .i64 x, .int .i64 L] 30)).drew)) := bel_trans (bA (bA (bA X2.out _) _) _) (bel_drew _)
        have XC : Hid (Below w.heap.size w ((((w2.alloc (.cells #[.int .i64 L, .int .i64 L] 33)).alloc (.cells #[.int .i64 x, .int .i64 L] 30)).alloc (.cells #[] 30)).drew)) := bel_trans (bA (bA (bA X2.out _) _) _) (bel_drew _)
        have NA := Lib.hid (take_cells (n := n) k (HC.out _ XA.out))
        have NB := Lib.hid (take_cells (n := n) k (HC.out _ XB.out))
        have NC := Lib.hid (take_cells (n := n) k (HC.out _ XC.out))
        have PB : Hid (∀ W', Below ((((w2.alloc (.cells #[.int .i64 L, .int .i64 L] 33)).alloc (.cells #[] 30)).alloc (.cells #[.int .i64 x, .int .i64 L] 30)).drew).heap.size ((((w2.alloc (.cells #[.int .i64 L, .int .i64 L] 33)).alloc (.cells #[] 30)).alloc (.cells #[.int .i64 x, .int .i64 L] 30)).drew) W' → ∀ j u, [(.int .i64 x : Value), .int .i64 L][j]? = some u → W'.cell? ((⟨w2.heap.size + 1 + 1, 0, none⟩ : Addr).add j) = some u) := fun W' hW j u hj => by
          have h1 := new_pt ((w2.alloc (.cells #[.int .i64 L, .int .i64 L] 33)).alloc (.cells #[] 30)) (.int .i64 x) (.int .i64 L) 30 j u hj
          rw [World.size_alloc, World.size_alloc, Go.WideShapes.add_plain] at h1
          rw [Go.WideShapes.add_plain, (bcell hW).1 _ _ (by show _ < (((w2.alloc (.cells #[.int .i64 L, .int .i64 L] 33)).alloc (.cells #[] 30)).alloc (.cells #[.int .i64 x, .int .i64 L] 30)).heap.size; simp)]
          exact h1
        have PC : Hid (∀ W', Below ((((w2.alloc (.cells #[.int .i64 L, .int .i64 L] 33)).alloc (.cells #[.int .i64 x, .int .i64 L] 30)).alloc (.cells #[] 30)).drew).heap.size ((((w2.alloc (.cells #[.int .i64 L, .int .i64 L] 33)).alloc (.cells #[.int .i64 x, .int .i64 L] 30)).alloc (.cells #[] 30)).drew) W' → ∀ j u, [(.int .i64 x : Value), .int .i64 L][j]? = some u → W'.cell? ((⟨w2.heap.size + 1, 0, none⟩ : Addr).add j) = some u) := fun W' hW j u hj => by
          have h1 := new_pt (w2.alloc (.cells #[.int .i64 L, .int .i64 L] 33)) (.int .i64 x) (.int .i64 L) 30 j u hj
          rw [World.size_alloc, Go.WideShapes.add_plain] at h1
          rw [Go.WideShapes.add_plain, (bcell hW).1 _ _ (by show _ < (((w2.alloc (.cells #[.int .i64 L, .int .i64 L] 33)).alloc (.cells #[.int .i64 x, .int .i64 L] 30)).alloc (.cells #[] 30)).heap.size; simp <;> omega)]
          exact cell_al (.cells #[] 30) h1
        have TB := Lib.hid (Two.new w2 (.int .i64 L) (.int .i64 L) 33)
        have p5 : Hid (w.heap.size ≤ w2.heap.size) := X2.out.size
        have TA := Lib.hid (((TB.out.alloc (.cells #[] 30))).below (bel_drew _))
        have TC := Lib.hid ((((TB.out.alloc (.cells #[] 30)).alloc (.cells #[.int .i64 x, .int .i64 L] 30))).below (bel_drew _))
        have TD := Lib.hid ((((TB.out.alloc (.cells #[.int .i64 x, .int .i64 L] 30)).alloc (.cells #[] 30))).below (bel_drew _))
        go_wp2_with fail
        go_region_law (first | (refine step_first rfl (.tmp 43) (.tmp 46) rfl (by simp [Act.eval, Act.put]) b off k cap (by simp [Act.eval, Act.put]) (l.take k) lt.out (by first | exact NA.out | exact NB.out | exact NC.out) (by omega) (by omega) ?_; intro v1 w5 hown1 hgrow1; have gB := (Below.refl _ _).grown hgrow1 (Nat.le_refl _) (fun k e => by cases e); have XD : Hid (Below w.heap.size w w5) := (by first | exact XA.out.trans (gB.mono XA.out.size) | exact XB.out.trans (gB.mono XB.out.size) | exact XC.out.trans (gB.mono XC.out.size)); obtain ⟨B1, hB1, hB2, ho1⟩ : ∃ B1, w.heap.size ≤ B1 ∧ B1 ≤ w5.heap.size ∧ w5.ownsRow B1 30 2 v1 k (flat (l.take k)) := ⟨_, (by first | exact XA.out.size | exact XB.out.size | exact XC.out.size), hgrow1.size, hown1⟩; clear hown1 hgrow1; have tb : Two w2.heap.size w5 (.int .i64 L) (.int .i64 L) := (by first | exact TA.out.below gB | exact TC.out.below gB | exact TD.out.below gB); have tb0 := tb.1; have tb1 := tb.2.1) | (refine step_pt rfl (.tmp 47) (.tmp 52) rfl B1 k w5.heap.size 1 v1 (l.take k) x L (by (simp [Act.eval, Act.put]; done)) (by (simp [Act.eval, Act.put]; done)) (ho1.alloc _) (by omega) (by first | exact hB2 | (simp; omega)) (new_pt w5 _ _ _) ?_; intro v2 w6 hown2 hgrow2) | (refine step_pt rfl (.tmp 47) (.tmp 52) rfl B1 k (w2.heap.size + 1 + 1) 1 v1 (l.take k) x L (by (simp [Act.eval, Act.put]; done)) (by (simp [Act.eval, Act.put]; done)) ho1 (by omega) (by first | exact hB2 | (simp; omega)) (PB.out _ gB) ?_; intro v2 w6 hown2 hgrow2) | (refine step_pt rfl (.tmp 47) (.tmp 52) rfl B1 k (w2.heap.size + 1) 1 v1 (l.take k) x L (by (simp [Act.eval, Act.put]; done)) (by (simp [Act.eval, Act.put]; done)) ho1 (by omega) (by first | exact hB2 | (simp; omega)) (PC.out _ gB) ?_; intro v2 w6 hown2 hgrow2))
        all_goals
          have XE : Hid (Below w.heap.size w w6) := (by first | exact XD.out.grown hgrow2 XD.out.size (fun j hj => Nat.le_trans hB1 ((ho1.lt j hj).1)) | exact (bA XD.out _).grown hgrow2 (bA XD.out _).size (fun j hj => Nat.le_trans hB1 ((ho1.lt j hj).1)))
          have hsz : B1 ≤ w6.heap.size := (by first | exact Nat.le_trans hB2 hgrow2.size | exact Nat.le_trans (Nat.le_trans hB2 (by simp)) hgrow2.size)
          clear NA NB NC PB PC TA TB TC TD XA XB XC tb0 tb1 tb
          go_wp2_with (at_builtin; refine wpList_append_own _ rfl _ _ 22 rfl _ 30 ti (.agg #[.int .i64 0, .int .i64 0]) 2 16 Try.underlying22 hi hz0 hz1 hz2 rfl (by omega) _ _ _ rfl hown2 ⟨b, off + k * 2, none⟩ (n - k) (cap - k) (flat (l.drop k)) ?r0 ?r1 ?r2 ?r3 ?r4 ?r5 ?r6 ?_)
          case r0 => first | rfl | simp [Act.eval, Act.put]
          case r1 => exact ld.out
          case r2 => exact drop_cells k (HC.out _ XE.out)
          case r3 => exact flat_one _
          case r4 => unfold maxLen; omega
          case r5 => omega
          case r6 => exact hsz
          intro v3 w7 hown3 hgrow3 _
          have R : OwnP w7 B1 v3 (l.take k ++ [(x, L)] ++ l.drop k) := by
            unfold OwnP
            rw [flat_app, flat_app, List.length_append, List.length_append, List.length_take, List.length_drop, show min k l.length + [(x, L)].length + (l.length - k) = k + 1 + (n - k) by have := hn.out; simp; omega, List.append_assoc]
            exact hown3
          have P := Lib.hid R.pts
          have XG := Lib.hid (XE.out.grown hgrow3 XE.out.size (fun j hj => Nat.le_trans hB1 ((hown2.lt j hj).1)))
          clear hown2 hown3 hgrow2 hgrow3 R
          go_wp2
          go_returns
          exact ⟨_, rfl, (by simpa using P.out), XG.out⟩
theorem refIns_any (v : Value) (l : List (Int × Int)) (x : Int) (w : World) (hv : Pts w v l) :
    Calls Try.prog 21 #[v, .int .i64 x] w fun e w' => ∃ u, e = .returned (.tuple #[u, .int .i64 (ixE l x)]) ∧ Pts w' u (ixL l x) ∧ Below w.heap.size w w' := by
  have HC := Lib.hid (ready_any v l x w hv)
  unfold ixL
  by_cases h : plE l x = 0
  · obtain ⟨hR, x0, x1⟩ := plE_zero.1 h
    have n0 := hR.n0
    have n1 := hR.n1
    obtain ⟨f1, f2, f3⟩ := fp_below hR x0 x1
    have ft := fp_twice hR x0 x1
    have e : ixE l x = (if gX l (pc l x - 1) = x ∨ gX l (pc l x) = x then 6 else if rdL l x ≠ rdH l x then 10 else if l.length = 32 then 12 else 0) := by unfold ixE; rw [if_pos h]
    rw [h] at HC
    have H2 : Hid (∀ W, Below w.heap.size w W → _) := fun W hW => radius_of (hv.below hW) hR x x0 x1
    have key : (gX l (fp l x) = x ∧ ixE l x = 6) ∨ (gX l (fp l x) ≠ x ∧ (rdL l x != rdH l x) = true ∧ ixE l x = 10) ∨ (gX l (fp l x) ≠ x ∧ rdL l x = rdH l x ∧ l.length = 32 ∧ ixE l x = 12) ∨ (gX l (fp l x) ≠ x ∧ rdL l x = rdH l x ∧ l.length < 32 ∧ 1 ≤ fp l x ∧ ixE l x = 0) := by
      by_cases g : gX l (fp l x) = x
      · exact .inl ⟨g, by rw [e, if_pos (ft.2 g)]⟩
      · have g' := fun hh => g (ft.1 hh)
        by_cases g2 : rdL l x = rdH l x
        · by_cases g3 : l.length = 32
          · exact .inr (.inr (.inl ⟨g, g2, g3, by rw [e, if_neg g', if_neg (by simpa using g2), if_pos g3]⟩))
          · refine .inr (.inr (.inr ⟨g, g2, by omega, ?_, by rw [e, if_neg g', if_neg (by simpa using g2), if_neg g3]⟩))
            have hi := (pc_is n0 x1).h1
            rw [(fp_pc hR g).1]; exact hi
        · exact .inr (.inl ⟨g, by simpa using g2, by rw [e, if_neg g', if_pos g2]⟩)
    have el : (if ixE l x = 0 then l.take (pc l x) ++ [(x, rdL l x)] ++ l.drop (pc l x) else []) = if ixE l x = 0 then l.take (fp l x) ++ [(x, rdL l x)] ++ l.drop (fp l x) else [] := by
      by_cases g : ixE l x = 0
      · rw [if_pos g, if_pos g]
        have : ¬ gX l (fp l x) = x := fun hh => by rw [e, if_pos (ft.2 hh)] at g; omega
        rw [(fp_pc hR this).1]
      · rw [if_neg g, if_neg g]
    rw [el]
    obtain ⟨a, cap, rfl, hl, hh⟩ := hv
    rcases hh with hh | ⟨b, off, rfl, hb, hc⟩
    · omega
    · exact rIns_ok b off l.length cap (fp l x) l x _ _ _ w n0 n1 f1 hl.1 hl.2 (Lib.hid rfl) hb (Lib.hid hc) (Lib.hid f2) (Lib.hid f3) key HC H2
  · have e : ixE l x = plE l x := by unfold ixE; rw [if_neg h]
    rw [e, if_neg h]
    exact (rIns_bad v x _ w (by simpa using h) (by simpa using h) HC).mono fun _ w' g => ⟨_, g.1, pts_nil w', g.2⟩
end Go.Proofs.Ytlofblpfohnooab
