/- Package profile: Inside. -/
import Derived.Test.YtlofblpfohnooabPPQ
import Derived.Test.YtlofblpfohnooabPPJ
namespace Go.Proofs.Ytlofblpfohnooab
open Go.RowKit

/-- the X of those of the first k points that lie between h and e -/
def plK (l : List (Int × Int)) (h e : Int) : Nat → List Int
  | 0 => []
  | k + 1 => if h < gX l k ∧ gX l k < e then plK l h e k ++ [gX l k] else plK l h e k
theorem plK_len (l : List (Int × Int)) (h e : Int) (k : Nat) : (plK l h e k).length ≤ k := by
  induction k with
  | zero => simp [plK]
  | succ k ih =>
    unfold plK
    split
    · rw [List.length_append]; simp; omega
    · omega
noncomputable def inPt (l : List (Int × Int)) (s h x : Int) : Int × Int := (x - h, rdL l x - s)
/-- the end of the inner profile, counted outside -/
def inEnd (l : List (Int × Int)) (h : Int) : Int := gX l (l.length - 1) - h
noncomputable def inW (l : List (Int × Int)) (s h : Int) : List (Int × Int) := [inPt l s h h] ++ (plK l h (inEnd l h) l.length).map (inPt l s h) ++ [inPt l s h (inEnd l h)]
noncomputable def inE (l : List (Int × Int)) (s h : Int) : Int :=
  if ckE l = 0 then (if (lenB s && lenB h) = true then (if inEnd l h ≤ h then 5 else ckE (inW l s h)) else 2) else 1
noncomputable def inR (l : List (Int × Int)) (s h : Int) : List (Int × Int) := if inE l s h = 0 then inW l s h else []

theorem In_arg (ad : Option Addr) (n cap : Nat) (s h E : Int) (w : World) (e1 : (E == 0) = false) (e2 : (E != 0) = true)
    (H1 : Hid (∀ W, Below w.heap.size w W → Calls Try.prog 16 #[.slice ad n cap] W fun e w' => e = .returned (.int .i64 E) ∧ Below W.heap.size W w')) :
    Calls Try.prog 26 #[.slice ad n cap, .int .i64 s, .int .i64 h] w fun e w' => e = .returned (.tuple #[.slice none 0 0, .int .i64 1]) ∧ Below w.heap.size w w' := by
  go_enter Try.func26, Try.ntmps26
  go_wp2_with fail
  refine (H1.out _ (bel_alloc (bel_alloc (bel_alloc (Below.refl _ _))))).mono ?_
  rintro e w1 ⟨rfl, gg⟩
  have X1 := Lib.hid (bel_alloc (bel_alloc (bel_alloc gg))); clear gg
  go_wp2
  go_returns
  exact ⟨rfl, X1.out⟩
/-- the first three boxes -/
theorem three_box (w : World) (v : Value) (s h : Int) : Boxed (((w.alloc (.cells #[v] 22)).alloc (.cells #[.int .i64 s] 3)).alloc (.cells #[.int .i64 h] 3)) w.heap.size 22 v ∧ Boxed (((w.alloc (.cells #[v] 22)).alloc (.cells #[.int .i64 s] 3)).alloc (.cells #[.int .i64 h] 3)) (w.heap.size + 1) 3 (.int .i64 s) ∧ Boxed (((w.alloc (.cells #[v] 22)).alloc (.cells #[.int .i64 s] 3)).alloc (.cells #[.int .i64 h] 3)) (w.heap.size + 1 + 1) 3 (.int .i64 h) := by
  refine ⟨((Boxed.new w 22 v).alloc _).alloc _, ?_, ?_⟩
  · have := (Boxed.new (w.alloc (.cells #[v] 22)) 3 (.int .i64 s)).alloc (.cells #[.int .i64 h] 3)
    rwa [World.size_alloc] at this
  · have := Boxed.new ((w.alloc (.cells #[v] 22)).alloc (.cells #[.int .i64 s] 3)) 3 (.int .i64 h)
    rwa [World.size_alloc, World.size_alloc] at this
set_option maxHeartbeats 4000000 in
theorem In_range (ad : Option Addr) (n cap : Nat) (s h : Int) (S H : Bool) (w : World) (hq : S = false ∨ (S = true ∧ H = false))
    (H1 : Hid (∀ W, Below w.heap.size w W → Calls Try.prog 16 #[.slice ad n cap] W fun e w' => e = .returned (.int .i64 0) ∧ Below W.heap.size W w'))
    (L1 : Hid (∀ W, Calls Try.prog 41 #[.int .i64 s] W fun e w' => e = .returned (.bool S) ∧ W = w'))
    (L2 : Hid (∀ W, Calls Try.prog 41 #[.int .i64 h] W fun e w' => e = .returned (.bool H) ∧ W = w')) :
    Calls Try.prog 26 #[.slice ad n cap, .int .i64 s, .int .i64 h] w fun e w' => e = .returned (.tuple #[.slice none 0 0, .int .i64 2]) ∧ Below w.heap.size w w' := by
  obtain ⟨b1, b2, b3⟩ := three_box w (.slice ad n cap) s h
  have B1 := Lib.hid b1
  have B2 := Lib.hid b2
  have B3 := Lib.hid b3
  clear b1 b2 b3
  go_enter Try.func26, Try.ntmps26
  go_wp2_with fail
  refine (H1.out _ (bel_alloc (bel_alloc (bel_alloc (Below.refl _ _))))).mono ?_
  rintro e w1 ⟨rfl, gg⟩
  have c2 := (box_below B2.out gg).cell
  have c3 := (box_below B3.out gg).cell
  have X1 := Lib.hid (bel_alloc (bel_alloc (bel_alloc gg))); clear gg
  rcases hq with rfl | ⟨rfl, rfl⟩
  · go_wp2_with fail
    refine (L1.out _).mono ?_
    rintro e w2 ⟨rfl, hw⟩
    subst hw
    go_wp2
    go_returns
    exact ⟨rfl, X1.out⟩
  · go_wp2_with fail
    refine (L1.out _).mono ?_
    rintro e w2 ⟨rfl, hw⟩
    subst hw
    go_wp2_with fail
    refine (L2.out _).mono ?_
    rintro e w2 ⟨rfl, hw⟩
    subst hw
    go_wp2
    go_returns
    exact ⟨rfl, X1.out⟩
set_option maxHeartbeats 16000000 in
set_option maxRecDepth 100000 in
theorem In_go (b off n cap : Nat) (l : List (Int × Int)) (s h X en E : Int) (w : World) (n1 : n ≤ 32) (hb : b < w.heap.size) (hX : 0 ≤ X ∧ X ≤ 100000) (hh : 0 ≤ h ∧ h ≤ 100000) (he : X - h = en)
    (hq : (en ≤ h ∧ E = 5) ∨ (¬ en ≤ h ∧ E = ckE ([inPt l s h h] ++ (plK l h en n).map (inPt l s h) ++ [inPt l s h en])))
    (hc : Hid (∀ j, j < n → w.cell? ⟨b, off + j * 2, none⟩ = some (.int .i64 (gX l j)) ∧ w.cell? ⟨b, off + j * 2 + 1, none⟩ = some (.int .i64 (gR l j))))
    (H1 : Hid (∀ W, Below w.heap.size w W → Calls Try.prog 16 #[.slice (some ⟨b, off, none⟩) n cap] W fun e w' => e = .returned (.int .i64 0) ∧ Below W.heap.size W w'))
    (L1 : Hid (∀ W, Calls Try.prog 41 #[.int .i64 s] W fun e w' => e = .returned (.bool true) ∧ W = w'))
    (L2 : Hid (∀ W, Calls Try.prog 41 #[.int .i64 h] W fun e w' => e = .returned (.bool true) ∧ W = w'))
    (H2 : Hid (∀ W, Below w.heap.size w W → Calls Try.prog 28 #[.slice (some ⟨b, off, none⟩) n cap] W fun e w' => e = .returned (.int .i64 X) ∧ w' = W))
    (HP : Hid (∀ pi x raw W, w.heap.size + 1 + 1 < pi → (0 ≤ x ∧ x ≤ X) → raw.length ≤ 900 → ISt w.heap.size pi w (.slice (some ⟨b, off, none⟩) n cap) s h raw W → Calls Try.prog 42 #[.int .i64 x, .pointer (some ⟨w.heap.size, 0, none⟩), .pointer (some ⟨pi, 0, none⟩), .pointer (some ⟨w.heap.size + 1 + 1, 0, none⟩), .pointer (some ⟨w.heap.size + 1, 0, none⟩)] W fun e W' => e = .returned (.tuple #[]) ∧ ISt w.heap.size pi w (.slice (some ⟨b, off, none⟩) n cap) s h (raw ++ [inPt l s h x]) W')) :
    Calls Try.prog 26 #[.slice (some ⟨b, off, none⟩) n cap, .int .i64 s, .int .i64 h] w fun e w' => ∃ u, e = .returned (.tuple #[u, .int .i64 E]) ∧ Pts w' u (if E = 0 then [inPt l s h h] ++ (plK l h en n).map (inPt l s h) ++ [inPt l s h en] else []) ∧ Below w.heap.size w w' := by
  have hmf : ∀ (fn : Fn) (first cap : Array Value) (w : World), (Instr.makeFunc fn first cap).run Try.prog w = .ok (.func fn first cap) w := fun _ _ _ _ => rfl
  obtain ⟨b1, b2, b3⟩ := three_box w (.slice (some ⟨b, off, none⟩) n cap) s h
  have B1 := Lib.hid b1
  have B2 := Lib.hid b2
  have B3 := Lib.hid b3
  clear b1 b2 b3
  have ws : IntKind.i64.wrap (X - h) = en := by rw [wrap_in _ ⟨by omega, by omega⟩]; exact he
  go_enter Try.func26, Try.ntmps26
  go_wp2_with fail
  refine (H1.out _ (bel_alloc (bel_alloc (bel_alloc (Below.refl _ _))))).mono ?_
  rintro e w1 ⟨rfl, gg⟩
  replace B1 := Lib.hid (box_below B1.out gg)
  replace B2 := Lib.hid (box_below B2.out gg)
  replace B3 := Lib.hid (box_below B3.out gg)
  have c1 := B1.out.cell
  have c2 := B2.out.cell
  have c3 := B3.out.cell
  have X1 := Lib.hid (bel_alloc (bel_alloc (bel_alloc gg))); clear gg
  go_wp2_with fail
  refine (L1.out _).mono ?_
  rintro e w2 ⟨rfl, hw⟩
  subst hw
  go_wp2_with fail
  refine (L2.out _).mono ?_
  rintro e w2 ⟨rfl, hw⟩
  subst hw
  go_wp2_with fail
  go_quiet ((go_at_call 28; refine Calls.quiet_of_same (H2.out _ (bel_trans X1.out (bel_drewN _ _)))))
  replace B1 := Lib.hid (box_below B1.out (bel_drewN _ nq))
  replace B2 := Lib.hid (box_below B2.out (bel_drewN _ nq))
  replace B3 := Lib.hid (box_below B3.out (bel_drewN _ nq))
  replace X1 := Lib.hid (bel_trans X1.out (bel_drewN _ nq))
  clear c1 c2 c3
  generalize w1.drewN nq = wa at *
  rcases hq with ⟨q1, rfl⟩ | ⟨q1, hEE⟩
  · go_wp2
    go_returns
    exact ⟨_, rfl, pts_nil _, X1.out⟩
  · have I0 : Hid (ISt w.heap.size wa.heap.size w (.slice (some ⟨b, off, none⟩) n cap) s h [] (wa.alloc (.cells #[.slice none 0 0] 22))) :=
      ⟨B1.out.alloc _, B2.out.alloc _, B3.out.alloc _, ⟨_, Boxed.new wa 22 (.slice none 0 0), World.ownsRow_nil _ _ _ _⟩, bA X1.out _⟩
    have hpi : w.heap.size + 1 + 1 < wa.heap.size := B3.out.lt
    clear B1 B2 B3 X1
    have HE := Lib.hid hEE.symm; clear hEE
    go_wp2_with fail
    refine (HP.out _ h [] _ hpi ⟨by omega, by omega⟩ (by simp) I0.out).mono ?_
    rintro e w4 ⟨rfl, hI⟩
    have I1 := Lib.hid hI; clear hI I0
    have c1 := I1.out.1.cell
    go_wp2_with fail
    clear c1
    go_loopw [13, 40] (fun _ ii wr => ∃ k : Nat, k ≤ n ∧ ii = .int .i64 k ∧ Hid (ISt w.heap.size wa.heap.size w (.slice (some ⟨b, off, none⟩) n cap) s h ([inPt l s h h] ++ (plK l h en k).map (inPt l s h)) wr)) (fun _ ii _ => n - (intOf ii).toNat)
    case atStart => exact ⟨0, Nat.zero_le _, rfl, I1⟩
    case round =>
      obtain ⟨k, hk, rfl, hI⟩ := hrel
      by_cases hlt : k < n
      · have hB := hI.out.2.2.2.2
        have c0 : wr.cell? ⟨b, off + k * 2, none⟩ = some (.int .i64 (gX l k)) := by rw [(bcell hB).1 _ _ hb]; exact (hc.out k hlt).1
        have c1 : wr.cell? ⟨b, off + k * 2 + 1, none⟩ = some (.int .i64 (gR l k)) := by rw [(bcell hB).1 _ _ hb]; exact (hc.out k hlt).2
        have EP : Hid (plK l h en (k + 1) = if h < gX l k ∧ gX l k < en then plK l h en k ++ [gX l k] else plK l h en k) := rfl
        have l1 : (k : Int) < (n : Int) := by omega
        have hlen := plK_len l h en k
        have I2 := Lib.hid (hI.out.below (bel_alloc (o := .cells #[.int .i64 (gX l k), .int .i64 (gR l k)] 30) (Below.refl _ _)))
        have TT := Lib.hid (Two.new wr (.int .i64 (gX l k)) (.int .i64 (gR l k)) 30)
        generalize gX l k = x at *
        generalize gR l k = r at *
        obtain ⟨t0, t1, _, _, _⟩ := TT.out
        clear hB hI
        by_cases g1 : h < x
        · by_cases g2 : x < en
          · have e1 : plK l h en (k + 1) = plK l h en k ++ [x] := by rw [EP.out, if_pos ⟨g1, g2⟩]
            have d1 : decide (h < x) = true := decide_eq_true g1
            have d2 : decide (x < en) = true := decide_eq_true g2
            have hlen2 : ([inPt l s h h] ++ (plK l h en k).map (inPt l s h)).length ≤ 900 := by simp; omega
            have E1 := Lib.hid e1
            clear EP e1
            go_wp2_with fail
            refine (HP.out _ x _ _ hpi ⟨by omega, by omega⟩ hlen2 I2.out).mono ?_
            rintro e w5 ⟨rfl, hI⟩
            have I3 : Hid (ISt w.heap.size wa.heap.size w (.slice (some ⟨b, off, none⟩) n cap) s h ([inPt l s h h] ++ (plK l h en (k + 1)).map (inPt l s h)) w5) := by
              show ISt _ _ _ _ _ _ _ _
              rw [E1.out, List.map_append, ← List.append_assoc]
              exact hI
            clear hI I2 hlen2
            go_wp2
            go_roundw
            case rel => exact ⟨k + 1, by omega, by go_num, I3⟩
            case measure => simp [intOf]; omega
          · have e1 : plK l h en (k + 1) = plK l h en k := by rw [EP.out, if_neg (fun hh => g2 hh.2)]
            have d1 : decide (h < x) = true := decide_eq_true g1
            have d2 : decide (x < en) = false := decide_eq_false g2
            rw [← e1] at I2
            clear EP e1
            go_wp2
            go_roundw
            case rel => exact ⟨k + 1, by omega, by go_num, I2⟩
            case measure => simp [intOf]; omega
        · have e1 : plK l h en (k + 1) = plK l h en k := by rw [EP.out, if_neg (fun hh => g1 hh.1)]
          have d1 : decide (h < x) = false := decide_eq_false g1
          rw [← e1] at I2
          clear EP e1
          go_wp2
          go_roundw
          case rel => exact ⟨k + 1, by omega, by go_num, I2⟩
          case measure => simp [intOf]; omega
      · obtain rfl : k = n := by omega
        have hlen := plK_len l h en k
        have hlen2 : ([inPt l s h h] ++ (plK l h en k).map (inPt l s h)).length ≤ 900 := by simp; omega
        go_wp2_with fail
        refine (HP.out _ en _ _ hpi ⟨by omega, by omega⟩ hlen2 hI.out).mono ?_
        rintro e w5 ⟨rfl, hI2⟩
        obtain ⟨k1, k2, k3, ⟨v, k4, k5⟩, k6⟩ := hI2
        have XB := Lib.hid k6
        have PV := Lib.hid k5.pts
        have KB := Lib.hid k4
        have d4 := k4.cell
        clear k1 k2 k3 k4 k5 k6 hI hlen hlen2
        go_wp2_with fail
        have HK := ck_any v _ w5 PV.out
        rw [HE.out] at HK
        refine HK.mono ?_
        rintro e w6 ⟨rfl, gg⟩
        have c4 := (box_below KB.out gg).cell
        have P2 := Lib.hid (PV.out.below gg)
        have XC := Lib.hid (bel_trans XB.out gg)
        clear gg HK d4
        by_cases hz : E = 0
        · subst hz
          go_wp2
          go_returns
          exact ⟨_, rfl, by simpa using P2.out, XC.out⟩
        · have z1 : (E == 0) = false := by simpa using hz
          have z2 : (E != 0) = true := by simpa using hz
          go_wp2
          go_returns
          exact ⟨_, rfl, by first | exact pts_nil _ | (rw [if_neg hz]; exact pts_nil _), XC.out⟩
end Go.Proofs.Ytlofblpfohnooab
