/- The reference of layer 22: Of. -/
import Derived.Test.YtfpdanjhlepckaaDoorLRF2
import Derived.Test.YtfpdanjhlepckaaDoorLTF
namespace Go.Proofs.YtfpdanjhlepckaaDoor
open Go.RowKit

set_option maxHeartbeats 16000000 in
set_option maxRecDepth 100000 in
theorem rlOf_bad (a : Option Addr) (n cap : Nat) (l : List Lt) (f : Int) (w : World) (NV0 : Hid (Lts w (.slice a n cap) l)) (B : Bool) (HC : Hid (∀ W, Lts W (.slice a n cap) l → Calls Tryd.prog 42 #[.slice a n cap] W fun e w' => e = .returned (.bool B) ∧ Below W.heap.size W w')) (hB : B = false) :
    Calls Tryd.prog 19 #[.slice a n cap, .int .i64 f] w fun e w' => e = .returned (.tuple #[.int .i64 0, .int .i64 1]) ∧ Below w.heap.size w w' := by
  subst hB
  have HI := Lib.hid (fun W => rlId_any f W)
  go_enter Tryd.func19, Tryd.ntmps19
  go_wp2_with fail
  refine (HC.out _ NV0.out).mono ?_
  rintro e w1 ⟨rfl, h1⟩
  have X := Lib.hid h1
  clear h1 HC
  go_wp2
  go_returns
  exact ⟨rfl, X.out⟩
set_option maxHeartbeats 16000000 in
set_option maxRecDepth 100000 in
theorem rlOf_id (a : Option Addr) (n cap : Nat) (l : List Lt) (f : Int) (w : World) (NV0 : Hid (Lts w (.slice a n cap) l)) (B : Bool) (HC : Hid (∀ W, Lts W (.slice a n cap) l → Calls Tryd.prog 42 #[.slice a n cap] W fun e w' => e = .returned (.bool B) ∧ Below W.heap.size W w')) (hB : B = true) (hi : idB f = false) :
    Calls Tryd.prog 19 #[.slice a n cap, .int .i64 f] w fun e w' => e = .returned (.tuple #[.int .i64 0, .int .i64 2]) ∧ Below w.heap.size w w' := by
  subst hB
  have HI := Lib.hid (fun W => rlId_any f W)
  go_enter Tryd.func19, Tryd.ntmps19
  go_wp2_with fail
  refine (HC.out _ NV0.out).mono ?_
  rintro e w1 ⟨rfl, h1⟩
  have X := Lib.hid h1
  clear h1 HC
  rw [hi] at HI
  go_wp2_with fail
  refine (HI.out _).mono ?_
  rintro e w2 ⟨rfl, hw⟩
  subst hw
  go_wp2
  go_returns
  exact ⟨rfl, X.out⟩
set_option maxHeartbeats 16000000 in
set_option maxRecDepth 100000 in
theorem rlOf_ok (a : Option Addr) (n cap : Nat) (l : List Lt) (f : Int) (w : World) (NV0 : Hid (Lts w (.slice a n cap) l)) (B : Bool) (HC : Hid (∀ W, Lts W (.slice a n cap) l → Calls Tryd.prog 42 #[.slice a n cap] W fun e w' => e = .returned (.bool B) ∧ Below W.heap.size W w')) (hB : B = true) (hi : idB f = true) (hn : n ≤ 32) (HO : Hid (∀ k, k < n → shO (gL l k).sh = true ∧ (gL l k).sh.length ≤ 32)) (HS : Hid (∀ k, k ≤ n → 0 ≤ ofS l f k ∧ ofS l f k ≤ 343597383680000 * k)) (T : Int) (hT : Hid (ofS l f n = T)) :
    Calls Tryd.prog 19 #[.slice a n cap, .int .i64 f] w fun e w' => e = .returned (.tuple #[.int .i64 T, .int .i64 0]) ∧ Below w.heap.size w w' := by
  subst hB
  have HI := Lib.hid (fun W => rlId_any f W)
  go_enter Tryd.func19, Tryd.ntmps19
  go_wp2_with fail
  refine (HC.out _ NV0.out).mono ?_
  rintro e w1 ⟨rfl, h1⟩
  have X := Lib.hid h1
  clear h1 HC
  rw [hi] at HI
  go_wp2_with fail
  refine (HI.out _).mono ?_
  rintro e w2 ⟨rfl, hw⟩
  subst hw
  clear HI
  go_wp2_with fail
  go_loopw [6, 7] (fun t i wr => ∃ k : Nat, k ≤ n ∧ i = .int .i64 k ∧ t = .int .i64 (ofS l f k) ∧ Hid (Below w.heap.size w wr)) (fun _ i _ => n - (intOf i).toNat)
  case atStart => exact ⟨0, Nat.zero_le _, rfl, rfl, X⟩
  case round =>
    clear X
    obtain ⟨k, hk, rfl, rfl, X⟩ := hrel
    have NV := Lib.hid (NV0.out.below X.out)
    by_cases hlt : k < n
    · have l9 : (k : Int) < (n : Int) := by omega
      obtain ⟨ho, hc32⟩ := HO.out k hlt
      have b1 := HS.out k hk
      have s1 : ofS l f (k + 1) = ofS l f k + shF (gL l k).sh f (gL l k).sh.length := rfl
      obtain ⟨b, off, rfl, hb, hnl, hc⟩ := NV.out.at (by omega)
      clear hnl
      obtain ⟨sa, sc, c0, c1, c2, c3, hP⟩ := hc k (by omega)
      have PS := Lib.hid hP
      clear hc hP
      generalize gL l k = c at *
      obtain ⟨cd, cA, cM, cS⟩ := c
      simp only at c0 c1 c2 c3 s1 ho hc32
      replace PS : Hid (Pts wr (.slice sa cS.length sc) cS) := PS
      have HY := Lib.hid (shF_bd ho f)
      have HX := Lib.hid (fun j hj => (shB_false.1 (shO_iff.1 ho j hj)).2.2)
      clear ho
      replace s1 := Lib.hid s1
      generalize hcn : cS.length = cn at *
      generalize ofS l f k = S at *
      go_wp2_with fail
      go_loopw [6, 8] (fun t i wi => ∃ j : Nat, j ≤ cn ∧ i = .int .i64 j ∧ t = .int .i64 (S + shF cS f j) ∧ wi = wr) (fun _ i _ => cn - (intOf i).toNat)
      case atStart => exact ⟨0, Nat.zero_le _, rfl, by simp [shF], rfl⟩
      case round =>
        obtain ⟨j, hj, rfl, rfl, rfl⟩ := hrel
        by_cases hjn : j < cn
        · have l8 : (j : Int) < (cn : Int) := by omega
          have y := HY.out j hj
          have x := HX.out j hjn
          have s2 : shF cS f (j + 1) = if gX cS j = f then shF cS f j + gR cS j else shF cS f j := rfl
          obtain ⟨b', off', rfl, hb', hc'⟩ := PS.out.at (by omega)
          obtain ⟨d0, d1⟩ := hc' j hjn
          clear hc'
          generalize gX cS j = p at *
          generalize gR cS j = r at *
          generalize shF cS f j = Z at *
          have w1 : IntKind.i64.wrap (S + Z + r) = S + Z + r := wrap_in _ ⟨by omega, by omega⟩
          by_cases hpf : p = f
          · rw [if_pos hpf] at s2
            have d : (p == f) = true := by simpa using hpf
            clear hpf
            go_wp2
            go_roundw
            case rel => exact ⟨j + 1, by omega, by go_num, by rw [s2, Int.add_assoc], trivial⟩
            case measure => simp [intOf]; omega
          · rw [if_neg hpf] at s2
            have d : (p == f) = false := by simpa using hpf
            clear hpf
            go_wp2
            go_roundw
            case rel => exact ⟨j + 1, by omega, by go_num, by rw [s2], trivial⟩
            case measure => simp [intOf]; omega
        · obtain rfl : cn = j := by omega
          go_wp2
          go_roundw
          case rel => exact ⟨k + 1, by omega, by go_num, by rw [s1.out], X⟩
          case measure => simp [intOf]; omega
    · obtain rfl : k = n := by omega
      rw [hT.out]
      go_wp2
      go_returns
      exact ⟨rfl, X.out⟩
theorem rlOf_any (v : Value) (l : List Lt) (f : Int) (w : World) (hv : Lts w v l) :
    Calls Tryd.prog 19 #[v, .int .i64 f] w fun e w' => e = .returned (.tuple #[.int .i64 (ofV l f), .int .i64 (ofE l f)]) ∧ Below w.heap.size w w' := by
  obtain ⟨a, cap, rfl, hcap, _⟩ := id hv
  have HC := Lib.hid (fun W h => rlRi_any (.slice a l.length cap) l W h)
  unfold ofV
  by_cases h : ltE l = 0
  · have L := ltE_zero.1 h
    have hB : (ltE l == 0) = true := by simpa using h
    cases hi : idB f with
    | true =>
      have e : ofE l f = 0 := by unfold ofE; rw [if_neg (by omega), if_pos hi]
      rw [e]
      exact rlOf_ok a _ cap l f w hv _ HC hB hi L.len (Lib.hid fun k hk => ⟨(L.one hk).sh, (L.one hk).len⟩) (Lib.hid fun k hk => ofS_bd L f k hk) _ rfl
    | false =>
      have e : ofE l f = 2 := by unfold ofE; rw [if_neg (by omega), if_neg (by rw [hi]; simp)]
      rw [e]
      exact rlOf_id a _ cap l f w hv _ HC hB hi
  · have e : ofE l f = 1 := by unfold ofE; rw [if_pos h]
    rw [e]
    exact rlOf_bad a _ cap l f w hv _ HC (by simpa using h)
end Go.Proofs.YtfpdanjhlepckaaDoor

