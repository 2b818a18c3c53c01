/- Package proportion: Draw and Reduce. -/
import Derived.Test.YtlpngfngdigchaaDvd
namespace Go.Proofs.Ytlpngfngdigchaa
open Go.RowKit

/-! ### what Draw returns -/
def drawE (ps : List Int) (a : Int) : Int := if divE a ps = 0 then (if a ≤ ps.sum then 0 else 17) else divE a ps
def drawD (ps : List Int) (a : Int) : List Int := if drawE ps a = 0 then divP a ps else []
def drawS (ps : List Int) (a : Int) : List Int := if drawE ps a = 0 then List.zipWith (· - ·) ps (divP a ps) else []

theorem ins_nil (w : World) : Ins w (.slice none 0 0) [] := ⟨none, 0, rfl, by simp, .inl rfl⟩
theorem bneq {x y : Int} (h : x ≠ y) : (x != y) = true := by rw [bne_iff_ne]; exact h

theorem draw_err (ps : List Int) (a E : Int) (v : Value) (w : World) (hv : Ins w v ps) (hE : Hid (divE a ps = E)) (hne : (E != 0) = true) :
    Calls Try.prog 18 #[v, .int .i64 a] w fun e w' => e = .returned (.tuple #[.slice none 0 0, .slice none 0 0, .int .i64 E]) ∧ Below w.heap.size w w' := by
  have HD := Lib.hid (divide_any a v ps w hv); clear hv
  go_enter Try.func18, Try.ntmps18
  go_wp2_with fail
  refine HD.out.mono ?_
  rw [hE.out]
  rintro e w1 ⟨v', rfl, hi, hb⟩
  clear hi
  have HB := Lib.hid hb; clear hb
  go_wp2
  go_returns
  exact ⟨rfl, HB.out⟩

theorem draw_short (ps : List Int) (a : Int) (v : Value) (w : World) (hv : Ins w v ps) (hE : Hid (divE a ps = 0)) (hs : Hid (totS ps = ps.sum)) (hlt : ps.sum < a) :
    Calls Try.prog 18 #[v, .int .i64 a] w fun e w' => e = .returned (.tuple #[.slice none 0 0, .slice none 0 0, .int .i64 17]) ∧ Below w.heap.size w w' := by
  have HD := Lib.hid (divide_any a v ps w hv)
  have HV := Lib.hid hv; clear hv
  go_enter Try.func18, Try.ntmps18
  go_wp2_with fail
  refine HD.out.mono ?_
  rw [hE.out]
  rintro e w1 ⟨v', rfl, hi, hb⟩
  clear hi
  have HB := Lib.hid hb; clear hb
  go_wp2_with fail
  refine (total_any v ps _ (HV.out.below HB.out)).mono ?_
  rw [hs.out]
  rintro e w2 ⟨rfl, hb⟩
  have HB2 := Lib.hid (bel_trans HB.out hb); clear hb
  go_wp2
  go_returns
  exact ⟨rfl, HB2.out⟩

theorem divP_len (a : Int) (ws : List Int) (h : divE a ws = 0) : (divP a ws).length = ws.length := by
  unfold divP; rw [if_pos h, (give_len _ _).1]; simp [divQ]

theorem divE_zero {a : Int} {ws : List Int} (h : divE a ws = 0) : isAm a = true ∧ totE ws = 0 := by
  unfold divE at h
  split at h
  · rename_i h1; exact ⟨h1, h⟩
  · omega

theorem divP_bd (a : Int) (ws : List Int) (h : divE a ws = 0) : ∀ j, 0 ≤ (divP a ws).getD j 0 ∧ (divP a ws).getD j 0 ≤ 128849018880064 := by
  intro j
  obtain ⟨h1, h2⟩ := divE_zero h
  obtain ⟨d1, d2, d3⟩ := div_left a ws h1 h2
  obtain ⟨t1, t2, t3, t4, t5⟩ := totE_zero h2
  obtain ⟨a0, a1⟩ := (isAm_iff a).1 h1
  unfold divP; rw [if_pos h]
  have := give_bd (divL a ws) (divQ a ws) (divR a ws) 128849018880000 (by
    intro j
    by_cases hj : j < (divQ a ws).length
    · have hm : (divQ a ws).getD j 0 ∈ divQ a ws := by simp [List.getD, List.getElem?_eq_getElem hj]
      generalize (divQ a ws).getD j 0 = x at *
      unfold divQ at hm
      obtain ⟨y, hy, rfl⟩ := List.mem_map.1 hm
      have := of_weight a y ws h1 h2 hy
      omega
    · rw [List.getD_eq_getElem?_getD, List.getElem?_eq_none (by omega)]; simp) j
  omega

theorem zipSub_get (xs ys : List Int) (k : Nat) (h1 : k < xs.length) (h2 : k < ys.length) : (List.zipWith (· - ·) xs ys).getD k 0 = xs.getD k 0 - ys.getD k 0 := by
  simp [List.getD, List.getElem?_zipWith, List.getElem?_eq_getElem h1, List.getElem?_eq_getElem h2]

set_option maxHeartbeats 2000000 in
theorem draw_good (ps : List Int) (a : Int) (ad : Option Addr) (n cap : Nat) (w : World) (hn : n = ps.length) (hv : Ins w (.slice ad n cap) ps) (hE : divE a ps = 0) (hle : a ≤ ps.sum) :
    Calls Try.prog 18 #[.slice ad n cap, .int .i64 a] w fun e w' => ∃ v1 v2, e = .returned (.tuple #[v1, v2, .int .i64 0]) ∧ Ins w' v1 (divP a ps) ∧ Ins w' v2 (List.zipWith (· - ·) ps (divP a ps)) ∧ Below w.heap.size w w' := by
  obtain ⟨e1, e2⟩ := divE_zero hE
  obtain ⟨t1, t2, t3, t4, t5⟩ := totE_zero e2
  have lz := divP_len a ps hE
  have HBD := Lib.hid (divP_bd a ps hE)
  have HD := Lib.hid (divide_good a ad n cap ps w e1 hn hv e2)
  have HV := Lib.hid hv
  have HS := Lib.hid (show totS ps = ps.sum by unfold totS; rw [if_pos e2])
  have HT := Lib.hid e2
  have HA := Lib.hid t3
  have HN := Lib.hid hn
  have HLZ := Lib.hid (show (divP a ps).length = n by omega)
  have HLS := Lib.hid (show (List.zipWith (· - ·) ps (divP a ps)).length = n by rw [List.length_zipWith]; omega)
  have hn0 : 0 < n := by omega
  have hn1 : n ≤ 64 := by omega
  obtain ⟨i0, hi, hz0, hz1, hz2⟩ := info_parts Try.info3
  have HI := Lib.hid hi; have HZ0 := Lib.hid hz0; have HZ1 := Lib.hid hz1; have HZ2 := Lib.hid hz2
  clear hi hz0 hz1 hz2 hv hE e1 e2 t1 t2 t3 t4 t5 lz hn
  go_enter Try.func18, Try.ntmps18
  go_wp2_with fail
  refine HD.out.mono ?_
  rintro e w1 ⟨gd, cd, rfl, ho, hb⟩
  have O1 := Lib.hid ho; clear ho
  have HB := Lib.hid hb; clear hb
  go_wp2_with fail
  refine (total_any _ ps _ (HV.out.below HB.out)).mono ?_
  rw [HS.out, HT.out]
  rintro e w2 ⟨rfl, hb⟩
  have O2 := Lib.hid (O1.out.below hb)
  have HB2 := Lib.hid (bel_trans HB.out hb)
  have z2 := HB2.out.size
  clear hb O1 HB
  go_upto_region 8 with (at_make; refine wpList_make_full _ rfl _ _ 36 rfl w.heap.size 3 i0 (.int .i64 0) 1 Try.underlying36 HI.out HZ0.out HZ1.out .i64 .i64 _ _ n rfl rfl rfl rfl (by rw [HZ2.out]; omega) (by unfold maxLen; omega) (by omega) ?_; intro w3 ho3 hg3)
  rw [madeZeros] at ho3
  have hb3 : Below w2.heap.size w2 w3 := (Below.refl _ _).grown hg3 (Nat.le_refl _) (by simp)
  have O3 : Hid (Own w3 w.heap.size w2.heap.size n n (List.replicate n 0)) := ho3
  have HB3 := Lib.hid (bel_trans HB2.out hb3)
  have O4 := Lib.hid (O2.out.below hb3)
  have hne : gd ≠ w2.heap.size := by have := O2.out.lt.2; omega
  clear ho3 hg3 O2 hb3 HB2 z2
  generalize w2.heap.size = gs at *
  go_upto_block 0 with fail
  go_cut [] (fun wx => Hid (Own wx w.heap.size gd n cd (divP a ps)) ∧ Hid (Own wx w.heap.size gs n n (List.zipWith (· - ·) ps (divP a ps))) ∧ Hid (Below w.heap.size w wx))
  case first =>
    go_wp2_with fail
    go_loopw [36] (fun i wr => ∃ k : Nat, k ≤ n ∧ i = .int .i64 k ∧ Hid (Own wr w.heap.size gd n cd (divP a ps)) ∧ Hid (Own wr w.heap.size gs n n (fillTo (List.zipWith (· - ·) ps (divP a ps)) k)) ∧ Hid (Below w.heap.size w wr)) (fun i _ => n - (intOf i).toNat)
    case atStart => exact ⟨0, Nat.zero_le _, rfl, O4, by rw [fillTo_zero, HLS.out]; exact O3, HB3⟩
    case round =>
      obtain ⟨k, hk, rfl, P1, P2, P3⟩ := hrel
      by_cases hlt : k < n
      · have hkz : k < ps.length := by rw [← HN.out]; exact hlt
        obtain ⟨ad', cap', hveq, _, hin⟩ := HV.out.below P3.out
        have hcell : ∃ b off, ad = some ⟨b, off, none⟩ ∧ wr.cell? ⟨b, off + k, none⟩ = some (.int .i64 (ps.getD k 0)) := by
          simp only [Value.slice.injEq] at hveq
          rcases hin with hin | ⟨b, off, e, _, hc⟩
          · omega
          · exact ⟨b, off, by rw [hveq.1, e], hc k hkz⟩
        clear hveq hin ad' cap'
        obtain ⟨b, off, rfl, hcell⟩ := hcell
        obtain ⟨x0, x1⟩ := (isAm_iff _).1 (all_get ps HA.out k hkz)
        obtain ⟨y0, y1⟩ := HBD.out k
        have hz := zipSub_get ps (divP a ps) k hkz (by have := HLZ.out; omega)
        have F1 := Lib.hid (fillTo_set (List.zipWith (· - ·) ps (divP a ps)) k (by have := HLS.out; omega))
        rw [hz] at F1
        have lp := P1.out.lt.1
        have lr := P2.out.lt.1
        have c1 := P1.out.cell k hlt
        have c2 := P2.out.cell k hlt
        have f2 := World.ownsRow.frozenAt P2.out k
        have S1 := Lib.hid (P1.out.other ⟨gs, k, none⟩ (by simp; omega) (.int .i64 (ps.getD k 0 - (divP a ps).getD k 0)))
        have S2 := Lib.hid (P2.out.set k (ps.getD k 0 - (divP a ps).getD k 0))
        rw [F1.out] at S2
        have S3 := Lib.hid (P3.out.setCell (p := ⟨gs, k, none⟩) lr (.int .i64 (ps.getD k 0 - (divP a ps).getD k 0)))
        clear hz F1 hkz
        generalize ps.getD k 0 = x at *
        generalize (divP a ps).getD k 0 = y at *
        go_wp2
        go_roundw
        case rel => exact ⟨k + 1, by omega, by go_num, S1, S2, S3⟩
        case measure => simp [intOf]; omega
      · obtain rfl : k = n := by omega
        have E1 := fillTo_all (List.zipWith (· - ·) ps (divP a ps)) k (by have := HLS.out; omega)
        rw [E1] at P2
        clear E1
        go_wp2
        go_meet
        case rel => exact ⟨P1, P2, P3⟩
  case rest =>
  obtain ⟨P1, P2, P3⟩ := hcut
  go_wp2
  go_returns
  exact ⟨_, _, rfl, P1.out.ins (by omega), P2.out.ins (by omega), P3.out⟩

theorem draw_any (ps : List Int) (a : Int) (v : Value) (w : World) (hv : Ins w v ps) :
    Calls Try.prog 18 #[v, .int .i64 a] w fun e w' => ∃ v1 v2, e = .returned (.tuple #[v1, v2, .int .i64 (drawE ps a)]) ∧ Ins w' v1 (drawD ps a) ∧ Ins w' v2 (drawS ps a) ∧ Below w.heap.size w w' := by
  unfold drawD drawS
  by_cases h0 : divE a ps = 0
  · by_cases hle : a ≤ ps.sum
    · have e : drawE ps a = 0 := by unfold drawE; rw [if_pos h0, if_pos hle]
      rw [e, if_pos rfl, if_pos rfl]
      have hv0 := hv
      obtain ⟨ad, cap, rfl, hl, _⟩ := hv0
      exact draw_good ps a ad _ cap w rfl hv h0 hle
    · have e : drawE ps a = 17 := by unfold drawE; rw [if_pos h0, if_neg hle]
      rw [e, if_neg (by omega), if_neg (by omega)]
      exact (draw_short ps a v w hv h0 (by show _ = _; unfold totS; rw [if_pos (divE_zero h0).2]) (by omega)).mono fun _ w' g => ⟨_, _, g.1, ins_nil w', ins_nil w', g.2⟩
  · have e : drawE ps a = divE a ps := by unfold drawE; rw [if_neg h0]
    rw [e, if_neg h0, if_neg h0]
    exact (draw_err ps a _ v w hv rfl (bneq h0)).mono fun _ w' g => ⟨_, _, g.1, ins_nil w', ins_nil w', g.2⟩

/-! ### Reduce -/
def redE (a b : Int) : Int := if isAm a && isAm b then (if b = 0 then 16 else 0) else 2
def gcdI (a b : Int) : Int := (Nat.gcd a.toNat b.toNat : Int)
def redA (a b : Int) : Int := if redE a b = 0 then a / gcdI a b else 0
def redB (a b : Int) : Int := if redE a b = 0 then b / gcdI a b else 0

theorem gcdI_step (a b : Int) (ha : 0 ≤ a) (hb : 0 < b) : gcdI b (a % b) = gcdI a b := by
  obtain ⟨A, rfl⟩ := Int.eq_ofNat_of_zero_le ha
  obtain ⟨B, rfl⟩ := Int.eq_ofNat_of_zero_le (show 0 ≤ b by omega)
  unfold gcdI
  have : ((A : Int) % (B : Int)).toNat = A % B := by rw [← Int.natCast_emod, Int.toNat_natCast]
  rw [this]
  simp only [Int.toNat_natCast]
  rw [Nat.gcd_comm A B, Nat.gcd_comm B (A % B), ← Nat.gcd_rec]
theorem gcdI_zero (a : Int) (ha : 0 ≤ a) : gcdI a 0 = a := by unfold gcdI; simp; omega
theorem gcdI_pos (a b : Int) (hb : 0 < b) : 0 < gcdI a b := by
  unfold gcdI
  have := Nat.gcd_pos_of_pos_right a.toNat (show 0 < b.toNat by omega)
  omega
theorem gcdI_le (a b : Int) (hb : 0 < b) : gcdI a b ≤ b := by
  unfold gcdI
  have := Nat.gcd_le_right a.toNat (show 0 < b.toNat by omega)
  omega

theorem divisor_any (a b G : Int) (w : World) (a0 : 0 ≤ a) (a1 : a ≤ 9223372036854775807) (b0 : 0 ≤ b) (b1 : b ≤ 9223372036854775807) (hG : Hid (gcdI a b = G)) :
    Calls Try.prog 37 #[.int .i64 a, .int .i64 b] w fun e w' => e = .returned (.int .i64 G) ∧ Below w.heap.size w w' := by
  go_enter Try.func37, Try.ntmps37
  go_wp2_with fail
  go_loopw [0, 1] (fun x y wr => ∃ p q : Int, x = .int .i64 p ∧ y = .int .i64 q ∧ 0 ≤ p ∧ p ≤ 9223372036854775807 ∧ 0 ≤ q ∧ q ≤ 9223372036854775807 ∧ Hid (gcdI p q = G) ∧ Hid (Below w.heap.size w wr)) (fun _ y _ => (intOf y).toNat)
  case atStart => exact ⟨a, b, rfl, rfl, a0, a1, b0, b1, hG, Below.refl _ _⟩
  case round =>
    obtain ⟨p, q, rfl, rfl, p0, p1, q0, q1, hg, hb⟩ := hrel
    by_cases hq : 0 < q
    · have HS := Lib.hid (gcdI_step p q p0 hq)
      have r0 := Int.emod_nonneg p (show q ≠ 0 by omega)
      have r1 := Int.emod_lt_of_pos p hq
      go_wp2_with fail
      go_quiet (fail)
      go_wp2
      go_roundw
      case rel => exact ⟨q, p % q, rfl, rfl, by omega, by omega, by omega, by omega, by show _ = _; rw [HS.out, hg.out], bel_trans hb.out (bel_drewN _ _)⟩
      case measure => simp [intOf]; omega
    · obtain rfl : q = 0 := by omega
      have HG : Hid (p = G) := by show _ = _; rw [← hg.out, gcdI_zero p p0]
      clear hG hg
      go_wp2
      go_ret
      rw [HG.out]
      exact ⟨rfl, hb.out⟩

theorem reduce_bad (a b : Int) (w : World) (h : (isAm a && isAm b) = false) :
    Calls Try.prog 24 #[.int .i64 a, .int .i64 b] w fun e w' => e = .returned (.tuple #[.int .i64 0, .int .i64 0, .int .i64 2]) ∧ Below w.heap.size w w' := by
  have H := Lib.hid h; clear h
  go_enter Try.func24, Try.ntmps24
  go_wp2_with (go_at_call 25; refine (amounts2 _ _ _ _ H.out).mono ?_; rintro e w' ⟨rfl, rfl⟩)
  go_returns
  exact ⟨rfl, by go_grown⟩
theorem reduce_zero (a : Int) (w : World) (h : (isAm a && isAm 0) = true) :
    Calls Try.prog 24 #[.int .i64 a, .int .i64 0] w fun e w' => e = .returned (.tuple #[.int .i64 0, .int .i64 0, .int .i64 16]) ∧ Below w.heap.size w w' := by
  have H := Lib.hid h; clear h
  go_enter Try.func24, Try.ntmps24
  go_wp2_with (go_at_call 25; refine (amounts2 _ _ _ _ H.out).mono ?_; rintro e w' ⟨rfl, rfl⟩)
  go_returns
  exact ⟨rfl, by go_grown⟩
theorem reduce_good (a b G : Int) (w : World) (h : (isAm a && isAm b) = true) (hb : 1 ≤ b) (hG : Hid (gcdI a b = G)) :
    Calls Try.prog 24 #[.int .i64 a, .int .i64 b] w fun e w' => e = .returned (.tuple #[.int .i64 (a / G), .int .i64 (b / G), .int .i64 0]) ∧ Below w.heap.size w w' := by
  have h' := h
  simp only [Bool.and_eq_true, isAm_iff] at h'
  obtain ⟨⟨a0, a1⟩, b0, b1⟩ := h'
  have H := Lib.hid h; clear h
  have g0 : 0 < G := by rw [← hG.out]; exact gcdI_pos a b (by omega)
  have hb' : (b == 0) = false := by rw [beq_eq_false_iff_ne]; omega
  go_enter Try.func24, Try.ntmps24
  go_wp2_with (go_at_call 25; refine (amounts2 _ _ _ _ H.out).mono ?_; rintro e w' ⟨rfl, rfl⟩)
  refine (divisor_any a b G _ a0 (by omega) b0 (by omega) hG).mono ?_
  rintro e w1 ⟨rfl, hbl⟩
  have HB := Lib.hid (bel_alloc hbl); clear hbl
  go_wp2_with fail
  go_quiet (fail)
  go_wp2
  go_returns
  exact ⟨rfl, bel_trans HB.out (bel_drewN _ _)⟩

theorem reduce_any (a b : Int) (w : World) :
    Calls Try.prog 24 #[.int .i64 a, .int .i64 b] w fun e w' => e = .returned (.tuple #[.int .i64 (redA a b), .int .i64 (redB a b), .int .i64 (redE a b)]) ∧ Below w.heap.size w w' := by
  unfold redA redB
  cases h : (isAm a && isAm b) with
  | false =>
    have e : redE a b = 2 := by unfold redE; rw [h]; rfl
    rw [e]; exact reduce_bad a b w h
  | true =>
    by_cases hb : b = 0
    · subst hb
      have e : redE a 0 = 16 := by unfold redE; rw [h]; rfl
      rw [e]; exact reduce_zero a w h
    · have e : redE a b = 0 := by unfold redE; rw [h, if_pos rfl, if_neg hb]
      have h' := h
      simp only [Bool.and_eq_true, isAm_iff] at h'
      rw [e]; exact reduce_good a b _ w h (by omega) rfl

end Go.Proofs.Ytlpngfngdigchaa
