/- The statements about layer 8: the numbers of the chapter's examples. -/
import Derived.Test.YtlofblpfohnooabPPO
import Derived.Test.YtlofblpfohnooabPRE
namespace Go.Proofs.Ytlofblpfohnooab
open Go.RowKit

def l0 : List (Int × Int) := [(0, 300), (500, 400), (1000, 300)]
theorem l0_ck : ckE l0 = 0 ∧ lgQ l0 = 1000 ∧ buQ l0 = 1 := by decide +kernel
theorem l0_tu : tuR l0 = l0 := by decide +kernel
theorem pc_3 : pc l0 3 = 1 := pc_of ⟨by decide, by decide, by decide, fun j h1 h2 => by omega⟩
theorem pc_5 : pc l0 5 = 1 := pc_of ⟨by decide, by decide, by decide, fun j h1 h2 => by omega⟩
theorem pc_10 : pc l0 10 = 1 := pc_of ⟨by decide, by decide, by decide, fun j h1 h2 => by omega⟩
theorem pc_500 : pc l0 500 = 1 := pc_of ⟨by decide, by decide, by decide, fun j h1 h2 => by omega⟩
theorem pc_990 : pc l0 990 = 2 := pc_of ⟨by decide, by decide, by decide, fun j h1 h2 => by
  obtain rfl : j = 1 := by omega
  decide⟩
theorem l0_at : plE l0 3 = 0 ∧ atL l0 3 = 300 ∧ atH l0 3 = 301 := by
  have h : plE l0 3 = 0 := by decide +kernel
  unfold atL atH
  rw [if_pos h, if_pos h]
  unfold rdL rdH
  rw [pc_3]
  exact ⟨h, by decide +kernel, by decide +kernel⟩
theorem l0_ix : ixE l0 5 = 0 ∧ ixL l0 5 = [(0, 300), (5, 301), (500, 400), (1000, 300)] := by
  have h : plE l0 5 = 0 := by decide +kernel
  have r1 : rdL l0 5 = 301 := by unfold rdL; rw [pc_5]; decide +kernel
  have r2 : rdH l0 5 = 301 := by unfold rdH; rw [pc_5]; decide +kernel
  have e : ixE l0 5 = 0 := by
    unfold ixE
    rw [if_pos h, pc_5, r1, r2]
    decide +kernel
  unfold ixL
  rw [if_pos e, r1, pc_5]
  exact ⟨e, by decide +kernel⟩
theorem l0_in : inE l0 20 10 = 0 ∧ inR l0 20 10 = [(0, 282), (490, 380), (980, 282)] := by
  have r1 : rdL l0 10 = 302 := by unfold rdL; rw [pc_10]; decide +kernel
  have r2 : rdL l0 500 = 400 := by unfold rdL; rw [pc_500]; decide +kernel
  have r3 : rdL l0 990 = 302 := by unfold rdL; rw [pc_990]; decide +kernel
  have e0 : inEnd l0 10 = 990 := by decide +kernel
  have e1 : plK l0 10 990 l0.length = [500] := by decide +kernel
  have e2 : inW l0 20 10 = [(0, 282), (490, 380), (980, 282)] := by
    unfold inW
    rw [e0, e1]
    simp [inPt, r1, r2, r3]
  have e : inE l0 20 10 = 0 := by
    unfold inE
    rw [e0, e2]
    decide +kernel
  unfold inR
  rw [if_pos e, e2]
  exact ⟨e, rfl⟩
theorem barrel_any (w : World) : Calls Try.prog 27 #[] w fun e w' => ∃ v, e = .returned v ∧ Pts w' v l0 ∧ Below w.heap.size w w' := by
  have P := Lib.hid (pts_lit w l0 (flat l0) rfl (by decide))
  go_enter Try.func27, Try.ntmps27
  go_wp2
  go_returns
  exact ⟨_, rfl, P.out, bel_alloc (Below.refl _ _)⟩
theorem in_lit (w : World) : Pts (w.alloc (.cells #[.int .i64 0, .int .i64 282, .int .i64 490, .int .i64 380, .int .i64 980, .int .i64 282] 30)) (.slice (some ⟨w.heap.size, 0, none⟩) 3 3) [(0, 282), (490, 380), (980, 282)] :=
  pts_lit w [(0, 282), (490, 380), (980, 282)] _ rfl (by decide)
end Go.Proofs.Ytlofblpfohnooab
