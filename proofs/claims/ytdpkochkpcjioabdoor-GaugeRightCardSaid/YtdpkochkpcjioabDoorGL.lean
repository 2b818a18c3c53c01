/- Layer 15: the example. -/
import Derived.Test.YtdpkochkpcjioabDoorGK
namespace Go.Proofs.YtdpkochkpcjioabDoor
open Go.RowKit

theorem mksl (w : World) (l : List (Int × Int)) (cs : List Value) (h : cs = flat l) (hn : l.length ≤ 1000) :
    Pts (w.alloc (.cells cs.toArray 54)) (.slice (some ⟨w.heap.size, 0, none⟩) l.length l.length) l := by
  refine ⟨_, _, rfl, by omega, .inr ⟨w.heap.size, 0, rfl, by simp, fun j hj => ?_⟩⟩
  subst h
  have hf := flat_at l j hj
  rw [World.cell?_alloc_new, World.cell?_alloc_new]
  simp only [Nat.zero_add]
  exact ⟨by simpa using hf.1, by simpa using hf.2⟩
def gxT : List (Int × Int) := [(0, 0), (10, 100), (20, 250)]
def gxR : Rp := ⟨0, 10, 200, 4000, 100, 102, 400000, 408000⟩
set_option maxHeartbeats 8000000 in
set_option maxRecDepth 100000 in
theorem gsteps_any (w : World) : Calls Tryd.prog 41 #[] w fun e w' => ∃ v, e = .returned v ∧ TbV w' v gxT 2 ∧ Below w.heap.size w w' := by
  go_enter Tryd.func41, Tryd.ntmps41
  go_wp2
  obtain ⟨z0, z1, _, _, _⟩ := (Two.new w (.slice (some ⟨w.heap.size + 1, 0, none⟩) 3 3) (.int .i64 2) 24).alloc (.cells #[.int .i64 0, .int .i64 0, .int .i64 10, .int .i64 100, .int .i64 20, .int .i64 250] 54)
  have L := mksl (w.alloc (.cells #[.slice (some ⟨w.heap.size + 1, 0, none⟩) 3 3, .int .i64 2] 24)) gxT _ rfl (by decide)
  rw [World.size_alloc] at L
  refine bodyPost_ret (v := .agg #[.slice (some ⟨w.heap.size + 1, 0, none⟩) 3 3, .int .i64 2]) (by simp [results, Tryd.results41, go_sem, z0, z1]) rfl ?_
  exact ⟨_, rfl, ⟨some ⟨w.heap.size + 1, 0, none⟩, 3, rfl, L⟩, bel_alloc (bel_alloc (Below.refl _ _))⟩
theorem gx_wet : wtL gxT 2 15 = 100 ∧ wtH gxT 2 15 = 252 ∧ rdE gxT 2 15 = 0 := by decide +kernel
theorem gx_rep : rpE gxT 2 0 10 200 4000 110 = 0 ∧ rpR gxT 2 0 10 200 4000 110 = gxR := by
  have h1 : rpE gxT 2 0 10 200 4000 110 = 0 := by decide +kernel
  refine ⟨h1, ?_⟩
  unfold rpR
  rw [if_pos h1]
  have e1 : btL (wtL gxT 2 10) (wtH gxT 2 10) 200 200 110 = 100 := by decide +kernel
  have e2 : btH (wtL gxT 2 10) (wtH gxT 2 10) 200 200 110 = 102 := by decide +kernel
  rw [e1, e2]
  rfl
theorem gx_dif : dfL gxR 410000 = 2000 ∧ dfH gxR 410000 = 10000 ∧ dfN gxR 410000 = 2 ∧ dfE gxR 410000 = 0 ∧ rgtB gxR = true := by decide +kernel
theorem gx_tog : tgE [gxR, gxR] = 0 ∧ tg (mxS Rp.vl [gxR, gxR] 2) [gxR, gxR] = 100 ∧ tg (mnS Rp.vh [gxR, gxR] 2) [gxR, gxR] = 102 ∧ tg (mxS Rp.al [gxR, gxR] 2) [gxR, gxR] = 400000 ∧ tg (mnS Rp.ah [gxR, gxR] 2) [gxR, gxR] = 408000 := by decide +kernel
theorem gx_tot : glE [gxR, gxR] = 0 ∧ tt (smS Rp.vl [gxR, gxR] 2) [gxR, gxR] = 200 ∧ tt (smS Rp.vh [gxR, gxR] 2) [gxR, gxR] = 204 ∧ tt (smS Rp.al [gxR, gxR] 2) [gxR, gxR] = 800000 ∧ tt (smS Rp.ah [gxR, gxR] 2) [gxR, gxR] = 816000 := by decide +kernel
theorem gx_chk : rdgE 0 10 200 4000 = 0 := by decide +kernel
end Go.Proofs.YtdpkochkpcjioabDoor

