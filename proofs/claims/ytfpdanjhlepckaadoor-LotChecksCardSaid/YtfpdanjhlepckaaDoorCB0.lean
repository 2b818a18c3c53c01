/- A cell below. -/
import Derived.Test.YtfpdanjhlepckaaDoorKit
namespace Go.Proofs.YtfpdanjhlepckaaDoor
open Go.RowKit

theorem cell_bel {w w' : World} {p : Addr} {v : Value} (h : w.cell? p = some v) (hb : Below w.heap.size w w') : w'.cell? p = some v := by
  rw [hb.cell (World.block_lt_of_cell? w _ h)]; exact h
end Go.Proofs.YtfpdanjhlepckaaDoor

