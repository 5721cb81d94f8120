/- Rank, Ahead, Sure. -/
import Derived.RegionTactic
import Derived.BigRegion
import Derived.Deep.QuietTactic
import Derived.BigQuiet
import Derived.Deep.RegionWith
import Derived.Test.YtdeniikaddlifaaOrdCmp
import Derived.Test.YtdeniikaddlifaaOrdMay
namespace Go.Proofs.Ytdeniikaddlifaa
open Go.RowKit
/-- A new slice of one wait, or of two. -/
theorem wts_one (w : World) (x : Wt) : Wts (w.alloc (wtO x)) (w.alloc (wtO x)).heap.size (some ⟨w.heap.size, 0, none⟩) [x] :=
  els_blk wtC_len (wt_new w x) fun j v hj => by simpa [wtC, wtA] using hj
abbrev wtO2 (x y : Wt) : Obj := .cells (wtA x ++ wtA y) 39
theorem wts_two (w : World) (x y : Wt) : Wts (w.alloc (wtO2 x y)) (w.alloc (wtO2 x y)).heap.size (some ⟨w.heap.size, 0, none⟩) [x, y] :=
  els_blk wtC_len (heap_alloc_new w (wtO2 x y)) fun j v hj => by simpa [wtC, wtA] using hj
end Go.Proofs.Ytdeniikaddlifaa
