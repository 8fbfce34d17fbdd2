import Derived.Test.YtmjdndhfmfjbiaaCutW
import Derived.Deep.OwnRows
import Derived.Laws.BytesArg
namespace Go.Proofs.Ytmjdndhfmfjbiaa
open Go.RowKit

theorem infoU8 : (Try.prog.info? 5).map (fun i => (i.zero, i.size, i.bytes)) = some (some (.int .u8 0), 1, 1) := by kernel_rfl

/-- A new row of bytes, turned into a text. -/
theorem conv_new (w : World) (cs : List Int) :
    (convert 66 9 (.slice (some ⟨w.heap.size, 0, none⟩) cs.length cs.length)).run Try.prog (w.alloc (.cells (cs.map (Value.int .u8)).toArray 5)) =
      .ok (.string ⟨(cs.map fun n => UInt8.ofNat n.toNat).toArray⟩) (w.alloc (.cells (cs.map (Value.int .u8)).toArray 5)) := by
  rw [run_convert_bytes_string _ 66 9 5 _ _ _ Try.underlying66 Try.underlying5 Try.underlying9]
  have hl := run_loadCells_list (P := Try.prog) (w := w.alloc (.cells (cs.map (Value.int .u8)).toArray 5)) ⟨w.heap.size, 0, none⟩ (cs.map (Value.int .u8)) (fun j v hj => by
    rw [Addr.add_lit, Nat.zero_add, cell_of_row _ w.heap.size j _ _ (0, 0) (heap_alloc_new w _)]
    simpa using hj)
  rw [List.length_map] at hl
  rw [run_bytesToString _ _ _ _ cs hl, foldl_push_bytes]
  simp

end Go.Proofs.Ytmjdndhfmfjbiaa
