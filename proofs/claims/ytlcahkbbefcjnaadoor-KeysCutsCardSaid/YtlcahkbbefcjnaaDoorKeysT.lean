/- Layer 3, the package: named keys, as an array. -/
import Derived.Test.YtlcahkbbefcjnaaDoorKeysM
import Derived.Test.YtlcahkbbefcjnaaDoorBlk
import Derived.Deep.RegionWith
import Derived.Deep.WholeRow
namespace Go.Proofs.YtlcahkbbefcjnaaDoor
open Go.RowKit

/-- Named keys, Esc too, in the package's order. -/
def allTab : List (ByteArray × ByteArray) :=
   [(⟨#[85, 112]⟩, ⟨#[27, 91, 65]⟩),
    (⟨#[68, 111, 119, 110]⟩, ⟨#[27, 91, 66]⟩),
    (⟨#[82, 105, 103, 104, 116]⟩, ⟨#[27, 91, 67]⟩),
    (⟨#[76, 101, 102, 116]⟩, ⟨#[27, 91, 68]⟩),
    (⟨#[72, 111, 109, 101]⟩, ⟨#[27, 91, 72]⟩),
    (⟨#[69, 110, 100]⟩, ⟨#[27, 91, 70]⟩),
    (⟨#[73, 110, 115]⟩, ⟨#[27, 91, 50, 126]⟩),
    (⟨#[68, 101, 108]⟩, ⟨#[27, 91, 51, 126]⟩),
    (⟨#[80, 103, 85, 112]⟩, ⟨#[27, 91, 53, 126]⟩),
    (⟨#[80, 103, 68, 110]⟩, ⟨#[27, 91, 54, 126]⟩),
    (⟨#[70, 49]⟩, ⟨#[27, 79, 80]⟩),
    (⟨#[70, 50]⟩, ⟨#[27, 79, 81]⟩),
    (⟨#[70, 51]⟩, ⟨#[27, 79, 82]⟩),
    (⟨#[70, 52]⟩, ⟨#[27, 79, 83]⟩),
    (⟨#[69, 110, 116, 101, 114]⟩, ⟨#[13]⟩),
    (⟨#[84, 97, 98]⟩, ⟨#[9]⟩),
    (⟨#[66, 115, 112]⟩, ⟨#[127]⟩),
    (⟨#[69, 115, 99]⟩, ⟨#[27]⟩),
    (⟨#[67, 45, 83, 112, 97, 99, 101]⟩, ⟨#[0]⟩),
    (⟨#[67, 45, 97]⟩, ⟨#[1]⟩),
    (⟨#[67, 45, 98]⟩, ⟨#[2]⟩),
    (⟨#[67, 45, 99]⟩, ⟨#[3]⟩),
    (⟨#[67, 45, 100]⟩, ⟨#[4]⟩),
    (⟨#[67, 45, 101]⟩, ⟨#[5]⟩),
    (⟨#[67, 45, 102]⟩, ⟨#[6]⟩),
    (⟨#[67, 45, 103]⟩, ⟨#[7]⟩),
    (⟨#[67, 45, 104]⟩, ⟨#[8]⟩),
    (⟨#[67, 45, 106]⟩, ⟨#[10]⟩),
    (⟨#[67, 45, 107]⟩, ⟨#[11]⟩),
    (⟨#[67, 45, 108]⟩, ⟨#[12]⟩),
    (⟨#[67, 45, 110]⟩, ⟨#[14]⟩),
    (⟨#[67, 45, 111]⟩, ⟨#[15]⟩),
    (⟨#[67, 45, 112]⟩, ⟨#[16]⟩),
    (⟨#[67, 45, 113]⟩, ⟨#[17]⟩),
    (⟨#[67, 45, 114]⟩, ⟨#[18]⟩),
    (⟨#[67, 45, 115]⟩, ⟨#[19]⟩),
    (⟨#[67, 45, 116]⟩, ⟨#[20]⟩),
    (⟨#[67, 45, 117]⟩, ⟨#[21]⟩),
    (⟨#[67, 45, 118]⟩, ⟨#[22]⟩),
    (⟨#[67, 45, 119]⟩, ⟨#[23]⟩),
    (⟨#[67, 45, 120]⟩, ⟨#[24]⟩),
    (⟨#[67, 45, 121]⟩, ⟨#[25]⟩),
    (⟨#[67, 45, 122]⟩, ⟨#[26]⟩),
    (⟨#[67, 45, 52]⟩, ⟨#[28]⟩),
    (⟨#[67, 45, 53]⟩, ⟨#[29]⟩),
    (⟨#[67, 45, 54]⟩, ⟨#[30]⟩),
    (⟨#[67, 45, 55]⟩, ⟨#[31]⟩)]
def flatK (l : List (ByteArray × ByteArray)) : List Value := l.flatMap fun e => [.string e.1, .string e.2]
def namedZ : Array Value := Array.replicate 94 (.string ⟨#[]⟩)
def namedV : Array Value := (flatK allTab).toArray
theorem namedZ_run (w : World) : (zeroValue 47).run Tryd.prog w = .ok (.agg namedZ) w := by kernel_rfl
theorem named_store (w : World) (L : List Value) (h : L = namedV.toList) : (storeCells ⟨w.heap.size, 0, none⟩ L 0).run Tryd.prog (w.alloc (.cells namedZ 47)) = .ok () (w.alloc (.cells namedV 47)) := by
  subst h
  exact run_storeCells_new w _ _ _ (by kernel_rfl) (by kernel_rfl) (by kernel_rfl)
theorem named_load (w : World) : (loadCellsFrom ⟨w.heap.size, 0, none⟩ 0 94 #[]).run Tryd.prog (w.alloc (.cells namedV 47)) = .ok namedV (w.alloc (.cells namedV 47)) :=
  run_loadCellsFrom_new w _ _ 94 (by kernel_rfl)

theorem results_cell0 {P : Program} {fn : Func} {tmps : Array Value} {t : TypeId} {a : Addr} {v : Value} {w : World} (hf : fn.results = #[.cell 0 t]) (ht : tmps.getD 0 undef = .pointer (some a)) (hl : (loadVar t a).run P w = .ok v w) :
    (results fn tmps).run P w = .ok v w := by
  unfold results
  rw [hf]
  have ht2 : tmps[0]?.getD undef = .pointer (some a) := by rw [← Array.getD_eq_getD_getElem?]; exact ht
  simp [ht2, asAddr, hl]

set_option maxRecDepth 100000 in
set_option maxHeartbeats 4000000 in
theorem named_any (w : World) :
    Calls Tryd.prog 20 #[] w fun e w' => e = .returned (.agg namedV) ∧ Below w.heap.size w w' := by
  have hz := namedZ_run
  go_enter Tryd.func20, Tryd.ntmps20
  go_wp2
  rw [named_store]
  · go_wp2
    exact bodyPost_ret (v := .agg namedV) (results_cell0 rfl rfl (run_loadVar_new w _ namedV 47 _ Tryd.underlying47 (by kernel_rfl))) rfl ⟨rfl, below_alloc _ _⟩
  · kernel_rfl
end Go.Proofs.YtlcahkbbefcjnaaDoor
