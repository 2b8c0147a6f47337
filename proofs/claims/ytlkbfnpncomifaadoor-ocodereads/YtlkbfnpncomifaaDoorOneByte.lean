/-
  The text of one byte. General over programs.
-/
import Derived.Test.YtlkbfnpncomifaaDoorFrame
import Derived.Laws.BytesArg
namespace Go.Law
open Go.RowKit
theorem one_byte {P : Program} {src e dst : TypeId} (hs : P.underlying src = some (.slice e)) (he : P.underlying e = some (.int .u8)) (hd : P.underlying dst = some .string) (w : World) (g c : Nat) (z : Int)
    (hc : w.cell? ⟨g, 0, none⟩ = some (.int .u8 z)) : (convert src dst (.slice (some ⟨g, 0, none⟩) 1 c)).run P w = .ok (.string ⟨#[UInt8.ofNat z.toNat]⟩) w :=
  run_convert_bytes_arg w src e hs he g 0 1 c [z] rfl (fun i hi => by obtain rfl : i = 0 := by omega
                                                                      simpa using hc) dst hd
end Go.Law
