import Derived.Test.YtnedbakgaggdaaaDoorSd
import Derived.Test.YtnedbakgaggdaaaDoorSe
import Derived.Test.YtnedbakgaggdaaaDoorK
namespace Go.Proofs.YtnedbakgaggdaaaDoor
open Go.RowKit
theorem Xor_no (key nonce s : ByteArray) (w : World) (h : ¬ (key.size = 32 ∧ nonce.size = 12)) :
    Calls Tryd.prog 14 #[.string key, .string nonce, .string s] w fun e w' => e = .returned (.tuple #[.string ByteArray.empty, .int .i64 2]) ∧ Below w.heap.size w w' := callsIn_wide.1 (Xor_no_in key nonce s w h)
theorem Xor_long (key nonce s : ByteArray) (w : World) (h1 : key.size = 32) (h2 : nonce.size = 12) (h : 1048576 < s.size) :
    Calls Tryd.prog 14 #[.string key, .string nonce, .string s] w fun e w' => e = .returned (.tuple #[.string ByteArray.empty, .int .i64 2]) ∧ Below w.heap.size w w' := callsIn_wide.1 (Xor_long_in key nonce s w h1 h2 h)
theorem Xor_yes (key nonce s : ByteArray) (w : World) (h1 : key.size = 32) (h2 : nonce.size = 12) (h : s.size ≤ 1048576) {tt : TypeId} {fr : Nat × Nat} (hg : w.heap[0]? = some (.cells tab tt fr)) :
    Calls Tryd.prog 14 #[.string key, .string nonce, .string s] w fun e w' => e = .returned (.tuple #[.string (xorS key nonce s), .int .i64 0]) ∧ Below w.heap.size w w' := callsIn_wide.1 (Xor_yes_in key nonce s w h1 h2 h hg)
end Go.Proofs.YtnedbakgaggdaaaDoor
