import Derived.Test.YtjbdgbdcnjopkaaGreatDoorP42
import Derived.Test.YtjbdgbdcnjopkaaGreatDoorP43
namespace Go.Proofs.YtjbdgbdcnjopkaaGreatDoor
open Go.RowKit Tryz
set_option linter.unusedVariables false
set_option linter.unusedSimpArgs false
set_option maxRecDepth 100000
set_option maxHeartbeats 4000000
theorem DU (az c x m f:Nat) (s:ByteArray) (mm:bf) (fn:ck) (sig:Sig) (N:Nat):kP az c x m f s mm fn sig N:=
 Nat.strongRecOn N fun _ IH=>Bt IH
section
variable {az c x m f:Nat}{w:World}{s:ByteArray}{at_:Nat}{er:Er}{mm:bf}{fn:ck}{sig:Sig}
end
theorem By {w:World}{s:ByteArray} (hs:s.size<=9223372036854775807) (hl:4000<s.size):Calls prog 36 #[.string s] w fun r w'=>r=.returned (.tuple #[.pointer none,.int .i64 1,.int .i64 0])/\w=w':=by
 have h1:(4000:Int)<(s.size:Int):=by omega
 have h2:(s.size:Int)<=9223372036854775807:=by omega
 go_enter func36,ntmps36;go_wp2_with fail;go_ret3;exact⟨rfl,rfl⟩
