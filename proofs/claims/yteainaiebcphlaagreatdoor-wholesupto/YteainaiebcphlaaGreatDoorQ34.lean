import Derived.Test.YteainaiebcphlaaGreatDoorQ24
import Derived.Deep.RegionHeld3
namespace Go.Proofs.YteainaiebcphlaaGreatDoor
set_option maxRecDepth 1000000
set_option maxHeartbeats 4000000
set_option linter.all false
open Go.Proofs.Tryz
section
open Go.RowKit
section
variable {PS:Int->World->Nat->(Nat->Prop)->St->Prop}
theorem Np (W:World)(F:EU W.heap.size W PS)(b off len cap:Nat)(hb:b<W.heap.size)(hlen:len<=2000000)(hS:∀i,i<len->∃K A N M S,Vu W b off i K A N M S):
  Calls prog 11 #[.slice (some ⟨b,off,none⟩) len cap] W λe w'=>e=.returned (.bool true)/\Below W.heap.size W w':=by
 have HU:=az (Vv W F b off len cap hb hlen hS ((yG F W (Below.refl _ _) (ah _)).mono (by rintro e w' ⟨rfl,hk⟩;exact⟨rfl,hk.below (ah _) (λ_ _ h=>h)⟩)));clear hS;go_enter func11,ntmps11
 go_wp2_with fail
 refine HU.out.mono ?_;rintro e w' ⟨rfl,hbel⟩;go_wp2;go_ret;exact⟨rfl,hbel⟩
end
end
end Go.Proofs.YteainaiebcphlaaGreatDoor
