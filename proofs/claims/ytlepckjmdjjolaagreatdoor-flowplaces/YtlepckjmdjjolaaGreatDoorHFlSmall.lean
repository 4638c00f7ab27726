/- A program that was read is small enough for the checker. Plain. -/
import Derived.Test.YtlepckjmdjjolaaGreatDoorGFlD
import Derived.Test.YtlepckjmdjjolaaGreatDoorGFlN
import Derived.Test.YtlepckjmdjjolaaGreatDoorHPProgOk
namespace Go.Proofs.YtlepckjmdjjolaaGreatDoor.Fl
open Pr (bigM parseP)
set_option linter.unusedVariables false
set_option linter.unusedSimpArgs false
theorem small_of_ok {l:List UInt8} {p:Prg} (h:parseP l=.ok p):Small p:=by
 obtain ⟨hg,hl⟩:=Pr.read_ok (M:=bigM) (by unfold bigM;omega) h
 have h1:=len_of_ok h
 have h2:=cnt_prog hg
 have h3:=hg.dl
 exact ⟨by unfold cntT;omega,nm_prog hg hl (by omega)⟩
end Go.Proofs.YtlepckjmdjjolaaGreatDoor.Fl
