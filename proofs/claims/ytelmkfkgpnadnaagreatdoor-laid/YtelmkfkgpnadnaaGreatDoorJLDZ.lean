import Derived.Test.YtelmkfkgpnadnaaGreatDoorJLKE
import Derived.Test.YtelmkfkgpnadnaaGreatDoorJLDY
import Derived.Test.YtelmkfkgpnadnaaGreatDoorTie
import Derived.Test.YtelmkfkgpnadnaaGreatDoorCards
import Derived.SevenTiedAt
set_option linter.all false
open Go.Proofs.Tryz
namespace Go.Proofs.YtelmkfkgpnadnaaGreatDoor
open Go.ChangeShapes Go.WideShapes Go.ChangeAt Go.RowKit
theorem MP:Rows.LaidSaid:=
 OpenClaim.holds_of_wide 9 f9 rfl rfl rfl rfl rfl rfl rfl ⟨rfl,rfl,rfl,rfl,rfl⟩ rfl rfl rfl rfl rfl Jz func9 MQ Qr Qs
  (fun os started H enc _=>Lk.On os started H enc)
theorem laid_card:Rows.LaidCardSaid:=
 Claim7.holds_tied_plain_at .later [] _ _ _ _
  MP (fun _ h=>by cases h) (by as_aux_lemma=>kernel_rfl) (fun _ h=>by cases h) laid_row_tie rfl ⟨rfl,rfl⟩ (by as_aux_lemma=>kernel_rfl) rfl
  (fun f fn hf hfn=>by
   obtain rfl:f=9:=cY (Jz.symm.trans hf) |>.symm
   obtain rfl:fn=f9:=(cY (func9.symm.trans hfn)).symm
   exact⟨by as_aux_lemma=>kernel_rfl,fun j t ht=>by
    rw[params9] at ht;have hm:t∈[30,51]:=by simpa using Array.mem_of_getElem? ht
    have hall:([30,51].all fun u=>!prog.wantsStandIn u)=true:=by as_aux_lemma=>kernel_rfl
    exact(show prog.wantsStandIn t=false by simpa using gJ.1 hall t hm)⟩)
  (by as_aux_lemma=>kernel_rfl)
