import Derived.Test.YtkfobfbiblgohaaGreatDoorKCB
set_option linter.all false
namespace Go.Proofs.YtkfobfbiblgohaaGreatDoor
section
open Go.RowKit Go.Sort Go.Shelf Go.Lib
variable{G W W':zW}{B:Nat}{l:List UInt8}
theorem R4(L:List Mo)(i:Nat)(E:i<L.length):(L.flatMap Sm.mc)[i*2]?=some (tS L[i]!.1)/\(L.flatMap Sm.mc)[i*2+1]?=some (tS L[i]!.2):=by
 constructor
 ·rw[Ss.flat_get (enc:=Sm.mc) (k:=2) (fun _=>rfl) (by decide) L (i*2) (by omega),Nat.mul_div_cancel _ (by decide:0<2),Nat.mul_mod_left]
  rfl
 ·rw[Ss.flat_get (enc:=Sm.mc) (k:=2) (fun _=>rfl) (by decide) L (i*2+1) (by omega),show(i*2+1)/2=i by omega,show(i*2+1)%2=1 by omega]
  rfl
end
section
open Go.RowKit
variable{w w':zW}
abbrev mcs(L:List Mo):List zV:=L.flatMap Sm.mc
end
section
open Go.RowKit
variable{w w':zW}
abbrev scs(L:List So):List zV:=L.flatMap Sw.mc
end
section
open Go.RowKit
theorem ie(w:zW)(B e s:Nat):w.ownsRow B e s (zN) 0 []:=⟨by simp,oE ⟨rfl,rfl⟩⟩
theorem rE{w W:zW}{v:zV}{L:List Mo}(h:Sm.Rd w v L)(O:zB w W)(i:Nat)(E:i<L.length):∃b off c,v=.slice (some (tD b off)) L.length c/\W.cell? (tD b (off+i*2))=some (tS L[i]!.1)/\W.cell? (tD b (off+i*2+1))=some (tS L[i]!.2):=by
 rcases h.below O with⟨_,h⟩|⟨b,off,c,h,F⟩
 ·rw[h] at E;simp at E
 ·obtain⟨I,M⟩:=R4 L i E
  exact⟨b,off,c,h,F _ _ I,by rw[Nat.add_assoc];exact F _ _ M⟩
theorem Fa{w:zW}{v:zV}{L:List Mo}(h:Sm.Rd w v L):∃a c,v=.slice a L.length c:=by
 rcases h with⟨h,E⟩|⟨b,off,c,h,_⟩
 ·exact⟨none,0,by rw[h,E];rfl⟩
 ·exact⟨_,_,h⟩
