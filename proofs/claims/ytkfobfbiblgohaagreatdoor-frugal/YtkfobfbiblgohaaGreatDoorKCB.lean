import Derived.Test.YtkfobfbiblgohaaGreatDoorKXB
import Derived.Test.YtkfobfbiblgohaaGreatDoorKSSB
import Derived.Shelf.SlicesE.Clone
set_option linter.all false
open Go.Proofs.Tryz
set_option maxRecDepth 100000
set_option maxHeartbeats 4000000
namespace Go.Proofs.YtkfobfbiblgohaaGreatDoor
section
open Go.RowKit Go.Sort Go.Shelf Go.Lib
abbrev Mo:=zA×zA
namespace Sm
def mc(x:Mo):List zV:=[tS x.1,tS x.2]
def Rd(w:zW)(v:zV)(L:List Mo):Prop:=
 (v=zN/\L=[])\/∃b off c,v=.slice (some (tD b off)) L.length c/\∀j u,(L.flatMap mc)[j]?=some u->w.cell? (tD b (off+j))=some u
theorem xK(L:List Mo):(L.flatMap mc).length=L.length*2:=Ss.fe (enc:=mc) (k:=2) (fun _=>rfl) L
theorem rC(L:List Mo):∀u∈L.flatMap mc,u.oneCell'=true:=by
 intro u F;obtain⟨x,_,E⟩:=List.mem_flatMap.1 F;simp[mc] at E;rcases E with rfl|rfl<;>rfl
def un(x:Md):Mo:=(x.path,x.ver)
def tagged(L:List Mo):Array Md:=(L.mapIdx fun i x=>(⟨x.1,x.2,i⟩:Md)).toArray
theorem oW(L:List Mo):(tagged L).size=L.length:=by simp[tagged]
theorem lZ(L:List Mo):(tagged L).toList.map un=L:=by
 apply mK;intro i;simp[tagged,un,Function.comp_def]
theorem xL(D:List Md):D.flatMap enc=(D.map un).flatMap mc:=by
 rw[List.flatMap_map]
 rfl
theorem kH(L:List Mo):Ss.iG Md.tag 0 (tagged L).size (tagged L):=by
 intro i j _ E M;have F:i<(tagged L).size:=by omega
 rw[bS _ i F,bS _ j M];simpa[tagged] using E
def Qj:Go.Shelf.Ren:=⟨fun|41=>51|n=>n,fun|22=>33|23=>70|4=>4|n=>n,fun|n=>n⟩
theorem Gj:Go.Proofs.SlLaysE0.n41 prog Qj:={
 mixed:=by kernel_rfl
 f41:=⟨f51.name,by decide,func51.trans (bz some (by kernel_rfl))⟩
 t4:=underlying4
 a4:=isAgg4
 z4:=sizeOf4
 v4:=zeroValue4
 t22:=underlying33
 a22:=isAgg33
 z22:=sizeOf33
 v22:=zeroValue33}
theorem nz(b off c:Nat)(L:List Mo)(w:zW)(hL:L.length<=16777216)(hc:∀j u,(L.flatMap mc)[j]?=some u->w.cell? (tD b (off+j))=some u):
  zC 51 #[.slice (some (tD b off)) L.length c] w fun e w'=>∃g cap,e=.returned (.slice (some (tD g 0)) L.length cap)/\w'.ownsRow w.heap.size 70 2 (.slice (some (tD g 0)) L.length cap) L.length (L.flatMap mc)/\zB w w':=by
 obtain⟨i0,T,U,V,Y⟩:=xu;have E:L.length<=maxLen:=aN hL (by decide);refine(AnyE.slices_Clone Gj i0 _ 2 32 T U V Y rfl (by decide) sizeOf70 b off L.length c (L.flatMap mc) w (xK L) E (by omega) hc (rC L)).mono ?_;rintro e w' ⟨v',rfl,ho,M,hb⟩;have F:w'.ownsRow w.heap.size 70 2 v' L.length (L.flatMap mc):=ho;rcases F.2 with⟨hn,_⟩|⟨g,cap,O,rfl,_⟩
 ·exact absurd hn M
 ·exact⟨g,cap,rfl,F,hb⟩
theorem nA(w:zW):zC 51 #[zN] w fun e w'=>e=.returned (zN)/\w'=w:=AnyE.slices_Clone_nil Gj 0 0 w
theorem oX(F:zV)(w:zW):zC 241 #[zN,zI 0,zI 0,F] w fun e w'=>e=.returned (.tuple #[])/\zB w w':=by
 have E:Hid (zB w w):=ae _ _;go_enter func241,ntmps241;go_wp2;go_loopg [8] 0 (fun O M wr=>M=zI 1/\Hid (zB w wr))
 case atStart=>exact⟨rfl,E⟩
 case round=>
  clear E;obtain⟨rfl,E⟩:=hrel;go_wp2
  go_end0
  exact⟨rfl,E.out⟩
theorem oY(O:zV)(w:zW):zC 226 #[zN,O] w fun e w'=>e=.returned (.tuple #[])/\zB w w':=by
 have T:zC 254 #[zN,zI 0,O] w fun e w'=>e=.returned (.tuple #[])/\zB w w':=by
  have ki:=oX O;have E:Hid (zB w w):=ae _ _;go_enter func254,ntmps254;go_wp2;go_loopg [7,8] 0 (fun kx U V wr=>U=zI 0/\V=zI 20/\Hid (zB w wr))
  case atStart=>exact⟨rfl,rfl,E⟩
  case round=>
   clear E;obtain⟨rfl,rfl,E⟩:=hrel
   go_wp2_with (go_at_call 241;fail)
   go_at_call 241;refine(ki _).mono ?_;rintro e w1 ⟨rfl,M⟩;have F:=zH (E.out.trans (M.mono E.out.size));clear M E;go_wp2;go_loopg [6,7,8] 0 (fun kx s6 U V wr=>s6=zI 20/\Hid (zB w wr))
   case atStart=>exact⟨rfl,F⟩
   case round=>
    clear F;obtain⟨rfl,E⟩:=hrel;go_wp2
    go_end0
    exact⟨rfl,E.out⟩
 go_enter func226,ntmps226
 go_wp2_with (go_at_call 254;fail)
 go_at_call 254;refine T.mono ?_;rintro ex w2 ⟨rfl,Y⟩;clear T;go_wp2
 go_end0
 exact⟨rfl,Y⟩
structure Cfn(g:Nat)(cf0:Mo->Mo->Int):Prop where
 eg:∀args w,(callFunc g args).run prog w=.ok (.enter g args) w
 cmp:∀W,Dr.Ml W->∀x y:Mo,zC g #[.agg #[tS x.1,tS x.2],.agg #[tS y.1,tS y.2]] W fun e w'=>e=.returned (zI (cf0 x y))/\Dr.Below W.heap.size W w'
 swo:SWO (ltOf fun x y:Md=>cf0 (un x) (un y))
theorem xM{w W:zW}{g:Nat}{d:Array Md}(hm:Dr.Ml w)(F:g≠0)(S:SWK enc 2 w g 0 d W):Dr.Ml W:=by
 obtain⟨q,e⟩:=hm;have E:=aY w _ e;exact⟨q,by rw[bg (w:=w) (a:=(tD 0 0)) (Ss.pU S 0 E (fun e=>F e.symm))];exact e⟩
theorem oZ{w W:zW}(hm:Dr.Ml w)(F:zB w W):Dr.Ml W:=by
 obtain⟨q,e⟩:=hm;have E:=aY w _ e;exact⟨q,by rw[bg (w:=w) (a:=(tD 0 0)) (F.block 0 E)];exact e⟩
theorem rD{g:Nat}{F:Mo->Mo->Int}(O:Cfn g F)(B E cap:Nat)(L:List Mo)(w:zW)(hm:Dr.Ml w)(Y:E≠0)(hL:L.length<=19)(h:w.ownsRow B 70 2 (.slice (some (tD E 0)) L.length cap) L.length (L.flatMap mc)):
  zC 226 #[.slice (some (tD E 0)) L.length cap,.func (.func g) #[] #[]] w fun e w'=>e=.returned (.tuple #[])/\w'.ownsRow B 70 2 (.slice (some (tD E 0)) L.length cap) L.length ((Ss.aP (ltOf F) L).flatMap mc)/\ai (fun b=>b=E) w w':=by
 have M:=oW L;have e0:(tagged L).toList.flatMap enc=L.flatMap mc:=by rw[xL,lZ]
 have U:w.ownsRow B 70 2 (.slice (some (tD E 0)) (tagged L).size cap) (tagged L).size ((tagged L).toList.flatMap enc):=by rw[e0,M];exact h
 have T:Told g #[] (fun x y=>F (un x) (un y)) E 0 (tagged L) w:={
  R:=⟨ny,BF,Ss.uF ny (by decide) U,(h.lt E rfl).2⟩
  eg:=O.eg
  cmp:=fun m os dk hs x y=>by
   refine(O.cmp _ (xM hm Y ⟨m,os,rfl⟩) (un x) (un y)).mono ?_;rintro e w' ⟨rfl,hb⟩;exact⟨rfl,hb.grow⟩
  swo:=O.swo
  sz:=by rw[M];omega}
 have k:=kG T (by rw[M];omega) (kH L) cap;rw[M] at k;refine k.mono ?_;rintro e w' ⟨rfl,d',V,S⟩;rw[<-M] at V;have a0:d'.size=L.length:=by rw[V.1.1,M]
 have hl:d'.toList=Ss.aP (ltOf fun x y:Md=>F (un x) (un y)) (tagged L).toList:=Ss.Ae O.swo (kH L) V
 have e1:d'.toList.flatMap enc=(Ss.aP (ltOf F) L).flatMap mc:=by
  rw[xL,hl,Ss.nu (lt:=ltOf fun x y:Md=>F (un x) (un y)) un (ltOf F) (fun _ _=>rfl),lZ]
 rw[M] at U;have r:=Ss.rz ny (by decide) a0 U S;rw[e1] at r;exact⟨rfl,r.1,r.2⟩
theorem nB{g:Nat}{M:Mo->Mo->Int}(Y:Cfn g M)(v:zV)(L:List Mo)(w:zW)(hm:Dr.Ml w)(hL:L.length<=19)(h:Rd w v L):
  zC 209 #[v,.func (.func g) #[] #[]] w fun e w'=>∃v',e=.returned v'/\w'.ownsRow w.heap.size 70 2 v' L.length ((Ss.aP (ltOf M) L).flatMap mc)/\zB w w':=by
 rcases h with⟨rfl,rfl⟩|⟨b,off,c,rfl,hc⟩
 ·have U:=nA
  have V:=oY (.func (.func g) #[] #[]);clear hm Y hL;go_enter func209,ntmps209
  go_wp2_with (first|(go_at_call 51;refine(U _).mono ?_;rintro e w' ⟨rfl,rfl⟩)|(go_at_call 226;fail))
  go_at_call 226;refine(V _).mono ?_;rintro e w1 ⟨rfl,F⟩;go_wp2;go_ret;exact⟨_,rfl,⟨rfl,oE ⟨rfl,rfl⟩⟩,F⟩
 ·have U:=nz b off c L w (by omega) hc
  have V:Aside (∀W E cap,zB w W->W.ownsRow w.heap.size 70 2 (.slice (some (tD E 0)) L.length cap) L.length (L.flatMap mc)->zC 226 #[.slice (some (tD E 0)) L.length cap,.func (.func g) #[] #[]] W fun e w'=>e=.returned (.tuple #[])/\w'.ownsRow w.heap.size 70 2 (.slice (some (tD E 0)) L.length cap) L.length ((Ss.aP (ltOf M) L).flatMap mc)/\zB w w'):=fun W E cap F O=>by
   have a1:=O.lt E rfl;have hp:=hm.pos;refine(rD Y _ E cap L W (oZ hm F) (by omega) hL O).mono ?_;rintro e w' ⟨rfl,a0,T⟩;exact⟨rfl,a0,⟨by rw[T.os];exact F.os,by rw[T.tape];exact F.tape,by rw[T.output];exact F.output,aN F.size T.size,fun i hi=>by rw[T.block i (bP hi F.size) (by omega)];exact F.block i hi⟩⟩
  clear hc hm Y;go_enter func209,ntmps209
  go_wp2_with (go_at_call 51;fail)
  go_at_call 51;refine U.mono ?_;rintro e w1 ⟨E,cap,rfl,O,F⟩;have k3:=V.out w1 E cap F O;clear U V O F
  go_wp2_with (go_at_call 226;fail)
  go_at_call 226;refine k3.mono ?_;rintro e w2 ⟨rfl,O,F⟩;have HF:Hid (w2.ownsRow w.heap.size 70 2 (.slice (some (tD E 0)) L.length cap) L.length ((Ss.aP (ltOf M) L).flatMap mc)/\zB w w2):=⟨O,F⟩;clear k3 O F;go_wp2;go_ret;exact⟨_,rfl,HF.out.1,HF.out.2⟩
theorem Il:∀args w,(callFunc 210 args).run prog w=.ok (.enter 210 args) w:=fun _ _=>by kernel_rfl
theorem uJ:∀args w,(callFunc 195 args).run prog w=.ok (.enter 195 args) w:=fun _ _=>by kernel_rfl
def zr(x y:Mo):Int:=dQ x.1 y.1
theorem Qk:Cfn 210 zr:=⟨Il,fun W _ x y=>Dr.comparePaths_any x.1 x.2 y.1 y.2 W,Pv.oQ (fun x:Md=>x.path) lY⟩
theorem Ql:Cfn 195 fS:=⟨uJ,fun W hm x y=>Dr.compareModules_any x.1 x.2 y.1 y.2 W hm,Pv.oQ (fun x:Md=>un x) wT⟩
end Sm
end
section
open Go.RowKit Go.Sort Go.Shelf Go.Lib
abbrev So:=zA×zA×zA
namespace Sw
def mc(x:So):List zV:=[tS x.1,tS x.2.1,tS x.2.2]
def Rd(w:zW)(v:zV)(L:List So):Prop:=
 (v=zN/\L=[])\/∃b off c,v=.slice (some (tD b off)) L.length c/\∀j u,(L.flatMap mc)[j]?=some u->w.cell? (tD b (off+j))=some u
theorem xK(L:List So):(L.flatMap mc).length=L.length*3:=Ss.fe (enc:=mc) (k:=3) (fun _=>rfl) L
theorem rC(L:List So):∀u∈L.flatMap mc,u.oneCell'=true:=by
 intro u F;obtain⟨x,_,E⟩:=List.mem_flatMap.1 F;simp[mc] at E;rcases E with rfl|rfl|rfl<;>rfl
def un(x:Sp):So:=(x.path,x.ver,x.alt)
def tagged(L:List So):Array Sp:=(L.mapIdx fun i x=>(⟨x.1,x.2.1,x.2.2,i⟩:Sp)).toArray
theorem oW(L:List So):(tagged L).size=L.length:=by simp[tagged]
theorem lZ(L:List So):(tagged L).toList.map un=L:=by
 apply mK;intro i;simp[tagged,un,Function.comp_def]
theorem xL(D:List Sp):D.flatMap enc=(D.map un).flatMap mc:=by
 rw[List.flatMap_map]
 rfl
theorem kH(L:List So):Ss.iG Sp.tag 0 (tagged L).size (tagged L):=by
 intro i j _ E M;have F:i<(tagged L).size:=by omega
 rw[bS _ i F,bS _ j M];simpa[tagged] using E
def Qm:Go.Shelf.Ren:=⟨fun|41=>227|n=>n,fun|22=>212|23=>267|4=>4|n=>n,fun|n=>n⟩
theorem Gk:Go.Proofs.SlLaysE0.n41 prog Qm:={
 mixed:=by kernel_rfl
 f41:=⟨f227.name,by decide,func227.trans (bz some (by kernel_rfl))⟩
 t4:=underlying4
 a4:=isAgg4
 z4:=sizeOf4
 v4:=zeroValue4
 t22:=underlying212
 a22:=isAgg212
 z22:=sizeOf212
 v22:=zeroValue212}
theorem Gl:∃i,prog.info? 267=some i/\i.zero=some (.agg #[zE,zE,zE])/\i.size=3/\i.bytes=48:=by
 have h:(prog.info? 267).map (fun i=>(i.zero,i.size,i.bytes))=some (some (.agg #[zE,zE,zE]),3,48):=by kernel_rfl
 rw[qP] at h;obtain⟨i,F,E⟩:=h;simp only[iT] at E;exact⟨i,F,E.1,E.2.1,E.2.2⟩
theorem nz(b off c:Nat)(L:List So)(w:zW)(hL:L.length<=19)(hc:∀j u,(L.flatMap mc)[j]?=some u->w.cell? (tD b (off+j))=some u):
  zC 227 #[.slice (some (tD b off)) L.length c] w fun e w'=>∃g cap,e=.returned (.slice (some (tD g 0)) L.length cap)/\w'.ownsRow w.heap.size 267 3 (.slice (some (tD g 0)) L.length cap) L.length (L.flatMap mc)/\zB w w':=by
 obtain⟨i0,T,U,V,Y⟩:=Gl;have E:L.length<=maxLen:=aN hL (by decide);refine(AnyE.slices_Clone Gk i0 _ 3 48 T U V Y rfl (by decide) sizeOf267 b off L.length c (L.flatMap mc) w (xK L) E (by omega) hc (rC L)).mono ?_;rintro e w' ⟨v',rfl,ho,M,hb⟩;have F:w'.ownsRow w.heap.size 267 3 v' L.length (L.flatMap mc):=ho;rcases F.2 with⟨hn,_⟩|⟨g,cap,O,rfl,_⟩
 ·exact absurd hn M
 ·exact⟨g,cap,rfl,F,hb⟩
theorem nA(w:zW):zC 227 #[zN] w fun e w'=>e=.returned (zN)/\w'=w:=AnyE.slices_Clone_nil Gk 0 0 w
theorem oX(F:zV)(w:zW):zC 267 #[zN,zI 0,zI 0,F] w fun e w'=>e=.returned (.tuple #[])/\zB w w':=by
 have E:Hid (zB w w):=ae _ _;go_enter func267,ntmps267;go_wp2;go_loopg [8] 0 (fun O M wr=>M=zI 1/\Hid (zB w wr))
 case atStart=>exact⟨rfl,E⟩
 case round=>
  clear E;obtain⟨rfl,E⟩:=hrel;go_wp2
  go_end0
  exact⟨rfl,E.out⟩
theorem oY(O:zV)(w:zW):zC 228 #[zN,O] w fun e w'=>e=.returned (.tuple #[])/\zB w w':=by
 have T:zC 255 #[zN,zI 0,O] w fun e w'=>e=.returned (.tuple #[])/\zB w w':=by
  have ki:=oX O;have E:Hid (zB w w):=ae _ _;go_enter func255,ntmps255;go_wp2;go_loopg [7,8] 0 (fun kx U V wr=>U=zI 0/\V=zI 20/\Hid (zB w wr))
  case atStart=>exact⟨rfl,rfl,E⟩
  case round=>
   clear E;obtain⟨rfl,rfl,E⟩:=hrel
   go_wp2_with (go_at_call 267;fail)
   go_at_call 267;refine(ki _).mono ?_;rintro e w1 ⟨rfl,M⟩;have F:=zH (E.out.trans (M.mono E.out.size));clear M E;go_wp2;go_loopg [6,7,8] 0 (fun kx s6 U V wr=>s6=zI 20/\Hid (zB w wr))
   case atStart=>exact⟨rfl,F⟩
   case round=>
    clear F;obtain⟨rfl,E⟩:=hrel;go_wp2
    go_end0
    exact⟨rfl,E.out⟩
 go_enter func228,ntmps228
 go_wp2_with (go_at_call 255;fail)
 go_at_call 255;refine T.mono ?_;rintro ex w2 ⟨rfl,Y⟩;clear T;go_wp2
 go_end0
 exact⟨rfl,Y⟩
structure Cfn(g:Nat)(cf0:So->So->Int):Prop where
 eg:∀args w,(callFunc g args).run prog w=.ok (.enter g args) w
 cmp:∀W,Dr.Ml W->∀x y:So,zC g #[.agg #[tS x.1,tS x.2.1,tS x.2.2],.agg #[tS y.1,tS y.2.1,tS y.2.2]] W fun e w'=>e=.returned (zI (cf0 x y))/\Dr.Below W.heap.size W w'
 swo:SWO (ltOf fun x y:Sp=>cf0 (un x) (un y))
theorem xM{w W:zW}{g:Nat}{d:Array Sp}(hm:Dr.Ml w)(F:g≠0)(S:SWK enc 3 w g 0 d W):Dr.Ml W:=by
 obtain⟨q,e⟩:=hm;have E:=aY w _ e;exact⟨q,by rw[bg (w:=w) (a:=(tD 0 0)) (Ss.pU S 0 E (fun e=>F e.symm))];exact e⟩
theorem rD{g:Nat}{F:So->So->Int}(O:Cfn g F)(B E cap:Nat)(L:List So)(w:zW)(hm:Dr.Ml w)(Y:E≠0)(hL:L.length<=19)(h:w.ownsRow B 267 3 (.slice (some (tD E 0)) L.length cap) L.length (L.flatMap mc)):
  zC 228 #[.slice (some (tD E 0)) L.length cap,.func (.func g) #[] #[]] w fun e w'=>e=.returned (.tuple #[])/\w'.ownsRow B 267 3 (.slice (some (tD E 0)) L.length cap) L.length ((Ss.aP (ltOf F) L).flatMap mc)/\ai (fun b=>b=E) w w':=by
 have M:=oW L;have e0:(tagged L).toList.flatMap enc=L.flatMap mc:=by rw[xL,lZ]
 have U:w.ownsRow B 267 3 (.slice (some (tD E 0)) (tagged L).size cap) (tagged L).size ((tagged L).toList.flatMap enc):=by rw[e0,M];exact h
 have T:Told g #[] (fun x y=>F (un x) (un y)) E 0 (tagged L) w:={
  R:=⟨ny,BF,Ss.uF ny (by decide) U,(h.lt E rfl).2⟩
  eg:=O.eg
  cmp:=fun m os dk hs x y=>by
   refine(O.cmp _ (xM hm Y ⟨m,os,rfl⟩) (un x) (un y)).mono ?_;rintro e w' ⟨rfl,hb⟩;exact⟨rfl,hb.grow⟩
  swo:=O.swo
  sz:=by rw[M];omega}
 have k:=kG T (by rw[M];omega) (kH L) cap;rw[M] at k;refine k.mono ?_;rintro e w' ⟨rfl,d',V,S⟩;rw[<-M] at V;have a0:d'.size=L.length:=by rw[V.1.1,M]
 have hl:d'.toList=Ss.aP (ltOf fun x y:Sp=>F (un x) (un y)) (tagged L).toList:=Ss.Ae O.swo (kH L) V
 have e1:d'.toList.flatMap enc=(Ss.aP (ltOf F) L).flatMap mc:=by
  rw[xL,hl,Ss.nu (lt:=ltOf fun x y:Sp=>F (un x) (un y)) un (ltOf F) (fun _ _=>rfl),lZ]
 rw[M] at U;have r:=Ss.rz ny (by decide) a0 U S;rw[e1] at r;exact⟨rfl,r.1,r.2⟩
theorem nB{g:Nat}{M:So->So->Int}(Y:Cfn g M)(v:zV)(L:List So)(w:zW)(hm:Dr.Ml w)(hL:L.length<=19)(h:Rd w v L):
  zC 211 #[v,.func (.func g) #[] #[]] w fun e w'=>∃v',e=.returned v'/\w'.ownsRow w.heap.size 267 3 v' L.length ((Ss.aP (ltOf M) L).flatMap mc)/\zB w w':=by
 rcases h with⟨rfl,rfl⟩|⟨b,off,c,rfl,hc⟩
 ·have U:=nA
  have V:=oY (.func (.func g) #[] #[]);clear hm Y hL;go_enter func211,ntmps211
  go_wp2_with (first|(go_at_call 227;refine(U _).mono ?_;rintro e w' ⟨rfl,rfl⟩)|(go_at_call 228;fail))
  go_at_call 228;refine(V _).mono ?_;rintro e w1 ⟨rfl,F⟩;go_wp2;go_ret;exact⟨_,rfl,⟨rfl,oE ⟨rfl,rfl⟩⟩,F⟩
 ·have U:=nz b off c L w hL hc
  have V:Aside (∀W E cap,zB w W->W.ownsRow w.heap.size 267 3 (.slice (some (tD E 0)) L.length cap) L.length (L.flatMap mc)->zC 228 #[.slice (some (tD E 0)) L.length cap,.func (.func g) #[] #[]] W fun e w'=>e=.returned (.tuple #[])/\w'.ownsRow w.heap.size 267 3 (.slice (some (tD E 0)) L.length cap) L.length ((Ss.aP (ltOf M) L).flatMap mc)/\zB w w'):=fun W E cap F O=>by
   have a1:=O.lt E rfl;have hp:=hm.pos;refine(rD Y _ E cap L W (Sm.oZ hm F) (by omega) hL O).mono ?_;rintro e w' ⟨rfl,a0,T⟩;exact⟨rfl,a0,⟨by rw[T.os];exact F.os,by rw[T.tape];exact F.tape,by rw[T.output];exact F.output,aN F.size T.size,fun i hi=>by rw[T.block i (bP hi F.size) (by omega)];exact F.block i hi⟩⟩
  clear hc hm Y;go_enter func211,ntmps211
  go_wp2_with (go_at_call 227;fail)
  go_at_call 227;refine U.mono ?_;rintro e w1 ⟨E,cap,rfl,O,F⟩;have k3:=V.out w1 E cap F O;clear U V O F
  go_wp2_with (go_at_call 228;fail)
  go_at_call 228;refine k3.mono ?_;rintro e w2 ⟨rfl,O,F⟩;have HF:Hid (w2.ownsRow w.heap.size 267 3 (.slice (some (tD E 0)) L.length cap) L.length ((Ss.aP (ltOf M) L).flatMap mc)/\zB w w2):=⟨O,F⟩;clear k3 O F;go_wp2;go_ret;exact⟨_,rfl,HF.out.1,HF.out.2⟩
theorem Im:∀args w,(callFunc 212 args).run prog w=.ok (.enter 212 args) w:=fun _ _=>by kernel_rfl
def R3(x y:So):Int:=fS (x.1,x.2.1) (y.1,y.2.1)
theorem Qo:Cfn 212 R3:=⟨Im,fun W hm x y=>Dr.compareSwaps_any x.1 x.2.1 x.2.2 y.1 y.2.1 y.2.2 W hm,Pv.oQ (fun x:Sp=>(x.path,x.ver)) wT⟩
end Sw
end
section
open Go.RowKit Go.Sort Go.Shelf Go.Lib
theorem cell_below{w W:zW}{a:Addr}{u:zV}(F:zB w W)(h:w.cell? a=some u):W.cell? a=some u:=by
 have E:=aY w _ h;rw[bg (w:=w) (F.block a.block E)];exact h
theorem Sm.Rd.below{w W:zW}{v:zV}{L:List Mo}(h:Sm.Rd w v L)(E:zB w W):Sm.Rd W v L:=by
 rcases h with h|⟨b,off,c,h,F⟩
 ·exact oE h
 ·exact oS ⟨b,off,c,h,fun j u M=>cell_below E (F j u M)⟩
theorem Sw.Rd.below{w W:zW}{v:zV}{L:List So}(h:Sw.Rd w v L)(E:zB w W):Sw.Rd W v L:=by
 rcases h with h|⟨b,off,c,h,F⟩
 ·exact oE h
 ·exact oS ⟨b,off,c,h,fun j u M=>cell_below E (F j u M)⟩
theorem Sm.Rd.shape{w:zW}{v:zV}{L:List Mo}(h:Sm.Rd w v L):∃a n c,v=.slice a n c:=by
 rcases h with⟨h,_⟩|⟨b,off,c,h,_⟩<;>exact⟨_,_,_,h⟩
theorem Sw.Rd.shape{w:zW}{v:zV}{L:List So}(h:Sw.Rd w v L):∃a n c,v=.slice a n c:=by
 rcases h with⟨h,_⟩|⟨b,off,c,h,_⟩<;>exact⟨_,_,_,h⟩
theorem jV{w:zW}{B e s n:Nat}{v:zV}{l:List zV}(h:w.ownsRow B e s v n l):∃a n c,v=.slice a n c:=by
 rcases h.2 with⟨h,_⟩|⟨g,c,_,h,_⟩<;>exact⟨_,_,_,h⟩
abbrev reqs(L:List Mo):List Mo:=Ss.aP (ltOf Sm.zr) L
abbrev sR(L:List Mo):List Mo:=Ss.aP (ltOf fS) L
abbrev sS(L:List So):List So:=Ss.aP (ltOf Sw.R3) L
theorem gI{w:zW}{B F e s n:Nat}{v:zV}{l:List zV}(h:w.ownsRow B e s v n l)(U:F<=B):w.ownsRow F e s v n l:=by
 refine⟨h.1,?_⟩;rcases h.2 with h|⟨g,c,E,M,O,T⟩
 ·exact oE h
 ·exact oS ⟨g,c,E,M,aN U O,T⟩
structure InM(w:World)(p:zA)(J I G:zV)(W:World):Prop where
 b:zB w W
 box:gG W w.heap.size 4 (fun f=>if f=0 then tS p else if f=1 then J else if f=2 then I else G)
 out:W.heap[w.heap.size+1]?=some (.cells #[zE,zN,zN,zN] 214)
 sz:w.heap.size+2<=W.heap.size
variable{w W W':zW}{p:zA}{J I G:zV}
theorem InM.call(h:InM w p J I G W)(E:zB W W'):InM w p J I G W':=
 ⟨h.b.trans (E.mono (by have:=h.sz;omega)),h.box.of_block (E.block _ (by have:=h.sz;omega)),by rw[E.block _ (by have:=h.sz;omega)];exact h.out,aN h.sz E.size⟩
theorem InM.cells(h:InM w p J I G W):(W.cell? (tD w.heap.size 0)=some (tS p)/\W.cell? (tD w.heap.size 1)=some J/\W.cell? (tD w.heap.size 2)=some I/\W.cell? (tD w.heap.size 3)=some G)/\(W.frozen? (tD w.heap.size 0)=false/\W.frozen? (tD w.heap.size 1)=false/\W.frozen? (tD w.heap.size 2)=false/\W.frozen? (tD w.heap.size 3)=false):=
 ⟨⟨h.box.at' 0 (by omega),h.box.at' 1 (by omega),h.box.at' 2 (by omega),h.box.at' 3 (by omega)⟩,h.box.fr 0 (by omega),h.box.fr 1 (by omega),h.box.fr 2 (by omega),h.box.fr 3 (by omega)⟩
theorem InM.outs(h:InM w p J I G W):(W.cell? (tD (w.heap.size+1) 0)=some (zE)/\W.cell? (tD (w.heap.size+1) 1)=some (zN)/\W.cell? (tD (w.heap.size+1) 2)=some (zN)/\W.cell? (tD (w.heap.size+1) 3)=some (zN))/\(W.frozen? (tD (w.heap.size+1) 0)=false/\W.frozen? (tD (w.heap.size+1) 1)=false/\W.frozen? (tD (w.heap.size+1) 2)=false/\W.frozen? (tD (w.heap.size+1) 3)=false):=
 Dr.cells4 h.out
theorem InM.Qp(h:InM w p J I G W)(i:Nat)(T:i<4)(u:zV)(E M F:zV)(O:zA)(e:∀j,j<4->(if j=i then u else if j=0 then tS p else if j=1 then J else if j=2 then I else G)=(if j=0 then tS O else if j=1 then E else if j=2 then M else F)):InM w O E M F (W.setCell (tD w.heap.size i) u):=
 ⟨h.b.setCell (ah _) _,(h.box.set T u).ext e,by rw[aL _ _ _ _ (by show w.heap.size+1≠w.heap.size;omega)];exact h.out,by have:=h.sz;simpa using this⟩
theorem InM.r(h:InM w p J I G W)(u:zV):InM w p u I G (W.setCell (tD w.heap.size 1) u):=
 h.Qp 1 (by omega) u u I G p (fun j _=>by by_cases E:j=1<;>simp[E])
theorem InM.x(h:InM w p J I G W)(u:zV):InM w p J u G (W.setCell (tD w.heap.size 2) u):=
 h.Qp 2 (by omega) u J u G p (fun j _=>by by_cases E:j=2<;>simp[E])
theorem InM.s(h:InM w p J I G W)(u:zV):InM w p J I u (W.setCell (tD w.heap.size 3) u):=
 h.Qp 3 (by omega) u J I u p (fun j M=>by
  by_cases E:j=3
  ·simp[E]
  ·have F:j=0\/j=1\/j=2:=by omega
   rcases F with rfl|rfl|rfl<;>simp)
theorem InM.start(w:zW)(p:zA)(J I G:zV):InM w p J I G ((w.alloc (.cells #[tS p,J,I,G] 214)).alloc (.cells #[zE,zN,zN,zN] 214)):=by
 refine⟨((ae _ _).alloc (ah _) _).alloc (by simp) _,⟨fun j F=>?_,fun j F=>?_⟩,eD _ _ _,by simp⟩
 ·have E:j=0\/j=1\/j=2\/j=3:=by omega
  rcases E with rfl|rfl|rfl|rfl<;>simp
 ·have E:j=0\/j=1\/j=2\/j=3:=by omega
  rcases E with rfl|rfl|rfl|rfl<;>simp
theorem InM.whole(h:InM w p J I G W)(a b c d:zV):((((W.setCell (tD (w.heap.size+1) 0) a).setCell (tD (w.heap.size+1) 1) b).setCell (tD (w.heap.size+1) 2) c).setCell (tD (w.heap.size+1) 3) d).heap[w.heap.size+1]?=some (.cells #[a,b,c,d] 214):=by
 have E:=bo _ _ 0 _ _ a h.out;have F:=bo _ _ 1 _ _ b E;have M:=bo _ _ 2 _ _ c F;exact bo _ _ 3 _ _ d M
theorem cV{B e s n:Nat}{v:zV}{l:List zV}(h:W.ownsRow B e s v n l){a:Addr}(u:zV)(E:a.block<B):(W.setCell a u).ownsRow B e s v n l:=
 ownsRow_setCell_other h (fun he=>by have:=(h.lt _ he).1;omega) u
end
section
open Go.RowKit Go.Sort Go.Shelf Go.Lib
namespace Mf
def Apart(J I G:zV):Prop:=∀b,(J.ownBlock=some b->I.ownBlock≠some b/\G.ownBlock≠some b)/\(I.ownBlock=some b->G.ownBlock≠some b)
theorem zu(p:zA)(J I G:zV)(R X:List Mo)(S:List So)(w:zW)(hm:Dr.Ml w)(hR:R.length<=19)(hX:X.length<=19)(hS:S.length<=19)(hr:Sm.Rd w J R)(hx:Sm.Rd w I X)(hs:Sw.Rd w G S):
  zC 189 #[.agg #[tS p,J,I,G]] w fun e w'=>∃a1 a3 a2,e=.returned (.agg #[tS p,a1,a3,a2])/\w'.ownsRow w.heap.size 70 2 a1 R.length ((reqs R).flatMap Sm.mc)/\w'.ownsRow w.heap.size 70 2 a3 X.length ((sR X).flatMap Sm.mc)/\w'.ownsRow w.heap.size 267 3 a2 S.length ((sS S).flatMap Sw.mc)/\zB w w'/\Apart a1 a3 a2:=by
 obtain⟨ra,rn,rc,er⟩:=hr.shape;obtain⟨xa,xn,xc,ex⟩:=hx.shape;obtain⟨sa,sn,sc,es⟩:=hs.shape
 have KR:Aside (∀W,zB w W->zC 209 #[.slice ra rn rc,.func (.func 210) #[] #[]] W fun e w'=>∃v',e=.returned v'/\w'.ownsRow W.heap.size 70 2 v' R.length ((reqs R).flatMap Sm.mc)/\zB W w'):=fun W hb=>by
  rw[<-er];exact Sm.nB Sm.Qk J R W (Sm.oZ hm hb) hR (hr.below hb)
 have KX:Aside (∀W,zB w W->zC 209 #[.slice xa xn xc,.func (.func 195) #[] #[]] W fun e w'=>∃v',e=.returned v'/\w'.ownsRow W.heap.size 70 2 v' X.length ((sR X).flatMap Sm.mc)/\zB W w'):=fun W hb=>by
  rw[<-ex];exact Sm.nB Sm.Ql I X W (Sm.oZ hm hb) hX (hx.below hb)
 have KS:Aside (∀W,zB w W->zC 211 #[.slice sa sn sc,.func (.func 212) #[] #[]] W fun e w'=>∃v',e=.returned v'/\w'.ownsRow W.heap.size 267 3 v' S.length ((sS S).flatMap Sw.mc)/\zB W w'):=fun W hb=>by
  rw[<-es];exact Sw.nB Sw.Qo G S W (Sm.oZ hm hb) hS (hs.below hb)
 clear hr hx hs hm;subst er;subst ex;subst es;have I0:Aside (InM w p (.slice ra rn rc) (.slice xa xn xc) (.slice sa sn sc) ((w.alloc (.cells #[tS p,.slice ra rn rc,.slice xa xn xc,.slice sa sn sc] 214)).alloc (.cells #[zE,zN,zN,zN] 214))):=InM.start w p _ _ _;go_enter func189,ntmps189
 go_wp2_with (go_at_call 209;fail)
 go_at_call 209;refine(KR.out _ I0.out.b).mono ?_;rintro e w1 ⟨v1,rfl,o1,b1⟩;obtain⟨E,M,F,e1⟩:=jV o1;subst e1;have I1:Aside (InM w p (.slice E M F) (.slice xa xn xc) (.slice sa sn sc) (w1.setCell (tD w.heap.size 1) (.slice E M F))):=(I0.out.call b1).r _;have O1:Aside ((w1.setCell (tD w.heap.size 1) (.slice E M F)).ownsRow (w.heap.size+2) 70 2 (.slice E M F) R.length ((reqs R).flatMap Sm.mc)):=cV (gI o1 (by simp)) _ (by show w.heap.size<_;omega);obtain⟨⟨z0,z1,z2,z3⟩,y0,y1,y2,y3⟩:=(I0.out.call b1).cells;obtain⟨⟨u0,u1,u2,u3⟩,_⟩:=I1.out.cells;have A1:Aside (∀b,(Value.slice E M F).ownBlock=some b->b<w1.heap.size):=fun b e=>(o1.lt b e).2
 have a4:Aside ((w1.setCell (tD w.heap.size 1) (.slice E M F)).heap.size=w1.heap.size):=by show _=_;simp[World.setCell]
 clear I0 o1 b1 KR
 go_wp2_with (go_at_call 209;fail)
 go_at_call 209;refine(KX.out _ I1.out.b).mono ?_;rintro e w2 ⟨v2,rfl,o2,b2⟩;obtain⟨V,a0,Y,e2⟩:=jV o2;subst e2;have I2:Aside (InM w p (.slice E M F) (.slice V a0 Y) (.slice sa sn sc) (w2.setCell (tD w.heap.size 2) (.slice V a0 Y))):=(I1.out.call b2).x _;have O2:Aside ((w2.setCell (tD w.heap.size 2) (.slice V a0 Y)).ownsRow (w.heap.size+2) 70 2 (.slice V a0 Y) X.length ((sR X).flatMap Sm.mc)):=cV (gI o2 (by have:=I1.out.sz;exact this)) _ (by show w.heap.size<_;omega);have a6:Aside ((w2.setCell (tD w.heap.size 2) (.slice V a0 Y)).ownsRow (w.heap.size+2) 70 2 (.slice E M F) R.length ((reqs R).flatMap Sm.mc)):=cV (own_below O1.out b2) _ (by show w.heap.size<_;omega);obtain⟨⟨t0,t1,t2,t3⟩,s0,s1,s2,s3⟩:=(I1.out.call b2).cells;obtain⟨⟨q0,q1,q2,q3⟩,_⟩:=I2.out.cells;have A2:Aside (∀b,(Value.slice V a0 Y).ownBlock=some b->w1.heap.size<=b/\b<w2.heap.size):=fun b e=>⟨by have h:=(o2.lt b e).1;rw[a4.out] at h;exact h,(o2.lt b e).2⟩
 have a5:Aside ((w2.setCell (tD w.heap.size 2) (.slice V a0 Y)).heap.size=w2.heap.size/\w1.heap.size<=w2.heap.size):=⟨by simp[World.setCell],by have h:=b2.size;rw[a4.out] at h;exact h⟩;clear I1 o2 b2 KX O1 z0 z1 z2 z3 y0 y1 y2 y3 u0 u1 u2 u3
 go_wp2_with (go_at_call 211;fail)
 go_at_call 211;refine(KS.out _ I2.out.b).mono ?_;rintro e w3 ⟨v3,rfl,o3,b3⟩;obtain⟨O,U,T,e3⟩:=jV o3;subst e3;have I3:Aside (InM w p (.slice E M F) (.slice V a0 Y) (.slice O U T) (w3.setCell (tD w.heap.size 3) (.slice O U T))):=(I2.out.call b3).s _;have O3:Aside ((w3.setCell (tD w.heap.size 3) (.slice O U T)).ownsRow (w.heap.size+2) 267 3 (.slice O U T) S.length ((sS S).flatMap Sw.mc)):=cV (gI o3 (by have:=I2.out.sz;exact this)) _ (by show w.heap.size<_;omega);have a7:Aside ((w3.setCell (tD w.heap.size 3) (.slice O U T)).ownsRow (w.heap.size+2) 70 2 (.slice V a0 Y) X.length ((sR X).flatMap Sm.mc)):=cV (own_below O2.out b3) _ (by show w.heap.size<_;omega);have O1:Aside ((w3.setCell (tD w.heap.size 3) (.slice O U T)).ownsRow (w.heap.size+2) 70 2 (.slice E M F) R.length ((reqs R).flatMap Sm.mc)):=cV (own_below a6.out b3) _ (by show w.heap.size<_;omega);obtain⟨⟨z0,z1,z2,z3⟩,y0,y1,y2,y3⟩:=(I2.out.call b3).cells;obtain⟨⟨u0,u1,u2,u3⟩,_⟩:=I3.out.cells;obtain⟨⟨g0,g1,g2,g3⟩,f0,f1,f2,f3⟩:=I3.out.outs;have HO:Hid (∀a b c d,(((((w3.setCell (tD w.heap.size 3) (.slice O U T)).setCell (tD (w.heap.size+1) 0) a).setCell (tD (w.heap.size+1) 1) b).setCell (tD (w.heap.size+1) 2) c).setCell (tD (w.heap.size+1) 3) d).heap[w.heap.size+1]?=some (.cells #[a,b,c,d] 214)):=fun a b c d=>I3.out.whole a b c d
 have HB:=zH I3.out.b
 have A3:Aside (Apart (.slice E M F) (.slice V a0 Y) (.slice O U T)):=fun b=>by
  have h3:(Value.slice O U T).ownBlock=some b->w2.heap.size<=b:=fun e=>by have h:=(o3.lt b e).1;rw[a5.out.1] at h;exact h
  have h4:=a5.out.2;refine⟨fun e=>⟨fun e2=>?_,fun e2=>?_⟩,fun e e2=>?_⟩
  ·have:=A1.out b e;have:=(A2.out b e2).1;omega
  ·have:=A1.out b e;have:=h3 e2;omega
  ·have:=(A2.out b e).2;have:=h3 e2;omega
 clear I2 I3 o3 b3 KS a6 O2 t0 t1 t2 t3 s0 s1 s2 s3 q0 q1 q2 q3;generalize hW:w3.setCell (tD w.heap.size 3) (.slice O U T)=W at*;have hq:w.heap.size+1<w.heap.size+2:=by omega
 have HF:Hid (∀a b c d,((((W.setCell (tD (w.heap.size+1) 0) a).setCell (tD (w.heap.size+1) 1) b).setCell (tD (w.heap.size+1) 2) c).setCell (tD (w.heap.size+1) 3) d).ownsRow w.heap.size 70 2 (.slice E M F) R.length ((reqs R).flatMap Sm.mc)/\((((W.setCell (tD (w.heap.size+1) 0) a).setCell (tD (w.heap.size+1) 1) b).setCell (tD (w.heap.size+1) 2) c).setCell (tD (w.heap.size+1) 3) d).ownsRow w.heap.size 70 2 (.slice V a0 Y) X.length ((sR X).flatMap Sm.mc)/\((((W.setCell (tD (w.heap.size+1) 0) a).setCell (tD (w.heap.size+1) 1) b).setCell (tD (w.heap.size+1) 2) c).setCell (tD (w.heap.size+1) 3) d).ownsRow w.heap.size 267 3 (.slice O U T) S.length ((sS S).flatMap Sw.mc)/\zB w ((((W.setCell (tD (w.heap.size+1) 0) a).setCell (tD (w.heap.size+1) 1) b).setCell (tD (w.heap.size+1) 2) c).setCell (tD (w.heap.size+1) 3) d)):=fun a b c d=>
  ⟨gI (cV (cV (cV (cV O1.out _ hq) _ hq) _ hq) _ hq) (by omega),gI (cV (cV (cV (cV a7.out _ hq) _ hq) _ hq) _ hq) (by omega),gI (cV (cV (cV (cV O3.out _ hq) _ hq) _ hq) _ hq) (by omega),(((HB.out.setCell (by show w.heap.size<=w.heap.size+1;omega) _).setCell (by show w.heap.size<=w.heap.size+1;omega) _).setCell (by show w.heap.size<=w.heap.size+1;omega) _).setCell (by show w.heap.size<=w.heap.size+1;omega) _⟩
 clear O1 a7 O3 HB hq;go_wp2;refine aI (bG results189 _ _ (w.heap.size+1) 214 _ (0,0) _ rfl (HO.out _ _ _ _) underlying214 rfl (by kernel_rfl)) rfl ?_;exact⟨_,_,_,rfl,(HF.out _ _ _ _).1,(HF.out _ _ _ _).2.1,(HF.out _ _ _ _).2.2.1,(HF.out _ _ _ _).2.2.2,A3.out⟩
