import Derived.Test.YtkfobfbiblgohaaGreatDoorKCA
set_option linter.all false
open Go.Proofs.Tryz
set_option maxRecDepth 1000000
set_option maxHeartbeats 2000000
namespace Go.Proofs.YtkfobfbiblgohaaGreatDoor
section
open Go.RowKit Go.Sort Go.Shelf Go.Lib
namespace Sm
structure Md where
 path:zA
 ver:zA
 tag:Nat
instance:Inhabited Md:=⟨⟨⟨#[]⟩,⟨#[]⟩,0⟩⟩
def enc(x:Md):List zV:=[tS x.path,tS x.ver]
theorem ny(x:Md):(enc x).length=2:=rfl
theorem BF(x:Md):∀v∈enc x,v.oneCell'=true:=by
 intro v E;simp[enc] at E;rcases E with rfl|rfl<;>rfl
end Sm
end
section
open Go.RowKit Go.Sort Go.Shelf Go.Lib
namespace Sm
structure Told(g:Nat)(Q:Array zV)(I:Md->Md->Int)(G off:Nat)(d0:Array Md)(J:World):Prop where
 R:RowK enc 2 J G off d0
 eg:∀args w,(callFunc g args).run prog w=.ok (.enter g args) w
 cmp:CmpLays prog g Q enc 2 I G off d0.size J
 swo:SWO (ltOf I)
 sz:d0.size<4611686018427387904
variable{g:Nat}{Q:Array zV}{I:Md->Md->Int}{G off:Nat}{d0:Array Md}{J:zW}
end Sm
end
section
open Go.RowKit Go.Sort Go.Shelf Go.Lib
namespace Sm
def Qf:Go.Shelf.Ren:=⟨fun|20=>241|n=>n,fun|24=>70|22=>33|3=>3|25=>275|4=>4|0=>0|n=>n,fun|n=>n⟩
theorem NL:Go.Proofs.SlLaysF0.n20 prog Qf:={
 mixed:=by kernel_rfl
 f20:=⟨f241.name,by decide,func241.trans (bz some (by kernel_rfl))⟩
 t0:=underlying0
 a0:=isAgg0
 z0:=sizeOf0
 v0:=zeroValue0
 t3:=underlying3
 a3:=isAgg3
 z3:=sizeOf3
 v3:=zeroValue3
 t4:=underlying4
 a4:=isAgg4
 z4:=sizeOf4
 v4:=zeroValue4
 t22:=underlying33
 a22:=isAgg33
 z22:=sizeOf33
 v22:=zeroValue33
 t25:=underlying275
 a25:=isAgg275
 z25:=sizeOf275
 v25:=zeroValue275}
variable{g:Nat}{Q:Array zV}{I:Md->Md->Int}{G off:Nat}{d0:Array Md}{J:zW}
theorem rA(T:Told g Q I G off d0 J)(cap a b:Nat)(d:Array Md)(w:zW)(Y:d.size=d0.size)(S:SWK enc 2 J G off d w)(E:a<=b)(V:b<=d.size):
  zC 241 #[.slice (some (tD G off)) d0.size cap,zI a,zI b,.func (.func g) #[] Q] w fun e w'=>e=.returned (.tuple #[])/\SWK enc 2 J G off (Sort.insertionSort (ltOf I) d a b) w':=by
 have M:(Sort.insertionSort (ltOf I) d a b).size=d.size:=(insertionSort_holds T.swo d a b E V).1.1;have a0:=T.sz
 have hC:CmpLays prog g Q enc 2 I G off d.size w:=fun m os U F x y=>by
  obtain⟨n0,O,rfl⟩:=S;rw[sortWorldK_on enc 2 J G off n0 m d U O os T.R.hblk F];exact T.cmp _ _ U (by omega) x y
 rw[<-Y];refine(AnyQ.insertionSortCmpFunc NL 2 isAgg70 sizeOf70 enc T.R.hk T.R.h1 I g Q G off cap a b d w T.eg hC (S.holds T.R.hblk T.R.hH Y) (S.lt T.R.hblk) E V (by omega)).mono ?_;rintro e w' ⟨rfl,n,os,rfl⟩;exact⟨rfl,S.on T.R.hblk n _ os M⟩
end Sm
end
section
open Go.RowKit Go.Sort Go.Shelf Go.Lib
namespace Sm
variable{g:Nat}{Q:Array zV}{I:Md->Md->Int}{G off:Nat}{d0:Array Md}{J:zW}
theorem xI(T:Told g Q I G off d0 J)(F:d0.size<20)(E:Ss.iG Md.tag 0 d0.size d0):Ss.oT (ltOf I) Md.tag 0 d0.size d0 (Sort.insertionSort (ltOf I) d0 0 d0.size):=by
 have f:=Ss.xH (s:=20) (k:=0) (p:=0) T.swo (by omega) (Ss.Bl.none 20 d0.size (by omega) d0) E (aJ _) (by omega) (ah _);exact⟨f.1,f.2.whole (by omega)⟩
theorem rB(T:Told g Q I G off d0 J)(hn:d0.size<20)(F:Ss.iG Md.tag 0 d0.size d0)(cap:Nat)(w:zW)(S:SWK enc 2 J G off d0 w):
  zC 254 #[.slice (some (tD G off)) d0.size cap,zI d0.size,.func (.func g) #[] Q] w fun e w'=>e=.returned (.tuple #[])/\∃d',Ss.oT (ltOf I) Md.tag 0 d0.size d0 d'/\SWK enc 2 J G off d' w':=by
 have M:=rA T cap 0 d0.size d0 w rfl S (aJ _) (ah _);have Y:=zH (xI T hn F);generalize Sort.insertionSort (ltOf I) d0 0 d0.size=d1 at*;have h1:¬((20:Int)<=(d0.size:Int)):=by omega
 have h2:¬((20:Int)<(d0.size:Int)):=by omega
 clear T S F;go_enter func254,ntmps254;go_wp2;go_loopg [7,8] 0 (fun kx O U wr=>O=zI 0/\U=zI 20/\w=wr)
 case atStart=>exact⟨rfl,rfl,rfl⟩
 case round=>
  obtain⟨rfl,rfl,rfl⟩:=hrel
  go_wp2_with (go_at_call 241;fail)
  go_at_call 241;refine M.mono ?_;rintro ex V ⟨rfl,E⟩;have HS:=zH E;clear M E;go_wp2;go_loopg [6,7,8] 0 (fun ky s6 O U wr=>s6=zI 20/\V=wr)
  case atStart=>exact⟨rfl,rfl⟩
  case round=>
   obtain⟨rfl,rfl⟩:=hrel;go_wp2
   go_end0
   exact⟨rfl,d1,Y.out,HS.out⟩
theorem kG(T:Told g Q I G off d0 J)(U:d0.size<20)(F:Ss.iG Md.tag 0 d0.size d0)(cap:Nat):
  zC 226 #[.slice (some (tD G off)) d0.size cap,.func (.func g) #[] Q] J fun e w'=>e=.returned (.tuple #[])/\∃d',Ss.oT (ltOf I) Md.tag 0 d0.size d0 d'/\SWK enc 2 J G off d' w':=by
 have M:=rB T U F cap J (SWK.start T.R.hH);clear T F;go_enter func226,ntmps226
 go_wp2_with (go_at_call 254;fail)
 go_at_call 254;refine M.mono ?_;rintro ex V ⟨rfl,e,he,E⟩;have O:Hid (Ss.oT (ltOf I) Md.tag 0 d0.size d0 e/\SWK enc 2 J G off e V):=⟨he,E⟩;clear M he E;go_wp2
 go_end0
 exact⟨rfl,e,O.out⟩
end Sm
end
section
open Go.RowKit Go.Sort Go.Shelf Go.Lib
namespace Sw
structure Sp where
 path:zA
 ver:zA
 alt:zA
 tag:Nat
instance:Inhabited Sp:=⟨⟨⟨#[]⟩,⟨#[]⟩,⟨#[]⟩,0⟩⟩
def enc(x:Sp):List zV:=[tS x.path,tS x.ver,tS x.alt]
theorem ny(x:Sp):(enc x).length=3:=rfl
theorem BF(x:Sp):∀v∈enc x,v.oneCell'=true:=by
 intro v E;simp[enc] at E;rcases E with rfl|rfl|rfl<;>rfl
end Sw
end
section
open Go.RowKit Go.Sort Go.Shelf Go.Lib
namespace Sw
structure Told(g:Nat)(Q:Array zV)(I:Sp->Sp->Int)(G off:Nat)(d0:Array Sp)(J:World):Prop where
 R:RowK enc 3 J G off d0
 eg:∀args w,(callFunc g args).run prog w=.ok (.enter g args) w
 cmp:CmpLays prog g Q enc 3 I G off d0.size J
 swo:SWO (ltOf I)
 sz:d0.size<4611686018427387904
variable{g:Nat}{Q:Array zV}{I:Sp->Sp->Int}{G off:Nat}{d0:Array Sp}{J:zW}
end Sw
end
section
open Go.RowKit Go.Sort Go.Shelf Go.Lib
namespace Sw
def Qg:Go.Shelf.Ren:=⟨fun|20=>267|n=>n,fun|24=>267|22=>212|3=>3|25=>298|4=>4|0=>0|n=>n,fun|n=>n⟩
theorem NM:Go.Proofs.SlLaysF0.n20 prog Qg:={
 mixed:=by kernel_rfl
 f20:=⟨f267.name,by decide,func267.trans (bz some (by kernel_rfl))⟩
 t0:=underlying0
 a0:=isAgg0
 z0:=sizeOf0
 v0:=zeroValue0
 t3:=underlying3
 a3:=isAgg3
 z3:=sizeOf3
 v3:=zeroValue3
 t4:=underlying4
 a4:=isAgg4
 z4:=sizeOf4
 v4:=zeroValue4
 t22:=underlying212
 a22:=isAgg212
 z22:=sizeOf212
 v22:=zeroValue212
 t25:=underlying298
 a25:=isAgg298
 z25:=sizeOf298
 v25:=zeroValue298}
variable{g:Nat}{Q:Array zV}{I:Sp->Sp->Int}{G off:Nat}{d0:Array Sp}{J:zW}
theorem rA(T:Told g Q I G off d0 J)(cap a b:Nat)(d:Array Sp)(w:zW)(Y:d.size=d0.size)(S:SWK enc 3 J G off d w)(E:a<=b)(V:b<=d.size):
  zC 267 #[.slice (some (tD G off)) d0.size cap,zI a,zI b,.func (.func g) #[] Q] w fun e w'=>e=.returned (.tuple #[])/\SWK enc 3 J G off (Sort.insertionSort (ltOf I) d a b) w':=by
 have M:(Sort.insertionSort (ltOf I) d a b).size=d.size:=(insertionSort_holds T.swo d a b E V).1.1;have a0:=T.sz
 have hC:CmpLays prog g Q enc 3 I G off d.size w:=fun m os U F x y=>by
  obtain⟨n0,O,rfl⟩:=S;rw[sortWorldK_on enc 3 J G off n0 m d U O os T.R.hblk F];exact T.cmp _ _ U (by omega) x y
 rw[<-Y];refine(AnyQ.insertionSortCmpFunc NM 3 isAgg267 sizeOf267 enc T.R.hk T.R.h1 I g Q G off cap a b d w T.eg hC (S.holds T.R.hblk T.R.hH Y) (S.lt T.R.hblk) E V (by omega)).mono ?_;rintro e w' ⟨rfl,n,os,rfl⟩;exact⟨rfl,S.on T.R.hblk n _ os M⟩
end Sw
end
section
open Go.RowKit Go.Sort Go.Shelf Go.Lib
namespace Sw
variable{g:Nat}{Q:Array zV}{I:Sp->Sp->Int}{G off:Nat}{d0:Array Sp}{J:zW}
theorem xI(T:Told g Q I G off d0 J)(F:d0.size<20)(E:Ss.iG Sp.tag 0 d0.size d0):Ss.oT (ltOf I) Sp.tag 0 d0.size d0 (Sort.insertionSort (ltOf I) d0 0 d0.size):=by
 have f:=Ss.xH (s:=20) (k:=0) (p:=0) T.swo (by omega) (Ss.Bl.none 20 d0.size (by omega) d0) E (aJ _) (by omega) (ah _);exact⟨f.1,f.2.whole (by omega)⟩
theorem rB(T:Told g Q I G off d0 J)(hn:d0.size<20)(F:Ss.iG Sp.tag 0 d0.size d0)(cap:Nat)(w:zW)(S:SWK enc 3 J G off d0 w):
  zC 255 #[.slice (some (tD G off)) d0.size cap,zI d0.size,.func (.func g) #[] Q] w fun e w'=>e=.returned (.tuple #[])/\∃d',Ss.oT (ltOf I) Sp.tag 0 d0.size d0 d'/\SWK enc 3 J G off d' w':=by
 have M:=rA T cap 0 d0.size d0 w rfl S (aJ _) (ah _);have Y:=zH (xI T hn F);generalize Sort.insertionSort (ltOf I) d0 0 d0.size=d1 at*;have h1:¬((20:Int)<=(d0.size:Int)):=by omega
 have h2:¬((20:Int)<(d0.size:Int)):=by omega
 clear T S F;go_enter func255,ntmps255;go_wp2;go_loopg [7,8] 0 (fun kx O U wr=>O=zI 0/\U=zI 20/\w=wr)
 case atStart=>exact⟨rfl,rfl,rfl⟩
 case round=>
  obtain⟨rfl,rfl,rfl⟩:=hrel
  go_wp2_with (go_at_call 267;fail)
  go_at_call 267;refine M.mono ?_;rintro ex V ⟨rfl,E⟩;have HS:=zH E;clear M E;go_wp2;go_loopg [6,7,8] 0 (fun ky s6 O U wr=>s6=zI 20/\V=wr)
  case atStart=>exact⟨rfl,rfl⟩
  case round=>
   obtain⟨rfl,rfl⟩:=hrel;go_wp2
   go_end0
   exact⟨rfl,d1,Y.out,HS.out⟩
theorem kG(T:Told g Q I G off d0 J)(U:d0.size<20)(F:Ss.iG Sp.tag 0 d0.size d0)(cap:Nat):
  zC 228 #[.slice (some (tD G off)) d0.size cap,.func (.func g) #[] Q] J fun e w'=>e=.returned (.tuple #[])/\∃d',Ss.oT (ltOf I) Sp.tag 0 d0.size d0 d'/\SWK enc 3 J G off d' w':=by
 have M:=rB T U F cap J (SWK.start T.R.hH);clear T F;go_enter func228,ntmps228
 go_wp2_with (go_at_call 255;fail)
 go_at_call 255;refine M.mono ?_;rintro ex V ⟨rfl,e,he,E⟩;have O:Hid (Ss.oT (ltOf I) Sp.tag 0 d0.size d0 e/\SWK enc 3 J G off e V):=⟨he,E⟩;clear M he E;go_wp2
 go_end0
 exact⟨rfl,e,O.out⟩
