import Derived.Test.YtelmkfkgpnadnaaGreatDoorJCA
import Derived.Test.YtelmkfkgpnadnaaGreatDoorJShelf
import Derived.Shelf.SlSortCmp.KitK
import Derived.BigRegion
import Derived.Deep.LoopGhost
set_option linter.all false
open Go.Proofs.Tryz
set_option maxRecDepth 1000000
set_option maxHeartbeats 2000000
namespace Go.Proofs.YtelmkfkgpnadnaaGreatDoor
section
open Go.RowKit Go.Sort Go.Shelf Go.Lib
namespace Sm
structure Md where
 path:zA
 ver:zA
 tag:Nat
instance:Inhabited Md:=⟨⟨⟨#[]⟩,⟨#[]⟩,0⟩⟩
def enc(x:Md):List zV:=[.string x.path,.string x.ver]
theorem nk(x:Md):(enc x).length=2:=rfl
theorem AZ(x:Md):∀v∈enc x,v.oneCell'=true:=by
 intro v hv;simp[enc] at hv;rcases hv with rfl|rfl<;>rfl
end Sm
end
section
open Go.RowKit Go.Sort Go.Shelf Go.Lib
namespace Sm
structure Told(g:Nat)(cb:Array zV)(cf:Md→Md→Int)(blk off:Nat)(d0:Array Md)(w0:World):Prop where
 R:RowK enc 2 w0 blk off d0
 eg:∀args w,(callFunc g args).run prog w=.ok (.enter g args) w
 cmp:CmpLays prog g cb enc 2 cf blk off d0.size w0
 swo:SWO (ltOf cf)
 sz:d0.size<4611686018427387904
variable{g:Nat}{cb:Array zV}{cf:Md→Md→Int}{blk off:Nat}{d0:Array Md}{w0:zW}
end Sm
end
section
open Go.RowKit Go.Sort Go.Shelf Go.Lib
namespace Sm
def OO:Go.Shelf.Ren:=⟨fun|20=>273|n=>n,fun|24=>29|22=>23|3=>3|25=>221|4=>4|0=>0|n=>n,fun|n=>n⟩
theorem M4:Go.Proofs.SlLaysF0.n20 prog OO:={
 mixed:=by kernel_rfl
 f20:=⟨f273.name,by decide,func273.trans (bW some (by kernel_rfl))⟩
 t0:=underlying0
 a0:=isAgg0
 z0:=sizeOf0
 v0:=zeroValue0
 t3:=underlying3
 a3:=isAgg3
 z3:=sizeOf3
 v3:=zeroValue3
 t4:=underlying4
 a4:=isAgg4
 z4:=sizeOf4
 v4:=zeroValue4
 t22:=underlying23
 a22:=isAgg23
 z22:=sizeOf23
 v22:=zeroValue23
 t25:=underlying221
 a25:=isAgg221
 z25:=sizeOf221
 v25:=zeroValue221}
variable{g:Nat}{cb:Array zV}{cf:Md→Md→Int}{blk off:Nat}{d0:Array Md}{w0:zW}
theorem qW(T:Told g cb cf blk off d0 w0)(cap a b:Nat)(d:Array Md)(w:zW)(hs:d.size=d0.size)(S:SWK enc 2 w0 blk off d w)(hab:a≤b)(hb:b≤d.size):
  zC 273 #[.slice (some ⟨blk,off,none⟩) d0.size cap,zI a,zI b,.func (.func g) #[] cb] w fun e w'=>e=.returned (.tuple #[])∧SWK enc 2 w0 blk off (Sort.insertionSort (ltOf cf) d a b) w':=by
 have hs':(Sort.insertionSort (ltOf cf) d a b).size=d.size:=(insertionSort_holds T.swo d a b hab hb).1.1;have hsz:=T.sz
 have hC:CmpLays prog g cb enc 2 cf blk off d.size w:=fun m os dk hdk x y=>by
  obtain⟨n0,os0,rfl⟩:=S;rw[sortWorldK_on enc 2 w0 blk off n0 m d dk os0 os T.R.hblk hdk];exact T.cmp _ _ dk (by omega) x y
 rw[←hs];refine(AnyQ.insertionSortCmpFunc M4 2 isAgg29 sizeOf29 enc T.R.hk T.R.h1 cf g cb blk off cap a b d w T.eg hC (S.holds T.R.hblk T.R.hH hs) (S.lt T.R.hblk) hab hb (by omega)).mono ?_;rintro e w' ⟨rfl,n,os,rfl⟩;exact⟨rfl,S.on T.R.hblk n _ os hs'⟩
end Sm
end
section
open Go.RowKit Go.Sort Go.Shelf Go.Lib
namespace Sm
variable{g:Nat}{cb:Array zV}{cf:Md→Md→Int}{blk off:Nat}{d0:Array Md}{w0:zW}
theorem wL(T:Told g cb cf blk off d0 w0)(hn:d0.size<20)(ht:Ss.iq Md.tag 0 d0.size d0):Ss.oI (ltOf cf) Md.tag 0 d0.size d0 (Sort.insertionSort (ltOf cf) d0 0 d0.size):=by
 have f:=Ss.wK (s:=20) (k:=0) (p:=0) T.swo (by omega) (Ss.Bl.none 20 d0.size (by omega) d0) ht (aK _) (by omega) (ag _);exact⟨f.1,f.2.whole (by omega)⟩
theorem qX(T:Told g cb cf blk off d0 w0)(hn:d0.size<20)(ht:Ss.iq Md.tag 0 d0.size d0)(cap:Nat)(w:zW)(S:SWK enc 2 w0 blk off d0 w):
  zC 217 #[.slice (some ⟨blk,off,none⟩) d0.size cap,zI d0.size,.func (.func g) #[] cb] w fun e w'=>e=.returned (.tuple #[])∧∃d',Ss.oI (ltOf cf) Md.tag 0 d0.size d0 d'∧SWK enc 2 w0 blk off d' w':=by
 have k1:=qW T cap 0 d0.size d0 w rfl S (aK _) (ag _);have HP:Hid (Ss.oI (ltOf cf) Md.tag 0 d0.size d0 (Sort.insertionSort (ltOf cf) d0 0 d0.size)):=wL T hn ht;generalize Sort.insertionSort (ltOf cf) d0 0 d0.size=d1 at*;have h1:¬((20:Int)≤(d0.size:Int)):=by omega
 have h2:¬((20:Int)<(d0.size:Int)):=by omega
 clear T S ht;go_enter func217,ntmps217;go_wp2;go_loopg [7,8] 0 (fun kx s7 s8 wr=>s7=zI 0∧s8=zI 20∧w=wr)
 case atStart=>exact⟨rfl,rfl,rfl⟩
 case round=>
  obtain⟨rfl,rfl,rfl⟩:=hrel
  go_wp2_with (go_at_call 273;fail)
  go_at_call 273;refine k1.mono ?_;rintro ex w2 ⟨rfl,T1⟩;have HS:Hid (SWK enc 2 w0 blk off d1 w2):=T1;clear k1 T1;go_wp2;go_loopg [6,7,8] 0 (fun ky s6 s7 s8 wr=>s6=zI 20∧w2=wr)
  case atStart=>exact⟨rfl,rfl⟩
  case round=>
   obtain⟨rfl,rfl⟩:=hrel;go_wp2
   go_end0
   exact⟨rfl,d1,HP.out,HS.out⟩
theorem jW(T:Told g cb cf blk off d0 w0)(hn:d0.size<20)(ht:Ss.iq Md.tag 0 d0.size d0)(cap:Nat):
  zC 175 #[.slice (some ⟨blk,off,none⟩) d0.size cap,.func (.func g) #[] cb] w0 fun e w'=>e=.returned (.tuple #[])∧∃d',Ss.oI (ltOf cf) Md.tag 0 d0.size d0 d'∧SWK enc 2 w0 blk off d' w':=by
 have k1:=qX T hn ht cap w0 (SWK.start T.R.hH);clear T ht;go_enter func175,ntmps175
 go_wp2_with (go_at_call 217;fail)
 go_at_call 217;refine k1.mono ?_;rintro ex w2 ⟨rfl,e,he,T1⟩;have HF:Hid (Ss.oI (ltOf cf) Md.tag 0 d0.size d0 e∧SWK enc 2 w0 blk off e w2):=⟨he,T1⟩;clear k1 he T1;go_wp2
 go_end0
 exact⟨rfl,e,HF.out⟩
end Sm
end
section
open Go.RowKit Go.Sort Go.Shelf Go.Lib
namespace Sw
structure Sp where
 path:zA
 ver:zA
 alt:zA
 tag:Nat
instance:Inhabited Sp:=⟨⟨⟨#[]⟩,⟨#[]⟩,⟨#[]⟩,0⟩⟩
def enc(x:Sp):List zV:=[.string x.path,.string x.ver,.string x.alt]
theorem nk(x:Sp):(enc x).length=3:=rfl
theorem AZ(x:Sp):∀v∈enc x,v.oneCell'=true:=by
 intro v hv;simp[enc] at hv;rcases hv with rfl|rfl|rfl<;>rfl
end Sw
end
section
open Go.RowKit Go.Sort Go.Shelf Go.Lib
namespace Sw
structure Told(g:Nat)(cb:Array zV)(cf:Sp→Sp→Int)(blk off:Nat)(d0:Array Sp)(w0:World):Prop where
 R:RowK enc 3 w0 blk off d0
 eg:∀args w,(callFunc g args).run prog w=.ok (.enter g args) w
 cmp:CmpLays prog g cb enc 3 cf blk off d0.size w0
 swo:SWO (ltOf cf)
 sz:d0.size<4611686018427387904
variable{g:Nat}{cb:Array zV}{cf:Sp→Sp→Int}{blk off:Nat}{d0:Array Sp}{w0:zW}
end Sw
end
section
open Go.RowKit Go.Sort Go.Shelf Go.Lib
namespace Sw
def OP:Go.Shelf.Ren:=⟨fun|20=>276|n=>n,fun|24=>137|22=>24|3=>3|25=>223|4=>4|0=>0|n=>n,fun|n=>n⟩
theorem M5:Go.Proofs.SlLaysF0.n20 prog OP:={
 mixed:=by kernel_rfl
 f20:=⟨f276.name,by decide,func276.trans (bW some (by kernel_rfl))⟩
 t0:=underlying0
 a0:=isAgg0
 z0:=sizeOf0
 v0:=zeroValue0
 t3:=underlying3
 a3:=isAgg3
 z3:=sizeOf3
 v3:=zeroValue3
 t4:=underlying4
 a4:=isAgg4
 z4:=sizeOf4
 v4:=zeroValue4
 t22:=underlying24
 a22:=isAgg24
 z22:=sizeOf24
 v22:=zeroValue24
 t25:=underlying223
 a25:=isAgg223
 z25:=sizeOf223
 v25:=zeroValue223}
variable{g:Nat}{cb:Array zV}{cf:Sp→Sp→Int}{blk off:Nat}{d0:Array Sp}{w0:zW}
theorem qW(T:Told g cb cf blk off d0 w0)(cap a b:Nat)(d:Array Sp)(w:zW)(hs:d.size=d0.size)(S:SWK enc 3 w0 blk off d w)(hab:a≤b)(hb:b≤d.size):
  zC 276 #[.slice (some ⟨blk,off,none⟩) d0.size cap,zI a,zI b,.func (.func g) #[] cb] w fun e w'=>e=.returned (.tuple #[])∧SWK enc 3 w0 blk off (Sort.insertionSort (ltOf cf) d a b) w':=by
 have hs':(Sort.insertionSort (ltOf cf) d a b).size=d.size:=(insertionSort_holds T.swo d a b hab hb).1.1;have hsz:=T.sz
 have hC:CmpLays prog g cb enc 3 cf blk off d.size w:=fun m os dk hdk x y=>by
  obtain⟨n0,os0,rfl⟩:=S;rw[sortWorldK_on enc 3 w0 blk off n0 m d dk os0 os T.R.hblk hdk];exact T.cmp _ _ dk (by omega) x y
 rw[←hs];refine(AnyQ.insertionSortCmpFunc M5 3 isAgg137 sizeOf137 enc T.R.hk T.R.h1 cf g cb blk off cap a b d w T.eg hC (S.holds T.R.hblk T.R.hH hs) (S.lt T.R.hblk) hab hb (by omega)).mono ?_;rintro e w' ⟨rfl,n,os,rfl⟩;exact⟨rfl,S.on T.R.hblk n _ os hs'⟩
end Sw
end
section
open Go.RowKit Go.Sort Go.Shelf Go.Lib
namespace Sw
variable{g:Nat}{cb:Array zV}{cf:Sp→Sp→Int}{blk off:Nat}{d0:Array Sp}{w0:zW}
theorem wL(T:Told g cb cf blk off d0 w0)(hn:d0.size<20)(ht:Ss.iq Sp.tag 0 d0.size d0):Ss.oI (ltOf cf) Sp.tag 0 d0.size d0 (Sort.insertionSort (ltOf cf) d0 0 d0.size):=by
 have f:=Ss.wK (s:=20) (k:=0) (p:=0) T.swo (by omega) (Ss.Bl.none 20 d0.size (by omega) d0) ht (aK _) (by omega) (ag _);exact⟨f.1,f.2.whole (by omega)⟩
theorem qX(T:Told g cb cf blk off d0 w0)(hn:d0.size<20)(ht:Ss.iq Sp.tag 0 d0.size d0)(cap:Nat)(w:zW)(S:SWK enc 3 w0 blk off d0 w):
  zC 219 #[.slice (some ⟨blk,off,none⟩) d0.size cap,zI d0.size,.func (.func g) #[] cb] w fun e w'=>e=.returned (.tuple #[])∧∃d',Ss.oI (ltOf cf) Sp.tag 0 d0.size d0 d'∧SWK enc 3 w0 blk off d' w':=by
 have k1:=qW T cap 0 d0.size d0 w rfl S (aK _) (ag _);have HP:Hid (Ss.oI (ltOf cf) Sp.tag 0 d0.size d0 (Sort.insertionSort (ltOf cf) d0 0 d0.size)):=wL T hn ht;generalize Sort.insertionSort (ltOf cf) d0 0 d0.size=d1 at*;have h1:¬((20:Int)≤(d0.size:Int)):=by omega
 have h2:¬((20:Int)<(d0.size:Int)):=by omega
 clear T S ht;go_enter func219,ntmps219;go_wp2;go_loopg [7,8] 0 (fun kx s7 s8 wr=>s7=zI 0∧s8=zI 20∧w=wr)
 case atStart=>exact⟨rfl,rfl,rfl⟩
 case round=>
  obtain⟨rfl,rfl,rfl⟩:=hrel
  go_wp2_with (go_at_call 276;fail)
  go_at_call 276;refine k1.mono ?_;rintro ex w2 ⟨rfl,T1⟩;have HS:Hid (SWK enc 3 w0 blk off d1 w2):=T1;clear k1 T1;go_wp2;go_loopg [6,7,8] 0 (fun ky s6 s7 s8 wr=>s6=zI 20∧w2=wr)
  case atStart=>exact⟨rfl,rfl⟩
  case round=>
   obtain⟨rfl,rfl⟩:=hrel;go_wp2
   go_end0
   exact⟨rfl,d1,HP.out,HS.out⟩
theorem jW(T:Told g cb cf blk off d0 w0)(hn:d0.size<20)(ht:Ss.iq Sp.tag 0 d0.size d0)(cap:Nat):
  zC 178 #[.slice (some ⟨blk,off,none⟩) d0.size cap,.func (.func g) #[] cb] w0 fun e w'=>e=.returned (.tuple #[])∧∃d',Ss.oI (ltOf cf) Sp.tag 0 d0.size d0 d'∧SWK enc 3 w0 blk off d' w':=by
 have k1:=qX T hn ht cap w0 (SWK.start T.R.hH);clear T ht;go_enter func178,ntmps178
 go_wp2_with (go_at_call 219;fail)
 go_at_call 219;refine k1.mono ?_;rintro ex w2 ⟨rfl,e,he,T1⟩;have HF:Hid (Ss.oI (ltOf cf) Sp.tag 0 d0.size d0 e∧SWK enc 3 w0 blk off e w2):=⟨he,T1⟩;clear k1 he T1;go_wp2
 go_end0
 exact⟨rfl,e,HF.out⟩
