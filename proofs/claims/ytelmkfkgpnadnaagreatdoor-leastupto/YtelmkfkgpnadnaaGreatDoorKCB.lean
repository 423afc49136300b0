import Derived.Test.YtelmkfkgpnadnaaGreatDoorKXB
import Derived.Test.YtelmkfkgpnadnaaGreatDoorKCA
import Derived.Test.YtelmkfkgpnadnaaGreatDoorKSSB
import Derived.Shelf.SlicesE.Clone
set_option linter.unusedSimpArgs false
open Go.Proofs.Tryz
set_option maxRecDepth 100000
set_option maxHeartbeats 4000000
namespace Go.Proofs.YtelmkfkgpnadnaaGreatDoor
section
open Go.RowKit Go.Sort Go.Shelf Go.Lib
abbrev Mo:=ByteArray×ByteArray
namespace Sm
def mc(x:Mo):List Value:=[.string x.1,.string x.2]
def Rd(w:World)(v:Value)(L:List Mo):Prop:=
 (v=.slice none 0 0∧L=[])∨∃b off c,v=.slice (some ⟨b,off,none⟩) L.length c∧∀j u,(L.flatMap mc)[j]?=some u→w.cell? ⟨b,off+j,none⟩=some u
theorem vh(L:List Mo):(L.flatMap mc).length=L.length*2:=Ss.eA (enc:=mc) (k:=2) (fun _=>rfl) L
theorem pT(L:List Mo):∀u∈L.flatMap mc,u.oneCell'=true:=by
 intro u hu;obtain⟨x,_,hx⟩:=List.mem_flatMap.1 hu;simp[mc] at hx;rcases hx with rfl|rfl<;>rfl
def un(x:Md):Mo:=(x.path,x.ver)
def tagged(L:List Mo):Array Md:=(L.mapIdx fun i x=>(⟨x.1,x.2,i⟩:Md)).toArray
theorem nC(L:List Mo):(tagged L).size=L.length:=by simp[tagged]
theorem kP(L:List Mo):(tagged L).toList.map un=L:=by
 apply lq;intro i;simp[tagged,un,Function.comp_def]
theorem vk(D:List Md):D.flatMap enc=(D.map un).flatMap mc:=by
 rw[List.flatMap_map]
 rfl
theorem jy(L:List Mo):Ss.gP Md.tag 0 (tagged L).size (tagged L):=by
 intro i j _ hij hj;have hi:i<(tagged L).size:=by omega
 rw[bD _ i hi,bD _ j hj];simpa[tagged] using hij
def Nh:Go.Shelf.Ren:=⟨fun|41=>105|n=>n,fun|22=>23|23=>29|4=>4|n=>n,fun|n=>n⟩
theorem Eg:Go.Proofs.SlLaysE0.n41 prog Nh:={
 mixed:=by kernel_rfl
 f41:=⟨f105.name,by decide,func105.trans (bZ some (by kernel_rfl))⟩
 t4:=underlying4
 a4:=isAgg4
 z4:=sizeOf4
 v4:=zeroValue4
 t22:=underlying23
 a22:=isAgg23
 z22:=sizeOf23
 v22:=zeroValue23}
theorem lM(b off c:Nat)(L:List Mo)(w:World)(hL:L.length≤16777216)(hc:∀j u,(L.flatMap mc)[j]?=some u→w.cell? ⟨b,off+j,none⟩=some u):
  Calls prog 105 #[.slice (some ⟨b,off,none⟩) L.length c] w fun e w'=>∃g cap,e=.returned (.slice (some ⟨g,0,none⟩) L.length cap)∧w'.ownsRow w.heap.size 29 2 (.slice (some ⟨g,0,none⟩) L.length cap) L.length (L.flatMap mc)∧Below w.heap.size w w':=by
 obtain⟨i0,h1,h2,h3,h4⟩:=u6;have hlen:L.length≤maxLen:=aO hL (by decide);refine(AnyE.slices_Clone Eg i0 _ 2 32 h1 h2 h3 h4 rfl (by decide) sizeOf29 b off L.length c (L.flatMap mc) w (vh L) hlen (by omega) hc (pT L)).mono ?_;rintro e w' ⟨v',rfl,ho,hne,hb⟩;have ho':w'.ownsRow w.heap.size 29 2 v' L.length (L.flatMap mc):=ho;rcases ho'.2 with⟨hn,_⟩|⟨g,cap,cur,rfl,_⟩
 ·exact absurd hn hne
 ·exact⟨g,cap,rfl,ho',hb⟩
theorem lN(w:World):Calls prog 105 #[.slice none 0 0] w fun e w'=>e=.returned (.slice none 0 0)∧w'=w:=AnyE.slices_Clone_nil Eg 0 0 w
theorem nD(fv:Value)(w:World):Calls prog 273 #[.slice none 0 0,.int .i64 0,.int .i64 0,fv] w fun e w'=>e=.returned (.tuple #[])∧Below w.heap.size w w':=by
 have HB:Hid (Below w.heap.size w w):=ae _ _;go_enter func273,ntmps273;go_wp2;go_loopg [8] 0 (fun kx s8 wr=>s8=.int .i64 1∧Hid (Below w.heap.size w wr))
 case atStart=>exact⟨rfl,HB⟩
 case round=>
  clear HB;obtain⟨rfl,HB⟩:=hrel;go_wp2
  go_end0
  exact⟨rfl,HB.out⟩
theorem nE(fv:Value)(w:World):Calls prog 175 #[.slice none 0 0,fv] w fun e w'=>e=.returned (.tuple #[])∧Below w.heap.size w w':=by
 have k2:Calls prog 217 #[.slice none 0 0,.int .i64 0,fv] w fun e w'=>e=.returned (.tuple #[])∧Below w.heap.size w w':=by
  have ki:=nD fv;have HB:Hid (Below w.heap.size w w):=ae _ _;go_enter func217,ntmps217;go_wp2;go_loopg [7,8] 0 (fun kx s7 s8 wr=>s7=.int .i64 0∧s8=.int .i64 20∧Hid (Below w.heap.size w wr))
  case atStart=>exact⟨rfl,rfl,HB⟩
  case round=>
   clear HB;obtain⟨rfl,rfl,HB⟩:=hrel
   go_wp2_with (go_at_call 273;fail)
   go_at_call 273;refine(ki _).mono ?_;rintro e w1 ⟨rfl,hb1⟩;have HB1:Hid (Below w.heap.size w w1):=HB.out.trans (hb1.mono HB.out.size);clear hb1 HB;go_wp2;go_loopg [6,7,8] 0 (fun kx s6 s7 s8 wr=>s6=.int .i64 20∧Hid (Below w.heap.size w wr))
   case atStart=>exact⟨rfl,HB1⟩
   case round=>
    clear HB1;obtain⟨rfl,HB⟩:=hrel;go_wp2
    go_end0
    exact⟨rfl,HB.out⟩
 go_enter func175,ntmps175
 go_wp2_with (go_at_call 217;fail)
 go_at_call 217;refine k2.mono ?_;rintro ex w2 ⟨rfl,hb⟩;clear k2;go_wp2
 go_end0
 exact⟨rfl,hb⟩
structure Cfn(g:Nat)(cf0:Mo→Mo→Int):Prop where
 eg:∀args w,(callFunc g args).run prog w=.ok (.enter g args) w
 cmp:∀W,Dr.Ml W→∀x y:Mo,Calls prog g #[.agg #[.string x.1,.string x.2],.agg #[.string y.1,.string y.2]] W fun e w'=>e=.returned (.int .i64 (cf0 x y))∧Dr.Below W.heap.size W w'
 swo:SWO (ltOf fun x y:Md=>cf0 (un x) (un y))
theorem vn{w W:World}{g:Nat}{d:Array Md}(hm:Dr.Ml w)(hg:g≠0)(S:SWK enc 2 w g 0 d W):Dr.Ml W:=by
 obtain⟨q,e⟩:=hm;have h0:=aT w _ e;exact⟨q,by rw[aV (w:=w) (a:=⟨0,0,none⟩) (Ss.oJ S 0 h0 (fun e=>hg e.symm))];exact e⟩
theorem nG{w W:World}(hm:Dr.Ml w)(hb:Below w.heap.size w W):Dr.Ml W:=by
 obtain⟨q,e⟩:=hm;have h0:=aT w _ e;exact⟨q,by rw[aV (w:=w) (a:=⟨0,0,none⟩) (hb.block 0 h0)];exact e⟩
theorem pU{g:Nat}{cf0:Mo→Mo→Int}(hC:Cfn g cf0)(B blk cap:Nat)(L:List Mo)(w:World)(hm:Dr.Ml w)(hb0:blk≠0)(hL:L.length≤19)(h:w.ownsRow B 29 2 (.slice (some ⟨blk,0,none⟩) L.length cap) L.length (L.flatMap mc)):
  Calls prog 175 #[.slice (some ⟨blk,0,none⟩) L.length cap,.func (.func g) #[] #[]] w fun e w'=>e=.returned (.tuple #[])∧w'.ownsRow B 29 2 (.slice (some ⟨blk,0,none⟩) L.length cap) L.length ((Ss.aK (ltOf cf0) L).flatMap mc)∧aj (fun b=>b=blk) w w':=by
 have hsz:=nC L;have e0:(tagged L).toList.flatMap enc=L.flatMap mc:=by rw[vk,kP]
 have h':w.ownsRow B 29 2 (.slice (some ⟨blk,0,none⟩) (tagged L).size cap) (tagged L).size ((tagged L).toList.flatMap enc):=by rw[e0,hsz];exact h
 have T:Told g #[] (fun x y=>cf0 (un x) (un y)) blk 0 (tagged L) w:={
  R:=⟨lK,yY,Ss.sx lK (by decide) h',(h.lt blk rfl).2⟩
  eg:=hC.eg
  cmp:=fun m os dk hs x y=>by
   refine(hC.cmp _ (vn hm hb0 ⟨m,os,rfl⟩) (un x) (un y)).mono ?_;rintro e w' ⟨rfl,hb⟩;exact⟨rfl,hb.grow⟩
  swo:=hC.swo
  sz:=by rw[hsz];omega}
 have k:=jw T (by rw[hsz];omega) (jy L) cap;rw[hsz] at k;refine k.mono ?_;rintro e w' ⟨rfl,d',hP,S⟩;rw[←hsz] at hP;have hd':d'.size=L.length:=by rw[hP.1.1,hsz]
 have hl:d'.toList=Ss.aK (ltOf fun x y:Md=>cf0 (un x) (un y)) (tagged L).toList:=Ss.xU hC.swo (jy L) hP
 have e1:d'.toList.flatMap enc=(Ss.aK (ltOf cf0) L).flatMap mc:=by
  rw[vk,hl,Ss.ju (lt:=ltOf fun x y:Md=>cf0 (un x) (un y)) un (ltOf cf0) (fun _ _=>rfl),kP]
 rw[hsz] at h';have r:=Ss.pQ lK (by decide) hd' h' S;rw[e1] at r;exact⟨rfl,r.1,r.2⟩
theorem lO{g:Nat}{cf0:Mo→Mo→Int}(hC:Cfn g cf0)(v:Value)(L:List Mo)(w:World)(hm:Dr.Ml w)(hL:L.length≤19)(h:Rd w v L):
  Calls prog 126 #[v,.func (.func g) #[] #[]] w fun e w'=>∃v',e=.returned v'∧w'.ownsRow w.heap.size 29 2 v' L.length ((Ss.aK (ltOf cf0) L).flatMap mc)∧Below w.heap.size w w':=by
 rcases h with⟨rfl,rfl⟩|⟨b,off,c,rfl,hc⟩
 ·have k1:=lN
  have k2:=nE (.func (.func g) #[] #[]);clear hm hC hL;go_enter func126,ntmps126
  go_wp2_with (first|(go_at_call 105;refine(k1 _).mono ?_;rintro e w' ⟨rfl,rfl⟩)|(go_at_call 175;fail))
  go_at_call 175;refine(k2 _).mono ?_;rintro e w1 ⟨rfl,hb⟩;go_wp2;go_ret;exact⟨_,rfl,⟨rfl,Or.inl ⟨rfl,rfl⟩⟩,hb⟩
 ·have k1:=lM b off c L w (by omega) hc
  have k2:Aside (∀W blk cap,Below w.heap.size w W→W.ownsRow w.heap.size 29 2 (.slice (some ⟨blk,0,none⟩) L.length cap) L.length (L.flatMap mc)→Calls prog 175 #[.slice (some ⟨blk,0,none⟩) L.length cap,.func (.func g) #[] #[]] W fun e w'=>e=.returned (.tuple #[])∧w'.ownsRow w.heap.size 29 2 (.slice (some ⟨blk,0,none⟩) L.length cap) L.length ((Ss.aK (ltOf cf0) L).flatMap mc)∧Below w.heap.size w w'):=fun W blk cap hb ho=>by
   have hlt:=ho.lt blk rfl;have hp:=hm.pos;refine(pU hC _ blk cap L W (nG hm hb) (by omega) hL ho).mono ?_;rintro e w' ⟨rfl,ho',ht⟩;exact⟨rfl,ho',⟨by rw[ht.os];exact hb.os,by rw[ht.tape];exact hb.tape,by rw[ht.output];exact hb.output,aO hb.size ht.size,fun i hi=>by rw[ht.block i (bH hi hb.size) (by omega)];exact hb.block i hi⟩⟩
  clear hc hm hC;go_enter func126,ntmps126
  go_wp2_with (go_at_call 105;fail)
  go_at_call 105;refine k1.mono ?_;rintro e w1 ⟨blk,cap,rfl,ho,hb⟩;have k3:=k2.out w1 blk cap hb ho;clear k1 k2 ho hb
  go_wp2_with (go_at_call 175;fail)
  go_at_call 175;refine k3.mono ?_;rintro e w2 ⟨rfl,ho,hb⟩;have HF:Hid (w2.ownsRow w.heap.size 29 2 (.slice (some ⟨blk,0,none⟩) L.length cap) L.length ((Ss.aK (ltOf cf0) L).flatMap mc)∧Below w.heap.size w w2):=⟨ho,hb⟩;clear k3 ho hb;go_wp2;go_ret;exact⟨_,rfl,HF.out.1,HF.out.2⟩
theorem Fb:∀args w,(callFunc 127 args).run prog w=.ok (.enter 127 args) w:=fun _ _=>by kernel_rfl
theorem sK:∀args w,(callFunc 128 args).run prog w=.ok (.enter 128 args) w:=fun _ _=>by kernel_rfl
def xt(x y:Mo):Int:=dD x.1 y.1
theorem Ni:Cfn 127 xt:=⟨Fb,fun W _ x y=>Dr.sI x.1 x.2 y.1 y.2 W,Pv.lI (fun x:Md=>x.path) kL⟩
theorem Nj:Cfn 128 eV:=⟨sK,fun W hm x y=>Dr.gA x.1 x.2 y.1 y.2 W hm,Pv.lI (fun x:Md=>un x) qJ⟩
end Sm
end
section
open Go.RowKit Go.Sort Go.Shelf Go.Lib
abbrev So:=ByteArray×ByteArray×ByteArray
namespace Sw
def mc(x:So):List Value:=[.string x.1,.string x.2.1,.string x.2.2]
def Rd(w:World)(v:Value)(L:List So):Prop:=
 (v=.slice none 0 0∧L=[])∨∃b off c,v=.slice (some ⟨b,off,none⟩) L.length c∧∀j u,(L.flatMap mc)[j]?=some u→w.cell? ⟨b,off+j,none⟩=some u
theorem vh(L:List So):(L.flatMap mc).length=L.length*3:=Ss.eA (enc:=mc) (k:=3) (fun _=>rfl) L
theorem pT(L:List So):∀u∈L.flatMap mc,u.oneCell'=true:=by
 intro u hu;obtain⟨x,_,hx⟩:=List.mem_flatMap.1 hu;simp[mc] at hx;rcases hx with rfl|rfl|rfl<;>rfl
def un(x:Sp):So:=(x.path,x.ver,x.alt)
def tagged(L:List So):Array Sp:=(L.mapIdx fun i x=>(⟨x.1,x.2.1,x.2.2,i⟩:Sp)).toArray
theorem nC(L:List So):(tagged L).size=L.length:=by simp[tagged]
theorem kP(L:List So):(tagged L).toList.map un=L:=by
 apply lq;intro i;simp[tagged,un,Function.comp_def]
theorem vk(D:List Sp):D.flatMap enc=(D.map un).flatMap mc:=by
 rw[List.flatMap_map]
 rfl
theorem jy(L:List So):Ss.gP Sp.tag 0 (tagged L).size (tagged L):=by
 intro i j _ hij hj;have hi:i<(tagged L).size:=by omega
 rw[bD _ i hi,bD _ j hj];simpa[tagged] using hij
def Nk:Go.Shelf.Ren:=⟨fun|41=>177|n=>n,fun|22=>24|23=>137|4=>4|n=>n,fun|n=>n⟩
theorem Eh:Go.Proofs.SlLaysE0.n41 prog Nk:={
 mixed:=by kernel_rfl
 f41:=⟨f177.name,by decide,func177.trans (bZ some (by kernel_rfl))⟩
 t4:=underlying4
 a4:=isAgg4
 z4:=sizeOf4
 v4:=zeroValue4
 t22:=underlying24
 a22:=isAgg24
 z22:=sizeOf24
 v22:=zeroValue24}
theorem Ei:∃i,prog.info? 137=some i∧i.zero=some (.agg #[.string ⟨#[]⟩,.string ⟨#[]⟩,.string ⟨#[]⟩])∧i.size=3∧i.bytes=48:=by
 have h:(prog.info? 137).map (fun i=>(i.zero,i.size,i.bytes))=some (some (.agg #[.string ⟨#[]⟩,.string ⟨#[]⟩,.string ⟨#[]⟩]),3,48):=by kernel_rfl
 rw[pI] at h;obtain⟨i,h1,h2⟩:=h;simp only[im] at h2;exact⟨i,h1,h2.1,h2.2.1,h2.2.2⟩
theorem lM(b off c:Nat)(L:List So)(w:World)(hL:L.length≤19)(hc:∀j u,(L.flatMap mc)[j]?=some u→w.cell? ⟨b,off+j,none⟩=some u):
  Calls prog 177 #[.slice (some ⟨b,off,none⟩) L.length c] w fun e w'=>∃g cap,e=.returned (.slice (some ⟨g,0,none⟩) L.length cap)∧w'.ownsRow w.heap.size 137 3 (.slice (some ⟨g,0,none⟩) L.length cap) L.length (L.flatMap mc)∧Below w.heap.size w w':=by
 obtain⟨i0,h1,h2,h3,h4⟩:=Ei;have hlen:L.length≤maxLen:=aO hL (by decide);refine(AnyE.slices_Clone Eh i0 _ 3 48 h1 h2 h3 h4 rfl (by decide) sizeOf137 b off L.length c (L.flatMap mc) w (vh L) hlen (by omega) hc (pT L)).mono ?_;rintro e w' ⟨v',rfl,ho,hne,hb⟩;have ho':w'.ownsRow w.heap.size 137 3 v' L.length (L.flatMap mc):=ho;rcases ho'.2 with⟨hn,_⟩|⟨g,cap,cur,rfl,_⟩
 ·exact absurd hn hne
 ·exact⟨g,cap,rfl,ho',hb⟩
theorem lN(w:World):Calls prog 177 #[.slice none 0 0] w fun e w'=>e=.returned (.slice none 0 0)∧w'=w:=AnyE.slices_Clone_nil Eh 0 0 w
theorem nD(fv:Value)(w:World):Calls prog 276 #[.slice none 0 0,.int .i64 0,.int .i64 0,fv] w fun e w'=>e=.returned (.tuple #[])∧Below w.heap.size w w':=by
 have HB:Hid (Below w.heap.size w w):=ae _ _;go_enter func276,ntmps276;go_wp2;go_loopg [8] 0 (fun kx s8 wr=>s8=.int .i64 1∧Hid (Below w.heap.size w wr))
 case atStart=>exact⟨rfl,HB⟩
 case round=>
  clear HB;obtain⟨rfl,HB⟩:=hrel;go_wp2
  go_end0
  exact⟨rfl,HB.out⟩
theorem nE(fv:Value)(w:World):Calls prog 178 #[.slice none 0 0,fv] w fun e w'=>e=.returned (.tuple #[])∧Below w.heap.size w w':=by
 have k2:Calls prog 219 #[.slice none 0 0,.int .i64 0,fv] w fun e w'=>e=.returned (.tuple #[])∧Below w.heap.size w w':=by
  have ki:=nD fv;have HB:Hid (Below w.heap.size w w):=ae _ _;go_enter func219,ntmps219;go_wp2;go_loopg [7,8] 0 (fun kx s7 s8 wr=>s7=.int .i64 0∧s8=.int .i64 20∧Hid (Below w.heap.size w wr))
  case atStart=>exact⟨rfl,rfl,HB⟩
  case round=>
   clear HB;obtain⟨rfl,rfl,HB⟩:=hrel
   go_wp2_with (go_at_call 276;fail)
   go_at_call 276;refine(ki _).mono ?_;rintro e w1 ⟨rfl,hb1⟩;have HB1:Hid (Below w.heap.size w w1):=HB.out.trans (hb1.mono HB.out.size);clear hb1 HB;go_wp2;go_loopg [6,7,8] 0 (fun kx s6 s7 s8 wr=>s6=.int .i64 20∧Hid (Below w.heap.size w wr))
   case atStart=>exact⟨rfl,HB1⟩
   case round=>
    clear HB1;obtain⟨rfl,HB⟩:=hrel;go_wp2
    go_end0
    exact⟨rfl,HB.out⟩
 go_enter func178,ntmps178
 go_wp2_with (go_at_call 219;fail)
 go_at_call 219;refine k2.mono ?_;rintro ex w2 ⟨rfl,hb⟩;clear k2;go_wp2
 go_end0
 exact⟨rfl,hb⟩
structure Cfn(g:Nat)(cf0:So→So→Int):Prop where
 eg:∀args w,(callFunc g args).run prog w=.ok (.enter g args) w
 cmp:∀W,Dr.Ml W→∀x y:So,Calls prog g #[.agg #[.string x.1,.string x.2.1,.string x.2.2],.agg #[.string y.1,.string y.2.1,.string y.2.2]] W fun e w'=>e=.returned (.int .i64 (cf0 x y))∧Dr.Below W.heap.size W w'
 swo:SWO (ltOf fun x y:Sp=>cf0 (un x) (un y))
theorem vn{w W:World}{g:Nat}{d:Array Sp}(hm:Dr.Ml w)(hg:g≠0)(S:SWK enc 3 w g 0 d W):Dr.Ml W:=by
 obtain⟨q,e⟩:=hm;have h0:=aT w _ e;exact⟨q,by rw[aV (w:=w) (a:=⟨0,0,none⟩) (Ss.oJ S 0 h0 (fun e=>hg e.symm))];exact e⟩
theorem pU{g:Nat}{cf0:So→So→Int}(hC:Cfn g cf0)(B blk cap:Nat)(L:List So)(w:World)(hm:Dr.Ml w)(hb0:blk≠0)(hL:L.length≤19)(h:w.ownsRow B 137 3 (.slice (some ⟨blk,0,none⟩) L.length cap) L.length (L.flatMap mc)):
  Calls prog 178 #[.slice (some ⟨blk,0,none⟩) L.length cap,.func (.func g) #[] #[]] w fun e w'=>e=.returned (.tuple #[])∧w'.ownsRow B 137 3 (.slice (some ⟨blk,0,none⟩) L.length cap) L.length ((Ss.aK (ltOf cf0) L).flatMap mc)∧aj (fun b=>b=blk) w w':=by
 have hsz:=nC L;have e0:(tagged L).toList.flatMap enc=L.flatMap mc:=by rw[vk,kP]
 have h':w.ownsRow B 137 3 (.slice (some ⟨blk,0,none⟩) (tagged L).size cap) (tagged L).size ((tagged L).toList.flatMap enc):=by rw[e0,hsz];exact h
 have T:Told g #[] (fun x y=>cf0 (un x) (un y)) blk 0 (tagged L) w:={
  R:=⟨lK,yY,Ss.sx lK (by decide) h',(h.lt blk rfl).2⟩
  eg:=hC.eg
  cmp:=fun m os dk hs x y=>by
   refine(hC.cmp _ (vn hm hb0 ⟨m,os,rfl⟩) (un x) (un y)).mono ?_;rintro e w' ⟨rfl,hb⟩;exact⟨rfl,hb.grow⟩
  swo:=hC.swo
  sz:=by rw[hsz];omega}
 have k:=jw T (by rw[hsz];omega) (jy L) cap;rw[hsz] at k;refine k.mono ?_;rintro e w' ⟨rfl,d',hP,S⟩;rw[←hsz] at hP;have hd':d'.size=L.length:=by rw[hP.1.1,hsz]
 have hl:d'.toList=Ss.aK (ltOf fun x y:Sp=>cf0 (un x) (un y)) (tagged L).toList:=Ss.xU hC.swo (jy L) hP
 have e1:d'.toList.flatMap enc=(Ss.aK (ltOf cf0) L).flatMap mc:=by
  rw[vk,hl,Ss.ju (lt:=ltOf fun x y:Sp=>cf0 (un x) (un y)) un (ltOf cf0) (fun _ _=>rfl),kP]
 rw[hsz] at h';have r:=Ss.pQ lK (by decide) hd' h' S;rw[e1] at r;exact⟨rfl,r.1,r.2⟩
theorem lO{g:Nat}{cf0:So→So→Int}(hC:Cfn g cf0)(v:Value)(L:List So)(w:World)(hm:Dr.Ml w)(hL:L.length≤19)(h:Rd w v L):
  Calls prog 129 #[v,.func (.func g) #[] #[]] w fun e w'=>∃v',e=.returned v'∧w'.ownsRow w.heap.size 137 3 v' L.length ((Ss.aK (ltOf cf0) L).flatMap mc)∧Below w.heap.size w w':=by
 rcases h with⟨rfl,rfl⟩|⟨b,off,c,rfl,hc⟩
 ·have k1:=lN
  have k2:=nE (.func (.func g) #[] #[]);clear hm hC hL;go_enter func129,ntmps129
  go_wp2_with (first|(go_at_call 177;refine(k1 _).mono ?_;rintro e w' ⟨rfl,rfl⟩)|(go_at_call 178;fail))
  go_at_call 178;refine(k2 _).mono ?_;rintro e w1 ⟨rfl,hb⟩;go_wp2;go_ret;exact⟨_,rfl,⟨rfl,Or.inl ⟨rfl,rfl⟩⟩,hb⟩
 ·have k1:=lM b off c L w hL hc
  have k2:Aside (∀W blk cap,Below w.heap.size w W→W.ownsRow w.heap.size 137 3 (.slice (some ⟨blk,0,none⟩) L.length cap) L.length (L.flatMap mc)→Calls prog 178 #[.slice (some ⟨blk,0,none⟩) L.length cap,.func (.func g) #[] #[]] W fun e w'=>e=.returned (.tuple #[])∧w'.ownsRow w.heap.size 137 3 (.slice (some ⟨blk,0,none⟩) L.length cap) L.length ((Ss.aK (ltOf cf0) L).flatMap mc)∧Below w.heap.size w w'):=fun W blk cap hb ho=>by
   have hlt:=ho.lt blk rfl;have hp:=hm.pos;refine(pU hC _ blk cap L W (Sm.nG hm hb) (by omega) hL ho).mono ?_;rintro e w' ⟨rfl,ho',ht⟩;exact⟨rfl,ho',⟨by rw[ht.os];exact hb.os,by rw[ht.tape];exact hb.tape,by rw[ht.output];exact hb.output,aO hb.size ht.size,fun i hi=>by rw[ht.block i (bH hi hb.size) (by omega)];exact hb.block i hi⟩⟩
  clear hc hm hC;go_enter func129,ntmps129
  go_wp2_with (go_at_call 177;fail)
  go_at_call 177;refine k1.mono ?_;rintro e w1 ⟨blk,cap,rfl,ho,hb⟩;have k3:=k2.out w1 blk cap hb ho;clear k1 k2 ho hb
  go_wp2_with (go_at_call 178;fail)
  go_at_call 178;refine k3.mono ?_;rintro e w2 ⟨rfl,ho,hb⟩;have HF:Hid (w2.ownsRow w.heap.size 137 3 (.slice (some ⟨blk,0,none⟩) L.length cap) L.length ((Ss.aK (ltOf cf0) L).flatMap mc)∧Below w.heap.size w w2):=⟨ho,hb⟩;clear k3 ho hb;go_wp2;go_ret;exact⟨_,rfl,HF.out.1,HF.out.2⟩
theorem Fc:∀args w,(callFunc 130 args).run prog w=.ok (.enter 130 args) w:=fun _ _=>by kernel_rfl
def OY(x y:So):Int:=eV (x.1,x.2.1) (y.1,y.2.1)
theorem Nl:Cfn 130 OY:=⟨Fc,fun W hm x y=>Dr.sJ x.1 x.2.1 x.2.2 y.1 y.2.1 y.2.2 W hm,Pv.lI (fun x:Sp=>(x.path,x.ver)) qJ⟩
end Sw
end
section
open Go.RowKit Go.Sort Go.Shelf Go.Lib
theorem cell_below{w W:World}{a:Addr}{u:Value}(hb:Below w.heap.size w W)(h:w.cell? a=some u):W.cell? a=some u:=by
 have h0:=aT w _ h;rw[aV (w:=w) (hb.block a.block h0)];exact h
theorem Sm.Rd.below{w W:World}{v:Value}{L:List Mo}(h:Sm.Rd w v L)(hb:Below w.heap.size w W):Sm.Rd W v L:=by
 rcases h with h|⟨b,off,c,h,hc⟩
 ·exact Or.inl h
 ·exact Or.inr ⟨b,off,c,h,fun j u hj=>cell_below hb (hc j u hj)⟩
theorem Sw.Rd.below{w W:World}{v:Value}{L:List So}(h:Sw.Rd w v L)(hb:Below w.heap.size w W):Sw.Rd W v L:=by
 rcases h with h|⟨b,off,c,h,hc⟩
 ·exact Or.inl h
 ·exact Or.inr ⟨b,off,c,h,fun j u hj=>cell_below hb (hc j u hj)⟩
theorem Sm.Rd.shape{w:World}{v:Value}{L:List Mo}(h:Sm.Rd w v L):∃a n c,v=.slice a n c:=by
 rcases h with⟨h,_⟩|⟨b,off,c,h,_⟩<;>exact⟨_,_,_,h⟩
theorem Sw.Rd.shape{w:World}{v:Value}{L:List So}(h:Sw.Rd w v L):∃a n c,v=.slice a n c:=by
 rcases h with⟨h,_⟩|⟨b,off,c,h,_⟩<;>exact⟨_,_,_,h⟩
theorem jh{w:World}{B e s n:Nat}{v:Value}{l:List Value}(h:w.ownsRow B e s v n l):∃a n c,v=.slice a n c:=by
 rcases h.2 with⟨h,_⟩|⟨g,c,_,h,_⟩<;>exact⟨_,_,_,h⟩
abbrev reqs(L:List Mo):List Mo:=Ss.aK (ltOf Sm.xt) L
abbrev uC(L:List Mo):List Mo:=Ss.aK (ltOf eV) L
abbrev vo(L:List So):List So:=Ss.aK (ltOf Sw.OY) L
theorem fJ{w:World}{B B' e s n:Nat}{v:Value}{l:List Value}(h:w.ownsRow B e s v n l)(hb:B'≤B):w.ownsRow B' e s v n l:=by
 refine⟨h.1,?_⟩;rcases h.2 with h|⟨g,c,cur,h1,h2,h3⟩
 ·exact Or.inl h
 ·exact Or.inr ⟨g,c,cur,h1,aO hb h2,h3⟩
structure InM(w:World)(p:ByteArray)(rv xv sv:Value)(W:World):Prop where
 b:Below w.heap.size w W
 box:fI W w.heap.size 4 (fun f=>if f=0 then .string p else if f=1 then rv else if f=2 then xv else sv)
 out:W.heap[w.heap.size+1]?=some (.cells #[.string ⟨#[]⟩,.slice none 0 0,.slice none 0 0,.slice none 0 0] 26)
 sz:w.heap.size+2≤W.heap.size
variable{w W W':World}{p:ByteArray}{rv xv sv:Value}
theorem InM.call(h:InM w p rv xv sv W)(hb:Below W.heap.size W W'):InM w p rv xv sv W':=
 ⟨h.b.trans (hb.mono (by have:=h.sz;omega)),h.box.of_block (hb.block _ (by have:=h.sz;omega)),by rw[hb.block _ (by have:=h.sz;omega)];exact h.out,aO h.sz hb.size⟩
theorem InM.cells(h:InM w p rv xv sv W):(W.cell? ⟨w.heap.size,0,none⟩=some (.string p)∧W.cell? ⟨w.heap.size,1,none⟩=some rv∧W.cell? ⟨w.heap.size,2,none⟩=some xv∧W.cell? ⟨w.heap.size,3,none⟩=some sv)∧(W.frozen? ⟨w.heap.size,0,none⟩=false∧W.frozen? ⟨w.heap.size,1,none⟩=false∧W.frozen? ⟨w.heap.size,2,none⟩=false∧W.frozen? ⟨w.heap.size,3,none⟩=false):=
 ⟨⟨h.box.at' 0 (by omega),h.box.at' 1 (by omega),h.box.at' 2 (by omega),h.box.at' 3 (by omega)⟩,h.box.fr 0 (by omega),h.box.fr 1 (by omega),h.box.fr 2 (by omega),h.box.fr 3 (by omega)⟩
theorem InM.outs(h:InM w p rv xv sv W):(W.cell? ⟨w.heap.size+1,0,none⟩=some (.string ⟨#[]⟩)∧W.cell? ⟨w.heap.size+1,1,none⟩=some (.slice none 0 0)∧W.cell? ⟨w.heap.size+1,2,none⟩=some (.slice none 0 0)∧W.cell? ⟨w.heap.size+1,3,none⟩=some (.slice none 0 0))∧(W.frozen? ⟨w.heap.size+1,0,none⟩=false∧W.frozen? ⟨w.heap.size+1,1,none⟩=false∧W.frozen? ⟨w.heap.size+1,2,none⟩=false∧W.frozen? ⟨w.heap.size+1,3,none⟩=false):=
 Dr.kq h.out
theorem InM.Nn(h:InM w p rv xv sv W)(i:Nat)(hi:i<4)(u:Value)(rv' xv' sv':Value)(p':ByteArray)(e:∀j,j<4→(if j=i then u else if j=0 then .string p else if j=1 then rv else if j=2 then xv else sv)=(if j=0 then .string p' else if j=1 then rv' else if j=2 then xv' else sv')):InM w p' rv' xv' sv' (W.setCell ⟨w.heap.size,i,none⟩ u):=
 ⟨h.b.setCell (ag _) _,(h.box.set hi u).ext e,by rw[aM _ _ _ _ (by show w.heap.size+1≠w.heap.size;omega)];exact h.out,by have:=h.sz;simpa using this⟩
theorem InM.r(h:InM w p rv xv sv W)(u:Value):InM w p u xv sv (W.setCell ⟨w.heap.size,1,none⟩ u):=
 h.Nn 1 (by omega) u u xv sv p (fun j _=>by by_cases h1:j=1<;>simp[h1])
theorem InM.x(h:InM w p rv xv sv W)(u:Value):InM w p rv u sv (W.setCell ⟨w.heap.size,2,none⟩ u):=
 h.Nn 2 (by omega) u rv u sv p (fun j _=>by by_cases h1:j=2<;>simp[h1])
theorem InM.s(h:InM w p rv xv sv W)(u:Value):InM w p rv xv u (W.setCell ⟨w.heap.size,3,none⟩ u):=
 h.Nn 3 (by omega) u rv xv u p (fun j hj=>by
  by_cases h1:j=3
  ·simp[h1]
  ·have h4:j=0∨j=1∨j=2:=by omega
   rcases h4 with rfl|rfl|rfl<;>simp)
theorem InM.start(w:World)(p:ByteArray)(rv xv sv:Value):InM w p rv xv sv ((w.alloc (.cells #[.string p,rv,xv,sv] 26)).alloc (.cells #[.string ⟨#[]⟩,.slice none 0 0,.slice none 0 0,.slice none 0 0] 26)):=by
 refine⟨((ae _ _).alloc (ag _) _).alloc (by simp) _,⟨fun j hj=>?_,fun j hj=>?_⟩,dV _ _ _,by simp⟩
 ·have h4:j=0∨j=1∨j=2∨j=3:=by omega
  rcases h4 with rfl|rfl|rfl|rfl<;>simp
 ·have h4:j=0∨j=1∨j=2∨j=3:=by omega
  rcases h4 with rfl|rfl|rfl|rfl<;>simp
theorem InM.whole(h:InM w p rv xv sv W)(a b c d:Value):((((W.setCell ⟨w.heap.size+1,0,none⟩ a).setCell ⟨w.heap.size+1,1,none⟩ b).setCell ⟨w.heap.size+1,2,none⟩ c).setCell ⟨w.heap.size+1,3,none⟩ d).heap[w.heap.size+1]?=some (.cells #[a,b,c,d] 26):=by
 have h1:=bU _ _ 0 _ _ a h.out;have h2:=bU _ _ 1 _ _ b h1;have h3:=bU _ _ 2 _ _ c h2;exact bU _ _ 3 _ _ d h3
theorem cz{B e s n:Nat}{v:Value}{l:List Value}(h:W.ownsRow B e s v n l){a:Addr}(u:Value)(ha:a.block<B):(W.setCell a u).ownsRow B e s v n l:=
 ownsRow_setCell_other h (fun he=>by have:=(h.lt _ he).1;omega) u
end
section
open Go.RowKit Go.Sort Go.Shelf Go.Lib
namespace Mf
def Apart(rv xv sv:Value):Prop:=∀b,(rv.ownBlock=some b→xv.ownBlock≠some b∧sv.ownBlock≠some b)∧(xv.ownBlock=some b→sv.ownBlock≠some b)
theorem xy(p:ByteArray)(rv xv sv:Value)(R X:List Mo)(S:List So)(w:World)(hm:Dr.Ml w)(hR:R.length≤19)(hX:X.length≤19)(hS:S.length≤19)(hr:Sm.Rd w rv R)(hx:Sm.Rd w xv X)(hs:Sw.Rd w sv S):
  Calls prog 87 #[.agg #[.string p,rv,xv,sv]] w fun e w'=>∃rv' xv' sv',e=.returned (.agg #[.string p,rv',xv',sv'])∧w'.ownsRow w.heap.size 29 2 rv' R.length ((reqs R).flatMap Sm.mc)∧w'.ownsRow w.heap.size 29 2 xv' X.length ((uC X).flatMap Sm.mc)∧w'.ownsRow w.heap.size 137 3 sv' S.length ((vo S).flatMap Sw.mc)∧Below w.heap.size w w'∧Apart rv' xv' sv':=by
 obtain⟨ra,rn,rc,er⟩:=hr.shape;obtain⟨xa,xn,xc,ex⟩:=hx.shape;obtain⟨sa,sn,sc,es⟩:=hs.shape
 have KR:Aside (∀W,Below w.heap.size w W→Calls prog 126 #[.slice ra rn rc,.func (.func 127) #[] #[]] W fun e w'=>∃v',e=.returned v'∧w'.ownsRow W.heap.size 29 2 v' R.length ((reqs R).flatMap Sm.mc)∧Below W.heap.size W w'):=fun W hb=>by
  rw[←er];exact Sm.lO Sm.Ni rv R W (Sm.nG hm hb) hR (hr.below hb)
 have KX:Aside (∀W,Below w.heap.size w W→Calls prog 126 #[.slice xa xn xc,.func (.func 128) #[] #[]] W fun e w'=>∃v',e=.returned v'∧w'.ownsRow W.heap.size 29 2 v' X.length ((uC X).flatMap Sm.mc)∧Below W.heap.size W w'):=fun W hb=>by
  rw[←ex];exact Sm.lO Sm.Nj xv X W (Sm.nG hm hb) hX (hx.below hb)
 have KS:Aside (∀W,Below w.heap.size w W→Calls prog 129 #[.slice sa sn sc,.func (.func 130) #[] #[]] W fun e w'=>∃v',e=.returned v'∧w'.ownsRow W.heap.size 137 3 v' S.length ((vo S).flatMap Sw.mc)∧Below W.heap.size W w'):=fun W hb=>by
  rw[←es];exact Sw.lO Sw.Nl sv S W (Sm.nG hm hb) hS (hs.below hb)
 clear hr hx hs hm;subst er;subst ex;subst es;have I0:Aside (InM w p (.slice ra rn rc) (.slice xa xn xc) (.slice sa sn sc) ((w.alloc (.cells #[.string p,.slice ra rn rc,.slice xa xn xc,.slice sa sn sc] 26)).alloc (.cells #[.string ⟨#[]⟩,.slice none 0 0,.slice none 0 0,.slice none 0 0] 26))):=InM.start w p _ _ _;go_enter func87,ntmps87
 go_wp2_with (go_at_call 126;fail)
 go_at_call 126;refine(KR.out _ I0.out.b).mono ?_;rintro e w1 ⟨v1,rfl,o1,b1⟩;obtain⟨ra',rn',rc',e1⟩:=jh o1;subst e1;have I1:Aside (InM w p (.slice ra' rn' rc') (.slice xa xn xc) (.slice sa sn sc) (w1.setCell ⟨w.heap.size,1,none⟩ (.slice ra' rn' rc'))):=(I0.out.call b1).r _;have O1:Aside ((w1.setCell ⟨w.heap.size,1,none⟩ (.slice ra' rn' rc')).ownsRow (w.heap.size+2) 29 2 (.slice ra' rn' rc') R.length ((reqs R).flatMap Sm.mc)):=cz (fJ o1 (by simp)) _ (by show w.heap.size<_;omega);obtain⟨⟨z0,z1,z2,z3⟩,y0,y1,y2,y3⟩:=(I0.out.call b1).cells;obtain⟨⟨u0,u1,u2,u3⟩,_⟩:=I1.out.cells;have A1:Aside (∀b,(Value.slice ra' rn' rc').ownBlock=some b→b<w1.heap.size):=fun b e=>(o1.lt b e).2
 have A1s:Aside ((w1.setCell ⟨w.heap.size,1,none⟩ (.slice ra' rn' rc')).heap.size=w1.heap.size):=by show _=_;simp[World.setCell]
 clear I0 o1 b1 KR
 go_wp2_with (go_at_call 126;fail)
 go_at_call 126;refine(KX.out _ I1.out.b).mono ?_;rintro e w2 ⟨v2,rfl,o2,b2⟩;obtain⟨xa',xn',xc',e2⟩:=jh o2;subst e2;have I2:Aside (InM w p (.slice ra' rn' rc') (.slice xa' xn' xc') (.slice sa sn sc) (w2.setCell ⟨w.heap.size,2,none⟩ (.slice xa' xn' xc'))):=(I1.out.call b2).x _;have O2:Aside ((w2.setCell ⟨w.heap.size,2,none⟩ (.slice xa' xn' xc')).ownsRow (w.heap.size+2) 29 2 (.slice xa' xn' xc') X.length ((uC X).flatMap Sm.mc)):=cz (fJ o2 (by have:=I1.out.sz;exact this)) _ (by show w.heap.size<_;omega);have O1':Aside ((w2.setCell ⟨w.heap.size,2,none⟩ (.slice xa' xn' xc')).ownsRow (w.heap.size+2) 29 2 (.slice ra' rn' rc') R.length ((reqs R).flatMap Sm.mc)):=cz (own_below O1.out b2) _ (by show w.heap.size<_;omega);obtain⟨⟨t0,t1,t2,t3⟩,s0,s1,s2,s3⟩:=(I1.out.call b2).cells;obtain⟨⟨q0,q1,q2,q3⟩,_⟩:=I2.out.cells;have A2:Aside (∀b,(Value.slice xa' xn' xc').ownBlock=some b→w1.heap.size≤b∧b<w2.heap.size):=fun b e=>⟨by have h:=(o2.lt b e).1;rw[A1s.out] at h;exact h,(o2.lt b e).2⟩
 have A2s:Aside ((w2.setCell ⟨w.heap.size,2,none⟩ (.slice xa' xn' xc')).heap.size=w2.heap.size∧w1.heap.size≤w2.heap.size):=⟨by simp[World.setCell],by have h:=b2.size;rw[A1s.out] at h;exact h⟩;clear I1 o2 b2 KX O1 z0 z1 z2 z3 y0 y1 y2 y3 u0 u1 u2 u3
 go_wp2_with (go_at_call 129;fail)
 go_at_call 129;refine(KS.out _ I2.out.b).mono ?_;rintro e w3 ⟨v3,rfl,o3,b3⟩;obtain⟨sa',sn',sc',e3⟩:=jh o3;subst e3;have I3:Aside (InM w p (.slice ra' rn' rc') (.slice xa' xn' xc') (.slice sa' sn' sc') (w3.setCell ⟨w.heap.size,3,none⟩ (.slice sa' sn' sc'))):=(I2.out.call b3).s _;have O3:Aside ((w3.setCell ⟨w.heap.size,3,none⟩ (.slice sa' sn' sc')).ownsRow (w.heap.size+2) 137 3 (.slice sa' sn' sc') S.length ((vo S).flatMap Sw.mc)):=cz (fJ o3 (by have:=I2.out.sz;exact this)) _ (by show w.heap.size<_;omega);have O2':Aside ((w3.setCell ⟨w.heap.size,3,none⟩ (.slice sa' sn' sc')).ownsRow (w.heap.size+2) 29 2 (.slice xa' xn' xc') X.length ((uC X).flatMap Sm.mc)):=cz (own_below O2.out b3) _ (by show w.heap.size<_;omega);have O1:Aside ((w3.setCell ⟨w.heap.size,3,none⟩ (.slice sa' sn' sc')).ownsRow (w.heap.size+2) 29 2 (.slice ra' rn' rc') R.length ((reqs R).flatMap Sm.mc)):=cz (own_below O1'.out b3) _ (by show w.heap.size<_;omega);obtain⟨⟨z0,z1,z2,z3⟩,y0,y1,y2,y3⟩:=(I2.out.call b3).cells;obtain⟨⟨u0,u1,u2,u3⟩,_⟩:=I3.out.cells;obtain⟨⟨g0,g1,g2,g3⟩,f0,f1,f2,f3⟩:=I3.out.outs;have HO:Hid (∀a b c d,(((((w3.setCell ⟨w.heap.size,3,none⟩ (.slice sa' sn' sc')).setCell ⟨w.heap.size+1,0,none⟩ a).setCell ⟨w.heap.size+1,1,none⟩ b).setCell ⟨w.heap.size+1,2,none⟩ c).setCell ⟨w.heap.size+1,3,none⟩ d).heap[w.heap.size+1]?=some (.cells #[a,b,c,d] 26)):=fun a b c d=>I3.out.whole a b c d
 have HB:Hid (Below w.heap.size w (w3.setCell ⟨w.heap.size,3,none⟩ (.slice sa' sn' sc'))):=I3.out.b
 have A3:Aside (Apart (.slice ra' rn' rc') (.slice xa' xn' xc') (.slice sa' sn' sc')):=fun b=>by
  have h3:(Value.slice sa' sn' sc').ownBlock=some b→w2.heap.size≤b:=fun e=>by have h:=(o3.lt b e).1;rw[A2s.out.1] at h;exact h
  have h4:=A2s.out.2;refine⟨fun e=>⟨fun e2=>?_,fun e2=>?_⟩,fun e e2=>?_⟩
  ·have:=A1.out b e;have:=(A2.out b e2).1;omega
  ·have:=A1.out b e;have:=h3 e2;omega
  ·have:=(A2.out b e).2;have:=h3 e2;omega
 clear I2 I3 o3 b3 KS O1' O2 t0 t1 t2 t3 s0 s1 s2 s3 q0 q1 q2 q3;generalize hW:w3.setCell ⟨w.heap.size,3,none⟩ (.slice sa' sn' sc')=W at*;have hq:w.heap.size+1<w.heap.size+2:=by omega
 have HF:Hid (∀a b c d,((((W.setCell ⟨w.heap.size+1,0,none⟩ a).setCell ⟨w.heap.size+1,1,none⟩ b).setCell ⟨w.heap.size+1,2,none⟩ c).setCell ⟨w.heap.size+1,3,none⟩ d).ownsRow w.heap.size 29 2 (.slice ra' rn' rc') R.length ((reqs R).flatMap Sm.mc)∧((((W.setCell ⟨w.heap.size+1,0,none⟩ a).setCell ⟨w.heap.size+1,1,none⟩ b).setCell ⟨w.heap.size+1,2,none⟩ c).setCell ⟨w.heap.size+1,3,none⟩ d).ownsRow w.heap.size 29 2 (.slice xa' xn' xc') X.length ((uC X).flatMap Sm.mc)∧((((W.setCell ⟨w.heap.size+1,0,none⟩ a).setCell ⟨w.heap.size+1,1,none⟩ b).setCell ⟨w.heap.size+1,2,none⟩ c).setCell ⟨w.heap.size+1,3,none⟩ d).ownsRow w.heap.size 137 3 (.slice sa' sn' sc') S.length ((vo S).flatMap Sw.mc)∧Below w.heap.size w ((((W.setCell ⟨w.heap.size+1,0,none⟩ a).setCell ⟨w.heap.size+1,1,none⟩ b).setCell ⟨w.heap.size+1,2,none⟩ c).setCell ⟨w.heap.size+1,3,none⟩ d)):=fun a b c d=>
  ⟨fJ (cz (cz (cz (cz O1.out _ hq) _ hq) _ hq) _ hq) (by omega),fJ (cz (cz (cz (cz O2'.out _ hq) _ hq) _ hq) _ hq) (by omega),fJ (cz (cz (cz (cz O3.out _ hq) _ hq) _ hq) _ hq) (by omega),(((HB.out.setCell (by show w.heap.size≤w.heap.size+1;omega) _).setCell (by show w.heap.size≤w.heap.size+1;omega) _).setCell (by show w.heap.size≤w.heap.size+1;omega) _).setCell (by show w.heap.size≤w.heap.size+1;omega) _⟩
 clear O1 O2' O3 HB hq;go_wp2;refine aJ (bJ results87 _ _ (w.heap.size+1) 26 _ (0,0) _ rfl (HO.out _ _ _ _) underlying26 rfl (by kernel_rfl)) rfl ?_;exact⟨_,_,_,rfl,(HF.out _ _ _ _).1,(HF.out _ _ _ _).2.1,(HF.out _ _ _ _).2.2.1,(HF.out _ _ _ _).2.2.2,A3.out⟩
