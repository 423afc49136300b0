import Derived.Test.YtelmkfkgpnadnaaGreatDoorJXB
import Derived.Test.YtelmkfkgpnadnaaGreatDoorJCA
import Derived.Test.YtelmkfkgpnadnaaGreatDoorJSSB
import Derived.Shelf.SlicesE.Clone
set_option linter.all false
open Go.Proofs.Tryz
set_option maxRecDepth 100000
set_option maxHeartbeats 4000000
namespace Go.Proofs.YtelmkfkgpnadnaaGreatDoor
section
open Go.RowKit Go.Sort Go.Shelf Go.Lib
abbrev Mo:=zA×zA
namespace Sm
def mc(x:Mo):List zV:=[.string x.1,.string x.2]
def Rd(w:zW)(v:zV)(L:List Mo):Prop:=
 (v=zN∧L=[])∨∃b off c,v=.slice (some ⟨b,off,none⟩) L.length c∧∀j u,(L.flatMap mc)[j]?=some u→w.cell? ⟨b,off+j,none⟩=some u
theorem wY(L:List Mo):(L.flatMap mc).length=L.length*2:=Ss.fe (enc:=mc) (k:=2) (fun _=>rfl) L
theorem Bb(L:List Mo):∀u∈L.flatMap mc,u.oneCell'=true:=by
 intro u hu;obtain⟨x,_,hx⟩:=List.mem_flatMap.1 hu;simp[mc] at hx;rcases hx with rfl|rfl<;>rfl
def un(x:Md):Mo:=(x.path,x.ver)
def tagged(L:List Mo):Array Md:=(L.mapIdx fun i x=>(⟨x.1,x.2,i⟩:Md)).toArray
theorem oN(L:List Mo):(tagged L).size=L.length:=by simp[tagged]
theorem lZ(L:List Mo):(tagged L).toList.map un=L:=by
 apply lF;intro i;simp[tagged,un,Function.comp_def]
theorem wZ(D:List Md):D.flatMap enc=(D.map un).flatMap mc:=by
 rw[List.flatMap_map]
 rfl
theorem jX(L:List Mo):Ss.iq Md.tag 0 (tagged L).size (tagged L):=by
 intro i j _ hij hj;have hi:i<(tagged L).size:=by omega
 rw[bC _ i hi,bC _ j hj];simpa[tagged] using hij
def OY:Go.Shelf.Ren:=⟨fun|41=>105|n=>n,fun|22=>23|23=>29|4=>4|n=>n,fun|n=>n⟩
theorem FU:Go.Proofs.SlLaysE0.n41 prog OY:={
 mixed:=by kernel_rfl
 f41:=⟨f105.name,by decide,func105.trans (bW some (by kernel_rfl))⟩
 t4:=underlying4
 a4:=isAgg4
 z4:=sizeOf4
 v4:=zeroValue4
 t22:=underlying23
 a22:=isAgg23
 z22:=sizeOf23
 v22:=zeroValue23}
theorem nu(b off c:Nat)(L:List Mo)(w:zW)(hL:L.length≤16777216)(hc:∀j u,(L.flatMap mc)[j]?=some u→w.cell? ⟨b,off+j,none⟩=some u):
  zC 105 #[.slice (some ⟨b,off,none⟩) L.length c] w fun e w'=>∃g cap,e=.returned (.slice (some ⟨g,0,none⟩) L.length cap)∧w'.ownsRow w.heap.size 29 2 (.slice (some ⟨g,0,none⟩) L.length cap) L.length (L.flatMap mc)∧zB w w':=by
 obtain⟨i0,h1,h2,h3,h4⟩:=Ew;have hlen:L.length≤maxLen:=aP hL (by decide);refine(AnyE.slices_Clone FU i0 _ 2 32 h1 h2 h3 h4 rfl (by decide) sizeOf29 b off L.length c (L.flatMap mc) w (wY L) hlen (by omega) hc (Bb L)).mono ?_;rintro e w' ⟨v',rfl,ho,hne,hb⟩;have ho':w'.ownsRow w.heap.size 29 2 v' L.length (L.flatMap mc):=ho;rcases ho'.2 with⟨hn,_⟩|⟨g,cap,cur,rfl,_⟩
 ·exact absurd hn hne
 ·exact⟨g,cap,rfl,ho',hb⟩
theorem ny(w:zW):zC 105 #[zN] w fun e w'=>e=.returned (zN)∧w'=w:=AnyE.slices_Clone_nil FU 0 0 w
theorem oO(fv:zV)(w:zW):zC 273 #[zN,zI 0,zI 0,fv] w fun e w'=>e=.returned (.tuple #[])∧zB w w':=by
 have HB:Hid (zB w w):=ae _ _;go_enter func273,ntmps273;go_wp2;go_loopg [8] 0 (fun kx s8 wr=>s8=zI 1∧Hid (zB w wr))
 case atStart=>exact⟨rfl,HB⟩
 case round=>
  clear HB;obtain⟨rfl,HB⟩:=hrel;go_wp2
  go_end0
  exact⟨rfl,HB.out⟩
theorem oP(fv:zV)(w:zW):zC 175 #[zN,fv] w fun e w'=>e=.returned (.tuple #[])∧zB w w':=by
 have k2:zC 217 #[zN,zI 0,fv] w fun e w'=>e=.returned (.tuple #[])∧zB w w':=by
  have ki:=oO fv;have HB:Hid (zB w w):=ae _ _;go_enter func217,ntmps217;go_wp2;go_loopg [7,8] 0 (fun kx s7 s8 wr=>s7=zI 0∧s8=zI 20∧Hid (zB w wr))
  case atStart=>exact⟨rfl,rfl,HB⟩
  case round=>
   clear HB;obtain⟨rfl,rfl,HB⟩:=hrel
   go_wp2_with (go_at_call 273;fail)
   go_at_call 273;refine(ki _).mono ?_;rintro e w1 ⟨rfl,hb1⟩;have HB1:Hid (zB w w1):=HB.out.trans (hb1.mono HB.out.size);clear hb1 HB;go_wp2;go_loopg [6,7,8] 0 (fun kx s6 s7 s8 wr=>s6=zI 20∧Hid (zB w wr))
   case atStart=>exact⟨rfl,HB1⟩
   case round=>
    clear HB1;obtain⟨rfl,HB⟩:=hrel;go_wp2
    go_end0
    exact⟨rfl,HB.out⟩
 go_enter func175,ntmps175
 go_wp2_with (go_at_call 217;fail)
 go_at_call 217;refine k2.mono ?_;rintro ex w2 ⟨rfl,hb⟩;clear k2;go_wp2
 go_end0
 exact⟨rfl,hb⟩
structure Cfn(g:Nat)(cf0:Mo→Mo→Int):Prop where
 eg:∀args w,(callFunc g args).run prog w=.ok (.enter g args) w
 cmp:∀W,Dr.Ml W→∀x y:Mo,zC g #[.agg #[.string x.1,.string x.2],.agg #[.string y.1,.string y.2]] W fun e w'=>e=.returned (zI (cf0 x y))∧Dr.Below W.heap.size W w'
 swo:SWO (ltOf fun x y:Md=>cf0 (un x) (un y))
theorem xd{w W:zW}{g:Nat}{d:Array Md}(hm:Dr.Ml w)(hg:g≠0)(S:SWK enc 2 w g 0 d W):Dr.Ml W:=by
 obtain⟨q,e⟩:=hm;have h0:=aU w _ e;exact⟨q,by rw[aW (w:=w) (a:=⟨0,0,none⟩) (Ss.pQ S 0 h0 (fun e=>hg e.symm))];exact e⟩
theorem oQ{w W:zW}(hm:Dr.Ml w)(hb:zB w W):Dr.Ml W:=by
 obtain⟨q,e⟩:=hm;have h0:=aU w _ e;exact⟨q,by rw[aW (w:=w) (a:=⟨0,0,none⟩) (hb.block 0 h0)];exact e⟩
theorem qY{g:Nat}{cf0:Mo→Mo→Int}(hC:Cfn g cf0)(B blk cap:Nat)(L:List Mo)(w:zW)(hm:Dr.Ml w)(hb0:blk≠0)(hL:L.length≤19)(h:w.ownsRow B 29 2 (.slice (some ⟨blk,0,none⟩) L.length cap) L.length (L.flatMap mc)):
  zC 175 #[.slice (some ⟨blk,0,none⟩) L.length cap,.func (.func g) #[] #[]] w fun e w'=>e=.returned (.tuple #[])∧w'.ownsRow B 29 2 (.slice (some ⟨blk,0,none⟩) L.length cap) L.length ((Ss.aJ (ltOf cf0) L).flatMap mc)∧aj (fun b=>b=blk) w w':=by
 have hsz:=oN L;have e0:(tagged L).toList.flatMap enc=L.flatMap mc:=by rw[wZ,lZ]
 have h':w.ownsRow B 29 2 (.slice (some ⟨blk,0,none⟩) (tagged L).size cap) (tagged L).size ((tagged L).toList.flatMap enc):=by rw[e0,hsz];exact h
 have T:Told g #[] (fun x y=>cf0 (un x) (un y)) blk 0 (tagged L) w:={
  R:=⟨nk,AZ,Ss.tV nk (by decide) h',(h.lt blk rfl).2⟩
  eg:=hC.eg
  cmp:=fun m os dk hs x y=>by
   refine(hC.cmp _ (xd hm hb0 ⟨m,os,rfl⟩) (un x) (un y)).mono ?_;rintro e w' ⟨rfl,hb⟩;exact⟨rfl,hb.grow⟩
  swo:=hC.swo
  sz:=by rw[hsz];omega}
 have k:=jW T (by rw[hsz];omega) (jX L) cap;rw[hsz] at k;refine k.mono ?_;rintro e w' ⟨rfl,d',hP,S⟩;rw[←hsz] at hP;have hd':d'.size=L.length:=by rw[hP.1.1,hsz]
 have hl:d'.toList=Ss.aJ (ltOf fun x y:Md=>cf0 (un x) (un y)) (tagged L).toList:=Ss.zu hC.swo (jX L) hP
 have e1:d'.toList.flatMap enc=(Ss.aJ (ltOf cf0) L).flatMap mc:=by
  rw[wZ,hl,Ss.jV (lt:=ltOf fun x y:Md=>cf0 (un x) (un y)) un (ltOf cf0) (fun _ _=>rfl),lZ]
 rw[hsz] at h';have r:=Ss.qV nk (by decide) hd' h' S;rw[e1] at r;exact⟨rfl,r.1,r.2⟩
theorem nz{g:Nat}{cf0:Mo→Mo→Int}(hC:Cfn g cf0)(v:zV)(L:List Mo)(w:zW)(hm:Dr.Ml w)(hL:L.length≤19)(h:Rd w v L):
  zC 126 #[v,.func (.func g) #[] #[]] w fun e w'=>∃v',e=.returned v'∧w'.ownsRow w.heap.size 29 2 v' L.length ((Ss.aJ (ltOf cf0) L).flatMap mc)∧zB w w':=by
 rcases h with⟨rfl,rfl⟩|⟨b,off,c,rfl,hc⟩
 ·have k1:=ny
  have k2:=oP (.func (.func g) #[] #[]);clear hm hC hL;go_enter func126,ntmps126
  go_wp2_with (first|(go_at_call 105;refine(k1 _).mono ?_;rintro e w' ⟨rfl,rfl⟩)|(go_at_call 175;fail))
  go_at_call 175;refine(k2 _).mono ?_;rintro e w1 ⟨rfl,hb⟩;go_wp2;go_ret;exact⟨_,rfl,⟨rfl,Or.inl ⟨rfl,rfl⟩⟩,hb⟩
 ·have k1:=nu b off c L w (by omega) hc
  have k2:Aside (∀W blk cap,zB w W→W.ownsRow w.heap.size 29 2 (.slice (some ⟨blk,0,none⟩) L.length cap) L.length (L.flatMap mc)→zC 175 #[.slice (some ⟨blk,0,none⟩) L.length cap,.func (.func g) #[] #[]] W fun e w'=>e=.returned (.tuple #[])∧w'.ownsRow w.heap.size 29 2 (.slice (some ⟨blk,0,none⟩) L.length cap) L.length ((Ss.aJ (ltOf cf0) L).flatMap mc)∧zB w w'):=fun W blk cap hb ho=>by
   have hlt:=ho.lt blk rfl;have hp:=hm.pos;refine(qY hC _ blk cap L W (oQ hm hb) (by omega) hL ho).mono ?_;rintro e w' ⟨rfl,ho',ht⟩;exact⟨rfl,ho',⟨by rw[ht.os];exact hb.os,by rw[ht.tape];exact hb.tape,by rw[ht.output];exact hb.output,aP hb.size ht.size,fun i hi=>by rw[ht.block i (bI hi hb.size) (by omega)];exact hb.block i hi⟩⟩
  clear hc hm hC;go_enter func126,ntmps126
  go_wp2_with (go_at_call 105;fail)
  go_at_call 105;refine k1.mono ?_;rintro e w1 ⟨blk,cap,rfl,ho,hb⟩;have k3:=k2.out w1 blk cap hb ho;clear k1 k2 ho hb
  go_wp2_with (go_at_call 175;fail)
  go_at_call 175;refine k3.mono ?_;rintro e w2 ⟨rfl,ho,hb⟩;have HF:Hid (w2.ownsRow w.heap.size 29 2 (.slice (some ⟨blk,0,none⟩) L.length cap) L.length ((Ss.aJ (ltOf cf0) L).flatMap mc)∧zB w w2):=⟨ho,hb⟩;clear k3 ho hb;go_wp2;go_ret;exact⟨_,rfl,HF.out.1,HF.out.2⟩
theorem GU:∀args w,(callFunc 127 args).run prog w=.ok (.enter 127 args) w:=fun _ _=>by kernel_rfl
theorem ui:∀args w,(callFunc 128 args).run prog w=.ok (.enter 128 args) w:=fun _ _=>by kernel_rfl
def yP(x y:Mo):Int:=dH x.1 y.1
theorem OZ:Cfn 127 yP:=⟨GU,fun W _ x y=>Dr.comparePaths_any x.1 x.2 y.1 y.2 W,Pv.ni (fun x:Md=>x.path) lV⟩
theorem O0:Cfn 128 fF:=⟨ui,fun W hm x y=>Dr.compareModules_any x.1 x.2 y.1 y.2 W hm,Pv.ni (fun x:Md=>un x) rW⟩
end Sm
end
section
open Go.RowKit Go.Sort Go.Shelf Go.Lib
abbrev So:=zA×zA×zA
namespace Sw
def mc(x:So):List zV:=[.string x.1,.string x.2.1,.string x.2.2]
def Rd(w:zW)(v:zV)(L:List So):Prop:=
 (v=zN∧L=[])∨∃b off c,v=.slice (some ⟨b,off,none⟩) L.length c∧∀j u,(L.flatMap mc)[j]?=some u→w.cell? ⟨b,off+j,none⟩=some u
theorem wY(L:List So):(L.flatMap mc).length=L.length*3:=Ss.fe (enc:=mc) (k:=3) (fun _=>rfl) L
theorem Bb(L:List So):∀u∈L.flatMap mc,u.oneCell'=true:=by
 intro u hu;obtain⟨x,_,hx⟩:=List.mem_flatMap.1 hu;simp[mc] at hx;rcases hx with rfl|rfl|rfl<;>rfl
def un(x:Sp):So:=(x.path,x.ver,x.alt)
def tagged(L:List So):Array Sp:=(L.mapIdx fun i x=>(⟨x.1,x.2.1,x.2.2,i⟩:Sp)).toArray
theorem oN(L:List So):(tagged L).size=L.length:=by simp[tagged]
theorem lZ(L:List So):(tagged L).toList.map un=L:=by
 apply lF;intro i;simp[tagged,un,Function.comp_def]
theorem wZ(D:List Sp):D.flatMap enc=(D.map un).flatMap mc:=by
 rw[List.flatMap_map]
 rfl
theorem jX(L:List So):Ss.iq Sp.tag 0 (tagged L).size (tagged L):=by
 intro i j _ hij hj;have hi:i<(tagged L).size:=by omega
 rw[bC _ i hi,bC _ j hj];simpa[tagged] using hij
def O4:Go.Shelf.Ren:=⟨fun|41=>177|n=>n,fun|22=>24|23=>137|4=>4|n=>n,fun|n=>n⟩
theorem FV:Go.Proofs.SlLaysE0.n41 prog O4:={
 mixed:=by kernel_rfl
 f41:=⟨f177.name,by decide,func177.trans (bW some (by kernel_rfl))⟩
 t4:=underlying4
 a4:=isAgg4
 z4:=sizeOf4
 v4:=zeroValue4
 t22:=underlying24
 a22:=isAgg24
 z22:=sizeOf24
 v22:=zeroValue24}
theorem FW:∃i,prog.info? 137=some i∧i.zero=some (.agg #[zE,zE,zE])∧i.size=3∧i.bytes=48:=by
 have h:(prog.info? 137).map (fun i=>(i.zero,i.size,i.bytes))=some (some (.agg #[zE,zE,zE]),3,48):=by kernel_rfl
 rw[qN] at h;obtain⟨i,h1,h2⟩:=h;simp only[iH] at h2;exact⟨i,h1,h2.1,h2.2.1,h2.2.2⟩
theorem nu(b off c:Nat)(L:List So)(w:zW)(hL:L.length≤19)(hc:∀j u,(L.flatMap mc)[j]?=some u→w.cell? ⟨b,off+j,none⟩=some u):
  zC 177 #[.slice (some ⟨b,off,none⟩) L.length c] w fun e w'=>∃g cap,e=.returned (.slice (some ⟨g,0,none⟩) L.length cap)∧w'.ownsRow w.heap.size 137 3 (.slice (some ⟨g,0,none⟩) L.length cap) L.length (L.flatMap mc)∧zB w w':=by
 obtain⟨i0,h1,h2,h3,h4⟩:=FW;have hlen:L.length≤maxLen:=aP hL (by decide);refine(AnyE.slices_Clone FV i0 _ 3 48 h1 h2 h3 h4 rfl (by decide) sizeOf137 b off L.length c (L.flatMap mc) w (wY L) hlen (by omega) hc (Bb L)).mono ?_;rintro e w' ⟨v',rfl,ho,hne,hb⟩;have ho':w'.ownsRow w.heap.size 137 3 v' L.length (L.flatMap mc):=ho;rcases ho'.2 with⟨hn,_⟩|⟨g,cap,cur,rfl,_⟩
 ·exact absurd hn hne
 ·exact⟨g,cap,rfl,ho',hb⟩
theorem ny(w:zW):zC 177 #[zN] w fun e w'=>e=.returned (zN)∧w'=w:=AnyE.slices_Clone_nil FV 0 0 w
theorem oO(fv:zV)(w:zW):zC 276 #[zN,zI 0,zI 0,fv] w fun e w'=>e=.returned (.tuple #[])∧zB w w':=by
 have HB:Hid (zB w w):=ae _ _;go_enter func276,ntmps276;go_wp2;go_loopg [8] 0 (fun kx s8 wr=>s8=zI 1∧Hid (zB w wr))
 case atStart=>exact⟨rfl,HB⟩
 case round=>
  clear HB;obtain⟨rfl,HB⟩:=hrel;go_wp2
  go_end0
  exact⟨rfl,HB.out⟩
theorem oP(fv:zV)(w:zW):zC 178 #[zN,fv] w fun e w'=>e=.returned (.tuple #[])∧zB w w':=by
 have k2:zC 219 #[zN,zI 0,fv] w fun e w'=>e=.returned (.tuple #[])∧zB w w':=by
  have ki:=oO fv;have HB:Hid (zB w w):=ae _ _;go_enter func219,ntmps219;go_wp2;go_loopg [7,8] 0 (fun kx s7 s8 wr=>s7=zI 0∧s8=zI 20∧Hid (zB w wr))
  case atStart=>exact⟨rfl,rfl,HB⟩
  case round=>
   clear HB;obtain⟨rfl,rfl,HB⟩:=hrel
   go_wp2_with (go_at_call 276;fail)
   go_at_call 276;refine(ki _).mono ?_;rintro e w1 ⟨rfl,hb1⟩;have HB1:Hid (zB w w1):=HB.out.trans (hb1.mono HB.out.size);clear hb1 HB;go_wp2;go_loopg [6,7,8] 0 (fun kx s6 s7 s8 wr=>s6=zI 20∧Hid (zB w wr))
   case atStart=>exact⟨rfl,HB1⟩
   case round=>
    clear HB1;obtain⟨rfl,HB⟩:=hrel;go_wp2
    go_end0
    exact⟨rfl,HB.out⟩
 go_enter func178,ntmps178
 go_wp2_with (go_at_call 219;fail)
 go_at_call 219;refine k2.mono ?_;rintro ex w2 ⟨rfl,hb⟩;clear k2;go_wp2
 go_end0
 exact⟨rfl,hb⟩
structure Cfn(g:Nat)(cf0:So→So→Int):Prop where
 eg:∀args w,(callFunc g args).run prog w=.ok (.enter g args) w
 cmp:∀W,Dr.Ml W→∀x y:So,zC g #[.agg #[.string x.1,.string x.2.1,.string x.2.2],.agg #[.string y.1,.string y.2.1,.string y.2.2]] W fun e w'=>e=.returned (zI (cf0 x y))∧Dr.Below W.heap.size W w'
 swo:SWO (ltOf fun x y:Sp=>cf0 (un x) (un y))
theorem xd{w W:zW}{g:Nat}{d:Array Sp}(hm:Dr.Ml w)(hg:g≠0)(S:SWK enc 3 w g 0 d W):Dr.Ml W:=by
 obtain⟨q,e⟩:=hm;have h0:=aU w _ e;exact⟨q,by rw[aW (w:=w) (a:=⟨0,0,none⟩) (Ss.pQ S 0 h0 (fun e=>hg e.symm))];exact e⟩
theorem qY{g:Nat}{cf0:So→So→Int}(hC:Cfn g cf0)(B blk cap:Nat)(L:List So)(w:zW)(hm:Dr.Ml w)(hb0:blk≠0)(hL:L.length≤19)(h:w.ownsRow B 137 3 (.slice (some ⟨blk,0,none⟩) L.length cap) L.length (L.flatMap mc)):
  zC 178 #[.slice (some ⟨blk,0,none⟩) L.length cap,.func (.func g) #[] #[]] w fun e w'=>e=.returned (.tuple #[])∧w'.ownsRow B 137 3 (.slice (some ⟨blk,0,none⟩) L.length cap) L.length ((Ss.aJ (ltOf cf0) L).flatMap mc)∧aj (fun b=>b=blk) w w':=by
 have hsz:=oN L;have e0:(tagged L).toList.flatMap enc=L.flatMap mc:=by rw[wZ,lZ]
 have h':w.ownsRow B 137 3 (.slice (some ⟨blk,0,none⟩) (tagged L).size cap) (tagged L).size ((tagged L).toList.flatMap enc):=by rw[e0,hsz];exact h
 have T:Told g #[] (fun x y=>cf0 (un x) (un y)) blk 0 (tagged L) w:={
  R:=⟨nk,AZ,Ss.tV nk (by decide) h',(h.lt blk rfl).2⟩
  eg:=hC.eg
  cmp:=fun m os dk hs x y=>by
   refine(hC.cmp _ (xd hm hb0 ⟨m,os,rfl⟩) (un x) (un y)).mono ?_;rintro e w' ⟨rfl,hb⟩;exact⟨rfl,hb.grow⟩
  swo:=hC.swo
  sz:=by rw[hsz];omega}
 have k:=jW T (by rw[hsz];omega) (jX L) cap;rw[hsz] at k;refine k.mono ?_;rintro e w' ⟨rfl,d',hP,S⟩;rw[←hsz] at hP;have hd':d'.size=L.length:=by rw[hP.1.1,hsz]
 have hl:d'.toList=Ss.aJ (ltOf fun x y:Sp=>cf0 (un x) (un y)) (tagged L).toList:=Ss.zu hC.swo (jX L) hP
 have e1:d'.toList.flatMap enc=(Ss.aJ (ltOf cf0) L).flatMap mc:=by
  rw[wZ,hl,Ss.jV (lt:=ltOf fun x y:Sp=>cf0 (un x) (un y)) un (ltOf cf0) (fun _ _=>rfl),lZ]
 rw[hsz] at h';have r:=Ss.qV nk (by decide) hd' h' S;rw[e1] at r;exact⟨rfl,r.1,r.2⟩
theorem nz{g:Nat}{cf0:So→So→Int}(hC:Cfn g cf0)(v:zV)(L:List So)(w:zW)(hm:Dr.Ml w)(hL:L.length≤19)(h:Rd w v L):
  zC 129 #[v,.func (.func g) #[] #[]] w fun e w'=>∃v',e=.returned v'∧w'.ownsRow w.heap.size 137 3 v' L.length ((Ss.aJ (ltOf cf0) L).flatMap mc)∧zB w w':=by
 rcases h with⟨rfl,rfl⟩|⟨b,off,c,rfl,hc⟩
 ·have k1:=ny
  have k2:=oP (.func (.func g) #[] #[]);clear hm hC hL;go_enter func129,ntmps129
  go_wp2_with (first|(go_at_call 177;refine(k1 _).mono ?_;rintro e w' ⟨rfl,rfl⟩)|(go_at_call 178;fail))
  go_at_call 178;refine(k2 _).mono ?_;rintro e w1 ⟨rfl,hb⟩;go_wp2;go_ret;exact⟨_,rfl,⟨rfl,Or.inl ⟨rfl,rfl⟩⟩,hb⟩
 ·have k1:=nu b off c L w hL hc
  have k2:Aside (∀W blk cap,zB w W→W.ownsRow w.heap.size 137 3 (.slice (some ⟨blk,0,none⟩) L.length cap) L.length (L.flatMap mc)→zC 178 #[.slice (some ⟨blk,0,none⟩) L.length cap,.func (.func g) #[] #[]] W fun e w'=>e=.returned (.tuple #[])∧w'.ownsRow w.heap.size 137 3 (.slice (some ⟨blk,0,none⟩) L.length cap) L.length ((Ss.aJ (ltOf cf0) L).flatMap mc)∧zB w w'):=fun W blk cap hb ho=>by
   have hlt:=ho.lt blk rfl;have hp:=hm.pos;refine(qY hC _ blk cap L W (Sm.oQ hm hb) (by omega) hL ho).mono ?_;rintro e w' ⟨rfl,ho',ht⟩;exact⟨rfl,ho',⟨by rw[ht.os];exact hb.os,by rw[ht.tape];exact hb.tape,by rw[ht.output];exact hb.output,aP hb.size ht.size,fun i hi=>by rw[ht.block i (bI hi hb.size) (by omega)];exact hb.block i hi⟩⟩
  clear hc hm hC;go_enter func129,ntmps129
  go_wp2_with (go_at_call 177;fail)
  go_at_call 177;refine k1.mono ?_;rintro e w1 ⟨blk,cap,rfl,ho,hb⟩;have k3:=k2.out w1 blk cap hb ho;clear k1 k2 ho hb
  go_wp2_with (go_at_call 178;fail)
  go_at_call 178;refine k3.mono ?_;rintro e w2 ⟨rfl,ho,hb⟩;have HF:Hid (w2.ownsRow w.heap.size 137 3 (.slice (some ⟨blk,0,none⟩) L.length cap) L.length ((Ss.aJ (ltOf cf0) L).flatMap mc)∧zB w w2):=⟨ho,hb⟩;clear k3 ho hb;go_wp2;go_ret;exact⟨_,rfl,HF.out.1,HF.out.2⟩
theorem GV:∀args w,(callFunc 130 args).run prog w=.ok (.enter 130 args) w:=fun _ _=>by kernel_rfl
def Qx(x y:So):Int:=fF (x.1,x.2.1) (y.1,y.2.1)
theorem O5:Cfn 130 Qx:=⟨GV,fun W hm x y=>Dr.compareSwaps_any x.1 x.2.1 x.2.2 y.1 y.2.1 y.2.2 W hm,Pv.ni (fun x:Sp=>(x.path,x.ver)) rW⟩
end Sw
end
section
open Go.RowKit Go.Sort Go.Shelf Go.Lib
theorem cell_below{w W:zW}{a:Addr}{u:zV}(hb:zB w W)(h:w.cell? a=some u):W.cell? a=some u:=by
 have h0:=aU w _ h;rw[aW (w:=w) (hb.block a.block h0)];exact h
theorem Sm.Rd.below{w W:zW}{v:zV}{L:List Mo}(h:Sm.Rd w v L)(hb:zB w W):Sm.Rd W v L:=by
 rcases h with h|⟨b,off,c,h,hc⟩
 ·exact Or.inl h
 ·exact Or.inr ⟨b,off,c,h,fun j u hj=>cell_below hb (hc j u hj)⟩
theorem Sw.Rd.below{w W:zW}{v:zV}{L:List So}(h:Sw.Rd w v L)(hb:zB w W):Sw.Rd W v L:=by
 rcases h with h|⟨b,off,c,h,hc⟩
 ·exact Or.inl h
 ·exact Or.inr ⟨b,off,c,h,fun j u hj=>cell_below hb (hc j u hj)⟩
theorem Sm.Rd.shape{w:zW}{v:zV}{L:List Mo}(h:Sm.Rd w v L):∃a n c,v=.slice a n c:=by
 rcases h with⟨h,_⟩|⟨b,off,c,h,_⟩<;>exact⟨_,_,_,h⟩
theorem Sw.Rd.shape{w:zW}{v:zV}{L:List So}(h:Sw.Rd w v L):∃a n c,v=.slice a n c:=by
 rcases h with⟨h,_⟩|⟨b,off,c,h,_⟩<;>exact⟨_,_,_,h⟩
theorem jK{w:zW}{B e s n:Nat}{v:zV}{l:List zV}(h:w.ownsRow B e s v n l):∃a n c,v=.slice a n c:=by
 rcases h.2 with⟨h,_⟩|⟨g,c,_,h,_⟩<;>exact⟨_,_,_,h⟩
abbrev reqs(L:List Mo):List Mo:=Ss.aJ (ltOf Sm.yP) L
abbrev vT(L:List Mo):List Mo:=Ss.aJ (ltOf fF) L
abbrev xf(L:List So):List So:=Ss.aJ (ltOf Sw.Qx) L
theorem gw{w:zW}{B B' e s n:Nat}{v:zV}{l:List zV}(h:w.ownsRow B e s v n l)(hb:B'≤B):w.ownsRow B' e s v n l:=by
 refine⟨h.1,?_⟩;rcases h.2 with h|⟨g,c,cur,h1,h2,h3⟩
 ·exact Or.inl h
 ·exact Or.inr ⟨g,c,cur,h1,aP hb h2,h3⟩
structure InM(w:World)(p:zA)(rv xv sv:zV)(W:World):Prop where
 b:zB w W
 box:gu W w.heap.size 4 (fun f=>if f=0 then .string p else if f=1 then rv else if f=2 then xv else sv)
 out:W.heap[w.heap.size+1]?=some (.cells #[zE,zN,zN,zN] 26)
 sz:w.heap.size+2≤W.heap.size
variable{w W W':zW}{p:zA}{rv xv sv:zV}
theorem InM.call(h:InM w p rv xv sv W)(hb:zB W W'):InM w p rv xv sv W':=
 ⟨h.b.trans (hb.mono (by have:=h.sz;omega)),h.box.of_block (hb.block _ (by have:=h.sz;omega)),by rw[hb.block _ (by have:=h.sz;omega)];exact h.out,aP h.sz hb.size⟩
theorem InM.cells(h:InM w p rv xv sv W):(W.cell? ⟨w.heap.size,0,none⟩=some (.string p)∧W.cell? ⟨w.heap.size,1,none⟩=some rv∧W.cell? ⟨w.heap.size,2,none⟩=some xv∧W.cell? ⟨w.heap.size,3,none⟩=some sv)∧(W.frozen? ⟨w.heap.size,0,none⟩=false∧W.frozen? ⟨w.heap.size,1,none⟩=false∧W.frozen? ⟨w.heap.size,2,none⟩=false∧W.frozen? ⟨w.heap.size,3,none⟩=false):=
 ⟨⟨h.box.at' 0 (by omega),h.box.at' 1 (by omega),h.box.at' 2 (by omega),h.box.at' 3 (by omega)⟩,h.box.fr 0 (by omega),h.box.fr 1 (by omega),h.box.fr 2 (by omega),h.box.fr 3 (by omega)⟩
theorem InM.outs(h:InM w p rv xv sv W):(W.cell? ⟨w.heap.size+1,0,none⟩=some (zE)∧W.cell? ⟨w.heap.size+1,1,none⟩=some (zN)∧W.cell? ⟨w.heap.size+1,2,none⟩=some (zN)∧W.cell? ⟨w.heap.size+1,3,none⟩=some (zN))∧(W.frozen? ⟨w.heap.size+1,0,none⟩=false∧W.frozen? ⟨w.heap.size+1,1,none⟩=false∧W.frozen? ⟨w.heap.size+1,2,none⟩=false∧W.frozen? ⟨w.heap.size+1,3,none⟩=false):=
 Dr.cells4 h.out
theorem InM.O6(h:InM w p rv xv sv W)(i:Nat)(hi:i<4)(u:zV)(rv' xv' sv':zV)(p':zA)(e:∀j,j<4→(if j=i then u else if j=0 then .string p else if j=1 then rv else if j=2 then xv else sv)=(if j=0 then .string p' else if j=1 then rv' else if j=2 then xv' else sv')):InM w p' rv' xv' sv' (W.setCell ⟨w.heap.size,i,none⟩ u):=
 ⟨h.b.setCell (ag _) _,(h.box.set hi u).ext e,by rw[aL _ _ _ _ (by show w.heap.size+1≠w.heap.size;omega)];exact h.out,by have:=h.sz;simpa using this⟩
theorem InM.r(h:InM w p rv xv sv W)(u:zV):InM w p u xv sv (W.setCell ⟨w.heap.size,1,none⟩ u):=
 h.O6 1 (by omega) u u xv sv p (fun j _=>by by_cases h1:j=1<;>simp[h1])
theorem InM.x(h:InM w p rv xv sv W)(u:zV):InM w p rv u sv (W.setCell ⟨w.heap.size,2,none⟩ u):=
 h.O6 2 (by omega) u rv u sv p (fun j _=>by by_cases h1:j=2<;>simp[h1])
theorem InM.s(h:InM w p rv xv sv W)(u:zV):InM w p rv xv u (W.setCell ⟨w.heap.size,3,none⟩ u):=
 h.O6 3 (by omega) u rv xv u p (fun j hj=>by
  by_cases h1:j=3
  ·simp[h1]
  ·have h4:j=0∨j=1∨j=2:=by omega
   rcases h4 with rfl|rfl|rfl<;>simp)
theorem InM.start(w:zW)(p:zA)(rv xv sv:zV):InM w p rv xv sv ((w.alloc (.cells #[.string p,rv,xv,sv] 26)).alloc (.cells #[zE,zN,zN,zN] 26)):=by
 refine⟨((ae _ _).alloc (ag _) _).alloc (by simp) _,⟨fun j hj=>?_,fun j hj=>?_⟩,ez _ _ _,by simp⟩
 ·have h4:j=0∨j=1∨j=2∨j=3:=by omega
  rcases h4 with rfl|rfl|rfl|rfl<;>simp
 ·have h4:j=0∨j=1∨j=2∨j=3:=by omega
  rcases h4 with rfl|rfl|rfl|rfl<;>simp
theorem InM.whole(h:InM w p rv xv sv W)(a b c d:zV):((((W.setCell ⟨w.heap.size+1,0,none⟩ a).setCell ⟨w.heap.size+1,1,none⟩ b).setCell ⟨w.heap.size+1,2,none⟩ c).setCell ⟨w.heap.size+1,3,none⟩ d).heap[w.heap.size+1]?=some (.cells #[a,b,c,d] 26):=by
 have h1:=cg _ _ 0 _ _ a h.out;have h2:=cg _ _ 1 _ _ b h1;have h3:=cg _ _ 2 _ _ c h2;exact cg _ _ 3 _ _ d h3
theorem cP{B e s n:Nat}{v:zV}{l:List zV}(h:W.ownsRow B e s v n l){a:Addr}(u:zV)(ha:a.block<B):(W.setCell a u).ownsRow B e s v n l:=
 ownsRow_setCell_other h (fun he=>by have:=(h.lt _ he).1;omega) u
end
section
open Go.RowKit Go.Sort Go.Shelf Go.Lib
namespace Mf
def Apart(rv xv sv:zV):Prop:=∀b,(rv.ownBlock=some b→xv.ownBlock≠some b∧sv.ownBlock≠some b)∧(xv.ownBlock=some b→sv.ownBlock≠some b)
theorem yS(p:zA)(rv xv sv:zV)(R X:List Mo)(S:List So)(w:zW)(hm:Dr.Ml w)(hR:R.length≤19)(hX:X.length≤19)(hS:S.length≤19)(hr:Sm.Rd w rv R)(hx:Sm.Rd w xv X)(hs:Sw.Rd w sv S):
  zC 87 #[.agg #[.string p,rv,xv,sv]] w fun e w'=>∃rv' xv' sv',e=.returned (.agg #[.string p,rv',xv',sv'])∧w'.ownsRow w.heap.size 29 2 rv' R.length ((reqs R).flatMap Sm.mc)∧w'.ownsRow w.heap.size 29 2 xv' X.length ((vT X).flatMap Sm.mc)∧w'.ownsRow w.heap.size 137 3 sv' S.length ((xf S).flatMap Sw.mc)∧zB w w'∧Apart rv' xv' sv':=by
 obtain⟨ra,rn,rc,er⟩:=hr.shape;obtain⟨xa,xn,xc,ex⟩:=hx.shape;obtain⟨sa,sn,sc,es⟩:=hs.shape
 have KR:Aside (∀W,zB w W→zC 126 #[.slice ra rn rc,.func (.func 127) #[] #[]] W fun e w'=>∃v',e=.returned v'∧w'.ownsRow W.heap.size 29 2 v' R.length ((reqs R).flatMap Sm.mc)∧zB W w'):=fun W hb=>by
  rw[←er];exact Sm.nz Sm.OZ rv R W (Sm.oQ hm hb) hR (hr.below hb)
 have KX:Aside (∀W,zB w W→zC 126 #[.slice xa xn xc,.func (.func 128) #[] #[]] W fun e w'=>∃v',e=.returned v'∧w'.ownsRow W.heap.size 29 2 v' X.length ((vT X).flatMap Sm.mc)∧zB W w'):=fun W hb=>by
  rw[←ex];exact Sm.nz Sm.O0 xv X W (Sm.oQ hm hb) hX (hx.below hb)
 have KS:Aside (∀W,zB w W→zC 129 #[.slice sa sn sc,.func (.func 130) #[] #[]] W fun e w'=>∃v',e=.returned v'∧w'.ownsRow W.heap.size 137 3 v' S.length ((xf S).flatMap Sw.mc)∧zB W w'):=fun W hb=>by
  rw[←es];exact Sw.nz Sw.O5 sv S W (Sm.oQ hm hb) hS (hs.below hb)
 clear hr hx hs hm;subst er;subst ex;subst es;have I0:Aside (InM w p (.slice ra rn rc) (.slice xa xn xc) (.slice sa sn sc) ((w.alloc (.cells #[.string p,.slice ra rn rc,.slice xa xn xc,.slice sa sn sc] 26)).alloc (.cells #[zE,zN,zN,zN] 26))):=InM.start w p _ _ _;go_enter func87,ntmps87
 go_wp2_with (go_at_call 126;fail)
 go_at_call 126;refine(KR.out _ I0.out.b).mono ?_;rintro e w1 ⟨v1,rfl,o1,b1⟩;obtain⟨ra',rn',rc',e1⟩:=jK o1;subst e1;have I1:Aside (InM w p (.slice ra' rn' rc') (.slice xa xn xc) (.slice sa sn sc) (w1.setCell ⟨w.heap.size,1,none⟩ (.slice ra' rn' rc'))):=(I0.out.call b1).r _;have O1:Aside ((w1.setCell ⟨w.heap.size,1,none⟩ (.slice ra' rn' rc')).ownsRow (w.heap.size+2) 29 2 (.slice ra' rn' rc') R.length ((reqs R).flatMap Sm.mc)):=cP (gw o1 (by simp)) _ (by show w.heap.size<_;omega);obtain⟨⟨z0,z1,z2,z3⟩,y0,y1,y2,y3⟩:=(I0.out.call b1).cells;obtain⟨⟨u0,u1,u2,u3⟩,_⟩:=I1.out.cells;have A1:Aside (∀b,(Value.slice ra' rn' rc').ownBlock=some b→b<w1.heap.size):=fun b e=>(o1.lt b e).2
 have A1s:Aside ((w1.setCell ⟨w.heap.size,1,none⟩ (.slice ra' rn' rc')).heap.size=w1.heap.size):=by show _=_;simp[World.setCell]
 clear I0 o1 b1 KR
 go_wp2_with (go_at_call 126;fail)
 go_at_call 126;refine(KX.out _ I1.out.b).mono ?_;rintro e w2 ⟨v2,rfl,o2,b2⟩;obtain⟨xa',xn',xc',e2⟩:=jK o2;subst e2;have I2:Aside (InM w p (.slice ra' rn' rc') (.slice xa' xn' xc') (.slice sa sn sc) (w2.setCell ⟨w.heap.size,2,none⟩ (.slice xa' xn' xc'))):=(I1.out.call b2).x _;have O2:Aside ((w2.setCell ⟨w.heap.size,2,none⟩ (.slice xa' xn' xc')).ownsRow (w.heap.size+2) 29 2 (.slice xa' xn' xc') X.length ((vT X).flatMap Sm.mc)):=cP (gw o2 (by have:=I1.out.sz;exact this)) _ (by show w.heap.size<_;omega);have O1':Aside ((w2.setCell ⟨w.heap.size,2,none⟩ (.slice xa' xn' xc')).ownsRow (w.heap.size+2) 29 2 (.slice ra' rn' rc') R.length ((reqs R).flatMap Sm.mc)):=cP (own_below O1.out b2) _ (by show w.heap.size<_;omega);obtain⟨⟨t0,t1,t2,t3⟩,s0,s1,s2,s3⟩:=(I1.out.call b2).cells;obtain⟨⟨q0,q1,q2,q3⟩,_⟩:=I2.out.cells;have A2:Aside (∀b,(Value.slice xa' xn' xc').ownBlock=some b→w1.heap.size≤b∧b<w2.heap.size):=fun b e=>⟨by have h:=(o2.lt b e).1;rw[A1s.out] at h;exact h,(o2.lt b e).2⟩
 have A2s:Aside ((w2.setCell ⟨w.heap.size,2,none⟩ (.slice xa' xn' xc')).heap.size=w2.heap.size∧w1.heap.size≤w2.heap.size):=⟨by simp[World.setCell],by have h:=b2.size;rw[A1s.out] at h;exact h⟩;clear I1 o2 b2 KX O1 z0 z1 z2 z3 y0 y1 y2 y3 u0 u1 u2 u3
 go_wp2_with (go_at_call 129;fail)
 go_at_call 129;refine(KS.out _ I2.out.b).mono ?_;rintro e w3 ⟨v3,rfl,o3,b3⟩;obtain⟨sa',sn',sc',e3⟩:=jK o3;subst e3;have I3:Aside (InM w p (.slice ra' rn' rc') (.slice xa' xn' xc') (.slice sa' sn' sc') (w3.setCell ⟨w.heap.size,3,none⟩ (.slice sa' sn' sc'))):=(I2.out.call b3).s _;have O3:Aside ((w3.setCell ⟨w.heap.size,3,none⟩ (.slice sa' sn' sc')).ownsRow (w.heap.size+2) 137 3 (.slice sa' sn' sc') S.length ((xf S).flatMap Sw.mc)):=cP (gw o3 (by have:=I2.out.sz;exact this)) _ (by show w.heap.size<_;omega);have O2':Aside ((w3.setCell ⟨w.heap.size,3,none⟩ (.slice sa' sn' sc')).ownsRow (w.heap.size+2) 29 2 (.slice xa' xn' xc') X.length ((vT X).flatMap Sm.mc)):=cP (own_below O2.out b3) _ (by show w.heap.size<_;omega);have O1:Aside ((w3.setCell ⟨w.heap.size,3,none⟩ (.slice sa' sn' sc')).ownsRow (w.heap.size+2) 29 2 (.slice ra' rn' rc') R.length ((reqs R).flatMap Sm.mc)):=cP (own_below O1'.out b3) _ (by show w.heap.size<_;omega);obtain⟨⟨z0,z1,z2,z3⟩,y0,y1,y2,y3⟩:=(I2.out.call b3).cells;obtain⟨⟨u0,u1,u2,u3⟩,_⟩:=I3.out.cells;obtain⟨⟨g0,g1,g2,g3⟩,f0,f1,f2,f3⟩:=I3.out.outs;have HO:Hid (∀a b c d,(((((w3.setCell ⟨w.heap.size,3,none⟩ (.slice sa' sn' sc')).setCell ⟨w.heap.size+1,0,none⟩ a).setCell ⟨w.heap.size+1,1,none⟩ b).setCell ⟨w.heap.size+1,2,none⟩ c).setCell ⟨w.heap.size+1,3,none⟩ d).heap[w.heap.size+1]?=some (.cells #[a,b,c,d] 26)):=fun a b c d=>I3.out.whole a b c d
 have HB:Hid (zB w (w3.setCell ⟨w.heap.size,3,none⟩ (.slice sa' sn' sc'))):=I3.out.b
 have A3:Aside (Apart (.slice ra' rn' rc') (.slice xa' xn' xc') (.slice sa' sn' sc')):=fun b=>by
  have h3:(Value.slice sa' sn' sc').ownBlock=some b→w2.heap.size≤b:=fun e=>by have h:=(o3.lt b e).1;rw[A2s.out.1] at h;exact h
  have h4:=A2s.out.2;refine⟨fun e=>⟨fun e2=>?_,fun e2=>?_⟩,fun e e2=>?_⟩
  ·have:=A1.out b e;have:=(A2.out b e2).1;omega
  ·have:=A1.out b e;have:=h3 e2;omega
  ·have:=(A2.out b e).2;have:=h3 e2;omega
 clear I2 I3 o3 b3 KS O1' O2 t0 t1 t2 t3 s0 s1 s2 s3 q0 q1 q2 q3;generalize hW:w3.setCell ⟨w.heap.size,3,none⟩ (.slice sa' sn' sc')=W at*;have hq:w.heap.size+1<w.heap.size+2:=by omega
 have HF:Hid (∀a b c d,((((W.setCell ⟨w.heap.size+1,0,none⟩ a).setCell ⟨w.heap.size+1,1,none⟩ b).setCell ⟨w.heap.size+1,2,none⟩ c).setCell ⟨w.heap.size+1,3,none⟩ d).ownsRow w.heap.size 29 2 (.slice ra' rn' rc') R.length ((reqs R).flatMap Sm.mc)∧((((W.setCell ⟨w.heap.size+1,0,none⟩ a).setCell ⟨w.heap.size+1,1,none⟩ b).setCell ⟨w.heap.size+1,2,none⟩ c).setCell ⟨w.heap.size+1,3,none⟩ d).ownsRow w.heap.size 29 2 (.slice xa' xn' xc') X.length ((vT X).flatMap Sm.mc)∧((((W.setCell ⟨w.heap.size+1,0,none⟩ a).setCell ⟨w.heap.size+1,1,none⟩ b).setCell ⟨w.heap.size+1,2,none⟩ c).setCell ⟨w.heap.size+1,3,none⟩ d).ownsRow w.heap.size 137 3 (.slice sa' sn' sc') S.length ((xf S).flatMap Sw.mc)∧zB w ((((W.setCell ⟨w.heap.size+1,0,none⟩ a).setCell ⟨w.heap.size+1,1,none⟩ b).setCell ⟨w.heap.size+1,2,none⟩ c).setCell ⟨w.heap.size+1,3,none⟩ d)):=fun a b c d=>
  ⟨gw (cP (cP (cP (cP O1.out _ hq) _ hq) _ hq) _ hq) (by omega),gw (cP (cP (cP (cP O2'.out _ hq) _ hq) _ hq) _ hq) (by omega),gw (cP (cP (cP (cP O3.out _ hq) _ hq) _ hq) _ hq) (by omega),(((HB.out.setCell (by show w.heap.size≤w.heap.size+1;omega) _).setCell (by show w.heap.size≤w.heap.size+1;omega) _).setCell (by show w.heap.size≤w.heap.size+1;omega) _).setCell (by show w.heap.size≤w.heap.size+1;omega) _⟩
 clear O1 O2' O3 HB hq;go_wp2;refine aI (bM results87 _ _ (w.heap.size+1) 26 _ (0,0) _ rfl (HO.out _ _ _ _) underlying26 rfl (by kernel_rfl)) rfl ?_;exact⟨_,_,_,rfl,(HF.out _ _ _ _).1,(HF.out _ _ _ _).2.1,(HF.out _ _ _ _).2.2.1,(HF.out _ _ _ _).2.2.2,A3.out⟩
