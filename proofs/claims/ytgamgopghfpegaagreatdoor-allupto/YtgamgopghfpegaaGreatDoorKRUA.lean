import Derived.Test.YtgamgopghfpegaaGreatDoorKQA
import Derived.DeepKeys4
import Derived.Deep.RegionHeldLaw
import Derived.Deep.AppendLies
import Derived.Deep.RegionHeld3
import Derived.Deep.DeepCutAuto
set_option linter.all false
open Go.Proofs.Tryz
set_option maxRecDepth 100000
set_option maxHeartbeats 8000000
namespace Go.Proofs.YtgamgopghfpegaaGreatDoor
open Go.RowKit
section
abbrev Wl:=List (Nat×zA)
abbrev Sm4:=zA×zA×zA×zA
abbrev Cl:=zA×zA×zA
abbrev Vj:zA:=⟨#[118,101,114,115,105,111,110]⟩
theorem getD_at{l:Wl}{j:Nat}(h:j<l):l.getD j pad=l[j]:=by
 grind
def wd(l:Wl)(j:Nat):zA:=(l.getD j pad).2
def cQ(z:Bool)(l:Wl):Sm4:=if z then (wd l 0,⟨#[]⟩,wd l 1,⟨#[]⟩) else (wd l 0,wd l 1,wd l 2,wd l 4)
def zG(s:Sm4):Cl:=(s.1,s.2.1,if s.1=uu then ⟨#[]⟩ else s.2.2.1)
def nW(z:Bool)(l:Wl):Cl:=zG (cQ z l)
structure Ok(z:Bool)(l:Wl)(G:List Nat):Prop where
 sh:Tx.shape z (wd l 0).data.toList=some G
 len:l.length=G.length+1
 m5:Tx.misfit Pv.aK 5 G (aH l).tail=none
 m6:Tx.misfit Pv.aK 6 G (aH l).tail=none
 m7:Tx.misfit Pv.aK 7 G (aH l).tail=none
def cnt(G:List Nat)(l:Wl):Option Nat:=
 if G.length+1<l.length then some (l.getD (G.length+1) pad).1 else if l.length<G.length+1 then some ((l.getD (l.length-1) pad).1+(l.getD (l.length-1) pad).2.size) else none
def lat(z:Bool)(l:Wl)(lead I many:Bool)(k:Nat):Option Nat:=
 if k=2 then (if z=false∧((wd l 0).data.toList==Tx.wM)≠lead then some (l.getD 0 pad).1 else none)
 else match Tx.shape z (wd l 0).data.toList with
  |none=>some (l.getD 0 pad).1
  |some G=>if k=3 then none else if k=4 then cnt G l else if k=8 then (if I then some (l.getD 0 pad).1 else none)
   else if k=9 then (if (wd l 0).data.toList=Tx.wR∧many=true then some (l.getD 0 pad).1 else none) else Tx.misfit Pv.aK k G (aH l).tail
theorem su{l:Wl}(h:l≠[]):Tx.hd (aH l)=((l.getD 0 pad).1,(wd l 0).data.toList):=by
 cases l with
 |nil=>exact absurd rfl h
 |cons x r=>rfl
theorem pR(l:Wl):(aH l)=l.length:=by simp[aH]
theorem ny(l:Wl)j:((aH l).getD j (0,[]))=((l.getD j pad).1,(l.getD j pad).2.data.toList):=by
 unfold aH;simp only[List.getD,jN];cases l[j]?<;>rfl
theorem qZ(l:Wl)j:Tx.nth (aH l) j=(wd l j):=by
 unfold Tx.nth;rw[ny];rfl
theorem R4{l:Wl}:Tx.fin (aH l)=(l.getD (l-1) pad).1+(l.getD (l-1) pad).2.size:=by
 have e:(aH l).getLastD (0,[])=((l.getD (l-1) pad).1,(l.getD (l.length-1) pad).2.data.toList):=by
  rw[←ny,List.getLastD_eq_getLast?,List.getLast?_eq_getElem?,pR]
  rfl
 unfold Tx.fin;simp_all
variable{z:Bool}{l:Wl}{lead I many:Bool}{k:Nat}{G:List Nat}
theorem DK(h:l≠[]):Tx.slip z Pv.aK lead I many (aH l)=[2,3,4,5,6,7,8,9].findSome? fun k=>(lat z l lead I many k).map fun a=>(a,k):=by
 unfold Tx.slip Tx.own lat cnt;rw[su h];simp only[List.findSome?_cons,List.findSome?_nil,pR,R4,ny,fC,Nat.reduceEqDiff,dS]
 split
 ·rfl
 ·cases Tx.shape z (wd l 0).data.toList with
  |none=>rfl
  |some G=>
   simp only;by_cases f:G+1<l.length
   ·simp[f]
   by_cases D:l<G.length+1
   ·simp[f,D]
   simp only[f,D,dS,Option.map_none];cases Tx.misfit Pv.aK 5 G (aH l).tail<;>cases Tx.misfit Pv.aK 6 G (aH l).tail<;>cases Tx.misfit Pv.aK 7 G (aH l).tail<;>cases I<;>by_cases F:(wd l 0)=Tx.wR∧many=true<;>simp[F]
theorem Mg(h:l≠[])(f:∀i,2≤i→i<10→lat z l lead I many i=none):Tx.slip z Pv.aK lead I many (aH l)=none:=by
 rw[DK h];simp[f]
theorem Mh{a:Nat}(h:l≠[])(F:2≤k)(M:k≤9)(f:∀i,2≤i→i<k→lat z l lead I many i=none)(D:lat z l lead I many k=a):Tx.slip z Pv.aK lead I many (aH l)=(a,k):=by
 rw[DK h];rcases(by omega:k=2∨k=3∨k=4∨k=5∨k=6∨k=7∨k=8∨k=9) with rfl|rfl|rfl|rfl|rfl|rfl|rfl|rfl<;>simp[f,D]
theorem R5(D:∀i,2≤i→i<8→lat z l lead I many i=none):∃G,Ok z l G:=by
 have h:=fun i a b c=>(show _=_ by rw[lat,au c]).symm.trans (D i a b)
 cases hs:Tx.shape z (wd l 0).data.toList with
 |none=>have:=h 3 aA aA aA;rw[hs] at this;cases this
 |some G=>
  rw[hs] at h;have f:=h 4 aA aA aA;simp only[cnt] at f;exact⟨G,hs,ax,h 5 aA aA aA,h 6 aA aA aA,h 7 aA aA aA⟩
theorem ba_eq(x y:zA):x=y↔x=y.data.toList:=⟨fun h=>by rw[h],fun h=>tV (pG.1 h)⟩
theorem eu{f}(h:Tx.shape z f=G):z=true∧f=Tx.wV∧G=[6]∨z=false∧((f=Tx.wM∧G=[5])∨((f=Tx.wR∨f=Tx.wE)∧G=[5,6])∨(f=Tx.wP∧G=[5,6,7,6])):=by
 unfold Tx.shape at h
 repeat' split at h
 all_goals simp_all
theorem BU{j:Nat}(h:l≤j):wd l j=⟨#[]⟩:=by
 rw[wd,List.getD,qE h];rfl
theorem DL(h:Ok z l G):Tx.claim (aH l)=((nW z l).1.data.toList,(nW z l).2.1.data.toList,(nW z l).2.2.data.toList):=by
 have D:=h.len;have f:wd l 0=uu↔_=Tx.wR:=ba_eq _ uu;unfold Tx.claim nW zG cQ;rw[su (fun e=>ax),qZ,qZ];rcases eu h.sh with⟨rfl,e,rfl⟩|⟨rfl,⟨e,rfl⟩|⟨e|e,rfl⟩|⟨e,rfl⟩⟩
 ·simp[f,e,Tx.wV,Tx.wR]
 ·simp[f,e,Tx.wV,Tx.wR,Tx.wM,BU (l:=l) (j:=2) ax]
 all_goals simp[f,e,Tx.wV,Tx.wR,Tx.wM,Tx.wE,Tx.wP]
theorem Pp{good}(h:Ok z l G)(f:∀g∈good,∃G,Ok z g.2 G):(((good.map fun g=>cQ z g.2).map zG).any fun x=>decide (x=nW z l))=(dr good).any fun x=>Tx.again (aH l) x.2:=by
 unfold dr;rw[ou,List.any_map,List.any_map,dJ,List.any_eq_true,List.any_eq_true];refine exists_congr fun g=>and_congr_right fun hm=>?_
 obtain⟨F,D⟩:=f g hm;show decide (nW z g.2=nW z l)=true↔Tx.again (aH l) (aH g.2)=true;rw[←Tx.Dc,DL h,DL D];simp only[ot,Prod.ext_iff,ba_eq]
end
section
theorem fdc{W:zW}{r i:Nat}{t}{A}{v:zV}(h:W.heap[r]?=some (.cells A t))(f:A[i]?=v):W.cell? (r,i)=v∧W.frozen? (r,i)=false:=by
 simp[World.cell?,World.frozen?,h,f]
theorem fds{W:zW}{r:Nat}{t}{A}(h:W.heap[r]?=some (.cells A t))i v:(W.setCell (r,i) v).heap[r]?=some (.cells (A.setIfInBounds i v) t):=by
 simp[World.setCell,Bt,h]
theorem fdn(W:zW)o:(W.alloc o).heap[W.heap.size]?=o:=by
 show(W.heap.push o)[W.heap.size]?=_;simp
theorem below_drewN{B q}{a w}(h:Below B a w):Below B a (w.drewN q):=⟨h.os,h.tape,h.output,h.size,h.block⟩
theorem blt{W:zW}{r:Nat}{o:Obj}(h:W.heap[r]?=o):r<W:=(wL.1 h).1
theorem Mi:laidOutB prog=true:=aB
theorem sx:Maps.Keyed prog 369:=Maps.Keyed.of_law (deep_law_laid Mi (m:=3) (Nat.le_of_ble_eq_true rfl) (fZ aB) aB aB)
theorem xI d(s:zA)(h:s.size≤maxLen):prog.keyLits (d+1) 9 [s]=some [.string s]:=by
 unfold Program.keyLits;simp_all
theorem Jm(f p v:zA)(M:f.size≤maxLen)(S:p.size≤maxLen)(hv:v.size≤maxLen):∃l,keyOf prog 369 (.agg #[f,p,v])=some l:=by
 have D:prog.cellsOf 369=3:=aB
 have F:prog.keyLits (prog.types.size+1) 369 [f,p,v]=some [.string f,.string p,.string v]:=by
  rw[show prog.types.size=418 by kernel_rfl];unfold Program.keyLits;rw[underlying369];simp only[D,dF,mH];rw[ay ⟨trivial,aB⟩];simp only[List.mapM_cons,List.mapM_nil,show prog.cellsOf 9=1 by kernel_rfl,List.drop,List.take,xI 417 f M,xI 417 p S,xI 417 v hv]
  rfl
 refine⟨.string (keyBytes [.string f,.string p,.string v]),?_⟩;unfold keyOf;rw[underlying369];show(if (prog.keyType 369&&(Value.agg #[.string f,.string p,.string v]).formed prog 369)=true then (prog.keyLits (prog.types.size+1) 369 [.string f,.string p,.string v]).map (fun ls=>Lit.string (keyBytes ls)) else none)=_;rw[show prog.keyType 369=true by kernel_rfl,F,ay (by simp[Value.formed,underlying369,D])]
 rfl
theorem R6 w:(zeroValue 3).run prog w=.ok (.int .i64 0) w:=aB
theorem Pt:∃i,prog.info? 329=some i∧i.zero=some (.agg #[ByteArray.empty,ByteArray.empty,ByteArray.empty,ByteArray.empty])∧i.size=4∧i.bytes=64:=by
 have h:(prog.info? 329).map (fun i=>(i.zero,i.size,i.bytes))=some (some (.agg #[ByteArray.empty,ByteArray.empty,ByteArray.empty,ByteArray.empty]),4,64):=aB;simp_all
structure Fr(X:Nat→Prop)(w w':World):Prop where
 os:w'.os=w.os
 tape:w'.tape=w.tape
 output:w'.output=w.output
 size:w.heap.size≤w'.heap.size
 block:∀b,b<w.heap.size→¬X b→w'.heap[b]?=w.heap[b]?
theorem Fr.trans{X}{a b c}(h:Fr X a b)(f:Fr X b c):Fr X a c:=
 ⟨f.os.trans h.os,f.tape.trans h.tape,f.output.trans h.output,aP h.size f.size,fun k D F=>(f.block k (bU D h.size) F).trans (h.block k D F)⟩
theorem Fr.of_below{X}{a b:zW}(h:Below a a b):Fr X a b:=⟨h.os,h.tape,h.output,h.size,fun k f _=>h.block k f⟩
theorem Fr.DN{X}{a b}{row}(h:a.grownBy b row)(F:∀k,row=some k→X k):Fr X a b:=
 ⟨h.os,h.tape,h.output,h.size,fun k f D=>h.block k f (fun e=>D (F k e.symm))⟩
theorem Fr.BV{X}a(b o:Nat)v(D:X b):Fr X a (a.setCell (b,o) v):=
 ⟨rfl,rfl,rfl,ah,fun k _ f=>aM _ _ _ _ (fun e=>f ax)⟩
namespace Mf
def sf(z:Bool):Nat:=if z then 234 else 231
def opn(z:Bool):zA:=if z then ⟨#[]⟩ else qU
def shV(o:Option (List Nat))(W:zW):zV:=match o with|none=>zN|some G=>.slice (some ⟨W.heap.size,0,none⟩) G.length G.length
def shW(o:Option (List Nat))(W:zW):zW:=match o with|none=>W|some G=>W.alloc (.cells (oG G) 3)
theorem xJ z(x:zA)W:zC (sf z) #[x] W fun e w'=>e=.returned (.tuple #[shV (Tx.shape z x) W,(Tx.shape z x).isSome])∧w'=shW (Tx.shape z x) W:=by
 cases z with
 |false=>
  cases h:Tx.shape false x.data.toList with
  |none=>exact zw x h W
  |some G=>exact zv x G h W
 |true=>
  by_cases h:x=Tx.wV
  ·obtain rfl:x=Vj:=mY h
   exact xr W
  ·have e:Tx.shape true x=none:=by simp[Tx.shape,h]
   rw[e];exact zk x W (jf h)
theorem Aq z:∀args w,(callFunc (sf z) args).run prog w=.ok (.enter (sf z) args) w:=fun _ _=>by
 cases z<;>kernel_rfl
theorem uC o(W:zW):Below W W (shW o W.drew):=by
 cases o with
 |none=>exact(af _ _).drew
 |some G=>exact(af _ _).drew.alloc (ai _) _
theorem Ar(W:zW)G:KAt (W.alloc (.cells (oG G) 3)) W G:=
 ⟨ah,fun j f=>(fdc (fdn _ _) (by simp[oG,f])).1⟩
def clV(c:Cl):zV:=.agg #[.string c.1,.string c.2.1,.string c.2.2]
def CK(c:Cl)(l:Lit):Prop:=keyOf prog 369 (clV c)=some l
def Mj(c:Cl):Prop:=c.1.size≤2000∧c.2.1.size≤2000∧c.2.2.size≤2000
theorem Mm c(h:Mj c):∃l,CK c l:=Jm _ _ _ (by have:=h.1;unfold maxLen;omega) (by have:=h.2.1;unfold maxLen;omega) (by have:=h.2.2;unfold maxLen;omega)
theorem R7{c d}{l}(h:CK c l)(f:CK d l):c=d:=by
 have D:=sx.inj h f;simp only[clV,Value.agg.injEq,Array.mk.injEq,fY,Value.string.injEq,iF] at D
 grind
def SaidAt(W:zW)(b n:Nat)(Q:List Cl):Prop:=
 ∃D:DataW Unit,W.ownsMap prog 369 (plainElem prog 3) b n D∧Maps.IsMap D∧∀c l,CK c l→Maps.has D l=Q.any (fun x=>decide (x=c))
theorem SaidAt.of_block{W T}{b n}{Q}(h:SaidAt W b n Q)(e:T.heap[b]?=W.heap[b]?):SaidAt T b n Q:=by
 obtain⟨D,⟨F,f,M,rest⟩,S⟩:=h;exact⟨D,⟨F,f,e.trans M,rest⟩,S⟩
theorem Mn(W:zW):SaidAt (W.alloc (.map #[] 0)) W 0 []:=
 ⟨.map [],World.ownsMap_made W prog 369 (plainElem prog 3),Maps.isMap_empty,fun _ _ _=>rfl⟩
theorem F5{W}{mb f:Nat}{Q:List Cl}{c}(a1:f≤4000)(S:Q.length≤2001)(hc:Mj c)(hS:SaidAt W mb Q Q):
  ∃F,(Instr.mapUpdate 322 (.map (mb)) (clV c) (f)).run prog W=.ok () F∧SaidAt F mb (Q+1) (Q++[c])∧W.grownBy F (mb):=by
 obtain⟨l,M⟩:=Mm c hc;obtain⟨D,ho,hD,hh⟩:=hS
 have a0:(Lit.int .i64 f).wf=true:=by
  have e:wrap64 f=f:=by first|(unfold wrap64;omega)|(simp[wrap64];omega)
  have h:=wrap64_wf f;rw[e] at h;exact h
 obtain⟨F,h1,h2,h3⟩:=ho.update sx underlying322 (by unfold maxLen;omega) M (plainElem_int underlying3 a0);refine⟨F,h1,⟨_,h2,hD.put _ _,fun u l' S=>?_⟩,h3⟩;rw[List.any_append];by_cases e:l'=l
 ·subst e
  obtain rfl:=R7 M S;rw[Maps.has_put_same hD (sx.key M)];simp
 ·rw[Maps.has_put_other e,hh u l' S]
  have e2:c≠u:=fun e2=>e (jr ((e2▸S).symm.trans M))
  simp[e2]
def stc(s:Sm4):List zV:=[.string s.1,.string s.2.1,.string s.2.2.1,.string s.2.2.2]
def fS(L:List Sm4):List zV:=L.flatMap stc
theorem BW L s:fS (L++[s])=fS L++stc s:=by simp[fS]
def rdV(z:Bool)(U Z:Nat)(mv J:zV):Array zV:=#[.func (.func (sf z)) #[] #[],.string (opn z),.int .i64 U,.int .i64 Z,mv,J]
structure Rd(z:Bool)(W:World)(rp mb B U Z:Nat)(J:zV)(L:List Sm4)(Q:List Cl):Prop where
 rd:W.heap[rp]?=some (.cells (rdV z U Z (.map (some mb)) J) 325)
 lt:rp<B∧mb<B∧B≤W.heap.size∧rp≠mb
 own:W.ownsRow B 329 4 J L.length (fS L)
 said:SaidAt W mb Q.length Q
variable{z:Bool}{W T:zW}{rp mb B U Z:Nat}{J:zV}{L:List Sm4}{Q:List Cl}
theorem Rd.of_block(h:Rd z W rp mb B U Z J L Q)(M:W≤T.heap.size)(f:T.heap[rp]?=W.heap[rp]?)(D:T.heap[mb]?=W.heap[mb]?)(F:∀b,J.ownBlock=some b→T.heap[b]?=W.heap[b]?):Rd z T rp mb B U Z J L Q:=
 ⟨f.trans h.rd,⟨h.lt.1,h.lt.2.1,aP h.lt.2.2.1 M,h.lt.2.2.2⟩,ar h.own F,h.said.of_block D⟩
theorem Rd.below(h:Rd z W rp mb B U Z J L Q)(f:Below W W T):Rd z T rp mb B U Z J L Q:=
 h.of_block f.size (f.block rp (bU h.lt.1 h.lt.2.2.1)) (f.block mb (bU h.lt.2.1 h.lt.2.2.1)) (fun b e=>f.block b (h.own.lt b e).2)
theorem Rd.set(h:Rd z W rp mb B U Z J L Q)i v{D f}{Y}{M:List Sm4}(hv:(rdV z U Z (.map (mb)) J).setIfInBounds i v=rdV z D f (.map (mb)) Y)(S:W.ownsRow B 329 4 Y M (fS M)):Rd z (W.setCell (rp,i) v) rp mb B D f Y M Q:=by
 have F:∀k,k≠rp→(W.setCell (rp,i) v).heap[k]?=_:=fun k F=>aM _ _ _ _ F
 exact⟨by rw[fds h.rd,hv],⟨h.lt.1,h.lt.2.1,by simpa[World.setCell] using h.lt.2.2.1,h.lt.2.2.2⟩,ar S (fun b e=>F b (fun e2=>by have h1:=(S.lt b e).1;have h2:=h.lt.1;omega)),h.said.of_block (F mb (fun e=>h.lt.2.2.2 e.symm))⟩
theorem Rd.grown{Y}{s}(h:Rd z W rp mb B U Z J L Q)(f:W.grownBy T J.ownBlock)(F:T.ownsRow B 329 4 Y (L+1) (fS L++stc s)):Rd z (T.setCell (rp,5) Y) rp mb B U Z Y (L++[s]) Q:=by
 have l:=h.lt;have M:∀b,b<B→b≠J.ownBlock:=fun b hb e=>by have h1:=(h.own.lt b e.symm).1;omega
 have S:=f.block rp ae (M _ l.1);have D:=f.block mb ae (M _ l.2.1);have k:∀k,k≠rp→(T.setCell (rp,5) Y).heap[k]?=_:=fun k hk=>aM _ _ _ _ hk
 exact⟨fds (S.trans h.rd) 5 _,⟨l.1,l.2.1,by have:=f.size;simp[World.setCell];omega,l.2.2.2⟩,by rw[BW,bj];exact ar F (fun b e=>k b (fun D=>by have h1:=(F.lt b e).1;omega)),(h.said.of_block D).of_block (k mb (fun e=>l.2.2.2 e.symm))⟩
theorem Rd.put{f:List Cl}(h:Rd z W rp mb B U Z J L Q)(D:W.grownBy T (mb))(F:SaidAt T mb f f):Rd z T rp mb B U Z J L f:=by
 have l:=h.lt;exact⟨(D.block rp ae (fun e=>l.2.2.2 (by injection e))).trans h.rd,⟨l.1,l.2.1,aP l.2.2.1 D.size,l.2.2.2⟩,ar h.own (fun b e=>D.block b (h.own.lt b e).2 (fun M=>by have S:=(h.own.lt b e).1;grind)),F⟩
end Mf
end
namespace Mf
variable{w w' W:zW}{z:Bool}{l:Wl}{G:List Nat}
theorem xK{b}(h:WAt w b 0 l){j:Nat}(f:j<l):w.cell? (b,j*2)=some (.int .i64 (l.getD j pad).1)∧w.cell? (b,j*2+1)=some (.string (wd l j)):=by
 have h:=h.2 j f;rw[wd,getD_at f];simpa using h
theorem R8{v:zA}(h:(Pv.parse v).isSome=true):(v.toList==[])=false:=by
 refine jf fun e=>?_
 rw[e] at h;exact absurd h aA
theorem sy(h:Ok z l G)p b c w(S:KAt w p G)(F:WAt w b 0 l):
  zC 267 #[.slice (some (p,0)) G G,.slice (some (b,0)) l c] w fun e w'=>e=.returned (.agg #[(cQ z l).1,(cQ z l).2.1,(cQ z l).2.2.1,(cQ z l).2.2.2])∧Below w w w':=by
 have M:=h.len;have f:=fun j hj=>(xK F (j:=j) hj).2
 have h0:∀D:Obj,(w.alloc D).cell? (b,0+1)=(wd l 0):=fun D=>by
  rw[((af _ w).alloc (ai _) D).cell F.1];grind
 have hB:=fun D a0=>((af _ w).alloc (ai _) D).alloc ah a0
 have a1:=S.1;have a2:=F.1
 have hv:z=false→G=[5,6,7,6]→((wd l 2).toList==[])=false:=fun _ e=>by
  have m:=h.m6;rw[e] at M m
  match l,M with
  |[a,b,c,d,e],_=>
   cases hq:Pv.parse c.2.data.toList with
   |none=>simp[aH,Tx.misfit,Tx.fit,hq] at m
   |some _=>exact R8 (by simp[wd,hq])
 rcases eu h.sh with⟨rfl,e,rfl⟩|⟨rfl,⟨e,rfl⟩|⟨e,rfl⟩|⟨e,rfl⟩⟩
 all_goals
  have k:=S.2;simp only[dF,mH,dQ,Nat.reduceAdd] at M k ⊢;simp only[cQ,M,iV,fC,dS];have k0:=k 0 aA
  (try have k1:=k 1 aA)
  (try have k2:=k 2 aA)
  (try have k3:=k 3 aA)
  have d1:=f 1 ae
  (first|have d2:=f 2 ae|rw[BU (j:=2) ae]|skip)
  (try have d3:=f 3 ae)
  (first|have d4:=f 4 ae|rw[BU (j:=4) ae]|skip)
  (try have hv:=hv rfl rfl)
  generalize wd l 0=x0 at*;generalize wd l 1=x1 at*;generalize wd l 2=x2 at*;clear h S F k f e;go_enter func267,ntmps267
  go_wp2_with (rw[h0])
  refine wp_loop_rounds 5 ?_
  repeat (rw[pJ];go_wp2)
  exact aL (by simp[results,results267,go_sem]) rfl ⟨rfl,hB _ _⟩
end Mf
namespace Mf
variable{w w' W:zW}{z:Bool}{l:Wl}{G:List Nat}
theorem Au s W:zC 268 #[.agg #[s.1,s.2.1,s.2.2.1,s.2.2.2]] W fun e w'=>e=(clV (zG s))∧Below W W w':=by
 unfold zG clV;by_cases h:s.1=uu
 ·simp only[ay h]
  exact zu _ _ _ _ W (by simp_all)
 ·simp only[au h]
  exact Dl _ _ _ _ W (jf (fun e=>h ((ba_eq _ _).2 e)))
theorem F6{F wc}(a0:G.length≤4)(hW:WAt w F 0 l)(a1:0<l.length)(hs:∀x∈l,x.1≤4000∧x.2.size≤2000)W p(hb:Below w w W):
  zC 265 #[.slice p G G,.slice (some (F,0)) l wc] W fun e w'=>e=.returned ((zr (cnt G l)))∧Below W W w':=by
 have D:=hW.below hb;unfold cnt;by_cases M:G+1<l.length
 ·rw[ay M]
  refine(zq p F 0 _ _ _ wc ((l.getD (G+1) pad).1) W ae ae ?_).mono ?_
  ·rw[dQ,Nat.add_comm 1];exact(xK D M).1
  ·rintro e w' ⟨rfl,rfl⟩
   exact⟨rfl,af _ _⟩
 ·rw[au M]
  by_cases S:l<G.length+1
  ·rw[ay S]
   have f:l-1<l.length:=ae;have hx:=hs _ (dH f);rw[getD_at f];exact BK p F 0 _ _ _ wc _ _ W ae ae ae hx.1 ae (D.2 _ f).1 (D.2 _ f).2
  ·rw[au S,show l=G.length+1 by omega]
   refine(zm p _ _ _ wc W ae).mono ?_;rintro e w' ⟨rfl,rfl⟩;exact⟨rfl,af _ _⟩
theorem DR{M wc k F:Nat}(hm:Ml w)(hW:WAt w M 0 l)(hl:l=G.length+1)(hn:l=F+1)(a0:G.length≤4)(hs:∀x∈l,x.1≤4000∧x.2.size≤2000)(hk:k=5∨k=6∨k=7)W p(S:Below w w W)(hP:KAt W p G):
  zC 266 #[k,.slice (some (p,0)) G G,.slice (some (M,2)) F (wc-1)] W fun e w'=>e=.returned ((zr (Tx.misfit Pv.aK k G (aH l).tail)))∧Below W W w':=by
 cases l with
 |nil=>simp at hl
 |cons x r=>
  obtain rfl:r.length=F:=by simpa using hn
  have f:=hW.below S
  exact FM _ k p M 2 _ _ _ _ G r W ae rfl rfl ae ae hP ⟨f.1,fun j hj=>by
   have:=f.2 (j+1) (by simpa using hj)
   grind⟩ (fun j hj T D=>LM _ k T ((hm.below S).below D) ax hk)
theorem Jn(rp U Z wb wc mb B k:Nat)J L Q(l:Wl)I w(hm:Ml w)(hr:Rd z w rp mb B U Z J L Q)(hW:WAt w wb 0 l)(b7:l≠[])(hc:l≤wc)
  (hz:∀x∈l,x.1≤4000∧x.2.size≤2000) (h2:2≤k) (h9:k≤9) (lV:∀j,2≤j→j<k→lat z l (U==1) I (Z==20) j=none) (hd:∀G,Ok z l G→(Q.any fun x=>decide (x=nW z l))=I) (b5:Mj (nW z l)):
  zC 249 #[.pointer (some (rp,0)),k,.slice (some (wb,0)) l wc] w fun e w'=>e=.returned ((zr (lat z l (U==1) I (Z==20) k)))∧Below w w w':=by
 have hn:=eB.2 b7;obtain⟨nm,a1⟩:∃m,l.length=m+1:=⟨l.length-1,ae⟩;obtain⟨v,hv⟩:∃v,zr (lat z l (U==1) I (Z==20) k)=v:=⟨_,rfl⟩;rw[hv];have c0:=(xK hW hn).1;have c1:=(xK hW hn).2;have HV:=zH hv;clear hv;have kI:=fun W=>xJ z (wd l 0) W
 have bb:=Aq z;have HR:=zH hr;have HM:=zH hm;have HW:=zH hW;have bc:(0)<(l:Int):=ae;clear hr hW hm b7;generalize hx:wd l 0=x0 at*;generalize ha:(l.getD 0 pad).1=a0 at*;generalize ho:Tx.shape z x0.data.toList=o at*;rw[a1] at bc hc ⊢;go_enter func249,ntmps249;go_upto_region 2 with fail;have a9:Hid (zB w (w.alloc (.cells #[a0,x0] 364))):=(af _ _).alloc (ai _) _;have HX:Hid ((w.alloc (.cells #[a0,x0] 364)).heap[_]?=_):=fdn _ _;clear c0 c1;generalize w.alloc _=S at*;have HC:∀W,zB S W→Hid _∧Hid _:=fun W M=>⟨(HR.out.below a9.out).below M,(M.block _ (blt HX.out)).trans HX.out⟩
 have f:=zH (a9.out.trans ((uC o S).mono a9.out.size));have HK:Hid (∀G,o=some G→shV o S.drew=.slice (some (S,0)) G G∧KAt (shW o S.drew) S G):=fun G e=>by rw[e];exact⟨rfl,Ar _ G⟩
 have r0:=(HC S (af _ _)).1;have b9:=(HC S (af _ _)).2;have r1:=(HC _ (uC o S)).1;have a5:=(HC _ (uC o S)).2;have b0:S.cell? _=some (.func _ #[] #[])∧S.cell? _=x0:=⟨(fdc r0.out.rd (i:=0) rfl).1,(fdc b9.out (i:=1) rfl).1⟩;have b1:(shW o _).cell? _=some (.func _ #[] #[])∧(shW o _).cell? _=x0:=⟨(fdc r1.out.rd (i:=0) rfl).1,(fdc a5.out (i:=1) rfl).1⟩;clear HC r0 b9
 go_region_held3 (fun w'=>w'.cell? (rp,0)=some (.func (.func (sf z)) #[] #[])∧w'.cell? (w,1)=x0)
   (first|exact b0|exact b1)
   (first|(go_at_fn (sf z);refine(kI _).mono ?_;rintro e w2 ⟨rfl,rfl⟩))
 all_goals
  clear b0 b1 kI bb;generalize (shW o S.drew)=W2 at*;generalize shV o S.drew=pv at*;have e0:W2.cell? ⟨_,0,none⟩=a0:=(fdc a5.out rfl).1;have e1:W2.cell? ⟨_,1,none⟩=x0:=(fdc a5.out rfl).1;have r2:W2.cell? (rp,1)=some (.string _):=(fdc r1.out.rd rfl).1;have r3:W2.cell? (rp,2)=U:=(fdc r1.out.rd rfl).1;have r4:W2.cell? (rp,3)=Z:=(fdc r1.out.rd rfl).1;by_cases k2:k=2
  ·subst k2
   have e:=HV.out;rw[lat,ay rfl,hx,ha] at e;cases z with
   |true=>
    obtain rfl:(-1:Int)=v:=by simpa[zr] using e
    simp only[opn,fC] at r2;go_upto_region 6 with fail;go_quiet (fail);go_wp2;go_ret;exact⟨rfl,below_drewN f.out⟩
   |false=>
    simp only[opn,iV,dS] at r2;have b1:(x0.toList==[109,111,100,117,108,101])=(x0==Tx.wM):=by rw[cP];rfl
    have b2:((U:Int)==1)=(U==1):=by rw[dJ];simp only[beq_iff_eq];omega
    generalize (x0.data.toList==Tx.wM)=c1 at*;generalize (U==1)=c2 at*;go_upto_region 6 with fail;cases c1<;>cases c2
    all_goals
     simp[zr] at e;subst e;go_quiet (fail);go_wp2;go_ret;exact⟨rfl,below_drewN f.out⟩
  have e:=HV.out;rw[lat,au k2,hx,ha,ho] at e;by_cases k3:k=3
  ·subst k3
   cases o
   all_goals
    simp[zr] at e;subst e;go_wp2;go_ret;exact⟨rfl,f.out⟩
  have hl:=fun j a b (c:j≠2)=>(show _=_ by rw[lat,au c,hx,ha,ho]).symm.trans (lV j a b)
  cases o with
  |none=>exact absurd (hl 3 aA ae aA) ah
  |some G=>
  obtain⟨rfl,b6⟩:=HK.out G rfl;have aq:=zH b6;have an:G.length≤4:=by rcases eu ho with⟨_,_,rfl⟩|⟨_,⟨_,rfl⟩|⟨_,rfl⟩|⟨_,rfl⟩⟩<;>decide
  have a3:4<k→nm=G:=fun h=>by
   have h4:=hl 4 aA h aA;simp only[cnt] at h4
   repeat' split at h4
   all_goals first|omega|simp_all
  simp only[k3,dS] at e;clear HK b6 HX;by_cases k4:k=4
  ·subst k4
   have km:=F6 an HW.out hn hz W2 (some (S,0)) f.out (wc:=wc);simp only[fC] at e;rw[a1,e] at km;clear hl lV hd a3 e
   go_wp2_with (go_at_call 265;fail)
   go_at_call 265;refine km.mono ?_;rintro e' w3 ⟨rfl,M⟩;have aa:=zH (f.out.trans (M.mono f.out.size));clear M km;go_wp2;go_ret;exact⟨rfl,aa.out⟩
  obtain rfl:=a3 ae;by_cases k7:k≤7
  ·have km:=DR (k:=k) (wc:=wc) HM.out HW.out ae a1 an hz ae W2 _ f.out aq.out
   rw[au k4,au ae,au ae] at e;rw[e] at km
   have bh:2≤wc:=by
    have:1≤G.length:=by rcases eu ho with⟨_,_,rfl⟩|⟨_,⟨_,rfl⟩|⟨_,rfl⟩|⟨_,rfl⟩⟩<;>decide
    omega
   clear hl lV hd e HV;rcases(by omega:k=5∨k=6∨k=7) with rfl|rfl|rfl
   all_goals
    clear a3 a1 k4 k3 k2 h2 h9 k7
    first|rw[show((5:Nat):Int)=5 from rfl] at km|rw[show((6:Nat):Int)=6 from rfl] at km|rw[show((7:Nat):Int)=7 from rfl] at km
    go_wp2_with (go_at_call 266;fail)
    go_at_call 266;refine km.mono ?_;rintro e' w3 ⟨rfl,M⟩;have aa:=zH (f.out.trans (M.mono f.out.size));clear M km;go_wp2;go_ret;exact⟨rfl,aa.out⟩
  by_cases k8:k=8
  ·subst k8
   simp only[Nat.reduceEqDiff,fC,dS] at e;have ak:Ok z l G:=⟨by rw[hx];exact ho,ae,hl 5 aA aA aA,hl 6 aA aA aA,hl 7 aA aA aA⟩;obtain⟨lt,ad⟩:=Mm _ b5;obtain⟨D,a8,_,a7⟩:=HR.out.said;have HD:=zH ((a7 _ lt ad).trans (hd G ak));have ab:Hid (∀W,zB W2 W→_):=fun W M=>f.out.trans (M.mono f.out.size)
   have b8:∀W,zB W2 W→zC 267 #[.slice (some ⟨S.heap.size,0,none⟩) G.length G.length,.slice (some ⟨wb,0,none⟩) (G.length+1) wc] W _:=fun W M=>by
    rw[←a1];exact sy ak _ wb wc W (aq.out.below M) (HW.out.below (ab.out W M))
   have kc:=fun W=>Au (cQ z l) W
   have Q0:∀W,zB W2 W→∃c:Int,(Instr.lookup 322 (.map (mb)) (clV (nW z l)) true).run prog W=.ok (.tuple #[c,(Maps.has D lt)]) W:=fun W M=>by
    obtain⟨es,c,h,rest⟩:=id a8;obtain⟨v0,ps,a4,bd⟩:=(show W.ownsMap _ 369 _ mb _ D from ⟨es,c,((ab.out W M).block mb (blt h)).trans h,rest⟩).look_ok sx underlying322 (R6 W) (plainElem_int underlying3 aA) ad;obtain⟨c,rfl,_,_⟩:=plainElem_int_inv underlying3 bd;exact⟨c,a4⟩
   have F:∀W,zB W2 W→W.cell? (rp,4)=some (.map _):=fun W M=>(fdc (r1.out.below M).rd rfl).1
   have e4:=F W2 (af _ _);have ba:Hid (∀W,zB W2 W→W.cell? ⟨_,0,none⟩=a0):=fun W M=>(fdc ((M.block _ (blt a5.out)).trans a5.out) rfl).1
   clear hl lV hd ak ad a8 a7 b5 a3 a1 k4 k3 k2 h2 h9 k7 HV an
   change ∀W,zC 268 _ W fun e w'=>e=.returned (clV (nW z l))∧zB W w' at kc
   generalize cQ z l=st at*;generalize clV (nW z l)=cv at*;go_upto_region 16 with fail
   go_region_held3 (fun w'=>w'.cell? (rp,4)=some (.map (some mb)))
    (first|exact e4|exact F _ a2|exact F _ a6|exact F _ ((af _ _).drew))
    (first
     |(go_at_call 267;refine(b8 _ ((af _ _).drew)).mono ?_;rintro e w3 ⟨rfl,av⟩;have a6:=(af W2 W2).drew.trans av;clear av)
     |(go_at_call 268;refine(kc _).mono ?_;rintro e w4 ⟨rfl,az⟩;have a2:=a6.trans (az.mono a6.size);obtain⟨cL,a4⟩:=Q0 _ a2;clear az))
   all_goals
    have d6:=ba.out _ a2;have HE:=zH (ab.out _ a2);clear Q0 F b8 kc a4 a6 a2 e4 e0 e1 r2 r3 r4;rw[HD.out];clear HD;cases I
    all_goals
     simp[zr] at e;subst e;go_wp2;go_ret;exact⟨rfl,HE.out⟩
  obtain rfl:k=9:=ae;have b3:(x0.toList==[114,101,113,117,105,114,101])=decide (x0=Tx.wR):=by rw[cP,dJ,beq_iff_eq,decide_eq_true_iff];rfl
  have b4:((Z:Int)==20)=(Z==20):=by rw[dJ];simp only[beq_iff_eq];omega
  clear hl lV hd a3 a1;by_cases hR:x0=Tx.wR<;>cases hq:(Z==20)
  all_goals
   first|rw[bu hR] at b3|rw[br hR] at b3
   rw[hq] at b4;simp[hR,hq,zr] at e;subst e;clear hR hq HV;go_wp2;go_ret;exact⟨rfl,f.out⟩
end Mf
section
variable{w w':zW}
abbrev qf:Tx.Got:=⟨[],[],0,0⟩
theorem T6(A C:List zV)a b c d f D F d'(n:Nat)(h:A=n):((((A++[a,b,c,d]++C).set (n+2) F).set (n+3) d').set n f).set (n+1) D=A++[f,D,F,d']++C:=by
 subst h;simp
theorem Mr:∃i,prog.info? 273=some i∧i.zero=some (.agg #[.int .i64 0,.int .i64 0,.int .i64 0])∧i.size=3∧i.bytes=24:=by
 have h:(prog.info? 273).map (fun i=>(i.zero,i.size,i.bytes))=some (some (.agg #[.int .i64 0,.int .i64 0,.int .i64 0]),3,24):=aB;simp_all
theorem eC(w:zW)a b c t:∀j u,[a,b,c][j]?=some u→(w.alloc (.cells #[a,b,c] t)).cell? (((w,0):Addr).add j)=some u:=by
 intro j u h
 match j,h with
 |0,h=>simp at h;subst h;simp[Addr.add]
 |1,h=>simp at h;subst h;simp[Addr.add]
 |2,h=>simp at h;subst h;simp[Addr.add]
theorem aD{a:zW}(h:Below a a w)o:Below a a (w.alloc o):=h.alloc h.size o
theorem aC{e}{B sz m}{v}{l}(h:w.ownsRow B e sz v m l):∃a c,v=.slice a m c:=by
 rcases h.2 with⟨f,D⟩|⟨g,c,_,f,_⟩
 ·grind
 grind
theorem pS{B}{out}{xs}{S cap:Nat}(h:gi w B out xs)(ho:w.ownsRow 0 254 4 (.slice (some (S,0)) out cap) out xs)(j:Nat)(hj:j<out):
  ∃f F M D,w.cell? (S,j*4)=some (.int .i64 out[j].1)∧w.cell? (S,j*4+1)=some (.slice (some (f,0)) out[j].2 F)∧w.cell? (S,j*4+2)=some (.slice (some (M,0)) out[j].2 D)∧w.cell? (S,j*4+3)=some (.int .i64 (Tx.fin (aH out[j].2)))∧
   iJ w B out[j] [out[j].1,.slice (some (f,0)) out[j].2 F,.slice (some ⟨M,0,none⟩) out[j].2 D,(Tx.fin (aH out[j].2))]∧dt w f out[j].2 (fun i=>(out[j].2.getD i pad).2)∧f<w:=by
 obtain⟨f,F,M,D,e,a0,h1,h2,h3,h4,h5,h6⟩:=h.2 j hj
 have hx:∀i,i<4→w.cell? (S,j*4+i)=[Value.int .i64 out[j].1,.slice (some (f,0)) out[j].2 F,.slice (some (M,0)) out[j].2 D,(Tx.fin (aH out[j].2))][i]?:=fun i hi=>by
  rw[ho.cellAt _ ae,←e,List.getElem?_take,ay hi,List.getElem?_drop]
 exact⟨f,F,M,D,hx 0 ae,hx 1 ae,hx 2 ae,hx 3 ae,⟨f,F,M,D,rfl,a0,h1,h2,h3,h4,h5,h6⟩,h1,h3⟩
def cy(l:List (Nat×Nat×Nat)):List zV:=l.flatMap fun x=>[.int .i64 x.1,.int .i64 x.2.1,.int .i64 x.2.2]
theorem vC l x:cy (l++[x])=cy l++[.int .i64 x.1,.int .i64 x.2.1,.int .i64 x.2.2]:=by simp[cy]
structure Sl(Wl:World)(R J:zV)(good:List OLn)(V:List zV)(O:List (Nat×Nat×Nat))(wr:World):Prop where
 og:wr.ownsRow Wl.heap.size 254 4 R good.length V
 os:wr.ownsRow Wl.heap.size 273 3 J O.length (cy O)
 ne:∀b,R.ownBlock=some b→J.ownBlock≠some b
 lie:gi wr (fun b=>b<Wl.heap.size) good V
 old:zB Wl wr
variable{Wl wr:zW}{R J E Y:zV}{good:List OLn}{V:List zV}{O:List (Nat×Nat×Nat)}
theorem Sl.below(h:Sl Wl R J good V O wr)(f:Below wr wr w'):Sl Wl R J good V O w':=
 ⟨ar h.og (fun b e=>f.block b (h.og.lt b e).2),ar h.os (fun b e=>f.block b (h.os.lt b e).2),h.ne,h.lie.turn f.size (fun b D F=>⟨f.block b D,F⟩),h.old.trans (f.mono h.old.size)⟩
theorem Sl.slip(h:Sl Wl R J good V O wr)o x(D:w'.ownsRow Wl 273 3 Y (O+1) (cy O++[x.1,x.2.1,x.2.2]))(hg:(wr.alloc o).grownBy w' J.ownBlock)(a0:Y.ownBlock=J.ownBlock∨Y.ownBlock=(wr.alloc o)):
  Sl Wl R Y good V (O++[x]) w':=by
 have S:(wr.alloc o)=wr.heap.size+1:=ah;have a2:wr+1≤w'.heap.size:=by rw[←S];exact hg.size
 have F:∀k,k<wr.heap.size→J.ownBlock≠k→w'.heap[k]?=wr.heap[k]?:=fun k F h1=>by
  rw[hg.block k ae (fun e=>h1 e.symm),aO _ _ _ F]
 have a1:=fun k e=>(h.os.lt k e).1
 refine⟨ar h.og (fun b e=>F b (h.og.lt b e).2 (h.ne b e)),?_,?_,h.lie.turn ae (fun b hb ht=>⟨F b hb (fun e=>ax),ht⟩),?_⟩
 ·rw[vC,bj];exact D
 ·intro b e f
  rcases a0 with M|M
  ·rw[M] at f;exact h.ne b e f
  ·rw[M] at f
   injection f with f;have:=(h.og.lt b e).2;omega
 ·exact(h.old.alloc h.old.size o).grown hg (by have:=h.old.size;omega) a1
theorem Sl.line(h:Sl Wl R J good V O wr)o{l}{Q}(hl:iJ wr (fun b=>b<Wl) l Q)(a2:w'.ownsRow Wl 254 4 E (good+1) (V++Q))(hg:(wr.alloc o).grownBy w' R.ownBlock)(a0:E.ownBlock=R.ownBlock∨E.ownBlock=(wr.alloc o)):
  Sl Wl E J (good++[l]) (V++Q) O w':=by
 have S:(wr.alloc o)=wr.heap.size+1:=ah;have a3:wr+1≤w'.heap.size:=by rw[←S];exact hg.size
 have F:∀k,k<wr.heap.size→R.ownBlock≠k→w'.heap[k]?=wr.heap[k]?:=fun k F h1=>by
  rw[hg.block k ae (fun e=>h1 e.symm),aO _ _ _ F]
 have a1:=fun k e=>(h.og.lt k e).1
 have f:∀b,_→b<Wl.heap.size→_∧_:=fun b hb ht=>⟨F b hb (fun e=>ax),ht⟩
 refine⟨?_,ar h.os (fun b e=>F b (h.os.lt b e).2 (fun D=>h.ne b D e)),?_,(h.lie.turn ae f).snoc (hl.turn ae f),?_⟩
 ·grind
 ·intro b e D
  rcases a0 with M|M
  ·rw[M] at e;exact h.ne b e D
  ·rw[M] at e
   injection e with e;have:=(h.os.lt b D).2;omega
 ·exact(h.old.alloc h.old.size o).grown hg (by have:=h.old.size;omega) a1
theorem Ms Wl:Sl Wl (zN) (zN) [] [] [] Wl:=
 ⟨bP _ _ _ _,bP _ _ _ _,fun b e=>(by cases e),⟨rfl,fun j f=>absurd f ah⟩,af _ _⟩
