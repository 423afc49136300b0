import Derived.Test.YtgamgopghfpegaaGreatDoorKQA
import Derived.DeepKeys4
import Derived.Deep.RegionHeld3
set_option linter.all false
open Go.Proofs.Tryz
set_option maxRecDepth 100000
set_option maxHeartbeats 4000000
namespace Go.Proofs.YtgamgopghfpegaaGreatDoor
section
open Go.RowKit
variable{w w':zW}
def aT(p v:zA):Int:=if Pv.aK p.data.toList=false then 2 else if v.size≠0∧(Pv.parse v.data.toList).isSome=false then 3 else 0
theorem FQ{v}{f}(h:fV w v f):∃D n k,v=.slice D n k:=by
 rcases h with⟨_,h⟩|⟨b,c,h,_⟩
 ·grind
 grind
theorem gZ(v:zA):(v.toList==[])=decide (v.size=0):=by
 rw[cP,bD]
 grind
theorem Ah(p v:zA)w(hp:p.size≤4611686018427387904):
  zC 32 #[p,v] w fun e w'=>e=.returned ((aT p v))∧Below w w w':=by
 have R:=fun W=>qV p W hp
 have S:=fun W=>qj v W
 have f:Hid (aT p v=if _=false then 2 else _):=rfl;have he:=gZ v;generalize aT p v=r at*;generalize Pv.aK p.data.toList=a at*;generalize (Pv.parse v.data.toList).isSome=b at*;go_enter func32,ntmps32
 go_wp2_with (go_at_call 40;fail)
 go_at_call 40;refine(R _).mono ?_;intro e1 w1 M;rw[M.1,M.2];clear M R
 go_wp2_with (go_at_call 56;fail)
 go_at_call 56;refine(S _).mono ?_;rintro e2 w2 ⟨rfl,F⟩;clear S;cases a
 ·have D:Hid (2=r):=by rw[f.out];rfl
  clear f he;go_wp2;go_ret;exact⟨cH D.out,F⟩
 ·by_cases E:v.size=0
  ·have D:Hid (0=r):=by show 0=r;rw[f.out,au aA,au (fun h=>h.1 E)]
   rw[bu E] at he;clear f;go_wp2;go_ret;exact⟨cH D.out,F⟩
  ·rw[br E] at he
   cases b
   ·have D:Hid (3=r):=by show 3=r;rw[f.out,au aA,ay ⟨E,rfl⟩]
    clear f;go_wp2;go_ret;exact⟨cH D.out,F⟩
   ·have D:Hid (0=r):=by show 0=r;rw[f.out,au aA,au (fun h=>absurd h.2 aA)]
    clear f;go_wp2;go_ret;exact⟨cH D.out,F⟩
theorem nO(p v:zA)w(hm:Ml w)(hp:p.size<281474976710656):
  zC 54 #[p,v] w fun e w'=>e=.returned ((aT p v))∧Below w w w':=by
 have k1:=jm p w hm hp
 have R:∀W,Below w.heap.size w W→zC 71 #[v] W fun e w'=>∃(i0 i1 i2:Int)(ad:Option Addr)(n k:Nat),e=.returned (.tuple #[.agg #[i0,i1,i2,.slice ad n k],(Pv.parse v).isSome])∧Below W.heap.size W w':=fun W hb=>by
  cases hv:Pv.parse v.data.toList with
  |none=>
   refine(parseVersion_none v W (hm.below hb) hv).mono ?_;rintro e w' ⟨rfl,h⟩;exact⟨_,_,_,_,_,_,rfl,h⟩
  |some y=>
   obtain⟨_,_,_,_,_,_,_,k⟩:=parseVersion_some v W (hm.below hb) y hv;refine k.mono ?_;rintro e w' ⟨sl,rfl,h,hs⟩;obtain⟨ad,n,k,rfl⟩:=FQ hs;exact⟨_,_,_,_,_,_,rfl,h⟩
 have D:Hid (aT p v=if _=false then 2 else _):=rfl;have he:=gZ v;clear hm;generalize aT p v=r at*;generalize Pv.aK p.data.toList=a at*;generalize (Pv.parse v.data.toList).isSome=b at*;go_enter func54,ntmps54
 go_wp2_with (go_at_call 58;fail)
 go_at_call 58;refine k1.mono ?_;rintro e1 w1 ⟨rfl,f⟩;clear k1;have R:=R w1 f;cases a
 ·have E:Hid (2=r):=by rw[D.out];rfl
  clear D he R;go_wp2;go_ret;exact⟨cH E.out,f⟩
 ·go_wp2_with (go_at_call 71;fail)
  go_at_call 71;refine R.mono ?_;rintro e2 w2 ⟨i0,i1,i2,ad,nn,kk,rfl,M⟩;have F:=zH (f.trans (M.mono f.size));clear R f M;by_cases S:v.size=0
  ·have E:Hid (0=r):=by show 0=r;rw[D.out,au aA,au (fun h=>h.1 S)]
   rw[bu S] at he;clear D;cases b
   all_goals
    go_wp2;go_ret;exact⟨cH E.out,F.out.alloc F.out.size _⟩
  ·rw[br S] at he
   cases b
   ·have E:Hid (3=r):=by show 3=r;rw[D.out,au aA,ay ⟨S,rfl⟩]
    clear D;go_wp2;go_ret;exact⟨cH E.out,F.out.alloc F.out.size _⟩
   ·have E:Hid (0=r):=by show 0=r;rw[D.out,au aA,au (fun h=>absurd h.2 aA)]
    clear D;go_wp2;go_ret;exact⟨cH E.out,F.out.alloc F.out.size _⟩
end
section
open Go.RowKit
namespace Ed
variable{w w':zW}
structure Tt where
 path:zA
 ver:zA
 s:zA
def cZ(l:List Tt):List zV:=l.flatMap fun x=>[.string x.path,.string x.ver,.string x.s]
def hit(p v:zA)(x:Tt):Bool:=x.path.toList==p.toList&&x.ver.toList==v.toList
def at?(p v:zA)(l:List Tt):Int:=match l.findIdx? (hit p v) with|some i=>i|none=>-1
theorem iX:∀(l:List Tt)(j:Nat)(h:j<l.length),(cZ l)[j*3]?=some (.string l[j].path)∧(cZ l)[j*3+1]?=some (.string l[j].ver)∧(cZ l)[j*3+2]?=some (.string l[j].s)
 |x::r,0,_=>⟨rfl,rfl,rfl⟩
 |x::r,j+1,h=>by
  have e:cZ (x::r)=_::_::_::cZ r:=rfl;have f:=iX r j (by simpa using h)
  grind
theorem RF{p v}{l:List Tt}{i:Nat}(f:i<l)(D:∀j h,j<i→hit p v l[j]=false)(h:hit p v l[i]=true):at? p v l=i:=by
 unfold at?
 have:l.findIdx? (hit p v)=i:=by
  rw[qG];exact⟨f,h,fun j E=>ax⟩
 rw[this]
theorem O4{p v}{l}(f:∀j (h:j<l.length),hit p v l[j]=false):at? p v l=-1:=by
 unfold at?
 have:l.findIdx? (hit p v)=none:=by
  rw[List.findIdx?_eq_none_iff];intro x E;obtain⟨j,D,e⟩:=oq E;rw[←e];exact f j D
 rw[this]
theorem jW(p v:zA)(l:List Tt)lv B w(E:w.ownsRow B 84 3 lv l (cZ l))(hl:l.length≤100000):
  zC 35 #[lv,p,v] w fun e w'=>e=.returned ((at? p v l))∧Below w w w':=by
 obtain⟨la,lc,a6⟩:∃a c,lv=.slice a l.length c:=by
  rcases E.2 with⟨e1,e2⟩|⟨g,c,_,e1,_⟩
  ·grind
  grind
 subst a6;have HO:=zH E;clear E;generalize hr:at? p v l=r;have HR:=zH hr;clear hr;go_enter func35,ntmps35;go_wp2;go_loopg [7] l (fun gg Z wr=>∃i:Nat,Z=.int .i64 i∧i≤l.length∧l.length-i≤gg∧Below w.heap.size w wr∧Hid (∀j (h:j<l.length),j<i→hit p v l[j]=false))
 case atStart=>exact⟨0,rfl,ae,ae,af _ _,fun j _ h=>ae⟩
 case round=>
  obtain⟨i,rfl,hi,hg,hb,R⟩:=hrel;by_cases a3:i<l
  ·have fD:i<(l:Int):=ae
   obtain⟨g,a5⟩:∃g,la=some ⟨g,0,none⟩:=by
    obtain⟨g,c,e⟩:=bo HO.out ae
    grind
   subst a5;obtain⟨a1,a2,_⟩:=iX l i a3;have S:=(HO.out.lt g rfl).2;have d1:wr.cell? (g,i*3)=l[i].path:=by rw[hb.cell S,HO.out.cellAt _ ae];exact a1
   have d2:wr.cell? (g,i*3+1)=l[i].ver:=by rw[hb.cell S,HO.out.cellAt _ ae];exact a2
   have M:Hid (hit p v l[i]=(_&&_)):=rfl;have F:Hid (hit p v l[i]=true→i=r):=fun h=>by rw[←HR.out];exact(RF a3 R.out h).symm
   have f:Hid (hit p v l[i]=false→∀j (h:j<_),j<i+1→hit p v l[j]=false):=fun h j hj a7=>by
    by_cases e:j=i
    ·grind
    ·exact R.out j hj ae
   clear a1 a2 R;generalize l[i].path=xp at*;generalize l[i].ver=xv at*;generalize hit p v l[i]=hh at*;cases h1:(xp.toList==p.toList)
   ·have D:hh=false:=by rw[M.out,h1];rfl
    have f:=f.out D;have a4:=zH f;clear f F M D;go_wp2;go_roundg (l-(i+1))
    case measure=>omega
    grind
   ·cases h2:(xv.toList==v.toList)
    ·have D:hh=false:=by rw[M.out,h1,h2];rfl
     have f:=f.out D;have a4:=zH f;clear f F M D;go_wp2;go_roundg (l-(i+1))
     case measure=>omega
     grind
    ·have a0:hh=true:=by rw[M.out,h1,h2];rfl
     have HF:=zH (F.out a0);clear f F M a0;go_wp2;go_ret;exact⟨cH HF.out,hb⟩
  ·have fD:¬(i<(l:Int)):=ae
   have HF:Hid (-1=r):=by
    show -1=r;rw[←HR.out];exact(O4 fun j hj=>R.out j hj ae).symm
   clear R;go_wp2;go_ret;exact⟨cH HF.out,hb⟩
theorem Hh:∃i,prog.info? 84=some i∧i.zero=some (.agg #[ByteArray.empty,ByteArray.empty,ByteArray.empty])∧i.size=3∧i.bytes=48:=by
 have h:(prog.info? 84).map (fun i=>(i.zero,i.size,i.bytes))=some (some (.agg #[ByteArray.empty,ByteArray.empty,ByteArray.empty]),3,48):=aB;simp_all
theorem oH(w:zW)a b c t:∀j u,[a,b,c][j]?=some u→(w.alloc (.cells #[a,b,c] t)).cell? (((w,0):Addr).add j)=some u:=by
 intro j u h
 match j,h with
 |0,h=>simp at h;subst h;simp[Addr.add]
 |1,h=>simp at h;subst h;simp[Addr.add]
 |2,h=>simp at h;subst h;simp[Addr.add]
def but(l:List Tt)(k i:Nat):List Tt:=(l.take i).eraseIdx k
theorem vt l x:cZ (l++[x])=cZ l++[.string x.path,.string x.ver,.string x.s]:=by simp[cZ]
theorem LN(l:List Tt)(k:Nat)(D:k<l):but l k (k+1)=but l k k:=by
 have e:=(List.take_append_getElem D).symm;have E:(l.take k)=k:=by rw[jy];omega
 have f:(l.take k).eraseIdx k=_:=List.eraseIdx_of_length_le ae;unfold but;rw[e,f,List.eraseIdx_append_of_length_le ae,E,Nat.sub_self];simp
theorem LO(l:List Tt)(k i:Nat)(D:i<l)(E:i≠k):but l k (i+1)=but l k i++[l[i]]:=by
 have e:=(List.take_append_getElem D).symm;have F:(l.take i)=i:=by rw[jy];omega
 unfold but;rw[e];by_cases h:k<i
 ·grind
 ·have f:(l.take i).eraseIdx k=_:=List.eraseIdx_of_length_le ae
  rw[f,List.eraseIdx_append_of_length_le ae,List.eraseIdx_of_length_le ax]
theorem Dt(l:List Tt)(k:Nat)lv B w(E:w.ownsRow B 84 3 lv l (cZ l))(hl:l.length≤100000):
  zC 36 #[lv,k] w fun e w'=>∃ov,e=.returned ov∧w'.ownsRow w 84 3 ov (l.eraseIdx k) (cZ (l.eraseIdx k))∧Below w w w':=by
 obtain⟨la,lc,an⟩:∃a c,lv=.slice a l.length c:=by
  rcases E.2 with⟨e1,e2⟩|⟨g,c,_,e1,_⟩
  ·grind
  grind
 subst an;have HO:=zH E;clear E;obtain⟨i9,a4,a5,a6,a7⟩:=Hh;have HI:Hid (_∧_∧_∧_):=⟨a4,a5,a6,a7⟩;clear a4 a5 a6 a7;go_enter func36,ntmps36;go_wp2;go_loopg [5,6] l (fun gg ov Z wr=>∃(i:Nat)(M:List Tt),Z=.int .i64 i∧i≤l.length∧l.length-i≤gg∧M.length≤i∧Hid (M=but l k i)∧Hid (wr.ownsRow w.heap.size 84 3 ov M.length (cZ M))∧Below w.heap.size w wr)
 case atStart=>exact⟨0,[],rfl,ae,ae,ah,rfl,bP _ _ _ _,af _ _⟩
 case round=>
  obtain⟨i,M,rfl,hi,hg,hM,HM,HV,S⟩:=hrel;by_cases a8:i<l
  ·have fD:i<(l:Int):=ae
   by_cases f:i=k
   ·have hq:(i !=(k:Int))=false:=by rw[f];simp
    have aq:(i==(k:Int))=true:=by rw[f];simp
    have R:Hid (M=but l k (i+1)):=by
     show M=_;rw[HM.out,f];exact(LN l k ae).symm
    clear f;go_wp2;go_roundg (l-(i+1))
    case measure=>omega
    case rel=>exact⟨_,M,by go_num,ae,ae,ae,R,HV,S⟩
   ·have hq:(i !=(k:Int))=true:=aJ
    have aq:(i==(k:Int))=false:=by rw[bX];omega
    obtain⟨g,ak⟩:∃g,la=some ⟨g,0,none⟩:=by
     obtain⟨g,c,e⟩:=bo HO.out ae
     grind
    subst ak;obtain⟨a1,a2,a3⟩:=iX l i a8;have a0:=(HO.out.lt g rfl).2;have d1:wr.cell? (g,i*3)=l[i].path:=by rw[S.cell a0,HO.out.cellAt _ ae];exact a1
    have d2:wr.cell? (g,i*3+1)=l[i].ver:=by rw[S.cell a0,HO.out.cellAt _ ae];exact a2
    have d3:wr.cell? (g,i*3+2)=l[i].s:=by rw[S.cell a0,HO.out.cellAt _ ae];exact a3
    have R:Hid (M++[l[i]]=but l k (i+1)):=by
     show _=_;rw[LO l k i a8 f,HM.out]
    have HX:=zH (vt M l[i]);generalize l[i]=x at*;have ad:=S.size;clear a1 a2 a3 f;generalize cZ M=xs at*;generalize x.path=xp at*;generalize x.ver=xv at*;generalize x.s=xx at*
    go_wp2_with (at_builtin;refine bO _ rfl _ _ 54 rfl _ 84 i9 _ 3 48 underlying54 HI.out.1 HI.out.2.1 HI.out.2.2.1 HI.out.2.2.2 rfl aA _ _ _ rfl (HV.out.alloc _) _ 1 1 [xp,xv,xx] rfl rfl ?_ ?_ ?_ ?_ ?_ ?_)
    all_goals first
     |exact oH _ _ _ _ _
     |(show ∀u∈[Value.string xp,Value.string xv,Value.string xx],u.oneCell'=true;intro u hu;simp at hu;rcases hu with rfl|rfl|rfl<;>rfl)
     |(show M.length+1≤maxLen;unfold maxLen;omega)
     |(show(M.length+1)*48≤140737488355328;omega)
     |(show w.heap.size≤(wr.alloc _).heap.size;simp;omega)
     |skip
    intro a9 w2 F D _ _;have ab:=(S.alloc ad _).grown D aJ (fun b e=>(HV.out.lt b e).1)
    have aa:Hid (w2.ownsRow w 84 3 a9 (M++[x]) (cZ (M++[x]))):=by
     show w2.ownsRow w.heap.size 84 3 a9 (M++[x]).length (cZ (M++[x]));rw[HX.out,bj];exact F
    clear F D HV d1 d2 d3 HX;go_wp2;go_roundg (l-(i+1))
    case measure=>omega
    case rel=>exact⟨_,_,by go_num,ae,ae,aJ,R,aa,ab⟩
  ·have fD:¬(i<(l:Int)):=ae
   have HF:Hid (wr.ownsRow w 84 3 u5 (l.eraseIdx k) (cZ (l.eraseIdx k))):=by
    have h:=HV.out
    have e:M=l.eraseIdx k:=by
     rw[HM.out];unfold but;rw[cV ae]
    rw[e] at h;exact h
   clear HV HM;go_wp2;go_ret;exact⟨_,rfl,HF.out,S⟩
end Ed
end
section
open Go.RowKit
namespace Ed
variable{w w':zW}
def Fd(W:zW)(b o:Nat)(u:zV):Prop:=W.cell? ⟨b,o,none⟩=some u∧W.frozen? ⟨b,o,none⟩=false
theorem Fd.of_block{W f}{b o}{u}(h:Fd W b o u)(e:f.heap[b]?=W.heap[b]?):Fd f b o u:=
 ⟨by rw[dW (a:=(b,o)) e];exact h.1,by rw[BF (a:=(b,o)) e];exact h.2⟩
theorem Fd.set{W}{b o o'}{u v}(h:Fd W b o u)(f:o≠o'):Fd (W.setCell (b,o') v) b o u:=
 ⟨by rw[wy _ _ _ _ (fun e=>f ax)];exact h.1,by rw[mN];exact h.2⟩
theorem Fd.lt{W}{b o}{u}(h:Fd W b o u):b<W:=cr W _ h.1
def dw(l:List Tt)(t:Tt)(f:Nat):List Tt×Int×Nat:=
 match l.findIdx? (hit t.path t.ver) with
 |none=>if f≤l.length then (l,4,0) else (l++[t],0,1)
 |some i=>if ((l.getD i t).s.toList==t.s.toList)=true then (l,0,0) else (l.modify i (fun x=>{x with s:=t.s}),0,1)
theorem xw:∀(l:List Tt)(i:Nat)(y:zA),i<l.length→(cZ l).set (i*3+2) (.string y)=cZ (l.modify i (fun x=>{x with s:=y}))
 |x::r,0,y,_=>by simp[cZ]
 |x::r,i+1,y,h=>by
  have e:cZ (x::r)=_::_::_::cZ r:=rfl;have f:=xw r i y (by simpa using h);rw[e,show _+2=i*3+2+1+1+1 by omega];simp only[List.set_cons_succ,f,List.modify_succ_cons]
  rfl
theorem Du(I B f G:Nat)(l:List Tt)t lv(w:zW)(a0:w.ownsRow B 84 3 lv l (cZ l))(hB:B≤w)(hl:l.length≤90000)(TT:Fd w I 3 (G))(hr:G<4611686018427387904)(b1:lv.ownBlock≠I):
  zC 33 #[.pointer (some (I,0)),lv,.agg #[t.path,t.ver,t.s],f] w fun e w'=>∃ov,e=.returned (.tuple #[ov,(dw l t f).2.1])∧w'.ownsRow B 84 3 ov (dw l t f).1 (cZ (dw l t f).1)∧Fd w' I 3 (((G+(dw l t f).2.2:Nat):Int))∧(∀b,ov.ownBlock=some b→lv.ownBlock=b∨w≤b)∧aj (fun b=>b=I∨lv.ownBlock=b) w w'∧(∀o u,o≠3→Fd w I o u→Fd w' I o u):=by
 obtain⟨la,lc,b8⟩:∃a c,lv=.slice a l.length c:=by
  rcases a0.2 with⟨e1,e2⟩|⟨g,c,_,e1,_⟩
  ·grind
  grind
 subst b8;have kf:∀W,Below w.heap.size w W→_:=fun W hb=>jW t.path t.ver l _ B W (ar a0 (fun b e=>hb.block b (a0.lt b e).2)) ae
 have HO:=zH a0;have HF:=zH TT;have a2:=zH b1;clear a0 TT b1;generalize an:dw l t f=L;have R:=zH an;clear an;go_enter func33,ntmps33
 go_wp2_with (go_at_call 35;fail)
 have a6:Hid (Below w.heap.size w (w.alloc (.cells #[t.path,t.ver,t.s] 84))):=(af _ _).alloc (ai _) _
 have ak:Hid (∀W,Below (w.alloc (.cells #[t.path,t.ver,.string t.s] 84)) (w.alloc (.cells #[.string t.path,.string t.ver,.string t.s] 84)) W→W.cell? (w,0)=some (.string t.path)∧W.cell? (w,1)=some (.string t.ver)∧W.cell? (w,2)=some (.string t.s)):=fun W hb=>by
  have aa:w<(w.alloc (.cells #[t.path,t.ver,t.s] 84)).heap.size:=ah;have h:=oH w (t.path) (t.ver) (t.s) 84;exact⟨(hb.cell aa).trans (h 0 _ rfl),(hb.cell aa).trans (h 1 _ rfl),(hb.cell aa).trans (h 2 _ rfl)⟩
 go_at_call 35;refine(kf _ a6.out).mono ?_;rintro e w1 ⟨rfl,a9⟩;obtain⟨x0,x1,x2⟩:=ak.out w1 a9;have M:=zH (a6.out.trans (a9.mono a6.out.size));have S:=zH (ar HO.out (fun b e=>M.out.block b (HO.out.lt b e).2));have a1:=zH (HF.out.of_block (M.out.block I HF.out.lt));have a7:Hid (aj (fun b=>b=I∨(Value.slice la l lc).ownBlock=b) w w1):=aj.of_below M.out;clear kf ak a9 a6;cases hfi:l.findIdx? (hit t.path t.ver) with
 |none=>
  have a4:at? t.path t.ver l=-1:=by unfold at?;rw[hfi]
  rw[a4];clear a4;by_cases b0:f≤l
  ·have RG:l≥(f:Int):=ae
   have HL:Hid (L=(l,4,0)):=by
    show L=_;rw[←R.out];unfold dw;rw[hfi];exact ay b0
   clear R hfi;go_wp2;go_ret2;have e:=HL.out;subst e;exact⟨_,rfl,S.out,a1.out,fun b e=>Or.inl e,a7.out,fun o u _ h=>h.of_block (M.out.block I h.lt)⟩
  ·have RG:¬(l≥(f:Int)):=ae
   have HL:Hid (L=(l++[t],0,1)):=by
    show L=_;rw[←R.out];unfold dw;rw[hfi];exact au b0
   have c3:=a1.out.1;have f3:=a1.out.2;have e2:IntKind.i64.wrap (G+1)=G+1:=by simp[IntKind.wrap,IntKind.bits,IntKind.signed];omega
   have ba:=a1.out.lt
   have E:Hid (Fd _ I 3 (.int .i64 (G+1))∧(w1.setCell (I,3) (.int .i64 (G+1))).ownsRow B 84 3 _ _ _∧aj _ w (w1.setCell (I,3) (.int .i64 (G+1)))):=
    ⟨⟨kU _ _ _ c3,by simp_all⟩,ownsRow_setCell_other S.out a2.out _,a7.out.set (fun _=>Or.inl rfl) _⟩
   have ad:Hid (∀o u,o≠3→Fd w I o u→Fd (w1.setCell _ (.int .i64 (G+1))) I o u):=fun o u ho h=>(h.of_block (M.out.block I h.lt)).set ho
   have hx:∀o,(w1.setCell (I,3) (.int .i64 (G+1))).cell? ⟨w,o,none⟩=_:=fun o=>wy _ _ _ _ (fun e=>by
    injection e with e1;have:=HF.out.lt;omega)
   have y0:=(hx 0).trans x0;have y1:=(hx 1).trans x1;have y2:=(hx 2).trans x2;have O5:=M.out.size;have HZ:Hid ((w1.setCell (I,3) (.int .i64 (G+1)))=w1.heap.size):=by show _=_;simp[World.setCell]
   clear R hfi hx x0 x1 x2;obtain⟨i9,b3,b4,b5,b6⟩:=Hh;go_upto_region 6 with fail;clear c3 f3;generalize w1.setCell ⟨I,3,none⟩ (.int .i64 ((G:Int)+1))=W2 at*
   go_wp2_with (at_builtin;refine bO _ rfl _ _ 54 rfl B 84 i9 _ 3 48 underlying54 b3 b4 b5 b6 rfl aA _ _ _ rfl (E.out.2.1.alloc _) _ 1 1 [t.path,t.ver,t.s] rfl rfl ?_ ?_ ?_ ?_ ?_ ?_)
   all_goals first
    |exact oH _ _ _ _ _
    |(show ∀u∈[Value.string t.path,Value.string t.ver,Value.string t.s],u.oneCell'=true;intro u hu;simp at hu;rcases hu with rfl|rfl|rfl<;>rfl)
    |(show l.length+1≤maxLen;unfold maxLen;omega)
    |(show(l.length+1)*48≤140737488355328;omega)
    |(show B≤(W2.alloc _).heap.size;have:=HZ.out;simp;omega)
    |skip
   intro ov w5 a5 F _ av;have b9:=HZ.out;have TU:=E.out.1.lt
   have D:Hid (w5.ownsRow B 84 3 ov (l++[t]) (cZ (l++[t]))∧Fd w5 I 3 (.int .i64 (G+1))∧(∀b,ov.ownBlock=some b→(Value.slice la l lc).ownBlock=b∨w≤b)∧aj (fun b=>b=I∨(Value.slice la l lc).ownBlock=b) w w5):=by
    refine⟨by rw[vt,bj];exact a5,E.out.1.of_block ?_,?_,?_⟩
    ·rw[F.block I aJ (fun e=>a2.out e.symm),aO _ _ _ TU]
    ·grind
    ·exact(E.out.2.2.alloc _).grown F (fun b _ e=>Or.inr e)
   have HK:Hid (∀o u,o≠3→Fd w I o u→Fd w5 I o u):=fun o u ho h=>by
    refine(ad.out o u ho h).of_block ?_;rw[F.block I aJ (fun e=>a2.out e.symm),aO _ _ _ TU]
   clear a5 F av E b9 ad;go_wp2;go_ret2;have e:=HL.out;subst e;exact⟨_,rfl,D.out.1,D.out.2.1,D.out.2.2.1,D.out.2.2.2,HK.out⟩
 |some i=>
  have a4:at? t.path t.ver l=i:=by unfold at?;rw[hfi]
  obtain⟨ab,_,_⟩:=qG.1 hfi;rw[a4];clear a4;have a8:l.getD i t=l[i]:=by simp[List.getD,ab]
  obtain⟨g,b7⟩:∃g,la=some ⟨g,0,none⟩:=by
   obtain⟨g,c,e⟩:=bo S.out ae
   grind
  subst b7;obtain⟨_,_,a3⟩:=iX l i ab;have d3:w1.cell? (g,i*3+2)=l[i].s:=by rw[S.out.cellAt _ ae];exact a3
  have bd:¬((i:Int)<0):=ae;have Wm:i<(l:Int):=ae;have bc:=(S.out.lt g rfl).2;cases hq:(l[i].s.toList==t.s.toList)
  ·have HL:Hid (L=(l.modify i (fun x=>{x with s:=t.s}),0,1)):=by
    show L=_;rw[←R.out];unfold dw;rw[hfi];simp only[a8];exact au (by rw[hq];decide)
   have c3:=a1.out.1;have f3:=a1.out.2;have e2:IntKind.i64.wrap (G+1)=G+1:=by simp[IntKind.wrap,IntKind.bits,IntKind.signed];omega
   have aq:g≠I:=fun e=>a2.out (by rw[←e];rfl)
   have bb:=S.out.frozenAt (i*3+2)
   have E:Hid (Fd _ I 3 (.int .i64 (G+1))∧(w1.setCell (I,3) (.int .i64 (G+1))).ownsRow B 84 3 _ _ _∧aj _ w (w1.setCell (I,3) (.int .i64 (G+1)))):=
    ⟨⟨kU _ _ _ c3,by simp_all⟩,ownsRow_setCell_other S.out a2.out _,a7.out.set (fun _=>Or.inl rfl) _⟩
   have D:Hid (((w1.setCell (I,3) (.int .i64 (G+1))).setCell (g,i*3+2) (t.s)).ownsRow B 84 3 (.slice (some (g,0)) l lc) l (cZ (l.modify i (fun x=>{x with s:=t.s})))∧Fd ((w1.setCell ⟨I,3,none⟩ (.int .i64 (G+1))).setCell (g,i*3+2) (t.s)) I 3 (.int .i64 (G+1))∧aj (fun b=>b=I∨(Value.slice (some ⟨g,0,none⟩) l lc).ownBlock=some b) w ((w1.setCell ⟨I,3,none⟩ (.int .i64 (G+1))).setCell (g,i*3+2) (t.s))):=by
    refine⟨?_,E.out.1.of_block (aM _ _ _ _ (fun e=>aq e.symm)),E.out.2.2.set (a:=(g,i*3+2)) (fun _=>Or.inr rfl) _⟩;have h:=(E.out.2.1.stored (i*3+2) (t.s)).1;rw[xw l i t.s ab] at h;exact h
   have HK:Hid (∀o u,_→Fd w I o u→Fd ((w1.setCell (I,3) (.int .i64 (G+1))).setCell (g,i*3+2) (t.s)).drew I o u):=fun o u ho h=>((h.of_block (M.out.block I h.lt)).set ho).of_block (aM _ _ _ _ (fun e=>aq e.symm))
   have az:(l.modify i (fun x=>{x with s:=t.s}))=l.length:=ah;have b2:=zH az;clear az E;generalize l[i].s=xs at*;generalize l.modify i (fun x=>{x with s:=t.s})=l2 at*;clear R hfi a3 a8;go_upto_region 7 with fail
   go_region
   go_wp2;go_ret2;have e:=HL.out;subst e;exact⟨_,rfl,by rw[b2.out];exact ar D.out.1 (fun _ _=>rfl),D.out.2.1.of_block rfl,fun b e=>Or.inl e,D.out.2.2.more ((af _ _).drew),fun o u ho h=>HK.out o u ho h⟩
  ·have HL:Hid (L=(l,0,0)):=by
    show L=_;rw[←R.out];unfold dw;rw[hfi];simp only[a8];exact ay hq
   generalize l[i].s=xs at*;clear R hfi a3 a8;go_upto_region 7 with fail
   go_region
   go_wp2;go_ret2;have e:=HL.out;subst e;exact⟨_,rfl,ar S.out (fun _ _=>rfl),a1.out.of_block rfl,fun b e=>Or.inl e,a7.out.more ((af _ _).drew),fun o u _ h=>(h.of_block (M.out.block I h.lt)).of_block rfl⟩
end Ed
end
section
open Go.RowKit
namespace Ed
variable{w w':zW}
structure gD(w:World)(B I:Nat)(mv Z:zV)(V U:List Tt)(root:zA)(G:Nat):Prop where
 f0:Fd w I 0 mv
 f1:Fd w I 1 Z
 f2:Fd w I 2 (.string root)
 f3:Fd w I 3 (.int .i64 G)
 om:w.ownsRow B 84 3 mv V.length (cZ V)
 oi:w.ownsRow B 84 3 Z U.length (cZ U)
 ne:mv.ownBlock≠some I∧Z.ownBlock≠some I∧∀b,mv.ownBlock=some b→Z.ownBlock≠some b
 ba:B≤w.heap.size
variable{B I G:Nat}{mv Z:zV}{V U:List Tt}{root:zA}
theorem gD.below(h:gD w B I mv Z V U root G)(f:Below w w w'):gD w' B I mv Z V U root G:=
 have k:=f.block I h.f0.lt
 ⟨h.f0.of_block k,h.f1.of_block k,h.f2.of_block k,h.f3.of_block k,ar h.om (fun b e=>f.block b (h.om.lt b e).2),ar h.oi (fun b e=>f.block b (h.oi.lt b e).2),h.ne,aP h.ba f.size⟩
theorem xy{e}{sz m}{u}{l}(h:w.ownsRow B e sz u m l):∃a c,u=.slice a m c:=by
 rcases h.2 with⟨f,D⟩|⟨g,c,_,f,_⟩
 ·grind
 grind
def lI(w:zW)(v f:zV):Prop:=∀b,f.ownBlock=some b→v.ownBlock=some b∨w.heap.size≤b
theorem lI.refl w v:lI w v v:=fun _ e=>Or.inl e
def eI(l:List Tt)(t:Tt)(f:Nat)(err:Int):List Tt×Int×Nat:=if err=0 then dw l t f else (l,err,0)
end Ed
end
section
open Go.RowKit
namespace Ed
variable{w w':zW}{B I G:Nat}{mv Z:zV}{V U:List Tt}{root:zA}
theorem LP{B B' n sz}{e}{v}{xs}(h:w.ownsRow B e sz v n xs)(M:B'≤B):w.ownsRow B' e sz v n xs:=by
 rcases h with⟨D,h|⟨g,cap,f,E,F,r⟩⟩
 ·exact⟨D,.inl h⟩
 ·exact⟨D,.inr ⟨g,cap,f,E,aP M F,r⟩⟩
def bY(l:List Tt)(p v:zA)(err:Int):List Tt×Nat:=
 if err=0 then (match l.findIdx? (hit p v) with|some i=>(l.eraseIdx i,1)|none=>(l,0)) else (l,0)
theorem FR l p v err:(bY l p v err).1≤l.length:=by
 unfold bY
 grind
def fE(p:zA):Int:=if p.size≠0∧Pv.aK p.data.toList=false then 2 else 0
def rootOf(root p:zA):zA×Nat:=if fE p=0 then (if (p.toList==root.toList)=true then (root,0) else (p,1)) else (root,0)
abbrev LQ:Obj:=.cells #[zN,zN,zE,.int .i64 0,zN,zN,zN] 61
theorem I8(c:Int)w(f:c<1):zC 11 #[c] w fun e w'=>e=.returned (.tuple #[.pointer none,.int .i64 1])∧w'=w:=by
 go_enter func11,ntmps11;go_wp2;go_ret2;simp
theorem FT(c:Int)w(f:¬c<1):zC 11 #[c] w fun e w'=>e=.returned (.tuple #[.pointer (some (w,0)),.int .i64 0])∧w'=w.alloc LQ:=by
 go_enter func11,ntmps11;go_wp2;go_ret2;simp
end Ed
end
section
open Go.ChangeMaps Go.MapKept
open Go.WideElems (Fit rd rg pl rd_val elemAt rd_key)
open Go.Maps (Keyed)
namespace Mp
def pair(x:MapEntry):zV×zV:=(x.key,x.val)
def noR(_:zV):Option (DataW Unit×List MemPlace):=some (.nil,[])
def MapAt(P:Program)(k:TypeId)(w:zW)(b:Nat)(L:List (zV×zV)):Prop:=
 ∃f clock,w.heap[b]?=some (.map f clock)∧Fit P k noR f clock∧(f.toList.map pair).Perm L
variable{P:Program}{k:TypeId}{w w':zW}{b r:Nat}{L Y Lr:List (zV×zV)}{t e:TypeId}{key val old:zV}{O:Lit}
theorem MapAt.lt(h:MapAt P k w b L):b<w:=by
 obtain⟨f,clock,D,_⟩:=h
 grind
theorem MapAt.of_block(h:MapAt P k w b L)(e:w'.heap[b]?=w.heap[b]?):MapAt P k w' b L:=by
 obtain⟨f,clock,D,r⟩:=h;exact⟨f,clock,e.trans D,r⟩
theorem MapAt.perm(h:MapAt P k w b L)(e:L.Perm Y):MapAt P k w b Y:=by
 obtain⟨f,clock,D,F,E⟩:=h;exact⟨f,clock,D,F,E.trans e⟩
theorem made(w:zW)P k:MapAt P k (w.alloc (.map #[] 0)) w []:=
 ⟨#[],0,(MapKept.heap_alloc w _).1,⟨ah,stamped_empty 0,ah⟩,ah⟩
theorem MapAt.apart(h:MapAt P k w b L):L.Pairwise (fun p q=>p.1≠q.1):=by
 obtain⟨D,clock,R,F,M⟩:=h;have E:=((stamped_iff D clock).1 F.stamped).2.2;refine(M.pairwise_iff (fun {_ _} f=>Ne.symm f)).1 ?_;rw[rH];exact E
theorem MapAt.keys(h:MapAt P k w b L):∀p∈L,∃l,keyOf P k p.1=some l:=by
 obtain⟨M,clock,R,F,f⟩:=h;intro p hm;obtain⟨x,D,rfl⟩:=dC.1 (f.mem_iff.2 hm);obtain⟨y,E⟩:=F.reads x D;exact⟨_,rd_key E⟩
theorem MapAt.look c(h:MapAt P k w b L)(K:Keyed P k)(ht:P.underlying t=some (.map k e)){z}(hz:(zeroValue e).run P w=.ok z w)(D:keyOf P k key=O):
  ((Instr.lookup t (.map (b)) key c).run P w=.ok (if c then .tuple #[z,false] else z) w∧∀p∈L,p.1≠key)∨
  ∃v,(key,v)∈L∧(Instr.lookup t (.map (b)) key c).run P w=.ok (if c then .tuple #[v,true] else v) w:=by
 obtain⟨es,clock,R,F,M⟩:=h;rcases Maps.fit_look c K ht hz R F D with⟨f,hn,_⟩|⟨e0,y,hm,S,f,_⟩
 ·refine Or.inl ⟨f,fun p E=>?_⟩
  obtain⟨x,hx,rfl⟩:=dC.1 (M.mem_iff.2 E);exact hn x hx
 ·refine Or.inr ⟨_,M.mem_iff.1 (dC.2 ⟨e0,hm,by rw[pair,S]⟩),f⟩
theorem MapAt.look_none c(h:MapAt P k w b L)(K:Keyed P k)(E:P.underlying t=some (.map k e)){z}(F:(zeroValue e).run P w=.ok z w)(f:keyOf P k key=O)(M:∀p∈L,p.1≠key):
  (Instr.lookup t (.map (b)) key c).run P w=.ok (if c then .tuple #[z,false] else z) w:=by
 rcases h.look c K E F f with⟨D,_⟩|⟨v,hm,_⟩
 ·exact D
 grind
theorem uniq:∀{L:List (zV×zV)} (_:L.Pairwise (fun p q=>p.1≠q.1)) {key v u:zV} (_:(key,v)∈L) (_:(key,u)∈L),v=u
 |[],_,_,_,_,f,_=>by cases f
 |x::r,h,key,v,u,f,D=>by
  obtain⟨ha,E⟩:=eM.1 h;rcases bI.1 f with R|F
  ·grind
  ·rcases bI.1 D with S|M
   ·grind
   ·exact uniq E F M
theorem MapAt.look_some c(h:MapAt P k w b L)(K:Keyed P k)(E:P.underlying t=some (.map k e)){z}(M:(zeroValue e).run P w=.ok z w)(f:keyOf P k key=O){v}(hm:(key,v)∈L):
  (Instr.lookup t (.map (b)) key c).run P w=.ok (if c then .tuple #[v,true] else v) w:=by
 rcases h.look c K E M f with⟨_,D⟩|⟨u,F,D⟩
 ·grind
 ·rw[uniq h.apart hm F];exact D
theorem MapAt.Hj(h:MapAt P k w b L)(K:Keyed P k)(ht:P.underlying t=some (.map k e))(hn:L<maxLen)(f:keyOf P k key=O)(R:∀p∈L,p.1≠key)val:
  ∃w',(Instr.mapUpdate t (.map (b)) key val).run P w=.ok () w'∧w.mapTurned w' b∧MapAt P k w' b ((key,val)::L):=by
 obtain⟨E,clock,M,F,S⟩:=h;have IU:∀x∈E.toList,x.key≠key:=fun x D=>R _ (S.mem_iff.1 (dC.2 ⟨x,D,rfl⟩))
 have a0:E.size<maxLen:=by
  have:=S.length_eq;rw[dM,wN] at this;omega
 rcases K.find w f E.toList F.keys with⟨h1,h2⟩|⟨j,e0,h1,h2,h3⟩
 ·refine⟨_,?_,⟨E,clock,_,_,M,rfl⟩,E.push ⟨key,val,clock⟩,_,heap_setBlock_same M _,⟨aJ,stamped_push F.stamped h2,?_⟩,?_⟩
  ·simp[Instr.mapUpdate,run_underlying ht,MapKept.run_getObj_map M,K.check w false f,h1,MapKept.run_setObj_map _ M,Result.andThen,setBlock]
  ·intro x D
   simp only[Array.toList_push,bT,fW] at D;rcases D with D|rfl
   ·exact F.reads x D
   ·exact⟨_,WideElems.rd_mk f rfl⟩
  ·rw[Array.toList_push,eY,List.map_singleton]
   exact(Bv _ _).trans (S.cons _)
 grind
theorem oI{α:Type}:∀(l:List α)(j:Nat)(x:α),j<l.length→(l.set j x).Perm (x::l.eraseIdx j)
 |y::r,0,x,_=>by simp
 |y::r,j+1,x,h=>by
  simp only[List.set_cons_succ,List.eraseIdx_cons_succ];exact((oI r j x (by simpa using h)).cons y).trans (List.Perm.swap _ _ _)
theorem mZ{α:Type}:∀(l:List α)(j:Nat)(h:j<l.length),l.Perm (l[j]::l.eraseIdx j)
 |y::r,0,_=>by simp
 |y::r,j+1,h=>by
  simp only[List.getElem_cons_succ,List.eraseIdx_cons_succ];exact((mZ r j _).cons y).trans (List.Perm.swap _ _ _)
theorem MapAt.Hk(h:MapAt P k w b L)(K:Keyed P k)(ht:P.underlying t=some (.map k e))(hkey:keyOf P k key=O)(hL:L.Perm ((key,old)::Y))val:
  ∃w',(Instr.mapUpdate t (.map (b)) key val).run P w=.ok () w'∧w.mapTurned w' b∧MapAt P k w' b ((key,val)::Y):=by
 have hap:=h.apart;obtain⟨es,clock,hb,F,hp⟩:=h;have hm:=hp.mem_iff.2 (hL.mem_iff.2 (bS ..));obtain⟨x0,hx0,ex0⟩:=dC.1 hm;rcases K.find w hkey es.toList F.keys with⟨h1,h2⟩|⟨j,e0,h1,h2,h3⟩
 ·exact absurd (by injection ex0) (h2 x0 hx0)
 ·have hj:es[j]?=e0:=by simpa using h2
  have hjl:=(dh.1 h2).1;have TV:∀e',es[j]?=some e'→({e' with key:=key,val:=val}).key=e'.key:=fun e' he'=>ax
  have QZ:(es.modify j (fun e'=>{e' with key:=key,val:=val})).toList=es.toList.set j {e0 with key:=key,val:=val}:=by rw[Array.toList_modify,modify_eq_set _ _ _ _ h2]
  have hgj:=(dh.1 h2).2;refine⟨_,?_,⟨es,clock,_,_,hb,rfl⟩,es.modify j (fun e'=>{e' with key:=key,val:=val}),clock,heap_setBlock_same hb _,⟨by simpa using F.size,stamped_modify F.stamped _ _ (fun _ _=>rfl) (fun e' _ he'=>TV e' he'),?_⟩,?_⟩
  ·simp[Instr.mapUpdate,run_underlying ht,MapKept.run_getObj_map hb,K.check w false hkey,h1,hj,h3,K.stays w hkey,MapKept.run_setObj_map _ hb,Result.andThen,setBlock]
  ·intro x hx
   rw[QZ] at hx;rcases List.mem_or_eq_of_mem_set hx with hx|rfl
   ·exact F.reads x hx
   ·exact⟨_,WideElems.rd_mk hkey rfl⟩
  ·rw[QZ]
   have e1:=(oI _ j {e0 with key:=key,val:=val} hjl).map pair;have e2:=(mZ _ j hjl).map pair;rw[hgj] at e2;simp only[eA] at e1 e2
   have e3:pair e0=(key,old):=by
    have m1:=hp.mem_iff.1 (dC.2 ⟨e0,wK h2,by rw[pair,h3]⟩);have m2:=hL.mem_iff.2 (bS ..);rw[pair,h3,uniq hap m1 m2]
   rw[e3] at e2;have e4:=List.Perm.cons_inv ((e2.symm.trans hp).trans hL);exact e1.trans (e4.cons _)
theorem MapAt.Dv(h:MapAt P k w b L)(K:Keyed P k)(ht:P.underlying t=some (.map k e))(f:keyOf P k key=O)(hL:L.Perm ((key,old)::Y))ty:
  ∃w',(Builtin.delete_ #[t,k] ty #[.map (b),key]).run P w=.ok (.tuple #[]) w'∧w.mapTurned w' b∧MapAt P k w' b Y:=by
 have a1:=h.apart;obtain⟨E,clock,hb,F,hp⟩:=h;have hm:=hp.mem_iff.2 (hL.mem_iff.2 (bS ..));obtain⟨x0,a4,a0⟩:=dC.1 hm;rcases K.find w f E.toList F.keys with⟨h1,M⟩|⟨j,e0,h1,M,h3⟩
 ·exact absurd (by injection a0) (M x0 a4)
 ·have R:=(dh.1 M).1
  have a3:j<E.size:=by simpa using R
  have a2:=(dh.1 M).2
  have D:(E.eraseIdxIfInBounds j).toList=E.toList.eraseIdx j:=by
   unfold Array.eraseIdxIfInBounds;rw[dif_pos a3];simp
  refine⟨_,?_,⟨E,clock,_,_,hb,rfl⟩,_,clock,heap_setBlock_same hb _,⟨aP (MapFrom.size_erase E j) F.size,stamped_erase F.stamped j,?_⟩,?_⟩
  ·simp[Builtin.delete_,run_underlying ht,MapKept.run_getObj_map hb,K.check w _ f,h1,MapKept.run_setObj_map _ hb,Result.andThen,setBlock]
  ·intro x hx
   rw[D] at hx;exact F.reads x ((List.eraseIdx_sublist _ _).subset hx)
  ·rw[D]
   have S:=(mZ _ j R).map pair;rw[a2] at S;simp only[eA] at S
   have e3:pair e0=(key,old):=by
    have m1:=hp.mem_iff.1 (dC.2 ⟨e0,wK M,by rw[pair,h3]⟩);have m2:=hL.mem_iff.2 (bS ..);rw[pair,h3,uniq a1 m1 m2]
   rw[e3] at S;exact List.Perm.cons_inv ((S.symm.trans hp).trans hL)
theorem MapAt.len(h:MapAt P k w b L)(M:P.underlying t=some (.map k e))ty:(Builtin.len_ #[t] ty #[.map (b)]).run P w=.ok (L) w:=by
 obtain⟨R,clock,D,F,E⟩:=h;have f:=E.length_eq;rw[dM,wN] at f;rw[←f];simp[Builtin.len_,run_underlying M,MapKept.run_getObj_map D,goInt,Result.andThen]
def cY(P:Program)(k:TypeId)(w:zW)(b r:Nat)(L Lr:List (zV×zV)):Prop:=
 ∃D clock f seen E,w.heap[b]?=some (.map D clock)∧Fit P k noR D clock∧(D.toList.map pair).Perm L∧w.heap[r]?=some (.mapIter (some b) f seen E)∧(∀x∈D.toList,x.born<f)∧f≤E∧f≤clock∧((leftOf D seen).toList.map pair).Perm Lr
theorem cY.owns(h:cY P k w b r L Lr):MapAt P k w b L:=by
 obtain⟨f,clock,_,_,_,D,F,E,_⟩:=h;exact⟨f,clock,D,F,E⟩
theorem cY.lt(h:cY P k w b r L Lr):r<w:=by
 obtain⟨E,clock,f,seen,D,_,_,_,F,_⟩:=h
 grind
theorem cY.ne(h:cY P k w b r L Lr):r≠b:=by
 obtain⟨E,clock,f,seen,D,F,_,_,M,_⟩:=h
 grind
theorem cY.of_block(h:cY P k w b r L Lr)(E:w'.heap[b]?=w.heap[b]?)(M:w'.heap[r]?=w.heap[r]?):cY P k w' b r L Lr:=by
 obtain⟨R,clock,f,seen,D,S,F,hp,hr,rest⟩:=h;exact⟨R,clock,f,seen,D,E.trans S,F,hp,M.trans hr,rest⟩
theorem MapAt.range(h:MapAt P k w b L)(R:P.underlying t=some (.map k e)):
  ∃w',(Instr.range t (.map (b))).run P w=.ok (.pointer (some (w,0))) w'∧cY P k w' b w L L∧w.grownBy w' none∧w'=w.heap.size+1:=by
 have D:=h.lt;obtain⟨f,clock,E,F,M⟩:=h;refine⟨_,run_range_map w t k e b f clock R E,⟨f,clock,clock,#[],clock,((MapKept.heap_alloc w _).2 b D).trans E,F,M,(MapKept.heap_alloc w _).1,F.stamped.1,ai _,ai _,?_⟩,World.grownBy_alloc w _ none,ah⟩
 have:leftOf f #[]=f:=by
  unfold leftOf;rw[Array.filter_eq_self];intro x _;simp
 grind
theorem I9{l:List MapEntry}(f:(l.map (·.born)).Nodup){e}(he:e∈l):l.Perm (e::l.filter fun x=>!(x.born==e.born)):=by
 obtain⟨s,t,rfl⟩:=List.append_of_mem he;rw[eY,eA,List.nodup_append] at f;obtain⟨_,D,R⟩:=f;have S:=(List.nodup_cons.1 D).1
 have E:s.filter (fun x=>!(x.born==e.born))=s:=List.filter_eq_self.2 fun x M=>by
  simp_all
 have F:t.filter (fun x=>!(x.born==e.born))=t:=List.filter_eq_self.2 fun x M=>by
  grind
 rw[List.filter_append,List.filter_cons,E,F];simp
theorem cY.next(h:cY P k w b r L Lr)ty:
  (Lr=[]∧(Instr.next (.pointer (some (r,0))) false ty).run P w=.ok (.tuple #[false]) w)∨
  ∃key v S w',(key,v)∈L∧Lr.Perm ((key,v)::S)∧(Instr.next (.pointer (some (r,0))) false ty).run P w=.ok (.tuple #[true,key,v]) w'∧
   cY P k w' b r L S∧w.grownBy w' (r)∧w'=w.heap.size∧(Instr.entry (.pointer (some (r,0)))).run P w'=.ok (.tuple #[key,v]) w':=by
 have a8:=h.ne;obtain⟨E,clock,f,seen,c0,hb,F,hp,hr,M,aa,a3,hl⟩:=h;rcases run_next_at (P:=P) w ty r b f c0 seen E clock hr hb M aa with⟨h0,R⟩|⟨e,he,w1,D,R⟩
 ·simp_all
 ·obtain⟨a1,ab⟩:=mem_left he
  have a4:=(stamped_iff E clock).1 F.stamped;have a9:w1.heap[r]?=some (.mapIter (some b) f seen c0):=by rcases D with rfl|rfl<;>exact hr
  have a5:w1.heap[b]?=some (.map E clock):=by rcases D with rfl|rfl<;>exact hb
  have O6:=heap_set (o':=.mapIter (b) f (seen.push e.born) clock) a9;have a0:(setBlock w1 r _).heap[b]?=_:=(O6.2 b (fun e1=>a8 e1.symm)).trans a5
  have a6:(leftOf E (seen.push e.born)).toList=(leftOf E seen).toList.filter (fun x=>!(x.born==e.born)):=by
   unfold leftOf;rw[Array.toList_filter,Array.toList_filter,List.filter_filter];refine List.filter_congr (fun x _=>?_);rw[contains_push];cases seen.contains x.born<;>cases (x.born==e.born)<;>rfl
  have a7:((leftOf E seen).toList.map (·.born)).Nodup:=by
   unfold leftOf;rw[Array.toList_filter];exact a4.2.1.sublist (List.filter_sublist.map _)
  have a2:=(I9 a7 he).map pair;rw[←a6,eA] at a2
  refine Or.inr ⟨_,_,_,_,hp.mem_iff.1 (dC.2 ⟨e,a1,rfl⟩),hl.symm.trans a2,R,
   ⟨E,clock,f,_,clock,a0,F,hp,O6.1,M,a3,a3,jb _⟩,?_,?_,
   run_entry_at _ r b f seen E clock e O6.1 a0 a1 a4.2.1⟩
  ·rcases D with rfl|rfl<;>exact⟨rfl,rfl,rfl,by simp[setBlock],fun i _ hi=>O6.2 i (fun e1=>hi (by rw[e1]))⟩
  ·rcases D with rfl|rfl<;>simp[setBlock]
end Mp
end
section
open Go.RowKit
namespace Ed
variable{w w':zW}
theorem Dw:laidOutB prog=true:=aB
theorem RH:(110:TypeId)<prog.types.size:=fZ aB
theorem O7:(match prog.underlying 110 with|some (.array _ _)|some (.struct _)=>true|_=>false)=true:=aB
theorem O8:prog.keyTypeAt 3 110=true:=aB
theorem LR:prog.keyType 110=true:=aB
theorem Hl:prog.types.size=418:=aB
theorem Dx:prog.cellsOf 110=3:=aB
theorem LS:prog.cellsOf 108=1:=aB
theorem Hm:prog.cellsOf 9=1:=aB
theorem RI:WideMaps.KeyLaw prog 110:=deep_law_laid Dw (m:=3) (Nat.le_of_ble_eq_true rfl) RH O8 O7
theorem gP:Maps.Keyed prog 110:=Maps.Keyed.of_law RI
theorem pM d(s:zA)(h:s.size≤maxLen):prog.keyLits (d+1) 9 [s]=some [.string s]:=by
 unfold Program.keyLits;simp_all
theorem FU d k(h:(Lit.int .i64 k).wf=true):prog.keyLits (d+1) 108 [k]=some [.int .i64 k]:=by
 unfold Program.keyLits;simp_all
abbrev plc(k:Int)(p v:zA):zV:=.agg #[.int .i64 k,.string p,.string v]
abbrev txt(s:zA):zV:=.agg #[.string s,.bool true]
theorem rX k p v(D:(Lit.int .i64 k).wf=true)(E:p.size≤maxLen)(F:v.size≤maxLen):∃l,keyOf prog 110 (plc k p v)=some l:=by
 have f:prog.keyLits (prog.types.size+1) 110 [k,p,v]=some [.int .i64 k,.string p,.string v]:=by
  rw[Hl];unfold Program.keyLits;rw[underlying110];simp only[Dx,dF,mH];rw[ay ⟨trivial,aB⟩];simp only[List.mapM_cons,List.mapM_nil,Hm,LS,List.drop,List.take,FU 417 k D,pM 417 p E,pM 417 v F]
  rfl
 refine⟨.string (keyBytes [.int .i64 k,.string p,.string v]),?_⟩;unfold keyOf;rw[underlying110];show(if (prog.keyType 110&&(Value.agg #[.int .i64 k,.string p,.string v]).formed prog 110)=true then (prog.keyLits (prog.types.size+1) 110 [.int .i64 k,.string p,.string v]).map (fun M=>Lit.string (keyBytes M)) else none)=_;rw[LR,f];rw[ay (by simp[Value.formed,underlying110,Dx])]
 rfl
theorem nh w:(zeroValue 137).run prog w=.ok (.agg #[zE,false]) w:=aB
abbrev BO(w:zW)(b:Nat)(L:List (zV×zV)):Prop:=Mp.MapAt prog 110 w b L
def Good(L:List (zV×zV)):Prop:=∀x∈L,∃(k:Int)(p v s:zA),x=(plc k p v,txt s)
def RJ(k:Int):List zV→Bool
 | .int .i64 q::_=>q==k
 |_=>false
def ic(k:Int)(x:zV×zV):Bool:=match x.1 with
 | .agg f=>RJ k f.toList
 |_=>false
structure aW(w:World)(J mb G:Nat)(L:List (zV×zV)):Prop where
 f0:Fd w J 0 (.map (some mb))
 f1:Fd w J 1 (.int .i64 G)
 map:BO w mb L
 good:Good L
 ne:J≠mb
variable{J mb G:Nat}{L:List (zV×zV)}
theorem aW.of_block(h:aW w J mb G L)(f:w'.heap[J]?=w.heap[J]?)(D:w'.heap[mb]?=w.heap[mb]?):aW w' J mb G L:=
 ⟨h.f0.of_block f,h.f1.of_block f,h.map.of_block D,h.good,h.ne⟩
theorem aW.below(h:aW w J mb G L)(f:Below w w w'):aW w' J mb G L:=
 h.of_block (f.block J h.f0.lt) (f.block mb h.map.lt)
end Ed
end
section
open Go.RowKit
namespace Ed
section
variable{P:Program}(w:zW){T:Array Oper}{rest:List Oper}{o:Oper}{a:Act}{Q:Exit→Act→zW→Prop}
theorem nQ(F:o.guard=none)m t(E:o.op=Op.range t m)k e(M:P.underlying t=some (.map k e))(b:Nat)L
  (hm:a.eval m=.map (b)) (h:Mp.MapAt P k w b L)
  (hK:∀w',Mp.cY P k w' b w L L→w.grownBy w' none→w'=w.heap.size+1→wpList P T Q rest (a.put o.dst (.pointer (some (w,0)))) w'):
  wpList P T Q (o::rest) a w:=by
 refine wpList_plain F fun K' D=>?_
 obtain⟨w',f,R,S,r3⟩:=h.range M;unfold Oper.wp;simp[execOp,E,hm,f,Result.andThen];exact D _ _ (hK w' R S r3)
theorem vT(hg:o.guard=none)it(R:o.op=Op.next it false)k b r L Lr(hL:Good L)
  (hit:a.eval it=.pointer (some (r,0))) (h:Mp.cY P k w b r L Lr)
  (E:Lr=[]→wpList P T Q rest (a.put o.dst (.tuple #[false])) w)
  (F:∀q p v s D w',Lr.Perm ((plc q p v,txt s)::D)→Mp.cY P k w' b r L D→w.grownBy w' (r)→w'=w.heap.size→
   (Instr.entry (.pointer (some (r,0)))).run P w'=.ok (.tuple #[plc q p v,txt s]) w'→wpList P T Q rest (a.put o.dst (.tuple #[true,plc q p v,txt s])) w'):
  wpList P T Q (o::rest) a w:=by
 refine wpList_plain hg fun K' M=>?_
 unfold Oper.wp;rcases h.next o.type with⟨h0,f⟩|⟨key,v,D,w',hm,hp,f,a1,a0,a2,S⟩
 ·simp[execOp,R,hit,f,Result.andThen]
  exact M _ _ (E h0)
 ·obtain⟨q,p,v,s,e⟩:=hL _ hm
  injection e with e1 e2;subst e1;subst e2;simp[execOp,R,hit,f,Result.andThen];exact M _ _ (F q p v s D w' hp a1 a0 a2 S)
end
variable{w w':zW}{J mb G:Nat}{L:List (zV×zV)}
theorem Ja(k:Int)w(h:aW w J mb G L)(hl:L.length≤100000):
  zC 72 #[.pointer (some (J,0)),k] w fun e w'=>e=.returned (((L.countP (ic k):Nat):Int))∧Below w w w':=by
 have c0:=h.f0.1;have hM:=h.map;have HG:=zH h.good;clear h;generalize hr:L.countP (ic k)=r;have HR:=zH hr;clear hr;go_enter func72,ntmps72
 go_wp2_with (first
  |(at_range;refine nQ _ rfl _ 99 rfl 110 137 underlying99 mb L rfl hM ?_;intro w0 a2 S a8)
  |go_in)
 go_frame
 have a3:=(af _ _).grown S (ai _) (fun j hj=>by cases hj);clear hM c0 S;go_loopg [5] L (fun gg nv wr=>∃(Lr:List (zV×zV))(n:Nat),nv=.int .i64 n∧Lr.length≤gg∧n+Lr.length≤L.length∧Hid (n+Lr.countP (ic k)=r)∧Hid (Mp.cY prog 110 wr mb w.heap.size L Lr)∧Below w.heap.size w wr)
 case atStart=>exact⟨L,0,rfl,ai _,ae,ax,a2,a3⟩
 case round=>
  obtain⟨Lr,n,rfl,a6,hn,HC,F,hb⟩:=hrel
  go_wp2_with (first
   |(at_next;refine vT _ rfl _ rfl 110 mb _ L Lr HG.out rfl F.out ?_ ?_)
   |go_in)
  ·intro h0
   have HF:Hid ((n:Int)=r):=by
    have h1:=HC.out;rw[h0] at h1;show(n:Int)=r;simp at h1;omega
   clear HC F;go_wp2;go_ret;exact⟨cH HF.out,hb⟩
  ·intro q p v s D w1 hp a1 a0 a9 a7
   have R:=hb.grown a0 hb.size (fun j hj=>ax);have a5:=hp.length_eq;have M:=hp.countP_eq (ic k);rw[List.countP_cons] at M;rw[dF] at a5
   have E:Hid ((if (q==k)=true then n+1 else n)+D.countP (ic k)=r):=by
    have h1:=HC.out;have e1:ic k (plc q p v,txt s)=(q==k):=rfl;rw[e1] at M;show _=r
    split
    ·grind
    ·grind
   clear M HC a0;have f:=zH a1;clear a1
   have Vh:Hid (Mp.cY _ 110 (w1.alloc (.cells #[q,p,v] 110)) mb _ L D):=
    f.out.of_block (aO _ _ _ f.out.owns.lt) (aO _ _ _ f.out.lt)
   have a4:Below w.heap.size w (w1.alloc (.cells #[q,p,v] 110)):=R.alloc R.size _;clear f F hp;cases hq:(q==k)
   ·rw[hq] at E
    go_wp2;go_roundg D
    case measure=>omega
    grind
   ·rw[hq] at E
    go_wp2;go_roundg D
    case measure=>omega
    case rel=>exact⟨D,n+1,by go_num,ai _,ae,E.out,Vh,a4⟩
end Ed
end
section
open Go.RowKit
namespace Ed
theorem toList_inj{a b:zA}(h:(a.toList==b.toList)=true):a=b:=by
 have f:=eq_of_beq h;rw[cP,cP] at f;cases a;simp_all
theorem wD{p v}{x}:hit p v x=true↔x.path=p∧x.ver=v:=by
 unfold hit;rw[eL]
 constructor
 ·rintro⟨f,D⟩;exact⟨toList_inj f,toList_inj D⟩
 grind
def ent(k:Int)(t:Tt):zV×zV:=(plc k t.path t.ver,txt t.s)
def dO(root:zA):List (zV×zV):=if root.size=0 then [] else [(plc 2 ⟨#[]⟩ ⟨#[]⟩,txt root)]
def fH(V U:List Tt)(root:zA):List (zV×zV):=V.map (ent 0)++(U.map (ent 1)++dO root)
inductive fF(L:List (zV×zV))(K:zV)(k:Int)(s:zA)(most:Nat):Int→Nat→List (zV×zV)→Prop
 |same:(K,txt s)∈L→fF L K k s most 0 0 L
 |other (old:zA) (Y:List (zV×zV)):L.Perm ((K,txt old)::Y)→(old.toList==s.toList)=false→fF L K k s most 0 1 ((K,txt s)::Y)
 |many:(∀x∈L,x.1≠K)→most≤L.countP (ic k)→fF L K k s most 4 0 L
 |fresh:(∀x∈L,x.1≠K)→L.countP (ic k)<most→fF L K k s most 0 1 ((K,txt s)::L)
inductive iK(L:List (zV×zV))(K:zV):Nat→List (zV×zV)→Prop
 |none:(∀x∈L,x.1≠K)→iK L K 0 L
 |there (old:zA) (Y:List (zV×zV)):L.Perm ((K,txt old)::Y)→iK L K 1 Y
def Off(k:Int)(A:List (zV×zV)):Prop:=∀x∈A,ic k x=false
variable{k:Int}{A C:List (zV×zV)}
theorem Off.ne(h:Off k A){x}(F:x∈A)p v:x.1≠plc k p v:=fun e=>by
 have D:=h x F;obtain⟨a,b⟩:=x;have f:=e;subst f;have E:(k==k)=false:=D;simp at E
theorem Off.count(h:Off k A):A.countP (ic k)=0:=by
 rw[List.countP_eq_zero];intro x f;rw[h x f]
 decide
theorem LU k t:ic k (ent k t)=true:=by
 show(k==k)=true;simp
theorem Jb k(l:List Tt):(l.map (ent k)).countP (ic k)=l:=by
 rw[List.countP_map];rw[show(ic k ∘ _)=fun _=>true from funext fun t=>LU k t];simp
theorem gV{k q}(f:q≠k)(l:List Tt):Off k (l.map (ent q)):=fun x D=>by
 obtain⟨t,_,rfl⟩:=dC.1 D;show(q==k)=false;simp[f]
theorem iw{k}(D:2≠k)r:Off k (dO r):=fun x f=>by
 unfold dO at f
 split at f
 ·cases f
 ·rw[fW] at f
  subst f;show((2:Int)==k)=false;simp[D]
theorem Off.append(h:Off k A)(f:Off k C):Off k (A++C):=fun x D=>(bT.1 D).elim (h x) (f x)
theorem BP k:Off k []:=fun x f=>by cases f
theorem O9{k}{t}{p v}(h:(ent k t).1=plc k p v):hit p v t=true:=by
 simp only[ent,Value.agg.injEq,Array.mk.injEq,fY,Value.string.injEq,true_and,iF] at h;exact wD.2 h
theorem Jc(f:Off k A)(D:Off k C)(l:List Tt):(A++(l.map (ent k)++C)).countP (ic k)=l:=by
 rw[List.countP_append,List.countP_append,f.count,D.count,Jb];omega
theorem rY(D:Off k A)(E:Off k C){l:List Tt}{p v}(h:l.findIdx? (hit p v)=none):∀x∈A++(l.map (ent k)++C),x.1≠plc k p v:=by
 intro x f;rcases bT.1 f with f|f
 ·exact D.ne f p v
 ·rcases bT.1 f with f|f
  ·obtain⟨t,M,rfl⟩:=dC.1 f
   intro e;have F:=O9 e
   grind
  ·exact E.ne f p v
theorem middle(A C M:List (zV×zV))x N(h:M.Perm (x::N)):(A++(M++C)).Perm (x::(A++(N++C))):=by
 have f:(M++C).Perm (x::(N++C)):=h.append_right C;exact(f.append_left A).trans List.perm_middle
theorem uv k(l:List Tt)(i:Nat)(h:i<l):(l.map (ent k)).Perm (ent k l[i]::(l.eraseIdx i).map (ent k)):=by
 have f:=(Mp.mZ l i h).map (ent k);exact f
theorem Ai(hA:Off k A)(hC:Off k C)l t f:
  ∃L',fF (A++(l.map (ent k)++C)) (plc k t.path t.ver) k t.s f (dw l t f).2.1 (dw l t f).2.2 L'∧L'.Perm (A++((dw l t f).1.map (ent k)++C)):=by
 unfold dw;cases hfi:l.findIdx? (hit t.path t.ver) with
 |none=>
  have hn:=rY hA hC hfi;have hc:=Jc hA hC l;by_cases hm:f≤l
  ·simp only[ay hm]
   exact⟨_,fF.many hn ae,jb _⟩
  ·simp only[au hm]
   refine⟨_,fF.fresh hn (by rw[hc];omega),?_⟩;refine(middle A C _ _ _ ?_).symm;rw[eY];exact Bv _ _
 |some i=>
  obtain⟨D,hh,_⟩:=qG.1 hfi;obtain⟨F,M⟩:=wD.1 hh;have R:l.getD i t=l[i]:=by simp[List.getD,D]
  simp only[R];cases hq:(l[i].s.toList==t.s.toList)
  ·have hp:=middle A C _ _ _ (uv k l i D)
   have e3:ent k l[i]=(plc k t.path t.ver,txt l[i].s):=by rw[ent,F,M]
   rw[e3] at hp;simp only[iV,dS];refine⟨_,fF.other _ _ hp hq,?_⟩;have S:i<(l.modify i (fun x=>{x with s:=t.s})):=by simpa using D
   have E:=middle A C _ _ _ (uv k _ i S);have e4:(l.modify i _)[i]={l[i] with s:=t.s}:=ah
   have e5:(l.modify i (fun x=>{x with s:=t.s})).eraseIdx i=l.eraseIdx i:=by
    apply qH;intro j;simp only[List.getElem?_eraseIdx,List.getElem?_modify]
    split
    ·grind
    ·grind
   rw[e4,e5] at E
   have e6:ent k {l[i] with s:=t.s}=(plc k t.path t.ver,txt t.s):=by
    show(plc k l[i].path l[i].ver,txt t.s)=_;rw[F,M]
   rw[e6] at E;exact E.symm
  ·have e3:ent k l[i]=(plc k t.path t.ver,txt t.s):=by rw[ent,F,M,toList_inj hq]
   simp only[fC];refine⟨_,fF.same ?_,jb _⟩
   grind
theorem Aj(S:Off k A)(hC:Off k C)l p v:
  ∃D,iK (A++(l.map (ent k)++C)) (plc k p v) (bY l p v 0).2 D∧D.Perm (A++((bY l p v 0).1.map (ent k)++C)):=by
 unfold bY;rw[ay rfl];cases hfi:l.findIdx? (hit p v) with
 |none=>exact⟨_,iK.none (rY S hC hfi),jb _⟩
 |some i=>
  obtain⟨f,hh,_⟩:=qG.1 hfi;obtain⟨F,M⟩:=wD.1 hh;have E:=middle A C _ _ _ (uv k l i f);have R:ent k l[i]=(plc k p v,txt l[i].s):=by rw[ent,F,M]
  rw[R] at E;exact⟨_,iK.there _ _ E,jb _⟩
theorem pN{r:zA}(h:r.size=0):r=⟨#[]⟩:=by
 cases r with
 |mk d=>
  have:_:=Array.eq_empty_of_size_eq_zero h;rw[this]
theorem LV(S:Off 2 A)root p(hp:p.size≠0):
  ∃M,fF (A++dO root) (plc 2 ⟨#[]⟩ ⟨#[]⟩) 2 p 1 0 (if (p.toList==root.toList)=true then (root,0) else (p,1)).2 M∧M.Perm (A++dO (if (p.toList==root.toList)=true then (root,0) else (p,1)).1):=by
 have R:dO p=_:=au hp;by_cases F:root.size=0
 ·have f:dO root=[]:=ay F
  have D:(p.toList==root.toList)=false:=by
   cases h:(p.toList==root.toList)
   ·rfl
   ·exact absurd (by rw[toList_inj h];exact F) hp
  rw[f,D];simp only[iV,dS,eP];refine⟨_,fF.fresh (fun x hx=>S.ne hx _ _) (by rw[S.count];decide),?_⟩;rw[R];exact(Bv _ _).symm
 ·have f:dO root=_:=au F
  cases D:(p.toList==root.toList)
  ·simp only[iV,dS]
   have E:(root.toList==p.toList)=false:=by
    cases h:(root.toList==p.toList)
    ·rfl
    ·grind
   refine⟨_,fF.other root A (by simp_all) E,?_⟩;rw[R];exact(Bv _ _).symm
  ·simp only[fC]
   refine⟨_,fF.same ?_,jb _⟩;rw[f,toList_inj D];simp
theorem Jd(S:Off 2 A)root p(D:p.size=0):
  ∃F,iK (A++dO root) (plc 2 ⟨#[]⟩ ⟨#[]⟩) (if (p.toList==root.toList)=true then (root,0) else (p,1)).2 F∧F.Perm (A++dO (if (p.toList==root.toList)=true then (root,0) else (p,1)).1):=by
 have ep:dO p=[]:=ay D;by_cases f:root.size=0
 ·have M:dO root=[]:=ay f
  have E:(p.toList==root.toList)=true:=by rw[pN D,pN f];simp
  rw[E];simp only[fC];refine⟨_,iK.none (fun x R=>?_),jb _⟩;rw[M,eP] at R;exact S.ne R _ _
 ·have M:dO root=_:=au f
  have E:(p.toList==root.toList)=false:=by
   cases h:(p.toList==root.toList)
   ·rfl
   ·exact absurd (by rw[←toList_inj h];exact D) f
  rw[E];simp only[iV,dS];refine⟨A,iK.there root A (by simp_all),?_⟩;simp_all
theorem xA V U root:(fH V U root)≤V.length+U+1:=by
 have h:(dO root).length≤1:=by
  unfold dO
  split<;>simp
 simp only[fH,bj,dM];omega
theorem FV(l:List Tt)t(f:Nat)(h:l≤f):(dw l t f).1≤f:=by
 unfold dw
 grind
end Ed
end
section
open Go.RowKit
namespace Ed
variable{w w':zW}{J mb G:Nat}{L:List (zV×zV)}
theorem Good.perm{L f}(h:Good L)(e:L.Perm f):Good f:=fun x D=>h x (e.mem_iff.2 D)
theorem Good.tail{x}{L}(h:Good (x::L)):Good L:=fun y f=>h y (eJ _ f)
theorem Good.cons{L}(h:Good L)k p v s:Good ((plc k p v,txt s)::L):=fun y f=>by
 rcases bI.1 f with rfl|f
 ·exact⟨_,_,_,_,rfl⟩
 ·exact h y f
theorem iL{b}(h:w.mapTurned w' b):aj (fun x=>x=b) w w':=
 have f:=h.grown
 ⟨f.os,f.tape,f.output,f.size,fun i E D=>f.block i E (fun e=>D (by injection e))⟩
theorem aW.stored{s}{F}{r}{d}{L'}{k}{p v}(h:aW w J mb G L)(hS:fF L (plc k p v) k s F r d L')(hd:d=1)(hl:L.length≤100000)(hk:(Lit.int .i64 k).wf=true)(R:p.size≤maxLen)(hv:v.size≤maxLen):
  ∃w',(Instr.mapUpdate 99 (.map (mb)) (plc k p v) (txt s)).run prog w=.ok () w'∧aW w' J mb G L'∧aj (fun x=>x=mb) w w':=by
 obtain⟨O,D⟩:=rX k p v hk R hv;cases hS with
 |same _=>cases hd
 |other old Y R a0=>
  obtain⟨w1,f,S,hm⟩:=h.map.Hk gP underlying99 D R (txt s);have M:=iL S;have E:=M.block J h.f0.lt h.ne;exact⟨w1,f,⟨h.f0.of_block E,h.f1.of_block E,hm,((h.good.perm R).tail).cons _ _ _ _,h.ne⟩,M⟩
 |many _ _=>cases hd
 |fresh hn _=>
  obtain⟨w1,f,S,hm⟩:=h.map.Hj gP underlying99 (by unfold maxLen;omega) D hn (txt s);have M:=iL S;have E:=M.block J h.f0.lt h.ne;exact⟨w1,f,⟨h.f0.of_block E,h.f1.of_block E,hm,h.good.cons _ _ _ _,h.ne⟩,M⟩
theorem aW.bump(h:aW w J mb G L):aW (w.setCell (J,1) (.int .i64 ((G:Int)+1))) J mb (G+1) L:=
 ⟨h.f0.set aA,⟨kU _ _ _ h.f1.1,by rw[mN];exact h.f1.2⟩,h.map.of_block (aM _ _ _ _ (fun e=>h.ne e.symm)),h.good,h.ne⟩
def jX(W:zW)(b:Nat)(k:Int)(p v:zA):Prop:=Fd W b 0 (.int .i64 k)∧Fd W b 1 (.string p)∧Fd W b 2 (.string v)
theorem jX.of_block{W f}{b}{k}{p v}(h:jX W b k p v)(e:f.heap[b]?=W.heap[b]?):jX f b k p v:=⟨h.1.of_block e,h.2.1.of_block e,h.2.2.of_block e⟩
theorem jX.lt{W}{b}{k}{p v}(h:jX W b k p v):b<W:=h.1.lt
theorem jX.below{W f}{b}{k}{p v}(h:jX W b k p v)(D:Below W W f):jX f b k p v:=h.of_block (D.block b h.lt)
theorem jX.new(w:zW)(k:Int)(p v:zA):jX (w.alloc (.cells #[k,p,v] 110)) w k p v:=by
 have f:(w.alloc (.cells #[k,p,v] 110)).heap[w.heap.size]?=some (.cells #[k,p,v] 110):=by
  show(w.heap.push _)[w.heap.size]?=_;simp
 refine⟨⟨?_,?_⟩,⟨?_,?_⟩,⟨?_,?_⟩⟩
 ·simp only[World.cell?,f];rfl
 ·simp only[World.frozen?,f];simp
 ·simp only[World.cell?,f];rfl
 ·simp only[World.frozen?,f];simp
 ·simp only[World.cell?,f];rfl
 ·simp only[World.frozen?,f];simp
theorem jX.set1{W}{b}{k}{p v}(h:jX W b k p v):jX (W.setCell (b,1) (p)) b k p v:=
 ⟨h.1.set aA,⟨kU _ _ _ h.2.1.1,by rw[mN];exact h.2.1.2⟩,h.2.2.set aA⟩
theorem jX.set2{W}{b}{k}{p v}(h:jX W b k p v):jX (W.setCell (b,2) (v)) b k p v:=
 ⟨h.1.set aA,h.2.1.set aA,⟨kU _ _ _ h.2.2.1,by rw[mN];exact h.2.2.2⟩⟩
theorem rZ k p v s E r d L' w(h:aW w J mb G L)(hl:L.length≤100000)(hk:(Lit.int .i64 k).wf=true)(hp:p.size≤281474976710656)(hv:v.size≤281474976710656)(hs:s.size≤281474976710656)(hr:G<4611686018427387904)
  (hS:fF L (plc k p v) k s E r d L'):
  zC 55 #[.pointer (some (J,0)),plc k p v,s,E] w fun e w'=>e=.returned (r)∧aW w' J mb (G+d) L'∧aj (fun b=>b=J∨b=mb) w w':=by
 obtain⟨O,a0⟩:=rX k p v hk (by unfold maxLen;omega) (by unfold maxLen;omega)
 obtain⟨old,th,qu,aq⟩:∃(old:zA)(th:Bool),(∀W,BO W mb L→(Instr.lookup 99 (.map (some mb)) (plc k p v) false).run prog W=.ok (.agg #[.string old,.bool th]) W)∧Hid (if th=true then (plc k p v,txt old)∈L else ∀x∈L,x.1≠plc k p v):=by
  rcases h.map.look false gP underlying99 (nh w) a0 with⟨_,R⟩|⟨u,hu,_⟩
  ·exact⟨_,false,fun W hW=>hW.look_none false gP underlying99 (nh W) a0 R,R⟩
  ·obtain⟨q,p',v',s',e⟩:=h.good _ hu
   injection e with e1 e2;subst e2;exact⟨s',true,fun W hW=>hW.look_some false gP underlying99 (nh W) a0 hu,hu⟩
 have HS:=zH h;clear h;have a4:=zH hS;clear hS a0;go_enter func55,ntmps55;go_upto_region 1 with fail;have av:Hid (Below w.heap.size w (w.alloc (.cells #[k,p,v] 110))):=(af _ _).alloc (ai _) _;have ab:=zH (jX.new w k p v);have F:=zH (HS.out.below av.out);have bm:Hid (w<(w.alloc (.cells #[k,p,v] 110)).heap.size∧J≠w):=⟨ah,by have:=HS.out.f0.lt;omega⟩;generalize w.alloc _=f at*;generalize bi:w.heap.size=bx at*;obtain⟨⟨x0,_⟩,⟨x1,_⟩,⟨x2,_⟩⟩:=ab.out;have c0:=F.out.f0.1;have l1:=qu f F.out.map;have l2:=qu f.drew F.out.map;have l3:=qu (f.alloc (.cells #[zE,false] 137)).drew ((F.out.below ((af _ _).alloc (ai _) _)).map);clear qu;obtain⟨⟨y0,_⟩,⟨y1,_⟩,⟨y2,_⟩⟩:=ab.out.below ((af _ _).alloc (ai _) (.cells #[zE,false] 137));have d0:(f.alloc (.cells #[zE,false] 137)).cell? _=_:=(F.out.below ((af _ _).alloc (ai _) _)).f0.1
 go_region
 all_goals
  have a1:Hid (Below w.heap.size w (f.alloc (.cells #[old,th] 137)).drew):=by
   show Below w.heap.size w _;have h:=av.out
   try rw[←bi] at h
   exact(h.alloc h.size _).drew
  have b4:Below f.heap.size f (f.alloc (.cells #[old,th] 137)).drew:=((af _ _).alloc (ai _) _).drew;have D:=zH (F.out.below b4);have a5:=zH (ab.out.below b4)
  have a9:Hid (∀W,Below (f.alloc (.cells #[old,.bool th] 137)).drew (f.alloc (.cells #[.string old,.bool th] 137)).drew W→W.cell? (f,0)=old∧W.cell? (f,1)=th):=fun W hb=>by
   have ba:f<(f.alloc (.cells #[old,th] 137)).drew.heap.size:=by show f.heap.size<(f.heap.push _).size;simp
   exact⟨(hb.cell ba).trans (by show(f.alloc _).cell? _=_;simp),(hb.cell ba).trans (by show(f.alloc _).cell? _=_;simp)⟩
  clear b4 l1 l2 l3 x0 x1 x2 y0 y1 y2 c0 d0 ab av F;generalize (f.alloc (.cells #[.string old,.bool th] 137)).drew=W2 at*;generalize f.heap.size=ob at*;obtain⟨⟨x0,_⟩,⟨x1,_⟩,⟨x2,_⟩⟩:=a5.out;obtain⟨o0,o1⟩:=a9.out W2 (af _ _);have kc:=Ja k W2 D.out hl;generalize bb:L.countP (ic k)=cn at kc;have b5:=zH bb;clear bb;cases th
  focus
   have R:∀x∈L,x.1≠plc k p v:=by have h:=aq.out;simpa using h
   go_wp2_with (go_at_call 72;fail)
   go_at_call 72;refine kc.mono ?_;rintro e w3 ⟨rfl,a6⟩;have a8:=zH (a1.out.trans (a6.mono a1.out.size));have aa:=zH (D.out.below a6);have ad:=zH (a5.out.below a6);obtain⟨p0,p1⟩:=a9.out w3 a6;clear kc x0 x1 x2 o0 o1 a5 a9 D a1 a6;by_cases bk:E≤cn
   ·have RG:cn≥(E:Int):=ae
    have HF:Hid (r=4∧d=0∧L'=L):=by
     have h:=a4.out;cases h with
     |same hi=>exact absurd rfl (R _ hi)
     |other RL Y hp S=>exact absurd rfl (R _ (hp.mem_iff.2 (bS ..)))
     |many _ _=>exact⟨rfl,rfl,rfl⟩
     |fresh _ hc=>rw[b5.out] at hc;omega
    have e:=HF.out;obtain⟨rfl,rfl,rfl⟩:=e;go_wp2;go_ret;exact⟨rfl,aa.out,aj.of_below a8.out⟩
   have RG:¬(cn≥(E:Int)):=ae
   have HF:Hid (r=0∧d=1):=by
    have h:=a4.out;cases h with
    |same hi=>exact absurd rfl (R _ hi)
    |other RL Y hp S=>exact absurd rfl (R _ (hp.mem_iff.2 (bS ..)))
    |many _ hc=>rw[b5.out] at hc;exact absurd hc bk
    |fresh _ _=>exact⟨rfl,rfl⟩
   have e:=HF.out;obtain⟨rfl,rfl⟩:=e
  rotate_left
  focus
   have a2:(plc k p v,txt old)∈L:=by have h:=aq.out;simpa using h
   cases hq:(old.toList==s.toList)
   rotate_left
   ·have HF:Hid (r=0∧d=0∧L'=L):=by
     have h:=a4.out;cases h with
     |same _=>exact⟨rfl,rfl,rfl⟩
     |other RL Y hp S=>
      have e:=Mp.uniq D.out.map.apart a2 (hp.mem_iff.2 (bS ..));injection e with e;simp only[Array.mk.injEq,fY,Value.string.injEq,iF] at e;rw[e,S] at hq;cases hq
     |many R _=>exact absurd rfl (R _ a2)
     |fresh R _=>exact absurd rfl (R _ a2)
    have e:=HF.out;obtain⟨rfl,rfl,rfl⟩:=e;clear kc;go_wp2;go_ret;exact⟨rfl,D.out,aj.of_below a1.out⟩
   have HF:Hid (r=0∧d=1):=by
    have h:=a4.out;cases h with
    |same hi=>
     have e:=Mp.uniq D.out.map.apart a2 hi;injection e with e;simp only[Array.mk.injEq,fY,Value.string.injEq,iF] at e;rw[e] at hq;simp at hq
    |other RL Y hp S=>exact⟨rfl,rfl⟩
    |many R _=>exact absurd rfl (R _ a2)
    |fresh R _=>exact absurd rfl (R _ a2)
   have e:=HF.out;obtain⟨rfl,rfl⟩:=e;have a8:=a1;have aa:=D;have ad:=a5;clear kc a1 D a5 a9;obtain⟨w3,rfl⟩:∃x,x=W2:=⟨_,rfl⟩
  all_goals
   go_upto_region 6 with fail;have K3:(_∧_)∧(_∧_):=ad.out.2
   go_region_held3 (fun w'=>(w'.cell? (bx,1)=some (.string p)∧w'.frozen? (bx,1)=false)∧(w'.cell? ⟨bx,2,none⟩=some (.string v)∧w'.frozen? ⟨bx,2,none⟩=false))
    (first|exact K3|exact KA.out.2|exact KB.out.2|exact KC.out.2|exact KD.out.2)
    (first
     |(go_at_call 73;(with_reducible show Calls _ _ #[Value.string p] _ _);refine(lT p _ hp).mono ?_;rintro e wA ⟨rfl,b2⟩;have KA:=zH (ad.out.below ((af _ w3).drew.trans b2));have az:=zH ((af w3 w3).drew.trans b2);clear b2)
     |(go_at_call 73;refine(lT v _ hv).mono ?_;rintro e wB ⟨rfl,b3⟩;have KB:=zH (KA.out.below b3);have b0:=zH (az.out.trans (b3.mono az.out.size));have KC:=zH KB.out.set1;have KD:=zH KC.out.set2;clear b3))
   all_goals
    have bn:J<bx∧mb<bx:=by have h1:=HS.out.f0.lt;have h2:=HS.out.map.lt;omega
    have b7:Hid (aj (fun b=>b=J∨b=mb) w ((wB.setCell (bx,1) (p)).setCell (bx,2) (v))):=by
     have h1:aj (fun b=>b=J∨b=mb) w wB:=(aj.of_below a8.out).more b0.out;exact(h1.set (fun h=>by have h2:bx<_:=h;omega) _).set (fun h=>by have h2:bx<_:=h;omega) _
    have b1:Hid (aW ((wB.setCell (bx,1) (p)).setCell (bx,2) (v)) J mb G L):=by
     have e1:∀b,b≠bx→((wB.setCell (bx,1) (p)).setCell (bx,2) (v)).heap[b]?=wB.heap[b]?:=fun b S=>by
      rw[aM _ _ _ _ S,aM _ _ _ _ S]
     exact(aa.out.below b0.out).of_block (e1 J ae) (e1 mb ae)
    have M:=KD;clear KA KB KC KD az b0 aa ad a8 K3;generalize (wB.setCell ⟨bx,1,none⟩ (.string p)).setCell ⟨bx,2,none⟩ (.string v)=W5 at*;go_upto_region 7 with fail;have K5:_∧_∧_∧_:=⟨b1.out.f0.1,M.out.1.1,M.out.2.1.1,M.out.2.2.1⟩
    have bc:∀W,Below W5.heap.size W5 W→∃w7,(Instr.mapUpdate 99 (.map (mb)) (plc k p v) (txt s)).run prog W=.ok () w7∧Hid (aW w7 J mb G L')∧Hid (aj (fun b=>b=J∨b=mb) w w7)∧Hid (jX w7 bx k p v)∧Hid (aW W J mb G L)∧Hid (jX W bx k p v):=fun W hb=>by
     have h1:=b1.out.below hb;obtain⟨w7,a7,h2,h3⟩:=h1.stored a4.out rfl hl hk (by unfold maxLen;omega) (by unfold maxLen;omega);refine⟨w7,a7,h2,(b7.out.more hb).trans h3 (fun _ _ e=>e) (fun _ _ e=>Or.inr e),(M.out.below hb).of_block (h3.block bx (bU M.out.lt hb.size) ae),h1,M.out.below hb⟩
    clear b1 M b7
    go_region_held3 (fun w'=>w'.cell? (J,0)=some (.map (some mb))∧w'.cell? (bx,0)=some (.int .i64 k)∧w'.cell? (bx,1)=some (.string p)∧w'.cell? ⟨bx,2,none⟩=some (.string v))
     (first|exact K5|exact⟨b6.out.f0.1,ak.out.1.1,ak.out.2.1.1,ak.out.2.2.1⟩|exact⟨a3.out.f0.1,an.out.1.1,an.out.2.1.1,an.out.2.2.1⟩)
     (first|(go_at_call 73;refine(lT s _ hs).mono ?_;rintro e w6 ⟨rfl,b9⟩;obtain⟨w7,a7,a3,b8,an,b6,ak⟩:=bc w6 ((af _ W5).drew.trans b9);clear b9))
    all_goals
     clear a7 bc K5 an b6 ak;have g1:=a3.out.f1.1;have g2:=a3.out.f1.2;have e2:IntKind.i64.wrap (G+1)=G+1:=by simp[IntKind.wrap,IntKind.bits,IntKind.signed];omega
     have bd:=zH a3.out.bump;have bh:Hid (aj _ w (w7.setCell _ (.int .i64 (G+1)))):=b8.out.set (a:=(J,1)) (fun _=>Or.inl rfl) _;clear a3 b8;go_wp2;go_ret;exact⟨rfl,bd.out,bh.out⟩
