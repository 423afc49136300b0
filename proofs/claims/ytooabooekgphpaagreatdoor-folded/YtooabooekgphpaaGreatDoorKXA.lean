import Derived.Test.YtooabooekgphpaaGreatDoorKXB
import Derived.Test.YtooabooekgphpaaGreatDoorKRA
set_option linter.all false
open Go.Proofs.Tryz
set_option maxRecDepth 100000
set_option maxHeartbeats 4000000
namespace Go.Proofs.YtooabooekgphpaaGreatDoor
open Go.RowKit
section
variable{w w':World}
theorem jl:∀(l:List ByteArray)(j:Nat)(h:j<l.length),(bP l)[j*4]?=some (.string eK)/\(bP l)[j*4+1]?=some (.string ⟨#[]⟩)/\(bP l)[j*4+2]?=some (.string l[j])/\(bP l)[j*4+3]?=some (.string ⟨#[]⟩)
 |x::r,0,_=>⟨rfl,rfl,rfl,rfl⟩
 |x::r,j+1,h=>by
  have e:bP (x::r)=.string eK::.string ⟨#[]⟩::.string x::.string ⟨#[]⟩::bP r:=rfl;have D:=jl r j (by simpa using h);rw[e];refine⟨?_,?_,?_,?_⟩
  ·rw[show(j+1)*4=j*4+1+1+1+1 by omega];simpa using D.1
  ·rw[show(j+1)*4+1=j*4+1+1+1+1+1 by omega];simpa using D.2.1
  ·rw[show(j+1)*4+2=j*4+2+1+1+1+1 by omega];simpa using D.2.2.1
  ·rw[show(j+1)*4+3=j*4+3+1+1+1+1 by omega];simpa using D.2.2.2
theorem Bg{e:TypeId}{B sz n:Nat}{u:Value}{l:List Value}(h:w.ownsRow B e sz u n l):u=.slice none 0 0/\n=0\/∃g c,u=.slice (some ⟨g,0,none⟩) n c:=by
 rcases h.2 with⟨D,E⟩|⟨g,c,_,D,_⟩
 ·exact Or.inl ⟨D,E⟩
 ·exact Or.inr ⟨g,c,D⟩
theorem E4(W:World):gu (W.alloc (.cells #[.func (.func 179) #[] #[],.string ⟨#[]⟩,.int .i64 0,.int .i64 0,.map none,.slice none 0 0] 251)) W.heap.size 6 rdF:=by
 have D:=iQ W (.cells #[.func (.func 179) #[] #[],.string ⟨#[]⟩,.int .i64 0,.int .i64 0,.map none,.slice none 0 0] 251);refine⟨fun j E=>?_,fun j E=>?_⟩
 ·simp only[World.cell?,D]
  rcases(by omega:j=0\/j=1\/j=2\/j=3\/j=4\/j=5) with e|e|e|e|e|e<;>rw[e]<;>rfl
 ·simp only[World.frozen?,D];simp
theorem xt(s:ByteArray)(w:World)(hs:s.size<=2000)(hm:Ml w):
  Calls prog 156 #[.string s] w fun e w'=>∃(D:List OLn)(I:List (Nat×Nat×Nat))(m:Nat)(ov sv:Value),e=.returned (.tuple #[ov,sv])/\(Tx.spoken 1 (Pv.spl 10 s.data.toList)).foldl (Tx.bz true ipF 20) nZ=⟨fj D,I,m,0⟩/\(∀g∈D,rF g)/\D.length<=2001/\I.length<=2001/\Below w.heap.size w w'/\
   ((I≠[]/\ov=.slice none 0 0/\w'.ownsRow w.heap.size 282 3 sv I.length (dI I))\/(I=[]/\sv=.slice none 0 0/\w'.ownsRow w.heap.size 9 1 ov D.length (od (aN D)))):=by
 obtain⟨i2,b0,b1,b2,b3⟩:=OU;have HJ:Hid (prog.info? 9=some i2/\i2.zero=some (.string ByteArray.empty)/\i2.size=1/\i2.bytes=16):=⟨b0,b1,b2,b3⟩;clear b0 b1 b2 b3;generalize hR:(Tx.spoken 1 (Pv.spl 10 s.data.toList)).foldl (Tx.bz true ipF 20) nZ=R;have HM:=zH hm;clear hm;have br:∀(W:World)(a:Addr),(store a (.func (.func 179) #[] #[])).run prog W=stored prog W a (.func (.func 179) #[] #[]) .plain:=fun W a=>run_store prog W a _ _ rfl
 go_enter func156,ntmps156
 go_wp2_with (go_at_call 177;fail)
 have kr:=oz s w.heap.size (w.alloc (.cells #[.func (.func 179) #[] #[],.string ⟨#[]⟩,.int .i64 0,.int .i64 0,.map none,.slice none 0 0] 251)) hs (HM.out.below ((ae _ _).alloc (af _) _)) (by have:=HM.out.pos;omega) (E4 w);rw[hR] at kr;clear hR;have ad:Hid (Below w.heap.size w (w.alloc (.cells #[.func (.func 179) #[] #[],.string ⟨#[]⟩,.int .i64 0,.int .i64 0,.map none,.slice none 0 0] 251))/\w.heap.size<(w.alloc (.cells #[.func (.func 179) #[] #[],.string ⟨#[]⟩,.int .i64 0,.int .i64 0,.map none,.slice none 0 0] 251)).heap.size):=⟨(ae _ _).alloc (af _) _,by simp⟩;generalize w.alloc (.cells #[.func (.func 179) #[] #[],.string ⟨#[]⟩,.int .i64 0,.int .i64 0,.map none,.slice none 0 0] 251)=W1 at*;go_at_call 177;refine kr.mono ?_;rintro e O ⟨D,I,m,rv,lv,rfl,hD,hT,bi,bq,T,hx⟩;clear kr br
 have a4:Hid (Below w.heap.size w O):=by
  have h1:=ad.out.1
  exact⟨T.os.trans h1.os,T.tape.trans h1.tape,T.output.trans h1.output,aO h1.size T.size,fun b hb=>by
   rw[T.block b (bE hb h1.size) (by omega)];exact h1.block b hb⟩
 have G:Hid (R=⟨fj D,I,m,0⟩/\(∀g∈D,rF g)/\D.length<=2001/\I.length<=2001):=⟨hD,hT,bi,bq⟩;clear hD hT T;rcases hx with⟨aa,rfl,E⟩|⟨rfl,rfl,E⟩
 ·obtain⟨la,lc,rfl⟩:=ax E
  have hq:(0:Int)<(I.length:Int):=by have:=gH.2 aa;omega
  have Y:Hid (I≠[]/\O.ownsRow w.heap.size 282 3 (.slice la I.length lc) I.length (dI I)):=by
   refine⟨aa,E.1,?_⟩;rcases E.2 with hn|⟨g,cap,a6,hv,hg,rest⟩
   ·exact .inl hn
   ·exact .inr ⟨g,cap,a6,hv,by have:=ad.out.2;omega,rest⟩
  clear aa E;go_wp2;go_ret2;exact⟨D,I,m,_,_,rfl,G.out.1,G.out.2.1,G.out.2.2.1,G.out.2.2.2,a4.out,Or.inl ⟨Y.out.1,rfl,Y.out.2⟩⟩
 ·have Y:=zH E
  clear E;obtain⟨ra,rc,rfl⟩:=ax Y.out;go_wp2;go_loopg [7,22] D.length (fun gg vv kv wr=>∃k:Nat,k<=D.length/\D.length-k<=gg/\kv=.int .i64 k/\Hid (wr.ownsRow O.heap.size 9 1 vv k (((D.map bQ).take k).map .string))/\Below O.heap.size O wr)
  case atStart=>exact⟨0,by omega,by omega,rfl,eM _ _ _ _,ae _ _⟩
  case round=>
   obtain⟨k,hk,bx,rfl,HV,F⟩:=hrel;by_cases bn:k<D.length
   ·have ij:(k:Int)<(D.length:Int):=by omega
    obtain⟨g,c,b5⟩:=dQ Y.out (by omega);have PO:ra=some ⟨g,0,none⟩:=by injection b5
    subst PO;clear b5;have a9:k<(D.map bQ).length:=by rw[cW];exact bn
    obtain⟨a0,a1,a2,a3⟩:=jl (D.map bQ) k a9;have yR:=(Y.out.lt g rfl).2;have d0:wr.cell? ⟨g,k*4,none⟩=some (.string eK):=by rw[F.cell (p:=⟨g,k*4,none⟩) yR,Y.out.cellAt (k*4) (by omega)];exact a0
    have d1:wr.cell? ⟨g,k*4+1,none⟩=some (.string ⟨#[]⟩):=by rw[F.cell (p:=⟨g,k*4+1,none⟩) yR,Y.out.cellAt (k*4+1) (by omega)];exact a1
    have d2:wr.cell? ⟨g,k*4+2,none⟩=some (.string (D.map bQ)[k]):=by rw[F.cell (p:=⟨g,k*4+2,none⟩) yR,Y.out.cellAt (k*4+2) (by omega)];exact a2
    have d3:wr.cell? ⟨g,k*4+3,none⟩=some (.string ⟨#[]⟩):=by rw[F.cell (p:=⟨g,k*4+3,none⟩) yR,Y.out.cellAt (k*4+3) (by omega)];exact a3
    have HN:Hid (((D.map bQ).take k).map Value.string++[.string (D.map bQ)[k]]=((D.map bQ).take (k+1)).map .string):=by
     show _=_;rw[<-List.take_append_getElem a9,eZ];rfl
    generalize (D.map bQ)[k]=x at*;clear a0 a1 a2 a3 a9;generalize ((D.map bQ).take k).map Value.string=xs at HV HN;have b6:(wr.alloc (.cells #[.string eK,.string ⟨#[]⟩,.string x,.string ⟨#[]⟩] 255)).heap.size=wr.heap.size+1:=by simp
    have b4:∀j u,[Value.string x][j]?=some u->((wr.alloc (.cells #[.string eK,.string ⟨#[]⟩,.string x,.string ⟨#[]⟩] 255)).alloc (.cells #[.string x] 9)).cell? ((⟨wr.heap.size+1,0,none⟩:Addr).add j)=some u:=fun j u hj=>by
     have h:=cell_one_new (wr.alloc (.cells #[.string eK,.string ⟨#[]⟩,.string x,.string ⟨#[]⟩] 255)) (.string x) 9 j u hj;rw[b6] at h;exact h
    have bd:=F.size
    go_wp2_with (at_builtin;refine dG _ rfl _ _ 32 rfl O.heap.size 9 i2 (.string ByteArray.empty) 1 16 underlying32 HJ.out.1 HJ.out.2.1 HJ.out.2.2.1 HJ.out.2.2.2 rfl (by decide) _ _ _ rfl ((HV.out.alloc _).alloc _) ⟨wr.heap.size+1,0,none⟩ 1 1 [.string x] rfl rfl b4 ?_ ?_ ?_ ?_ ?_)
    all_goals first
     |(show ∀u∈[Value.string x],u.oneCell'=true;intro u hu;simp at hu;subst hu;rfl)
     |(show k+1<=maxLen;unfold maxLen;omega)
     |(show(k+1)*16<=140737488355328;omega)
     |(show O.heap.size<=((wr.alloc _).alloc _).heap.size;simp;omega)
     |skip
    intro bu w3 V U _ _;have bc:Below O.heap.size O w3:=((F.alloc bd _).alloc (by simp;omega) _).grown U (by simp;omega) (fun b e=>(HV.out.lt b e).1)
    have b8:Hid (w3.ownsRow O.heap.size 9 1 bu (k+1) (((D.map bQ).take (k+1)).map .string)):=by
     rw[<-HN.out];exact V
    clear V U HV b4 b6 d0 d1 d2 d3 HN;go_wp2;go_roundg (D.length-(k+1))
    case measure=>omega
    case rel=>exact⟨k+1,by omega,by omega,by go_num,b8,bc⟩
   ·have ij:¬((k:Int)<(D.length:Int)):=by omega
    have bm:k=D.length:=by omega
    have hV:wr.ownsRow O.heap.size 9 1 u7 D.length ((D.map bQ).map .string):=by
     have h:=HV.out;rw[bm,fy (by rw[cW];omega)] at h;exact h
    have a5:=zH (a4.out.trans (F.mono a4.out.size));have bp:Ml wr:=HM.out.below a5.out;have a8:(D.map bQ).length=D.length:=cW ..;have an:Hid ((aN D).Perm (D.map bQ)/\Srt (aN D)):=⟨cy D,ja G.out.2.1⟩
    have b7:Hid (∀x∈D.map bQ,IsV x):=fun x hx=>by
     obtain⟨g,hg,rfl⟩:=bI.1 hx;exact(G.out.2.1 g hg).2.2
    have b9:w.heap.size<=O.heap.size:=a4.out.size;clear HV F;rcases Bg hV with⟨h7,hz⟩|⟨g,c,h7⟩
    ·have bk:D=[]:=List.length_eq_zero_iff.1 hz
     rw[h7];have bt:=fun fv W=>Ba fv W
     subst bk;clear hV
     go_wp2_with (go_at_call 180;fail)
     go_at_call 180;refine(bt _ _).mono ?_;rintro e w3 ⟨rfl,bs⟩;rw[bs];go_wp2;go_ret2;exact⟨[],[],m,_,_,rfl,G.out.1,G.out.2.1,G.out.2.2.1,G.out.2.2.2,a5.out,Or.inr ⟨rfl,rfl,eM _ _ _ _⟩⟩
    ·rw[h7] at hV ⊢
     have bh:g≠0:=by have h1:=(hV.lt g rfl).1;have h2:=HM.out.pos;omega
     have bv:=(hV.lt g rfl).1;have ab:=sorting O.heap.size g c (D.map bQ) wr b7.out bp bh (by rw[a8];exact hV) (by rw[a8];have:=G.out.2.2.1;omega);rw[a8] at ab;clear hV
     go_wp2_with (go_at_call 180;fail)
     go_at_call 180;refine ab.mono ?_;rintro e w3 ⟨rfl,M,bb,av,a7,S⟩;have aq:aN D=M:=av _ an.out.1 an.out.2
     have ak:Hid (w3.ownsRow w.heap.size 9 1 (.slice (some ⟨g,0,none⟩) D.length c) D.length (od (aN D))/\Below w.heap.size w w3):=by
      rw[aq];refine⟨⟨a7.1,?_⟩,?_⟩
      ·rcases a7.2 with hn|⟨g',cap,a6,hv,hg,rest⟩
       ·exact .inl hn
       ·exact .inr ⟨g',cap,a6,hv,aO b9 hg,rest⟩
      ·have hb:=a5.out
       exact⟨S.os.trans hb.os,S.tape.trans hb.tape,S.output.trans hb.output,aO hb.size S.size,fun b az=>by
        rw[S.block b (bE az hb.size) (by omega)];exact hb.block b az⟩
     clear ab bb av a7 S aq;go_wp2;go_ret2;exact⟨D,[],m,_,_,rfl,G.out.1,G.out.2.1,G.out.2.2.1,G.out.2.2.2,ak.out.2,Or.inr ⟨rfl,rfl,ak.out.1⟩⟩
end
section
variable{w w':World}
theorem vG(s:ByteArray)(w:World)(V:2000<s.size):
  Calls prog 156 #[.string s] w fun e w'=>∃I,e=.returned (.tuple #[.slice none 0 0,I])/\w'.ownsRow w.heap.size 282 3 I 1 (dI [(0,0,1)])/\Below w.heap.size w w':=by
 have G:∀(W:World)(a:Addr),(store a (.func (.func 179) #[] #[])).run prog W=stored prog W a (.func (.func 179) #[] #[]) .plain:=fun W a=>run_store prog W a _ _ rfl
 have S:=zG s w.heap.size (w.alloc (.cells #[.func (.func 179) #[] #[],.string ⟨#[]⟩,.int .i64 0,.int .i64 0,.map none,.slice none 0 0] 251)) V;have E:Hid (Below w.heap.size w (w.alloc (.cells #[.func (.func 179) #[] #[],.string ⟨#[]⟩,.int .i64 0,.int .i64 0,.map none,.slice none 0 0] 251))):=(ae _ _).alloc (af _) _;go_enter func156,ntmps156
 go_wp2_with (go_at_call 177;fail)
 generalize w.alloc (.cells #[.func (.func 179) #[] #[],.string ⟨#[]⟩,.int .i64 0,.int .i64 0,.map none,.slice none 0 0] 251)=W1 at*;go_at_call 177;refine S.mono ?_;rintro e T ⟨I,rfl,D,O⟩;clear S G;obtain⟨la,lc,rfl⟩:=ax D
 have M:Hid (T.ownsRow w.heap.size 282 3 (.slice la 1 lc) 1 (dI [(0,0,1)])/\Below w.heap.size w T):=by
  refine⟨⟨D.1,?_⟩,E.out.trans (O.mono E.out.size)⟩;rcases D.2 with U|⟨g,cap,F,Y,hg,rest⟩
  ·exact .inl U
  ·exact .inr ⟨g,cap,F,Y,by have:=E.out.size;omega,rest⟩
 clear D O;go_wp2;go_ret2;exact⟨_,rfl,M.out.1,M.out.2⟩
def Out(base:Nat)(E:List ByteArray)(D:List (Nat×Nat×Nat))(w':World)(F G:Value):Prop:=
 E.length<=2001/\D.length<=2001/\(D≠[]->F=.slice none 0 0)/\(D=[]->G=.slice none 0 0)/\w'.ownsRow base 9 1 F E.length (od E)/\w'.ownsRow base 282 3 G D.length (dI D)
def jE(x:Tx.Ln):OLn:=(x.1,x.2.map fun y=>(y.1,⟨y.2.toArray⟩))
theorem xu(l:List OLn):(fj l).map jE=l:=by
 unfold fj;rw[nT]
 conv=>rhs;rw[<-List.map_id l]
 apply vJ;intro x _;obtain⟨n,D⟩:=x;simp only[Function.comp,jE,aD,nT,id_eq,iP,true_and]
 conv=>rhs;rw[<-List.map_id D]
 apply vJ;intro y _;obtain⟨a,b⟩:=y;simp
def zK(s:ByteArray):Tx.Got:=(Tx.dw [] 1 [] false false 0 s.data.toList).foldl (Tx.bz true ipF 20) nZ
def dM(s:ByteArray):List (Nat×Nat×Nat):=if s.size<=2000 then (zK s).au else [(0,0,1)]
def fM(s:ByteArray):List ByteArray:=if s.size<=2000/\(zK s).au=[] then aN ((zK s).good.map jE) else []
theorem PQ{s:ByteArray}(U:s.size<=2000){D:List OLn}{E:List (Nat×Nat×Nat)}{m base:Nat}{O S:Value}(G:zK s=⟨fj D,E,m,0⟩)(h1:D.length<=2001)(T:E.length<=2001)
  (Y:(E≠[]/\O=.slice none 0 0/\w'.ownsRow base 282 3 S E.length (dI E))\/(E=[]/\S=.slice none 0 0/\w'.ownsRow base 9 1 O D.length (od (aN D)))):Out base (fM s) (dM s) w' O S:=by
 have V:dM s=E:=by unfold dM;rw[aj U,G]
 rw[V];rcases Y with⟨F,rfl,M⟩|⟨rfl,rfl,M⟩
 ·have I:fM s=[]:=by unfold fM;rw[ag (fun h=>F (by have:=h.2;rw[G] at this;exact this))]
  rw[I];exact⟨by simp,T,fun _=>rfl,fun h=>absurd h F,eM _ _ _ _,M⟩
 ·have I:fM s=aN D:=by
   unfold fM;rw[aj ⟨U,by rw[G]⟩,G];show aN ((fj D).map jE)=_;rw[xu]
  have W:=cu D;rw[I];exact⟨by omega,T,fun h=>absurd rfl h,fun _=>rfl,by rw[W];exact M,eM _ _ _ _⟩
theorem xw(s:ByteArray)(w:World)(hm:Ml w):
  Calls prog 156 #[.string s] w fun e w'=>∃F D,e=.returned (.tuple #[F,D])/\Out w.heap.size (fM s) (dM s) w' F D/\Below w.heap.size w w':=by
 by_cases E:s.size<=2000
 ·refine(xt s w E hm).mono ?_
  rintro e w' ⟨I,Y,m,F,D,rfl,U,_,S,T,G,W⟩;refine⟨F,D,rfl,PQ E (m:=m) ?_ S T W,G⟩;unfold zK;rw[Tx.qA];exact U
 ·refine(vG s w (by omega)).mono ?_
  rintro e w' ⟨D,rfl,V,G⟩;have M:dM s=[(0,0,1)]:=by unfold dM;rw[ag E]
  have O:fM s=[]:=by unfold fM;rw[ag (fun h=>E h.1)]
  rw[M,O];exact⟨_,D,rfl,⟨by simp,by simp,fun _=>rfl,fun h=>(by cases h),eM _ _ _ _,V⟩,G⟩
