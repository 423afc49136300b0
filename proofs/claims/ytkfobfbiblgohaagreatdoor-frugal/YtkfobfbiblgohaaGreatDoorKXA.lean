import Derived.Test.YtkfobfbiblgohaaGreatDoorKXB
import Derived.Test.YtkfobfbiblgohaaGreatDoorKRA
set_option linter.all false
open Go.Proofs.Tryz
set_option maxRecDepth 100000
set_option maxHeartbeats 4000000
namespace Go.Proofs.YtkfobfbiblgohaaGreatDoor
open Go.RowKit
section
variable{w w':World}
theorem jq:∀(l:List ByteArray)(j:Nat)(h:j<l.length),(cu l)[j*4]?=some (tS eO)/\(cu l)[j*4+1]?=some (tS ⟨#[]⟩)/\(cu l)[j*4+2]?=some (tS l[j])/\(cu l)[j*4+3]?=some (tS ⟨#[]⟩)
 |x::r,0,_=>⟨rfl,rfl,rfl,rfl⟩
 |x::r,j+1,h=>by
  have e:cu (x::r)=tS eO::tS ⟨#[]⟩::tS x::tS ⟨#[]⟩::cu r:=rfl;have E:=jq r j (by simpa using h);rw[e];refine⟨?_,?_,?_,?_⟩
  ·rw[show(j+1)*4=j*4+1+1+1+1 by omega];simpa using E.1
  ·rw[show(j+1)*4+1=j*4+1+1+1+1+1 by omega];simpa using E.2.1
  ·rw[show(j+1)*4+2=j*4+2+1+1+1+1 by omega];simpa using E.2.2.1
  ·rw[show(j+1)*4+3=j*4+3+1+1+1+1 by omega];simpa using E.2.2.2
theorem BK{e:TypeId}{B sz n:Nat}{u:Value}{l:List Value}(h:w.ownsRow B e sz u n l):u=.slice none 0 0/\n=0\/∃g c,u=.slice (some (tD g 0)) n c:=by
 rcases h.2 with⟨E,F⟩|⟨g,c,_,E,_⟩
 ·exact oE ⟨E,F⟩
 ·exact oS ⟨g,c,E⟩
theorem Fl(W:World):gG (W.alloc (.cells #[.func (.func 190) #[] #[],tS ⟨#[]⟩,.int .i64 0,.int .i64 0,.map none,.slice none 0 0] 261)) W.heap.size 6 rdF:=by
 have E:=iU W (.cells #[.func (.func 190) #[] #[],tS ⟨#[]⟩,.int .i64 0,.int .i64 0,.map none,.slice none 0 0] 261);refine⟨fun j F=>?_,fun j F=>?_⟩
 ·simp only[World.cell?,E]
  rcases(by omega:j=0\/j=1\/j=2\/j=3\/j=4\/j=5) with e|e|e|e|e|e<;>rw[e]<;>rfl
 ·simp only[World.frozen?,E];simp
theorem xS(s:ByteArray)(w:World)(hs:s.size<=2000)(hm:Ml w):
  Calls prog 167 #[tS s] w fun e w'=>∃(E:List OLn)(O:List (Nat×Nat×Nat))(m:Nat)(ov sv:Value),e=.returned (.tuple #[ov,sv])/\(Tx.spoken 1 (Pv.spl 10 s.data.toList)).foldl (Tx.bM true ipF 20) oJ=⟨eN E,O,m,0⟩/\(∀g∈E,sA g)/\E.length<=2001/\O.length<=2001/\Below w.heap.size w w'/\
   ((O≠[]/\ov=.slice none 0 0/\w'.ownsRow w.heap.size 291 3 sv O.length (dK O))\/(O=[]/\sv=.slice none 0 0/\w'.ownsRow w.heap.size 9 1 ov E.length (oK (aP E)))):=by
 obtain⟨i2,b2,b3,b4,b5⟩:=PZ;have HJ:Hid (prog.info? 9=some i2/\i2.zero=some (tS ByteArray.empty)/\i2.size=1/\i2.bytes=16):=⟨b2,b3,b4,b5⟩;clear b2 b3 b4 b5;generalize hR:(Tx.spoken 1 (Pv.spl 10 s.data.toList)).foldl (Tx.bM true ipF 20) oJ=R;have HM:=zH hm;clear hm;have bu:∀(W:World)(a:Addr),(store a (.func (.func 190) #[] #[])).run prog W=stored prog W a (.func (.func 190) #[] #[]) .plain:=fun W a=>run_store prog W a _ _ rfl
 go_enter func167,ntmps167
 go_wp2_with (go_at_call 188;fail)
 have kr:=pd s w.heap.size (w.alloc (.cells #[.func (.func 190) #[] #[],tS ⟨#[]⟩,.int .i64 0,.int .i64 0,.map none,.slice none 0 0] 261)) hs (HM.out.below ((ae _ _).alloc (ah _) _)) (by have:=HM.out.pos;omega) (Fl w);rw[hR] at kr;clear hR;have an:Hid (Below w.heap.size w (w.alloc (.cells #[.func (.func 190) #[] #[],tS ⟨#[]⟩,.int .i64 0,.int .i64 0,.map none,.slice none 0 0] 261))/\w.heap.size<(w.alloc (.cells #[.func (.func 190) #[] #[],tS ⟨#[]⟩,.int .i64 0,.int .i64 0,.map none,.slice none 0 0] 261)).heap.size):=⟨(ae _ _).alloc (ah _) _,by simp⟩;generalize w.alloc (.cells #[.func (.func 190) #[] #[],tS ⟨#[]⟩,.int .i64 0,.int .i64 0,.map none,.slice none 0 0] 261)=W1 at*;go_at_call 188;refine kr.mono ?_;rintro e T ⟨E,O,m,rv,lv,rfl,hD,hT,bk,bt,V,hx⟩;clear kr bu
 have a6:Hid (Below w.heap.size w T):=by
  have h1:=an.out.1
  exact⟨V.os.trans h1.os,V.tape.trans h1.tape,V.output.trans h1.output,aN h1.size V.size,fun b hb=>by
   rw[V.block b (bP hb h1.size) (by omega)];exact h1.block b hb⟩
 have I:Hid (R=⟨eN E,O,m,0⟩/\(∀g∈E,sA g)/\E.length<=2001/\O.length<=2001):=⟨hD,hT,bk,bt⟩;clear hD hT V;rcases hx with⟨ad,rfl,F⟩|⟨rfl,rfl,F⟩
 ·obtain⟨la,lc,rfl⟩:=aC F
  have hq:(0:Int)<(O.length:Int):=by have:=gC.2 ad;omega
  have HO:Hid (O≠[]/\T.ownsRow w.heap.size 291 3 (.slice la O.length lc) O.length (dK O)):=by
   refine⟨ad,F.1,?_⟩;rcases F.2 with hn|⟨g,cap,a8,hv,hg,a5⟩
   ·exact .inl hn
   ·exact .inr ⟨g,cap,a8,hv,by have:=an.out.2;omega,a5⟩
  clear ad F;go_wp2;go_ret2;exact⟨E,O,m,_,_,rfl,I.out.1,I.out.2.1,I.out.2.2.1,I.out.2.2.2,a6.out,oE ⟨HO.out.1,rfl,HO.out.2⟩⟩
 ·have HO:=zH F
  clear F;obtain⟨ra,rc,rfl⟩:=aC HO.out;go_wp2;go_loopg [7,22] E.length (fun gg vv kv wr=>∃k:Nat,k<=E.length/\E.length-k<=gg/\kv=.int .i64 k/\Hid (wr.ownsRow T.heap.size 9 1 vv k (((E.map cB).take k).map .string))/\Below T.heap.size T wr)
  case atStart=>exact⟨0,by omega,by omega,rfl,eC _ _ _ _,ae _ _⟩
  case round=>
   obtain⟨k,hk,c2,rfl,HV,G⟩:=hrel;by_cases bp:k<E.length
   ·have gO:(k:Int)<(E.length:Int):=by omega
    obtain⟨g,c,bs⟩:=dT HO.out (by omega);have QB:ra=some (tD g 0):=by injection bs
    subst QB;clear bs;have ab:k<(E.map cB).length:=by rw[bJ];exact bp
    obtain⟨a0,a1,a2,a3⟩:=jq (E.map cB) k ab;have zv:=(HO.out.lt g rfl).2;have d0:wr.cell? (tD g (k*4))=some (tS eO):=by rw[G.cell (p:=(tD g (k*4))) zv,HO.out.cellAt (k*4) (by omega)];exact a0
    have d1:wr.cell? (tD g (k*4+1))=some (tS ⟨#[]⟩):=by rw[G.cell (p:=(tD g (k*4+1))) zv,HO.out.cellAt (k*4+1) (by omega)];exact a1
    have d2:wr.cell? (tD g (k*4+2))=some (tS (E.map cB)[k]):=by rw[G.cell (p:=(tD g (k*4+2))) zv,HO.out.cellAt (k*4+2) (by omega)];exact a2
    have d3:wr.cell? (tD g (k*4+3))=some (tS ⟨#[]⟩):=by rw[G.cell (p:=(tD g (k*4+3))) zv,HO.out.cellAt (k*4+3) (by omega)];exact a3
    have HN:Hid (((E.map cB).take k).map Value.string++[tS (E.map cB)[k]]=((E.map cB).take (k+1)).map .string):=by
     show _=_;rw[<-List.take_append_getElem ab,eK];rfl
    generalize (E.map cB)[k]=x at*;clear a0 a1 a2 a3 ab;generalize ((E.map cB).take k).map Value.string=xs at HV HN;have b7:(wr.alloc (.cells #[tS eO,tS ⟨#[]⟩,tS x,tS ⟨#[]⟩] 265)).heap.size=wr.heap.size+1:=by simp
    have b6:∀j u,[Value.string x][j]?=some u->((wr.alloc (.cells #[tS eO,tS ⟨#[]⟩,tS x,tS ⟨#[]⟩] 265)).alloc (.cells #[tS x] 9)).cell? (((tD (wr.heap.size+1) 0):Addr).add j)=some u:=fun j u hj=>by
     have h:=cell_one_new (wr.alloc (.cells #[tS eO,tS ⟨#[]⟩,tS x,tS ⟨#[]⟩] 265)) (tS x) 9 j u hj;rw[b7] at h;exact h
    have bf:=G.size
    go_wp2_with (at_builtin;refine dG _ rfl _ _ 35 rfl T.heap.size 9 i2 (tS ByteArray.empty) 1 16 underlying35 HJ.out.1 HJ.out.2.1 HJ.out.2.2.1 HJ.out.2.2.2 rfl (by decide) _ _ _ rfl ((HV.out.alloc _).alloc _) (tD (wr.heap.size+1) 0) 1 1 [tS x] rfl rfl b6 ?_ ?_ ?_ ?_ ?_)
    all_goals first
     |(show ∀u∈[Value.string x],u.oneCell'=true;intro u hu;simp at hu;subst hu;rfl)
     |(show k+1<=maxLen;unfold maxLen;omega)
     |(show(k+1)*16<=140737488355328;omega)
     |(show T.heap.size<=((wr.alloc _).alloc _).heap.size;simp;omega)
     |skip
    intro c0 w3 a4 Y _ _;have bd:Below T.heap.size T w3:=((G.alloc bf _).alloc (by simp;omega) _).grown Y (by simp;omega) (fun b e=>(HV.out.lt b e).1)
    have b9:Hid (w3.ownsRow T.heap.size 9 1 c0 (k+1) (((E.map cB).take (k+1)).map .string)):=by
     rw[<-HN.out];exact a4
    clear a4 Y HV b6 b7 d0 d1 d2 d3 HN;go_wp2;go_roundg (E.length-(k+1))
    case measure=>omega
    case rel=>exact⟨k+1,by omega,by omega,by go_num,b9,bd⟩
   ·have gO:¬((k:Int)<(E.length:Int)):=by omega
    have bn:k=E.length:=by omega
    have hV:wr.ownsRow T.heap.size 9 1 u7 E.length ((E.map cB).map .string):=by
     have h:=HV.out;rw[bn,oy (by rw[bJ];omega)] at h;exact h
    have a7:=zH (a6.out.trans (G.mono a6.out.size));have bq:Ml wr:=HM.out.below a7.out;have aa:(E.map cB).length=E.length:=bJ ..;have av:Hid ((aP E).Perm (E.map cB)/\Srt (aP E)):=⟨bF E,jg I.out.2.1⟩
    have b8:Hid (∀x∈E.map cB,IsV x):=fun x hx=>by
     obtain⟨g,hg,rfl⟩:=aO.1 hx;exact(I.out.2.1 g hg).2.2
    have bb:w.heap.size<=T.heap.size:=a6.out.size;clear HV G;rcases BK hV with⟨h7,hz⟩|⟨g,c,h7⟩
    ·have bm:E=[]:=List.length_eq_zero_iff.1 hz
     rw[h7];have bx:=fun fv W=>BG fv W
     subst bm;clear hV
     go_wp2_with (go_at_call 191;fail)
     go_at_call 191;refine(bx _ _).mono ?_;rintro e w3 ⟨rfl,bv⟩;rw[bv];go_wp2;go_ret2;exact⟨[],[],m,_,_,rfl,I.out.1,I.out.2.1,I.out.2.2.1,I.out.2.2.2,a7.out,oS ⟨rfl,rfl,eC _ _ _ _⟩⟩
    ·rw[h7] at hV ⊢
     have bi:g≠0:=by have h1:=(hV.lt g rfl).1;have h2:=HM.out.pos;omega
     have c1:=(hV.lt g rfl).1;have ak:=sorting T.heap.size g c (E.map cB) wr b8.out bq bi (by rw[aa];exact hV) (by rw[aa];have:=I.out.2.2.1;omega);rw[aa] at ak;clear hV
     go_wp2_with (go_at_call 191;fail)
     go_at_call 191;refine ak.mono ?_;rintro e w3 ⟨rfl,M,bc,b0,a9,U⟩;have az:aP E=M:=b0 _ av.out.1 av.out.2
     have aq:Hid (w3.ownsRow w.heap.size 9 1 (.slice (some (tD g 0)) E.length c) E.length (oK (aP E))/\Below w.heap.size w w3):=by
      rw[az];refine⟨⟨a9.1,?_⟩,?_⟩
      ·rcases a9.2 with hn|⟨g',cap,a8,hv,hg,a5⟩
       ·exact .inl hn
       ·exact .inr ⟨g',cap,a8,hv,aN bb hg,a5⟩
      ·have hb:=a7.out
       exact⟨U.os.trans hb.os,U.tape.trans hb.tape,U.output.trans hb.output,aN hb.size U.size,fun b b1=>by
        rw[U.block b (bP b1 hb.size) (by omega)];exact hb.block b b1⟩
     clear ak bc b0 a9 U az;go_wp2;go_ret2;exact⟨E,[],m,_,_,rfl,I.out.1,I.out.2.1,I.out.2.2.1,I.out.2.2.2,aq.out.2,oS ⟨rfl,rfl,aq.out.1⟩⟩
end
section
variable{w w':World}
theorem wI(s:ByteArray)(w:World)(hs:2000<s.size):
  Calls prog 167 #[tS s] w fun e w'=>∃O,e=.returned (.tuple #[.slice none 0 0,O])/\w'.ownsRow w.heap.size 291 3 O 1 (dK [(0,0,1)])/\Below w.heap.size w w':=by
 have M:∀(W:World)(a:Addr),(store a (.func (.func 190) #[] #[])).run prog W=stored prog W a (.func (.func 190) #[] #[]) .plain:=fun W a=>run_store prog W a _ _ rfl
 have V:=Ah s w.heap.size (w.alloc (.cells #[.func (.func 190) #[] #[],tS ⟨#[]⟩,.int .i64 0,.int .i64 0,.map none,.slice none 0 0] 261)) hs;have F:Hid (Below w.heap.size w (w.alloc (.cells #[.func (.func 190) #[] #[],tS ⟨#[]⟩,.int .i64 0,.int .i64 0,.map none,.slice none 0 0] 261))):=(ae _ _).alloc (ah _) _;go_enter func167,ntmps167
 go_wp2_with (go_at_call 188;fail)
 generalize w.alloc (.cells #[.func (.func 190) #[] #[],tS ⟨#[]⟩,.int .i64 0,.int .i64 0,.map none,.slice none 0 0] 261)=W1 at*;go_at_call 188;refine V.mono ?_;rintro e Y ⟨O,rfl,E,U⟩;clear V M;obtain⟨la,lc,rfl⟩:=aC E
 have T:Hid (Y.ownsRow w.heap.size 291 3 (.slice la 1 lc) 1 (dK [(0,0,1)])/\Below w.heap.size w Y):=by
  refine⟨⟨E.1,?_⟩,F.out.trans (U.mono F.out.size)⟩;rcases E.2 with hn|⟨g,cap,I,hv,hg,G⟩
  ·exact .inl hn
  ·exact .inr ⟨g,cap,I,hv,by have:=F.out.size;omega,G⟩
 clear E U;go_wp2;go_ret2;exact⟨_,rfl,T.out.1,T.out.2⟩
def Out(base:Nat)(F:List ByteArray)(E:List (Nat×Nat×Nat))(w':World)(G I:Value):Prop:=
 F.length<=2001/\E.length<=2001/\(E≠[]->G=.slice none 0 0)/\(E=[]->I=.slice none 0 0)/\w'.ownsRow base 9 1 G F.length (oK F)/\w'.ownsRow base 291 3 I E.length (dK E)
def jK(x:Tx.Ln):OLn:=(x.1,x.2.map fun y=>(y.1,⟨y.2.toArray⟩))
theorem xT(l:List OLn):(eN l).map jK=l:=by
 unfold eN;rw[mN]
 conv=>rhs;rw[<-List.map_id l]
 apply pN;intro x _;obtain⟨n,E⟩:=x;simp only[Function.comp,jK,aF,mN,id_eq,iT,true_and]
 conv=>rhs;rw[<-List.map_id E]
 apply pN;intro y _;obtain⟨a,b⟩:=y;simp
def Aj(s:ByteArray):Tx.Got:=(Tx.dx [] 1 [] false false 0 s.data.toList).foldl (Tx.bM true ipF 20) oJ
def di(s:ByteArray):List (Nat×Nat×Nat):=if s.size<=2000 then (Aj s).au else [(0,0,1)]
def eP(s:ByteArray):List ByteArray:=if s.size<=2000/\(Aj s).au=[] then aP ((Aj s).good.map jK) else []
theorem QC{s:ByteArray}(Y:s.size<=2000){E:List OLn}{F:List (Nat×Nat×Nat)}{m base:Nat}{T U:Value}(I:Aj s=⟨eN E,F,m,0⟩)(h1:E.length<=2001)(V:F.length<=2001)
  (hx:(F≠[]/\T=.slice none 0 0/\w'.ownsRow base 291 3 U F.length (dK F))\/(F=[]/\U=.slice none 0 0/\w'.ownsRow base 9 1 T E.length (oK (aP E)))):Out base (eP s) (di s) w' T U:=by
 have e1:di s=F:=by unfold di;rw[aj Y,I]
 rw[e1];rcases hx with⟨G,rfl,O⟩|⟨rfl,rfl,O⟩
 ·have M:eP s=[]:=by unfold eP;rw[ag (fun h=>G (by have:=h.2;rw[I] at this;exact this))]
  rw[M];exact⟨by simp,V,fun _=>rfl,fun h=>absurd h G,eC _ _ _ _,O⟩
 ·have M:eP s=aP E:=by
   unfold eP;rw[aj ⟨Y,by rw[I]⟩,I];show aP ((eN E).map jK)=_;rw[xT]
  have hl:=cG E;rw[M];exact⟨by omega,V,fun h=>absurd rfl h,fun _=>rfl,by rw[hl];exact O,eC _ _ _ _⟩
theorem xU(s:ByteArray)(w:World)(hm:Ml w):
  Calls prog 167 #[tS s] w fun e w'=>∃G E,e=.returned (.tuple #[G,E])/\Out w.heap.size (eP s) (di s) w' G E/\Below w.heap.size w w':=by
 by_cases F:s.size<=2000
 ·refine(xS s w F hm).mono ?_
  rintro e w' ⟨M,au,m,G,E,rfl,Y,_,U,V,I,hx⟩;refine⟨G,E,rfl,QC F (m:=m) ?_ U V hx,I⟩;unfold Aj;rw[Tx.mP];exact Y
 ·refine(wI s w (by omega)).mono ?_
  rintro e w' ⟨E,rfl,ho,I⟩;have O:di s=[(0,0,1)]:=by unfold di;rw[ag F]
  have T:eP s=[]:=by unfold eP;rw[ag (fun h=>F h.1)]
  rw[O,T];exact⟨_,E,rfl,⟨by simp,by simp,fun _=>rfl,fun h=>(by cases h),eC _ _ _ _,ho⟩,I⟩
