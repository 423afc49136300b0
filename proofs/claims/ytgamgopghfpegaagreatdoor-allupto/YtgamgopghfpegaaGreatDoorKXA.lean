import Derived.Test.YtgamgopghfpegaaGreatDoorKXB
import Derived.Test.YtgamgopghfpegaaGreatDoorKRUB
set_option linter.all false
open Go.Proofs.Tryz
set_option maxRecDepth 100000
set_option maxHeartbeats 4000000
namespace Go.Proofs.YtgamgopghfpegaaGreatDoor
open Go.RowKit
section
variable{w w':World}
namespace Mf
theorem oP:∀(l:List Sm4)(j:Nat)(h:j<l.length),(fS l)[j*4]?=some (.string l[j].1)∧(fS l)[j*4+1]?=some (.string l[j].2.1)∧(fS l)[j*4+2]?=some (.string l[j].2.2.1)∧(fS l)[j*4+3]?=some (.string l[j].2.2.2)
 |x::r,0,_=>⟨rfl,rfl,rfl,rfl⟩
 |x::r,j+1,h=>by
  have e:fS (x::r)=_::_::_::_::fS r:=rfl;have f:=oP r j (by simpa using h)
  grind
end Mf
theorem Ci{e}{B sz n}{u}{l}(h:w.ownsRow B e sz u n l):u=.slice none 0 0∧n=0∨∃g c,u=.slice (some ⟨g,0,none⟩) n c:=by
 rcases h.2 with⟨f,D⟩|⟨g,c,_,f,_⟩
 ·grind
 grind
theorem xS(s:ByteArray)w(hs:s.size≤2000)(hm:Ml w):
  Calls prog 215 #[s] w fun e w'=>∃good F m q ov sv,e=.returned (.tuple #[ov,sv])∧(Tx.spoken 1 (Pv.spl 10 s)).foldl (Tx.bK true Pv.aK 20) qf=⟨dr good,F,m,q⟩∧(∀g∈good,Mw g)∧good.length≤2001∧F.length≤2001∧Below w w w'∧
   ((F≠[]∧ov=.slice none 0 0∧w'.ownsRow w 273 3 sv F (cy F))∨(F=[]∧sv=.slice none 0 0∧w'.ownsRow w 9 1 ov good (ig (aQ good)))):=by
 obtain⟨i2,aq,av,az,b0⟩:=FK;have HJ:Hid (_∧_∧_∧_):=⟨aq,av,az,b0⟩;clear aq av az b0;generalize hR:(Tx.spoken 1 (Pv.spl 10 s.data.toList)).foldl (Tx.bK true Pv.aK 20) qf=R;have HM:=zH hm;clear hm;have bm:∀(W:World)(a:Addr),_=stored prog W a (.func (.func 234) #[] #[]) .plain:=fun W a=>run_store _ W a _ _ rfl
 go_enter func215,ntmps215
 go_wp2_with (go_at_call 232;fail)
 have kr:=Mf.sG true s _ (w.alloc (.cells #[.func (.func 234) #[] #[],.string ⟨#[]⟩,.int .i64 0,.int .i64 0,_,_] 325)) hs (HM.out.below ((af _ _).alloc (ai _) _)) (by have:=HM.out.pos;omega) (fdn w _);rw[hR] at kr;clear hR;have a9:Hid (Below w.heap.size w (w.alloc (.cells #[.func (.func 234) #[] #[],.string ⟨#[]⟩,.int .i64 0,.int .i64 0,.map none,.slice none 0 0] 325))∧w<(w.alloc (.cells #[.func (.func 234) #[] #[],.string ⟨#[]⟩,.int .i64 0,.int .i64 0,.map none,.slice none 0 0] 325)).heap.size):=⟨(af _ _).alloc (ai _) _,ah⟩;generalize w.alloc _=W1 at*;go_at_call 232;refine kr.mono ?_;rintro e Y ⟨good,F,m,q,rv,lv,rfl,hD,hT,bb,bk,I,hx⟩
 replace hT:_:=fun g hg=>BG (hT g hg).choose_spec
 simp only[Mf.fN,Bool.true_eq_false,false_and,dS] at hx;clear kr bm
 have U:Hid (Below w.heap.size w Y):=by
  have h1:=a9.out.1
  exact⟨I.os.trans h1.os,I.tape.trans h1.tape,I.output.trans h1.output,aP h1.size I.size,fun b V=>by
   rw[I.block b (bU V h1.size) ae];exact h1.block b V⟩
 have E:Hid (_∧_∧_∧_):=⟨hD,hT,bb,bk⟩;clear hD hT I;rcases hx with⟨a7,rfl,f⟩|⟨rfl,rfl,f⟩
 ·obtain⟨la,lc,rfl⟩:=aC f
  have hq:(0)<(F:Int):=by have:=eB.2 a7;omega
  have T:Hid (F≠[]∧Y.ownsRow w 273 3 (.slice la F lc) F (cy F)):=by
   refine⟨a7,f.1,?_⟩;rcases f.2 with hn|⟨g,cap,a5,hv,hg,rest⟩
   ·exact .inl hn
   ·exact .inr ⟨g,cap,a5,hv,by have:=a9.out.2;omega,rest⟩
  clear a7 f;go_wp2;go_ret2;exact⟨good,F,m,q,_,_,rfl,E.out.1,E.out.2.1,E.out.2.2.1,E.out.2.2.2,U.out,Or.inl ⟨T.out.1,rfl,T.out.2⟩⟩
 ·have T:=zH f
  clear f;obtain⟨ra,rc,rfl⟩:=aC T.out;go_wp2;go_loopg [7,22] good (fun gg vv kv wr=>∃k:Nat,k≤good.length∧good.length-k≤gg∧kv=.int .i64 k∧Hid (wr.ownsRow Y.heap.size 9 1 vv k (((good.map gF).take k).map .string))∧Below Y.heap.size Y wr)
  case atStart=>exact⟨0,ae,ae,rfl,bP _ _ _ _,af _ _⟩
  case round=>
   obtain⟨k,hk,c1,rfl,HV,D⟩:=hrel;by_cases bh:k<good
   ·have fD:k<(good:Int):=ae
    obtain⟨g,c,b3⟩:=bo T.out ae;have Sn:ra=some ⟨g,0,none⟩:=by injection b3
    subst Sn;clear b3;have b1:k<(good.map gF):=by rw[dM];exact bh
    obtain⟨a0,a1,a2,a3⟩:=Mf.oP (good.map fun g=>cQ true g.2) k ax;rw[qJ] at a0 a1 a2 a3;have vV:=(T.out.lt g rfl).2;have d0:wr.cell? (g,k*4)=(wd good[k].2 0):=by rw[D.cell vV,T.out.cellAt _ ae];exact a0
    have d1:wr.cell? (g,k*4+1)=some (.string ⟨#[]⟩):=by rw[D.cell vV,T.out.cellAt _ ae];exact a1
    have d2:wr.cell? (g,k*4+2)=(good.map gF)[k]:=by rw[D.cell vV,T.out.cellAt _ ae,qJ];exact a2
    have d3:wr.cell? (g,k*4+3)=some (.string ⟨#[]⟩):=by rw[D.cell vV,T.out.cellAt _ ae];exact a3
    have HN:Hid (((good.map gF).take k).map Value.string++[.string (good.map gF)[k]]=((good.map gF).take (k+1)).map .string):=by
     show _=_;rw[←List.take_append_getElem b1,eY];rfl
    generalize (good.map gF)[k]=x at*;generalize wd good[k].2 0=y at*;clear a0 a1 a2 a3 b1;generalize ((good.map gF).take k).map Value.string=xs at HV HN;have b4:(wr.alloc (.cells #[y,.string ⟨#[]⟩,x,.string ⟨#[]⟩] 329))=wr.heap.size+1:=ah
    have b2:=fun j u hj=>by
     have h:=cell_one_new (wr.alloc (.cells #[y,.string ⟨#[]⟩,x,.string ⟨#[]⟩] 329)) (x) 9 j u hj;rw[b4] at h;exact h
    have b9:=D.size
    go_wp2_with (at_builtin;refine bO _ rfl _ _ 57 rfl _ 9 i2 _ 1 16 underlying57 HJ.out.1 HJ.out.2.1 HJ.out.2.2.1 HJ.out.2.2.2 rfl aA _ _ _ rfl ((HV.out.alloc _).alloc _) _ 1 1 _ rfl rfl b2 ?_ ?_ ?_ ?_ ?_)
    all_goals first
     |(show ∀u∈[Value.string x],u.oneCell'=true;intro u hu;simp at hu;subst hu;rfl)
     |(show k+1≤maxLen;unfold maxLen;omega)
     |(show(k+1)*16≤140737488355328;omega)
     |(show Y.heap.size≤((wr.alloc _).alloc _).heap.size;simp;omega)
     |skip
    intro bs w3 S O _ _;have bv:=((D.alloc b9 _).alloc aJ _).grown O aJ (fun b e=>(HV.out.lt b e).1)
    have bt:Hid (w3.ownsRow Y 9 1 bs (k+1) (((good.map gF).take (k+1)).map .string)):=by
     rw[←HN.out];exact S
    clear S O HV b2 b4 d0 d1 d2 d3 HN;go_wp2;go_roundg (good-(k+1))
    case measure=>omega
    grind
   ·have fD:¬(k<(good:Int)):=ae
    have bd:k=good:=ae
    have hV:wr.ownsRow Y 9 1 u7 good ((good.map gF).map .string):=by
     have h:=HV.out;rw[bd,cV ah] at h;exact h
    have a4:=zH (U.out.trans (D.mono U.out.size));have bi:=HM.out.below a4.out;have b8:(good.map gF).length=_:=dM ..;have ab:Hid (_∧_):=⟨cg good,jg E.out.2.1⟩
    have b5:Hid (∀x∈good.map gF,IsV x):=fun x hx=>by
     obtain⟨g,hg,rfl⟩:=dC.1 hx;exact(E.out.2.1 g hg).2.2
    have b6:=U.out.size;clear HV D;rcases Ci hV with⟨h7,hz⟩|⟨g,c,h7⟩
    ·have bc:=List.length_eq_zero_iff.1 hz
     rw[h7];have bq:=fun fv W=>B5 fv W
     subst bc;clear hV
     go_wp2_with (go_at_call 235;fail)
     go_at_call 235;refine(bq _ _).mono ?_;rintro e w3 ⟨rfl,bn⟩;rw[bn];go_wp2;go_ret2;exact⟨[],[],m,q,_,_,rfl,E.out.1,E.out.2.1,E.out.2.2.1,E.out.2.2.2,a4.out,Or.inr ⟨rfl,rfl,bP _ _ _ _⟩⟩
    ·rw[h7] at hV ⊢
     have ba:g≠0:=by have h1:=(hV.lt g rfl).1;have h2:=HM.out.pos;omega
     have c0:=(hV.lt g rfl).1;have a8:=sorting Y g c _ wr b5.out bi ba ax ae;rw[b8] at a8;clear hV
     go_wp2_with (go_at_call 235;fail)
     go_at_call 235;refine a8.mono ?_;rintro e w3 ⟨rfl,M,b7,ak,a6,G⟩;have ad:=ak _ ab.out.1 ab.out.2
     have aa:Hid (w3.ownsRow w 9 1 (.slice (some (g,0)) good c) good (ig (aQ good))∧Below w.heap.size w w3):=by
      rw[ad];refine⟨⟨a6.1,?_⟩,?_⟩
      ·rcases a6.2 with hn|⟨g',cap,a5,hv,hg,rest⟩
       ·exact .inl hn
       ·exact .inr ⟨g',cap,a5,hv,aP b6 hg,rest⟩
      ·have V:=a4.out
       exact⟨G.os.trans V.os,G.tape.trans V.tape,G.output.trans V.output,aP V.size G.size,fun b an=>by
        rw[G.block b (bU an V.size) ae];exact V.block b an⟩
     clear a8 b7 ak a6 G ad;go_wp2;go_ret2;exact⟨good,[],m,q,_,_,rfl,E.out.1,E.out.2.1,E.out.2.2.1,E.out.2.2.2,aa.out.2,Or.inr ⟨rfl,rfl,aa.out.1⟩⟩
end
section
variable{w w':World}
theorem vW(s:ByteArray)w(T:2000<s.size):
  Calls prog 215 #[s] w fun e w'=>∃G,e=.returned (.tuple #[.slice none 0 0,G])∧w'.ownsRow w 273 3 G 1 (cy [(0,0,1)])∧Below w w w':=by
 have F:∀(W:World)(a:Addr),_=stored prog W a (.func (.func 234) #[] #[]) .plain:=fun W a=>run_store _ W a _ _ rfl
 have O:=AB s w (w.alloc (.cells #[.func (.func 234) #[] #[],.string ⟨#[]⟩,.int .i64 0,.int .i64 0,.map none,.slice none 0 0] 325)) T;have D:Hid (Below w.heap.size w (w.alloc (.cells #[.func (.func 234) #[] #[],.string ⟨#[]⟩,.int .i64 0,.int .i64 0,.map none,.slice none 0 0] 325))):=(af _ _).alloc (ai _) _;go_enter func215,ntmps215
 go_wp2_with (go_at_call 232;fail)
 generalize w.alloc _=W1 at*;go_at_call 232;refine O.mono ?_;rintro e R ⟨G,rfl,f,M⟩;clear O F;obtain⟨V,Y,rfl⟩:=aC f
 have I:Hid (R.ownsRow w 273 3 (.slice V 1 Y) 1 (cy [(0,0,1)])∧Below w.heap.size w R):=by
  refine⟨⟨f.1,?_⟩,D.out.trans (M.mono D.out.size)⟩;rcases f.2 with S|⟨g,cap,E,U,hg,rest⟩
  ·exact .inl S
  ·exact .inr ⟨g,cap,E,U,by have:=D.out.size;omega,rest⟩
 clear f M;go_wp2;go_ret2;exact⟨_,rfl,I.out.1,I.out.2⟩
def Out(base:Nat)(D:List ByteArray)(f:List (Nat×Nat×Nat))(w':World)(E F:Value):Prop:=
 D.length≤2001∧f.length≤2001∧(f≠[]→E=.slice none 0 0)∧(f=[]→F=.slice none 0 0)∧w'.ownsRow base 9 1 E D.length (ig D)∧w'.ownsRow base 273 3 F f.length (cy f)
def jC(x:Tx.Ln):OLn:=(x.1,x.2.map fun y=>(y.1,⟨y.2.toArray⟩))
theorem xT l:(dr l).map jC=l:=by
 unfold dr;rw[ou]
 conv=>rhs;rw[←List.map_id l]
 apply List.map_congr_left;intro x _;obtain⟨n,ws⟩:=x;simp only[Function.comp,jC,aH,ou,id_eq,qF,true_and]
 conv=>rhs;rw[←List.map_id ws]
 apply List.map_congr_left;simp
def AE(s:ByteArray):Tx.Got:=(Tx.bJ [] 1 [] false false 0 s.data.toList).foldl (Tx.bK true Pv.aK 20) qf
def cC(s:ByteArray):List (Nat×Nat×Nat):=if s.size≤2000 then (AE s).aG else [(0,0,1)]
def fc(s:ByteArray):List ByteArray:=if s.size≤2000∧(AE s).aG=[] then aQ ((AE s).good.map jC) else []
theorem MN{s}(R:s.size≤2000){good}{f}{m q base}{G I}(F:AE s=⟨dr good,f,m,q⟩)(U:good.length≤2001)(M:f.length≤2001)
  (T:(f≠[]∧G=.slice none 0 0∧w'.ownsRow base 273 3 I f (cy f))∨(f=[]∧I=.slice none 0 0∧w'.ownsRow base 9 1 G good (ig (aQ good)))):Out base (fc s) (cC s) w' G I:=by
 have S:cC s=f:=by unfold cC;rw[ay R,F]
 rw[S];rcases T with⟨D,rfl,O⟩|⟨rfl,rfl,O⟩
 ·have E:fc s=[]:=by unfold fc;rw[au (fun h=>D ax)]
  rw[E];exact⟨ah,M,fun _=>rfl,fun h=>absurd h D,bP _ _ _ _,O⟩
 ·have E:fc s=aQ good:=by
   unfold fc;rw[ay ⟨R,by rw[F]⟩,F];show aQ ((dr good).map jC)=_;rw[xT]
  have V:=aY good;rw[E];exact⟨ae,M,fun h=>absurd rfl h,fun _=>rfl,ax,bP _ _ _ _⟩
theorem xU(s:ByteArray)w(hm:Ml w):
  Calls prog 215 #[s] w fun e w'=>∃E f,e=.returned (.tuple #[E,f])∧Out w (fc s) (cC s) w' E f∧Below w w w':=by
 by_cases D:s.size≤2000
 ·refine(xS s w D hm).mono ?_
  rintro e w' ⟨good,U,m,q,E,f,rfl,R,_,M,O,F,T⟩;refine⟨E,f,rfl,MN D (m:=m) (q:=q) ?_ M O T,F⟩;unfold AE;rw[Tx.qQ];exact R
 ·refine(vW s w ae).mono ?_
  rintro e w' ⟨f,rfl,S,F⟩;have G:cC s=[(0,0,1)]:=by unfold cC;rw[au D]
  have I:fc s=[]:=by unfold fc;rw[au (fun h=>D h.1)]
  rw[G,I];exact⟨_,f,rfl,⟨ah,ah,fun _=>rfl,fun h=>(by cases h),bP _ _ _ _,S⟩,F⟩
