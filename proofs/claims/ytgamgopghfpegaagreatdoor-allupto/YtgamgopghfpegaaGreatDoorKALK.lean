import Derived.Test.YtgamgopghfpegaaGreatDoorKALC
import Derived.Test.YtgamgopghfpegaaGreatDoorRows
import Derived.LaidMore
import Derived.Lay
import Derived.Deep.DeepHandedRow
import Derived.Lib.SmallJoins
import Derived.Test.YtgamgopghfpegaaGreatDoorTie
import Derived.Test.YtgamgopghfpegaaGreatDoorCards
import Derived.SevenTiedAt
set_option linter.all false
open Go.Proofs.Tryz
set_option maxRecDepth 100000
set_option maxHeartbeats 40000000
namespace Go.Proofs.YtgamgopghfpegaaGreatDoor
section
open Go.ChangeShapes Go.WideShapes Go.ChangeAt Go.RowKit Go.Deep Go.Joins
open Go.ChangeMaps (open_string shut_string)
namespace Pn
open Ed
theorem OG:laidOutB prog=true:=aB
theorem V4:ownKnob prog.godebug=none:=aB
theorem QN:prog.cellsOf 3=1:=aB
theorem QO:prog.cellsOf 9=1:=aB
theorem yY:prog.cellsOf 25=6:=aB
theorem mF{H}(d:DataW H):1≤Rows.uptoBulk d:=by
 cases d with
 |lit l=>cases l<;>simp[Rows.uptoBulk]
 |_=>simp[Rows.uptoBulk]
theorem yZ{H:Type}:∀l:List (DataW H),(∀d∈l,7≤Rows.uptoBulk d)→7*l.length≤Rows.uptoBulkAll l
 |[],_=>by simp
 |d::r,h=>by
  have D:=h d bS;have E:=yZ r fun x f=>h x (eJ _ f)
  simp only[Rows.uptoBulkAll,dF];omega
theorem Fu{H:Type}{d:DataW H}:∀{l:List (DataW H)},d∈l→Rows.uptoBulk d≤Rows.uptoBulkAll l
 |x::r,h=>by
  simp only[Rows.uptoBulkAll];rcases bI.1 h with e|e
  ·rw[e];omega
  ·have:=Fu e;omega
theorem pE{H}(s:zA):Rows.uptoBulk (DataW.lit (H:=H) (.string s))=s.size+1:=by
 rfl
theorem tP{H}{enc}{P}{w}{base}{spare}{held}{t}{f0 f1 f2 f3 f4 f5}{E}{f}{x:DataW H×List MemPlace}(U:P.underlying t=some (.struct #[f0,f1,f2,f3,f4,f5]))(h:DataW.trod enc P w base spare held E t f=x):
  ∃G I M O R S n,x.1=.agg [G.1,I.1,M.1,O.1,R.1,S.1]∧f=P.cellsOf t∧DataW.trod enc P w base spare held n f0.type ((f.drop f0.offset).take (P.cellsOf f0.type))=some G∧
   DataW.trod enc P w base spare held n f1.type ((f.drop f1.offset).take (P.cellsOf f1.type))=some I∧DataW.trod enc P w base spare held n f2.type ((f.drop f2.offset).take (P.cellsOf f2.type))=some M∧
   DataW.trod enc P w base spare held n f3.type ((f.drop f3.offset).take (P.cellsOf f3.type))=some O∧DataW.trod enc P w base spare held n f4.type ((f.drop f4.offset).take (P.cellsOf f4.type))=some R∧
   DataW.trod enc P w base spare held n f5.type ((f.drop f5.offset).take (P.cellsOf f5.type))=some S:=by
 obtain⟨xs,n,_,rfl,T,F,D⟩:=DataW.trod_struct U h
 match xs,F with
 |[G,I,M,O,R,S],_=>exact⟨G,I,M,O,R,S,n,ah,T,by simpa using D 0 f0 rfl,by simpa using D 1 f1 rfl,by simpa using D 2 f2 rfl,by simpa using D 3 f3 rfl,by simpa using D 4 f4 rfl,by simpa using D 5 f5 rfl⟩
theorem Fv{H}{enc}{W}{b0}{v}{d:DataW H}{p}(hv:Value.okWide prog W .any b0 22 v)(h:DataW.Trod enc prog W 0 (fun _=>true) true 22 v d p)(Y:Rows.uptoBulk d≤1048576):
  ∃T m cap,v=.slice T m cap∧m≤400000∧rE W T m:=by
 obtain⟨T,m,cap,rfl⟩:=okWide_slice underlying22 hv;obtain⟨a8,hf⟩:=h;rcases open_slice underlying22 hf with⟨F,_⟩|⟨a,len,a7,mm,n,D,Pl,F,_,hl,hm,aa,hx,G⟩
 ·have U:[Value.slice T m cap]=_:=F
  simp only[fY,Value.slice.injEq,iF] at U;exact⟨T,m,cap,rfl,ae,fun i hi=>ae⟩
 ·have U:[_]=_:=F
  simp only[fY,Value.slice.injEq,iF] at U;obtain⟨rfl,rfl,rfl⟩:=U;have hd:=(Prod.mk.inj hx).1;rw[hd] at Y;simp only[Rows.uptoBulk] at Y
  have h7:∀i,i<m→7≤Rows.uptoBulk (D i):=fun i hi=>by
   obtain⟨_,_,ht⟩:=G i ax;obtain⟨y0,y1,y2,y3,y4,y5,_,E,_⟩:=tP underlying25 ht;have E:D i=_:=E;have p0:=mF y0.1;have p1:=mF y1.1;have p2:=mF y2.1;have p3:=mF y3.1;have p4:=mF y4.1;have p5:=mF y5.1;rw[E];simp only[Rows.uptoBulk,Rows.uptoBulkAll];omega
  refine⟨_,m,cap,rfl,?_,fun i hi=>?_⟩
  ·have h1:=yZ ((List.range m).map D) (fun d hd=>by
    grind)
   grind
  have R:Rows.uptoBulk (D i)≤1048576:=by
   have h1:=Fu (l:=(List.range m).map D) (dC.2 ⟨i,fP.2 hi,rfl⟩);omega
  have ha:a=(a.block,a.off):=by
   obtain⟨a9,f,_⟩:=G 0 ax;rw[yY] at f;unfold World.cells? at f;rw[ay (aN _)] at f;have e3:List.range 6=[0,1,2,3,4,5]:=rfl;rw[e3] at f;simp only[List.mapM_cons,Option.bind_eq_bind] at f;obtain⟨b,o,M⟩:=a;cases M with
   |none=>rfl
   |some q=>
    exfalso
    have:W.cell? (((⟨b,o,q⟩:Addr).add (0*6)).add 0)=none:=by
     simp only[Nat.zero_mul,Addr.add,World.cell?]
     split<;>simp_all
    rw[this] at f;simp at f
  obtain⟨O,V,ht⟩:=G i ax;rw[yY] at V;unfold World.cells? at V;rw[ay (aN _)] at V;obtain⟨y0,y1,y2,y3,y4,y5,k,E,S,t0,t1,t2,t3,t4,t5⟩:=tP underlying25 ht;have E:D i=_:=E;rw[yY] at S;rw[QN] at t0 t1 t5;rw[QO] at t2 t3 t4
  have I:∀k v,O[k]?=some v→k<6→W.cell? ((a.add (i*6)).add k)=some v:=fun k v Y a6=>by
   rw[←Y];exact mapM_some_get V k k (by rw[List.getElem?_range a6])
  match O,S with
  |[c0,c1,c2,c3,c4,c5],_=>
   obtain⟨kd,e0,_,_⟩:=DataW.trod_int underlying3 t0;obtain⟨hh,e1,_,_⟩:=DataW.trod_int underlying3 t1;obtain⟨M,e2,f2,_⟩:=DataW.trod_string underlying9 t2;obtain⟨sv,e3,f3,_⟩:=DataW.trod_string underlying9 t3;obtain⟨ss,e4,f4,_⟩:=DataW.trod_string underlying9 t4;obtain⟨nn,e5,_,_⟩:=DataW.trod_int underlying3 t5;have a0:c0=kd:=by simpa using e0
   have a1:c1=hh:=by simpa using e1
   have a2:c2=M:=by simpa using e2
   have a3:c3=sv:=by simpa using e3
   have a4:c4=ss:=by simpa using e4
   have a5:c5=nn:=by simpa using e5
   subst a0 a1 a2 a3 a4 a5;rw[E] at R;simp only[Rows.uptoBulk,Rows.uptoBulkAll] at R;have b2:Rows.uptoBulk y2.1=M.size+1:=by rw[f2];exact pE M
   have b3:Rows.uptoBulk y3.1=sv.size+1:=by rw[f3];exact pE sv
   have b4:Rows.uptoBulk y4.1=ss.size+1:=by rw[f4];exact pE ss
   rw[ha] at I ⊢;have g0:=I 0 _ rfl aA;have g1:=I 1 _ rfl aA;have g2:=I 2 _ rfl aA;have g3:=I 3 _ rfl aA;have g4:=I 4 _ rfl aA;have g5:=I 5 _ rfl aA;rw[Addr.add_mid,Addr.add_mid] at g0 g1 g2 g3 g4 g5;exact⟨_,_,kd,hh,nn,M,sv,ss,rfl,cr W ⟨_,_,none⟩ g0,g0,g1,g2,g3,g4,g5,ae,ae,ae⟩
theorem Hb{H}{d1 d2 d3}(f:Rows.uptoSmall H [d1,d2,d3]=true):Rows.uptoBulk d3≤1048576:=by
 have h:=fZ f;simp only[Rows.uptoBulkAll] at h;omega
theorem II{c}(h:(Lit.int .i64 c).wf=true):c≤9223372036854775807:=by
 simp[Lit.wf] at h;omega
theorem K7 H enc W base args S T D(hm:Ml W)
  (R:∀(j:Nat) t v,f3.params[j]?=some t→args[j]?=some v→Value.okWide prog W .any base t v)
  (Y:DataW.Whole enc prog f3.params.toList Rows.allSpec.vars false W args.toList S T D) (hk:Rows.uptoSmall H (S++T)=true):
  zC 3 args W fun e G=>∃v,e=.returned v∧Rows.allSpec.post enc prog f3 false true false false W args v G:=by
 have f:=R;have F:=Y;obtain⟨p,q,E,hV,rfl,a0,a1⟩:=Y;have V:=E;rw[params3] at V f;obtain⟨v0,v1,v2,d0,d1,d2,p0,p1,p2,rfl,rfl,rfl,h0,h1,U⟩:=trodAll_three V;obtain⟨rfl,rfl⟩:=trodVars_none hV;have M:=F.lt;obtain⟨c,rfl,rfl,rfl,wc⟩:=open_int underlying3 (f 0 3 v0 rfl rfl) h0;obtain⟨d,rfl,rfl,rfl,wd⟩:=open_int underlying3 (f 1 3 v1 rfl rfl) h1;have I:=Hb (by simpa using hk);obtain⟨la,m,cap,rfl,O,hl⟩:=Fv (f 2 22 v2 rfl rfl) U I;clear E R;refine(QM c d la m cap W hm O hl ⟨II wc,II wd⟩).mono fun e G ⟨he,hg⟩=>?_
 subst he;have t2:=Below.trod OG aB (fZ aB) U hg (fun x hx=>M x (by simp[hx]))
 have hp:Rows.allSpec.post enc _ _ false true false false W _ (true) G:=
  ⟨_,_,_,[],_,[],F,trodAll_cons_mk (shut_bool underlying4 _) trodAll_mk0,trodAll_cons_mk (shut_int underlying3 wc) (trodAll_cons_mk (shut_int underlying3 wd) (trodAll_cons_mk t2 trodAll_mk0)),rfl,hg.frame _,fun h=>by cases h⟩
 grind
theorem K8 os args:laidMetH prog Rows.allUptoRow.laid ((World.laidAll prog os Rows.allUptoRow.laid).forCall (fun _ _=>0) ⟨#[],args,[]⟩).memory:=by
 rw[MakeChecks.laidMetH_plain _ _ _ aB];exact laidMet_laidAll _ aB aB
theorem TC os{H}(enc:TypeId×zV→H):∃f,DataW.whole enc prog ((World.laidAll prog os Rows.allUptoRow.laid).forCall (fun _ _=>0) ⟨#[],#[.int .i64 0,.int .i64 0,zN],[]⟩).memory f3.params.toList Rows.allSpec.vars false #[Value.int .i64 0,.int .i64 0,zN].toList 8=some ([.lit (.int .i64 0),.lit (.int .i64 0),.nil],[],f):=
 ⟨[],aB⟩
theorem QQ(os:Os)(f:os.Started)(H:Type)(enc:TypeId×zV→H)(F:Stop.Interp):
  ReturnsInHanded {} checked os 3 .any ((Rows.OpenSpec.upto Rows.allSpec).preRow enc prog f3 Rows.allUptoRow.domain false Rows.allUptoRow.laid) (((Rows.OpenSpec.upto Rows.allSpec).at F).post enc prog f3 false true false false):=by
 obtain⟨I,V⟩:=TC os enc;have E:Input.okWideB prog ((World.laidAll prog os Rows.allUptoRow.laid).forCall (fun _ _=>0) ⟨#[],#[.int .i64 0,.int .i64 0,zN],[]⟩) 3 ⟨#[],#[.int .i64 0,.int .i64 0,zN],[]⟩=true:=aB
 refine returnsInHanded_of_row (C:=checked) (s:=Rows.OpenSpec.upto Rows.allSpec) V4 f aB func3
  ⟨World.laidAll prog os Rows.allUptoRow.laid,fun _ _=>0,⟨#[],#[.int .i64 0,.int .i64 0,zN],[]⟩,World.laidAll_os _ _ _,World.shaped_of_ZipB aB aB,(Input.okWide_of_okWideB (base:=0) E).1,(Input.okWide_of_okWideB E).2,
   OpenSpec.preRow_of_cond 8 V aB (fun k U=>by cases U;kernel_rfl) aB (K8 os _),by
    simp only[Assume.holds];simp⟩ ?_
 intro W base args R S D G T _ O _ _ M _;exact K7 H enc W base args R S D (Go.Proofs.cell_of_shapedOpen_int (zero:=#[.int .i64 0]) (t:=3) M (fZ aB) aB rfl aB aB underlying3) G T (O _ rfl)
end Pn
end
section
open Go.ChangeShapes Go.WideShapes Go.ChangeAt Go.RowKit
theorem OH:prog.funcNamed Rows.allUptoRow.func=some 3:=aB
theorem QR:joinedFacts prog 3 f3 Rows.allSpec Rows.allUptoRow=true:=by
 unfold joinedFacts
 repeat (rw[eL];refine⟨?_,?_⟩;rotate_left;(as_aux_lemma=>kernel_rfl))
 as_aux_lemma=>kernel_rfl
theorem UZ:f3.isInstance prog Rows.allUptoRow.origin Rows.allUptoRow.targs:=fZ aB
theorem U0:f3.isWrapper prog Rows.allUptoRow.wrapper Rows.allUptoRow.mainSum:=by
 unfold Func.isWrapper
 first
  |(rw[ay (by decide+kernel)];kernel_rfl)
  |(rw[au (by decide+kernel)];exact⟨rfl,rfl⟩)
end
section
open Go.ChangeShapes Go.WideShapes Go.ChangeAt Go.RowKit
theorem CU:Rows.AllUptoSaid:=
 OpenClaim.holds_of_cond 3 f3 rfl rfl rfl rfl rfl rfl rfl ⟨rfl,rfl,rfl,rfl,rfl⟩ rfl rfl rfl rfl rfl OH func3 QR UZ U0
  (fun os f H enc _ F=>by rw[OpenClaim.pre_eq_preRow];exact Pn.QQ os f H enc F)
theorem all_upto_card:Rows.AllUptoCardSaid:=
 Claim7.holds_tied_plain_at .later [] _ _ _ _
  CU (fun _ h=>by cases h) (by as_aux_lemma=>kernel_rfl) (fun _ h=>by cases h) allUpto_row_tie rfl ⟨rfl,rfl⟩ (by as_aux_lemma=>kernel_rfl) rfl
  (fun f fn G E=>by
   obtain rfl:f=3:=jr (OH.symm.trans G) |>.symm
   obtain rfl:fn=_:=(jr (func3.symm.trans E)).symm
   exact⟨by as_aux_lemma=>kernel_rfl,fun j t F=>by
    rw[params3] at F;have hm:t∈[3,3,22]:=by simpa using Array.mem_of_getElem? F
    have D:([3,3,22].all fun u=>!prog.wantsStandIn u)=true:=by as_aux_lemma=>kernel_rfl
    exact(show prog.wantsStandIn t=false by simpa using ju.1 D t hm)⟩)
  (by as_aux_lemma=>kernel_rfl)
