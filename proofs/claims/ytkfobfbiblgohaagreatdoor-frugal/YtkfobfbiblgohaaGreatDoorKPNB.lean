import Derived.Test.YtkfobfbiblgohaaGreatDoorKPNA
import Derived.Test.YtkfobfbiblgohaaGreatDoorKPMO
set_option linter.all false
open Go.Proofs.Tryz
set_option maxRecDepth 100000
set_option maxHeartbeats 9000000
namespace Go.Proofs.YtkfobfbiblgohaaGreatDoor
open Go.RowKit
namespace Pn
open Mf Ed
variable{A:Nat->Prop}{w w' W:zW}{db sb fb:Nat}{cap:Int}{cs:List Int}{D:List Kp}{L Lr:List (zV×zV)}
def En(k:Kp):Rs:=(k.checked,k.q.kind,k.q.path,k.q.ver)
def dec:zV×zV->Rs
 |(.agg #[.int _ k,.string p,.string v],.agg #[_,_,_,.int _ c])=>(c.toNat,k.toNat,p,v)
 |_=>(0,0,e0,e0)
def ME(L:List (zV×zV)):Prop:=∀x∈L,∃(q:Qn)(T:TypeId)(u:zV)(ta:Option Addr)(tn tc:Nat)(ch ck:Nat),x=(qv q,.agg #[.iface T u,.slice ta tn tc,zI (ch:Nat),zI (ck:Nat)])
theorem MF{v:zV}:∀{f:Fi},fW A w v f->∃T u,v=.iface T u
 | .man _ _,⟨_,_,_,h,_⟩=>⟨_,_,h⟩
 | .idx _ _,⟨_,h,_⟩=>⟨_,_,h⟩
 | .wants _ _,⟨_,_,h,_⟩=>⟨_,_,h⟩
 | .list _ _,⟨_,_,h,_⟩=>⟨_,_,h⟩
 | .ord _ _,⟨_,_,h,_⟩=>⟨_,_,h⟩
theorem Eo:∀{L:List (zV×zV)} {D:List Kp},eh A w L D->L.map dec=D.map En/\ME L
 |[],[],_=>⟨rfl,fun x hx=>by simp at hx⟩
 |x::L,k::D,⟨h1,h2,h3⟩=>by
  obtain⟨fv,tv,e,hf,ht⟩:=h2;obtain⟨T,u,ef⟩:=MF hf;obtain⟨ta,tc,et⟩:=ht.len;have ih:=Eo h3;obtain⟨x1,x2⟩:=x;simp only at h1 e;rw[ef,et] at e;subst h1;subst e;refine⟨?_,fun y hy=>?_⟩
  ·rw[bQ,bQ,ih.1]
   rfl
  ·rcases aK.1 hy with hy|hy
   ·exact⟨k.q,T,u,ta,_,tc,k.changed,k.checked,hy⟩
   ·exact ih.2 y hy
 |[],_::_,h=>h.elim
 |_::_,[],h=>h.elim
theorem FU{α:Type}{cf:α->α->Int}(hC:Pv.Cmp (fun _=>True) cf){R T:List α}(h:R.Perm T):Ss.aP (Go.Proofs.ltOf cf) R=Ss.aP (Go.Proofs.ltOf cf) T:=by
 have hW:Go.Sort.SWO (Go.Proofs.ltOf cf):=Pv.oQ id hC;refine Ss.sP (lt:=Go.Proofs.ltOf cf) (tag:=fun _=>0) _ _ (((Ss.bF _).trans h).trans (Ss.bF _).symm) (List.Pairwise.imp (R:=fun a b=>Go.Proofs.ltOf cf b a=false) (fun {a b} h=>(Ss.ey (lt:=Go.Proofs.ltOf cf) (tag:=fun _=>0) b a).2 ⟨h,oS (ah _)⟩) (Ss.pD hW _)) (List.Pairwise.imp (R:=fun a b=>Go.Proofs.ltOf cf b a=false) (fun {a b} h=>(Ss.ey (lt:=Go.Proofs.ltOf cf) (tag:=fun _=>0) b a).2 ⟨h,oS (ah _)⟩) (Ss.pD hW _)) ?_;intro x _ y _ h1 h2;have h1:=((Ss.ey _ _).1 h1).1;have h2:=((Ss.ey _ _).1 h2).1;unfold Go.Proofs.ltOf at h1 h2;have h3:=hC.anti x y trivial trivial;refine hC.zero x y trivial trivial ?_;have h4:¬cf x y<0:=by simpa using h1
 have h5:¬cf y x<0:=by simpa using h2
 omega
section
variable{P:Program}(w:zW){ops:Array Oper}{rest:List Oper}{o:Oper}{a:Act}{Q:Exit->Act->zW->Prop}
theorem yO(hg:o.guard=none)(it:Operand)(hop:o.op=Op.next it false)(k:TypeId)(b r:Nat)(L Lr:List (zV×zV))(hL:ME L)
  (hit:a.eval it=zP r) (h:Mp.cM P k w b r L Lr)
  (hDone:Lr=[]->wpList P ops Q rest (a.put o.dst (.tuple #[.bool false])) w)
  (hMore:∀(qk:Nat)(qp qw:zA)(T:TypeId)(u:zV)(ta:Option Addr)(tn tc:Nat)(ch ck:Nat)(Lr':List (zV×zV))(w':zW),Lr.Perm ((.agg #[zI (qk:Nat),tS qp,tS qw],.agg #[.iface T u,.slice ta tn tc,zI (ch:Nat),zI (ck:Nat)])::Lr')->Mp.cM P k w' b r L Lr'->w.grownBy w' (some r)->w'.heap.size=w.heap.size->
   (Instr.entry (zP r)).run P w'=.ok (.tuple #[.agg #[zI (qk:Nat),tS qp,tS qw],.agg #[.iface T u,.slice ta tn tc,zI (ch:Nat),zI (ck:Nat)]]) w'->wpList P ops Q rest (a.put o.dst (.tuple #[.bool true,.agg #[zI (qk:Nat),tS qp,tS qw],.agg #[.iface T u,.slice ta tn tc,zI (ch:Nat),zI (ck:Nat)]])) w'):
  wpList P ops Q (o::rest) a w:=by
 refine wpList_plain hg fun K' hK'=>?_
 unfold Oper.wp;rcases h.next o.type with⟨h0,hrun⟩|⟨key,v,Lr',w',hm,hp,hrun,hrg,hgr,hsz,hen⟩
 ·simp[execOp,hop,hit,hrun,Result.andThen]
  exact hK' _ _ (hDone h0)
 ·obtain⟨q,T,u,ta,tn,tc,ch,ck,e⟩:=hL _ hm
  injection e with e1 e2;subst e1;subst e2;simp[execOp,hop,hit,hrun,Result.andThen];exact hK' _ _ (hMore q.kind q.path q.ver T u ta tn tc ch ck Lr' w' hp hrg hgr hsz hen)
end
end Pn
namespace Pn
open Mf Ed
section
variable{P:Program}(w:zW){ops:Array Oper}{rest:List Oper}{o:Oper}{a:Act}{Q:Exit->Act->zW->Prop}
theorem qG(hg:o.guard=none)(m:Operand)(t:TypeId)(hop:o.op=.call {callee:=.builtin .len,args:=#[m],argTypes:=#[t]})(k e:TypeId)(ht:P.underlying t=some (.map k e))(b:Nat)(L:List (zV×zV))
  (hm:a.eval m=.map (some b)) (h:Mp.MapAt P k w b L) (hK:wpList P ops Q rest (a.put o.dst (zI ((L.length:Nat):Int))) w):wpList P ops Q (o::rest) a w:=by
 refine wpList_plain hg fun K' hK'=>?_
 have hr:=h.len ht o.type;unfold Oper.wp execOp;simp only[hop,resolve,invoke,builtin,Sem.run_bind,Sem.run_pure,Result.andThen_ok,List.map_toArray,bQ,fL,hm,hr];exact hK' _ _ hK
end
variable{A:Nat->Prop}{w w' W:zW}{db sb fb:Nat}{cap:Int}{cs:List Int}{D:List Kp}
theorem OH(n:Nat)(hn:n<=2000000000000):∃Z:Array zV,Z.size=n*4/\∀W:zW,(Instr.makeSlice 111 (zI 0) (zI (n:Nat))).run prog W=.ok (.slice (some (tD W.heap.size 0)) 0 n) (W.alloc (.cells Z 117)):=by
 obtain⟨i,h1,h2,h3,h4⟩:=Bm.gu 117 (.agg #[zI 0,zE,zE,zI 0]) 4 48 (by kernel_rfl);refine⟨madeCells (Value.agg #[zI 0,zE,zE,zI 0]).cells (n*i.size),by rw[size_madeCells,h3],fun W=>?_⟩;have h:=run_make (P:=prog) W 111 117 i _ underlying111 h1 h2 .i64 .i64 0 (n:Nat) (Int.le_refl _) (by omega) (by rw[h4];omega) (by omega);simpa using h
theorem Q9(qk ck:Nat)(qp qw:zA)(u x y:zV):dec (.agg #[zI (qk:Nat),tS qp,tS qw],.agg #[x,y,u,zI (ck:Nat)])=(ck,qk,qp,qw):=rfl
theorem FV(w:zW)(h:eY A w db sb fb cap cs D)(hm:Ml w)(hD:D.length<=2000000000000):
  zC 63 #[zP db] w fun e w'=>∃g c,e=.returned (.slice (some (tD g 0)) D.length c)/\w'.ownsRow w.heap.size 117 4 (.slice (some (tD g 0)) D.length c) D.length ((Ss.aP (Go.Proofs.ltOf pH) (D.map En)).flatMap jI)/\zB w w':=by
 obtain⟨i2,hi1,hi2,hi3,hi4⟩:=Bm.gu 117 (.agg #[zI 0,zE,zE,zI 0]) 4 48 (by kernel_rfl);have HI:Hid (prog.info? 117=some i2/\i2.zero=some (.agg #[zI 0,zE,zE,zI 0])/\i2.size=4/\i2.bytes=48):=⟨hi1,hi2,hi3,hi4⟩;clear hi1 hi2 hi3 hi4;obtain⟨L,hM,hE⟩:=h.map;obtain⟨hdec,PF⟩:=Eo hE;have hlen:L.length=D.length:=hE.len;have c2:=h.f2.1;have hdb:=h.f2.lt;have HMl:Hid (Ml w):=hm;have HG:Hid (ME L):=PF;have HDc:Hid (L.map dec=D.map En):=hdec;have HLn:Hid (L.length=D.length):=hlen;rw[<-hlen] at hD ⊢;obtain⟨Z,hZ,hmk⟩:=OH L.length hD;have hb1:zB w (w.alloc (.cells Z 117)):=(ae _ _).alloc (ah _) _;have hM1:Mp.MapAt prog 115 (w.alloc (.cells Z 117)) fb L:=hM.of_block (hb1.block fb hM.lt);have c2b:(w.alloc (.cells Z 117)).cell? (tD db 2)=some (.map (some fb)):=by rw[hb1.cell (p:=(tD db 2)) hdb];exact c2
 have HO1:Hid ((w.alloc (.cells Z 117)).ownsRow w.heap.size 117 4 (.slice (some (tD w.heap.size 0)) 0 L.length) 0 []):=World.ownsRow_made w Z L.length (ah _) (by unfold maxLen;omega) hZ;have HB1:Hid (zB w (w.alloc (.cells Z 117))/\(w.alloc (.cells Z 117)).heap.size=w.heap.size+1):=⟨hb1,by simp⟩;have hfb:=hM.lt;clear h hE hdec PF hlen hm hZ hb1;go_enter func63,ntmps63
 go_wp2_with (first
  |(at_len;refine qG _ rfl _ 103 rfl 115 142 underlying103 fb L rfl hM ?_)
  |(at_range;refine Ed.nT _ rfl _ 103 rfl 115 142 underlying103 fb L rfl hM1 ?_;intro w0 hrg0 hg0 hs0)
  |go_in)
 go_frame
 rw[HB1.out.2];have SP:Mp.cM prog 115 w0 fb (w.heap.size+1) L L:=by rw[<-HB1.out.2];exact hrg0
 have HT0:Hid (ai (fun _=>False) (w.alloc (.cells Z 117)) w0):=(ai.refl _ _).grown hg0 (fun b _ e=>by cases e);have HV0:Hid (Mp.cM prog 115 w0 fb (w.heap.size+1) L L/\w0.ownsRow w.heap.size 117 4 (.slice (some (tD w.heap.size 0)) 0 L.length) 0 []/\w.heap.size≠w.heap.size+1/\zB w w0):=⟨SP,ar HO1.out (fun b e=>HT0.out.block b (HO1.out.lt b e).2 (fun e=>e)),by omega,bw HB1.out.1 HT0.out (fun _ e=>e.elim)⟩;clear hM hM1 c2 c2b hrg0 hg0 hs0 hmk SP HT0 HO1 HB1;go_loopg [3] L.length (fun gg s3 wr=>∃(Lr:List (zV×zV))(R:List Rs)(g c:Nat),Lr.length<=gg/\R.length+Lr.length=L.length/\s3=.slice (some (tD g 0)) R.length c/\Hid (Mp.cM prog 115 wr fb (w.heap.size+1) L Lr/\wr.ownsRow w.heap.size 117 4 (.slice (some (tD g 0)) R.length c) R.length (R.flatMap jI)/\g≠w.heap.size+1/\zB w wr)/\Hid ((R++Lr.map dec).Perm (L.map dec)))
 case atStart=>exact⟨L,[],w.heap.size,L.length,ah _,by simp,rfl,HV0,jc _⟩
 case round=>
  obtain⟨Lr,R,g,c,hlen,hRL,rfl,HV,HP⟩:=hrel;clear HV0
  go_wp2_with (first
   |(at_next;refine yO _ rfl _ rfl 115 fb (w.heap.size+1) L Lr HG.out rfl HV.out.1 ?_ ?_)
   |go_in)
  ·intro h0
   have hgl:=HV.out.2.1.lt g rfl
   have HR:Hid (R.length=L.length/\Ss.aP (Go.Proofs.ltOf pH) R=Ss.aP (Go.Proofs.ltOf pH) (D.map En)):=by
    have h1:=HP.out;rw[h0,fL,fM,HDc.out] at h1;refine⟨?_,FU FT h1⟩;rw[h0] at hRL;simpa using hRL
   have kS:=OG w.heap.size 117 g c R wr (HMl.out.below HV.out.2.2.2) (by omega) HV.out.2.1 (by omega);clear h0 hRL hlen;have hwr:=HV.out.2.2.2.size
   go_wp2_with (go_at_call 77;fail)
   go_at_call 77;refine kS.mono ?_;rintro e w9 ⟨rfl,ho9,ht9⟩;have hR:=HR.out.1
   have HF:Hid (w9.ownsRow w.heap.size 117 4 (.slice (some (tD g 0)) L.length c) L.length ((Ss.aP (Go.Proofs.ltOf pH) (D.map En)).flatMap jI)/\zB w w9):=by
    rw[hR,HR.out.2] at ho9;exact⟨ho9,bw HV.out.2.2.2 ht9 (fun b e=>by omega)⟩
   clear ho9 ht9 kS;rw[hR];clear hR;go_wp2;go_ret;exact⟨g,c,rfl,HF.out.1,HF.out.2⟩
  ·intro qk qp qw T u ta tn tc ch ck Lr' w1 hp hrg hgr hsz hen
   have hl1:=hp.length_eq;rw[bW] at hl1
   have HP2:Hid (((R++[(ck,qk,qp,qw)])++Lr'.map dec).Perm (L.map dec)):=by
    have h1:=(hp.map dec).symm;rw[bQ,Q9] at h1;rw[fB];exact((List.Perm.append_left R h1).trans HP.out)
   have hgl:=HV.out.2.1.lt g rfl;have hTg:ai (fun b=>b=w.heap.size+1) wr w1:=(ai.refl _ _).grown hgr (fun b _ e=>(bL e).symm)
   have HV1:Hid (Mp.cM prog 115 w1 fb (w.heap.size+1) L Lr'/\w1.ownsRow w.heap.size 117 4 (.slice (some (tD g 0)) R.length c) R.length (R.flatMap jI)/\g≠w.heap.size+1/\zB w w1):=by
    refine⟨hrg,ar HV.out.2.1 (fun b e=>hTg.block b (HV.out.2.1.lt b e).2 (fun e2=>?_)),HV.out.2.2.1,bw HV.out.2.2.2 hTg (fun b e=>by omega)⟩;have e3:g=b:=by simpa[Value.ownBlock] using e
    exact HV.out.2.2.1 (by omega)
   clear hp hrg hgr hTg HV HP hsz;go_upto_region 5 with fail;have hb2:zB w1 ((w1.alloc (.cells #[zI (qk:Nat),tS qp,tS qw] 115)).alloc (.cells #[.iface T u,.slice ta tn tc,zI (ch:Nat),zI (ck:Nat)] 142)):=((ae _ _).alloc (ah _) _).alloc (by simp) _;have HV2:Hid (Mp.cM prog 115 ((w1.alloc (.cells #[zI (qk:Nat),tS qp,tS qw] 115)).alloc (.cells #[.iface T u,.slice ta tn tc,zI (ch:Nat),zI (ck:Nat)] 142)) fb (w.heap.size+1) L Lr'/\((w1.alloc (.cells #[zI (qk:Nat),tS qp,tS qw] 115)).alloc (.cells #[.iface T u,.slice ta tn tc,zI (ch:Nat),zI (ck:Nat)] 142)).ownsRow w.heap.size 117 4 (.slice (some (tD g 0)) R.length c) R.length (R.flatMap jI)/\g≠w.heap.size+1/\zB w ((w1.alloc (.cells #[zI (qk:Nat),tS qp,tS qw] 115)).alloc (.cells #[.iface T u,.slice ta tn tc,zI (ch:Nat),zI (ck:Nat)] 142))):=⟨HV1.out.1.of_block (hb2.block _ HV1.out.1.owns.lt) (hb2.block _ HV1.out.1.lt),ar HV1.out.2.1 (fun b e=>hb2.block b (HV1.out.2.1.lt b e).2),HV1.out.2.2.1,HV1.out.2.2.2.trans (hb2.mono HV1.out.2.2.2.size)⟩
   have HX4:Hid (((w1.alloc (.cells #[zI (qk:Nat),tS qp,tS qw] 115)).alloc (.cells #[.iface T u,.slice ta tn tc,zI (ch:Nat),zI (ck:Nat)] 142)).heap[w1.heap.size]?=some (.cells #[zI (qk:Nat),tS qp,tS qw] 115)/\((w1.alloc (.cells #[zI (qk:Nat),tS qp,tS qw] 115)).alloc (.cells #[.iface T u,.slice ta tn tc,zI (ch:Nat),zI (ck:Nat)] 142)).heap[w1.heap.size+1]?=some (.cells #[.iface T u,.slice ta tn tc,zI (ch:Nat),zI (ck:Nat)] 142)):=⟨(aH _ _ _ (by simp)).trans (aA _ _),eD w1 _ _⟩;clear hb2 hen HV1;generalize (w1.alloc (.cells #[zI (qk:Nat),tS qp,tS qw] 115)).alloc (.cells #[.iface T u,.slice ta tn tc,zI (ch:Nat),zI (ck:Nat)] 142)=W2 at*;generalize w1.heap.size=b4 at*;obtain⟨⟨c0,_⟩,⟨c1,_⟩,⟨c2,_⟩⟩:=fd3 HX4.out.1;obtain⟨d0,d1,d2,d3⟩:=MB HX4.out.2;obtain⟨RX,hRX⟩:∃RX,RX=R.flatMap jI:=⟨_,rfl⟩;have HRX:Hid (RX=R.flatMap jI):=hRX;rw[<-hRX] at HV2;clear hRX
   have hnw:∀j v,([zI (qk:Nat),tS qp,tS qw,zI (ck:Nat)]:List zV)[j]?=some v->(W2.alloc (.cells #[zI (qk:Nat),tS qp,tS qw,zI (ck:Nat)] 117)).cell? (((tD W2.heap.size 0):Addr).add j)=some v:=fun j v hj=>by
    obtain⟨g0,g1,g2,g3⟩:=MB (aA W2 (.cells #[zI (qk:Nat),tS qp,tS qw,zI (ck:Nat)] 117));rw[addr_add,dJ];rcases j with _|_|_|_|j
    ·injection hj with hj;rw[<-hj];exact g0
    ·injection hj with hj;rw[<-hj];exact g1
    ·injection hj with hj;rw[<-hj];exact g2
    ·injection hj with hj;rw[<-hj];exact g3
    ·simp at hj
   have Ui:(W2.alloc (.cells #[zI (qk:Nat),tS qp,tS qw,zI (ck:Nat)] 117)).heap.size=W2.heap.size+1:=by simp
   have hw2:=HV2.out.2.2.2.size;have hrl:=HV2.out.1.lt
   go_wp2_with (at_builtin;refine dG _ rfl _ _ 111 rfl w.heap.size 117 i2 (.agg #[zI 0,zE,zE,zI 0]) 4 48 underlying111 HI.out.1 HI.out.2.1 HI.out.2.2.1 HI.out.2.2.2 rfl (by decide) (.slice (some (tD g 0)) R.length c) R.length RX rfl (HV2.out.2.1.alloc _) (tD W2.heap.size 0) 1 1 [zI (qk:Nat),tS qp,tS qw,zI (ck:Nat)] rfl rfl hnw ?_ ?_ ?_ ?_ ?_)
   all_goals first
    |exact⟨rfl,rfl,rfl,rfl⟩
    |(show ∀v∈([zI (qk:Nat),tS qp,tS qw,zI (ck:Nat)]:List zV),v.oneCell'=true;intro v hv;simp at hv;rcases hv with rfl|rfl|rfl|rfl<;>rfl)
    |(show R.length+1<=maxLen;unfold maxLen;omega)
    |(show(R.length+1)*48<=140737488355328;omega)
    |(show w.heap.size<=(W2.alloc _).heap.size;rw[Ui];omega)
    |(show w.heap.size<=W2.heap.size+1;omega)
    |skip
   intro lv' w7 hown' hgrow _ hloc;obtain⟨g1,c1',elv⟩:=dT hown' (by omega);subst elv
   have HN:Hid (Mp.cM prog 115 w7 fb (w.heap.size+1) L Lr'/\w7.ownsRow w.heap.size 117 4 (.slice (some (tD g1 0)) (R++[(ck,qk,qp,qw)]).length c1') (R++[(ck,qk,qp,qw)]).length ((R++[(ck,qk,qp,qw)]).flatMap jI)/\g1≠w.heap.size+1/\zB w w7):=by
    have hT:ai (fun b=>b=g) W2 w7:=((ai.refl (fun b=>b=g) W2).alloc _).grown hgrow (fun b _ e=>(bL (show some g=some b from e)).symm);have zv:=HV2.out.2.1.lt g rfl;refine⟨HV2.out.1.of_block (hT.block fb HV2.out.1.owns.lt (fun e=>by omega)) (hT.block _ hrl (fun e=>HV2.out.2.2.1 e.symm)),?_,fun e=>?_,bw HV2.out.2.2.2 hT (fun b e=>by omega)⟩
    ·rw[aU,fA,mM,<-HRX.out]
     exact hown'
    ·rcases hloc with e2|e2
     ·have e3:g1=g:=by simpa[Value.ownBlock] using e2
      exact HV2.out.2.2.1 (e3.symm.trans e)
     ·have e3:g1=W2.heap.size+1:=by simpa[Value.ownBlock] using e2
      omega
   clear hown' hgrow hloc hnw c0 c1 c2 d0 d1 d2 d3 HV2 HX4;rw[<-fA (a:=((ck,qk,qp,qw):Rs)),<-aU];go_wp2;go_roundg Lr'.length
   case measure=>omega
   case rel=>exact⟨Lr',R++[(ck,qk,qp,qw)],g1,c1',ah _,by rw[aU,fA];omega,rfl,HN,HP2⟩
end Pn
namespace Pn
open Mf Ed
variable{A:Nat->Prop}{w w' W:zW}{db sb fb:Nat}{cap:Int}{cs:List Int}{D:List Kp}{q:Qn}
open Classical in
theorem eY.dropped(h:eY A w db sb fb cap cs D)(hin:∃k∈D,k.q=q):
  ∃w',(∀ty,(Builtin.delete_ #[103,115] ty #[.map (some fb),qv q]).run prog w=.ok (.tuple #[]) w')/\eY A w' db sb fb cap cs (D.filter fun k=>decide (k.q≠q))/\ai (fun b=>b=fb) w w':=by
 obtain⟨L,hm,he⟩:=h.map;obtain⟨k,hkD,hkq⟩:=hin;obtain⟨x,hx,e1,_⟩:=he.get.2 k hkD;have hxm:(qv q,x.2)∈L:=by rw[<-hkq,<-e1];exact hx
 obtain⟨kl,hkey⟩:=hm.keys _ hxm;obtain⟨w1,hrun,ht,hm1⟩:=hm.C6 pE underlying103 hkey (yD hm.apart hxm) 0;have tb:=iF ht;have e2:=tb.block db h.f0.lt h.ne;have hT:ai A w w1:=tb.mono (fun b _ e=>by rw[e];exact h.hf);exact⟨w1,fun ty=>hrun,⟨h.f0.of_block e2,h.f1.of_block e2,h.f2.of_block e2,fun j c hj=>(h.cn j c hj).of_block e2,⟨_,hm1,(he.filter q).turn hT⟩,h.ne,h.hd,h.hf⟩,tb⟩
end Pn
namespace Pn
open Mf Ed
variable{A:Nat->Prop}{w w' W:zW}{db sb fb:Nat}{cap:Int}{cs:List Int}{D:List Kp}{q:Qn}
theorem OI{T:List Rs}{i:Nat}{x:Rs}(h:T[i]?=some x):(T.flatMap jI)[i*4]?=some (zI ((x.2.1:Nat):Int))/\(T.flatMap jI)[i*4+1]?=some (tS x.2.2.1)/\(T.flatMap jI)[i*4+2]?=some (tS x.2.2.2)/\(T.flatMap jI)[i*4+3]?=some (zI ((x.1:Nat):Int)):=by
 obtain⟨hi,e⟩:=dB.1 h;have h0:=Ss.flat_get (enc:=jI) (k:=4) (fun _=>rfl) (by decide) T (i*4) (by omega);have h1:=Ss.flat_get (enc:=jI) (k:=4) (fun _=>rfl) (by decide) T (i*4+1) (by omega);have h2:=Ss.flat_get (enc:=jI) (k:=4) (fun _=>rfl) (by decide) T (i*4+2) (by omega);have h3:=Ss.flat_get (enc:=jI) (k:=4) (fun _=>rfl) (by decide) T (i*4+3) (by omega);rw[show i*4/4=i by omega,show i*4%4=0 by omega,bS T i hi,e] at h0;rw[show(i*4+1)/4=i by omega,show(i*4+1)%4=1 by omega,bS T i hi,e] at h1;rw[show(i*4+2)/4=i by omega,show(i*4+2)%4=2 by omega,bS T i hi,e] at h2;rw[show(i*4+3)/4=i by omega,show(i*4+3)%4=3 by omega,bS T i hi,e] at h3;exact⟨h0,h1,h2,h3⟩
theorem Ep{P:Program}{ops:Array Oper}{o:Oper}{a:Act}{w:zW}{K:Act->zW->Prop}{Q:Exit->Act->zW->Prop}{E:Prop}
  (hg:o.guard=none) (m:Operand) (t:TypeId) (hop:o.op=Op.call {callee:=Callee.builtin Builtin.len,args:=#[m],argTypes:=#[t]})
  (mb:Nat) (hm:a.eval m=.map (some mb)) (v:zV) (hrun:∀ty,(Builtin.len_ #[t] ty #[.map (some mb)]).run P w=.ok v w)
  (hK:K (a.put o.dst v) w):if Region.wanted o (yielded ops a.tmps)=true then Oper.wp P o a w K Q else E:=by
 have hw:Region.wanted o (yielded ops a.tmps)=true:=by simp[Region.wanted,hg]
 rw[aj hw];unfold Oper.wp;simp[execOp,hop,resolve,invoke,builtin,hm,hrun,Result.andThen];exact hK
theorem FW(w:zW)(h:eY A w db sb fb cap cs D)(hx:(D.length:Int)<=cap)(hc:cap<=9223372036854775807):
  zC 50 #[zP db] w fun e w'=>e=.returned (.tuple #[])/\zB w w':=by
 obtain⟨L,hM,hE⟩:=h.map
 have hlr:∀ty,(Builtin.len_ #[103] ty #[.map (some fb)]).run prog w.drew=.ok (zI ((D.length:Nat):Int)) w.drew:=fun ty=>by
  have h1:=(hM.of_block (w':=w.drew) rfl).len underlying103 ty;rw[hE.len] at h1;exact h1
 have c1:=h.f1.1;have c2:=h.f2.1;clear h hE hM;generalize D.length=n at*;go_enter func50,ntmps50;go_upto_region 0 with fail;have SQ:IntKind.i64.wrap ((n:Int)-cap)=(n:Int)-cap:=by simp[IntKind.wrap,IntKind.bits,IntKind.signed];omega
 go_cut [2] (fun s2 wx=>s2=zI ((n:Int)-cap)/\wx=w.drew)
 case first=>
  go_region_law (refine Ep rfl (.tmp 8) 103 rfl fb rfl _ hlr ?_)
  all_goals
   go_wp2_with fail
   go_meet
   exact⟨rfl,rfl⟩
 case rest=>
  obtain⟨h2,hwc⟩:=hcut;rw[h2,hwc];have hx2:(n:Int)-cap<=0:=by omega
  clear h2 hlr SQ hx hwc;go_wp2;refine aI (v:=.tuple #[]) (by simp[results,results50,go_sem]) rfl ?_;exact⟨rfl,(ae _ _).drew⟩
