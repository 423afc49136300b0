import Derived.Test.YtelmkfkgpnadnaaGreatDoorJPLA
import Derived.Test.YtelmkfkgpnadnaaGreatDoorJPML
import Derived.Test.YtelmkfkgpnadnaaGreatDoorJPMO
import Derived.Test.YtelmkfkgpnadnaaGreatDoorJPNC
import Derived.Test.YtelmkfkgpnadnaaGreatDoorJPNA
import Derived.Test.YtelmkfkgpnadnaaGreatDoorJPMM
import Derived.Test.YtelmkfkgpnadnaaGreatDoorJPMH
import Derived.Test.YtelmkfkgpnadnaaGreatDoorJED
set_option linter.all false
open Go.Proofs.Tryz
set_option maxRecDepth 100000
set_option maxHeartbeats 4000000
namespace Go.Proofs.YtelmkfkgpnadnaaGreatDoor
namespace Pn
open Mf
def eC(g:Qn→Nat):List Tie→Nat
 |[]=>0
 | .rd _ _::r=>eC g r
 | .ask q::r=>g q+eC g r
theorem ic(g:Qn→Nat):∀(a b:List Tie),eC g (a++b)=eC g a+eC g b
 |[],b=>by simp[eC]
 | .rd _ _::r,b=>ic g r b
 | .ask q::r,b=>by
  show g q+eC g (r++b)=g q+eC g r+eC g b;rw[ic g r b];omega
variable{S:Nat→Shf}{now:Nat}{D:List Kp}
def yz(S:Nat→Shf)(now m:Nat)(g:Qn→Nat)(F:Find):Prop:=∀D q k D' W,Inv S now D→rk q<m→q.kind≤4→F D q k D' W→D'.length≤D.length+g q
theorem D6{r:Nat}{F:Find}{g:Qn→Nat}(hF:kZ S now r F)(hC:yz S now r g F)(h:Inv S now D){c:Cm Fi}(hl:Cm.Low (fun q=>rk q<r∧q.kind≤4) c){D1:List Kp}{c1:Cm Fi}{ts:List Tie}{W:List Qn}(hp:Pre F (S now) D c D1 c1 ts W):D1.length≤D.length+eC g ts:=by
 induction hp with
 |start=>exact Nat.le_add_right _ _
 |rd _ ih=>rw[ic];omega
 |ask h0 hf ih=>
  have h1:=xD hF h hl h0;have hl2:=h1.low;cases hl2 with|ask _ _ hq hk=>
  have h2:=hC _ _ _ _ _ h1.inv hq.1 hq.2 hf;rw[ic];simp only[eC];omega
theorem yA{r ck:Nat}{F:Find}{g:Qn→Nat}(hF:kZ S now r F)(hC:yz S now r g F)(h:Inv S now D){ts:List Tie}{D1:List Kp}{W:List Qn}(hl:∀q,Tie.ask q∈ts→rk q<r∧q.kind≤4)(hp:Chk F (S now) ck D ts D1 W):D1.length≤D.length+eC g ts:=by
 induction hp with
 |start=>exact Nat.le_add_right _ _
 |rd _ _ ih=>
  have ih:=ih (fun q hq=>hl q (gI _ hq));rw[ic];omega
 | @ask D1 D2 q kk ts W W2 h0 hf _ ih=>
  have ih:=ih (fun q hq=>hl q (gI _ hq));have h1:=uq hF h (fun q hq=>hl q (gI _ hq)) h0;have hq:=hl q (by simp);have h2:=hC _ _ _ _ _ h1.inv hq.1 hq.2 hf;rw[ic];simp only[eC];omega
theorem Av{r ck:Nat}{F:Find}{g:Qn→Nat}(hF:kZ S now r F)(hC:yz S now r g F)(h:Inv S now D){ts:List Tie}{D1:List Kp}{W:List Qn}{b:Bool}(hl:∀q,Tie.ask q∈ts→rk q<r∧q.kind≤4)(hp:od F (S now) ck D ts D1 W b):D1.length≤D.length+eC g ts:=by
 cases hp with
 |yes h1=>exact yA hF hC h hl h1
 |rd e h1 _=>
  have h2:=yA hF hC h (fun q hq=>hl q (by rw[e];exact gI _ hq)) h1;rw[e,ic];omega
 | @ask D1 D2 q kk t1 t2 W W2 e h1 hf _=>
  have hl1:∀q,Tie.ask q∈t1→rk q<r∧q.kind≤4:=fun q hq=>hl q (by rw[e];exact gI _ hq)
  have h2:=yA hF hC h hl1 h1;have h3:=uq hF h hl1 h1;have hq:=hl q (by rw[e];simp);have h4:=hC _ _ _ _ _ h3.inv hq.1 hq.2 hf;rw[e,ic];simp only[eC];omega
theorem yB{F:Find}{m:Nat}{g:Qn→Nat}(hF:kZ S now m F)(hC:yz S now m g F)(hT:∀(s:Shf)(q:Qn),q.kind≤4→2*eC g (gY s q)+1≤g q):yz S now (m+1) g (Found F (S now) now):=by
 intro D q k D' W hI hr hkd hf;have hF0:kZ S now (rk q) F:=fun D q' k D' W h1 h2 h3 h4=>hF D q' k D' W h1 (by omega) h3 h4
 have hC0:yz S now (rk q) g F:=fun D q' k D' W h1 h2 h3 h4=>hC D q' k D' W h1 (by omega) h3 h4
 have lM:=sJ q
 have EM:∀k∈D,k.q=q→∀q',Tie.ask q'∈k.ties→rk q'<rk q∧q'.kind≤4:=fun k hk e q' hq'=>by
  rw[(hI.val k hk).2,e] at hq';exact Cm.mf _ lM _ hq'
 have cost:∀k∈D,k.q=q→2*eC g k.ties+1≤g q:=fun k hk e=>by
  rw[(hI.val k hk).2,e];exact hT _ q hkd
 cases hf with
 |there _ _ _=>omega
 | @held k D1 W hk hq _ _ h=>
  have h1:=Av hF0 hC0 hI (EM k hk hq) h;have h2:=cost k hk hq;refine aP (pU D1 _) ?_;omega
 | @anew k D1 D2 W W2 f ts hk hq _ _ _ h hp=>
  have h1:=Av hF0 hC0 hI (EM k hk hq) h;have h2:=cost k hk hq;obtain⟨i1,_⟩:=uu hF0 hI (EM k hk hq) h;have h3:=D6 hF0 hC0 i1 lM hp
  have ht:ts=gY (S now) q:=by
   unfold gY;rw[(xD hF0 i1 lM hp).ties];simp[Cm.ties]
  have h4:=hT (S now) q hkd;rw[←ht] at h4;refine aP (pU D2 _) ?_;omega
 | @first D2 W2 f ts _ _ hp=>
  have h3:=D6 hF0 hC0 hI lM hp
  have ht:ts=gY (S now) q:=by
   unfold gY;rw[(xD hF0 hI lM hp).ties];simp[Cm.ties]
  have h4:=hT (S now) q hkd;rw[←ht] at h4;refine aP (pU D2 _) ?_;omega
theorem D7{g:Qn→Nat}(hT:∀(s:Shf)(q:Qn),q.kind≤4→2*eC g (gY s q)+1≤g q):∀r,yz S now (r+1) g (fnd (S now) now r)
 |0=>yB (fun _ _ _ _ _ _ h _ _=>absurd h (dz _)) (fun _ _ _ _ _ _ h _ _=>absurd h (dz _)) hT
 |r+1=>yB (mg r) (D7 hT r) hT
end Pn
namespace Pn
open Mf
def gq(q:Qn):Nat:=if q.kind≤1 then 1 else if q.kind=2 then 4009 else if q.kind=3 then 489099 else 1459279
theorem iY(root:zA)(X:List Mo)(s:Shf)(o:Qn→Fi):∀(l ms:List Mo)(ps:List Pb),eC gq ((bj root X l ms ps).ties s o)≤l.length
 |[],ms,ps=>ag _
 |r::rest,ms,ps=>by
  unfold bj
  split
  ·exact Nat.le_succ_of_le (iY root X s o rest ms ps)
  ·show 1+eC gq ((match choose r (pd (o ⟨1,r.1,e0⟩)) X with | .inl m=>_ | .inr p=>_:Cm Fi).ties s o)≤_
   rw[bX];cases choose r (pd (o ⟨1,r.1,e0⟩)) X with
   |inl m=>have:=iY root X s o rest (ms++[m]) ps;simp only[];omega
   |inr p=>have:=iY root X s o rest ms (ps++[p]);simp only[];omega
theorem qJ(root:zA)(s:Shf)(o:Qn→Fi):∀(n:Nat)(l:List Mo)(i:Nat)(ps:List Pb),eC gq ((cJ root n l i ps).ties s o)≤n*4009
 |0,l,i,ps=>aK _
 |n+1,l,i,ps=>by
  cases h:l[i]? with
  |none=>
   rw[yo (n:=n+1) (root:=root) (i:=i) (ps:=ps) (wG.1 h)];exact aK _
  |some m=>
   rw[ym h];show 4009+eC gq ((jh root n i (ps++(cF (o ⟨2,m.1,m.2⟩)).2) (cz l (cF (o ⟨2,m.1,m.2⟩)).1)).ties s o)≤_;cases cz l (cF (o ⟨2,m.1,m.2⟩)).1 with
   |none=>show 4009+0≤_;omega
   |some l'=>
    have:=qJ root s o n l' (i+1) (ps++(cF (o ⟨2,m.1,m.2⟩)).2);show 4009+eC gq ((cJ root n l' (i+1) _).ties s o)≤_;omega
theorem qK(fin:List (List Mo)→Fi)(s:Shf)(o:Qn→Fi):∀(l:List Mo)(ws:List (List Mo)),eC gq ((eN fin l ws).ties s o)≤l.length*4009
 |[],_=>aK _
 |m::r,ws=>by
  have:=qK fin s o r (ws++[(cF (o ⟨2,m.1,m.2⟩)).1]);show 4009+eC gq ((eN fin r _).ties s o)≤_;rw[bX];omega
theorem Fw(s:Shf):(pg (orc (val s) ⟨3,e0,e0⟩)).1.length≤60:=by
 show(pg (val s ⟨3,e0,e0⟩).ess).1.length≤60;cases h:val s ⟨3,e0,e0⟩ with
 |list ms ps=>exact DR h
 |_=>exact aK _
theorem N8(s:Shf)(q:Qn)(h:q.kind≤4):2*eC gq (gY s q)+1≤gq q:=by
 unfold gY dh;by_cases h0:q.kind=0
 ·rw[ah h0];unfold gq;rw[ah (by omega)];exact ag _
 rw[af h0];by_cases h1:q.kind=1
 ·rw[ah h1];unfold gq;rw[ah (by omega)];exact ag _
 rw[af h1];by_cases h2:q.kind=2
 ·rw[ah h2]
  have e:gq q=4009:=by unfold gq;rw[af (by omega),ah h2]
  rw[e]
  have hk:eC gq ((gD (q.path,q.ver)).ties s (orc (val s)))≤2003+1:=by
   have hR:∀a b,(iF (orc (val s) ⟨0,a,b⟩)).2.R.length≤2001:=fun a b=>by
    show(iF (val s ⟨0,a,b⟩).ess).2.R.length≤2001;rw[rB s (aK 1)];exact yl (s (0,a,b))
   have hg:∀a b,gq ⟨0,a,b⟩=1:=fun _ _=>rfl
   unfold gD;simp only[Cm.ties,eC,hg]
   split
   ·show 1+(1+0)≤_;omega
   ·refine aP (Nat.add_le_add_left (Nat.add_le_add_left (aP (iY _ _ _ _ _ _ _) (hR _ _)) _) _) ?_
    omega
  omega
 rw[af h2];by_cases h3:q.kind=3
 ·rw[ah h3]
  have e:gq q=489099:=by unfold gq;rw[af (by omega),af h2,ah h3]
  rw[e]
  have hk:eC gq (gX.ties s (orc (val s)))≤61*4009:=by
   unfold gX;simp only[Cm.ties,eC]
   split
   ·exact aK _
   ·exact qJ _ _ _ 61 _ _ _
  omega
 rw[af h3];have e:gq q=1459279:=by unfold gq;rw[af (by omega),af h2,af h3]
 rw[e]
 have hk:eC gq ((uZ gO).ties s (orc (val s)))≤489099+60*4009:=by
  have h5:=qK (gO (pg (orc (val s) ⟨3,e0,e0⟩)).1) s (orc (val s)) (pg (orc (val s) ⟨3,e0,e0⟩)).1 [];have h6:=Fw s;show 489099+eC gq ((eN _ (pg (orc (val s) ⟨3,e0,e0⟩)).1 []).ties s (orc (val s)))≤_;omega
 omega
theorem vE{S:Nat→Shf}{now r:Nat}{D D':List Kp}{q:Qn}{k:Kp}{W:List Qn}(hI:Inv S now D)(hr:rk q≤r)(hq:q.kind≤4)(h:fnd (S now) now r D q k D' W):D'.length≤D.length+gq q:=
 D7 N8 r D q k D' W hI (mO hr) hq h
end Pn
section
open Go.RowKit
namespace Pn
open Mf Ed
variable{A:Nat→Prop}{S:Nat→Shf}{w w':zW}{db sb fb mb now:Nat}{cap:Int}{cs:List Int}{D D':List Kp}{L:List (zV×zV)}
theorem Eng.shrunk(h:Eng A S w db sb fb mb now cap cs D L)(hd:dG A w' db sb fb cap cs D')(hs:D'.Sublist D)(ht:aj (fun b=>b=fb) w w'):Eng A S w' db sb fb mb now cap cs D' L where
 desk:=hd
 shelf:=h.shelf.of_block (ht.block sb h.shelf.f0.lt (fun e=>h.ne.2.2.1 e.symm)) (ht.block mb h.shelf.map.lt (fun e=>h.ne.2.2.2.1 e.symm))
 on:=h.on
 inv:=h.inv.sub hs
 ml:=by
  obtain⟨m,hm⟩:=h.ml;exact⟨m,(ht.cell (a:=⟨0,0,none⟩) h.ml.pos (fun e=>h.ne.2.2.2.2.2 e.symm)).trans hm⟩
 len:=h.len
 hA:=fun b e=>bI (h.hA b e) ht.size
 ns:=h.ns
 ne:=h.ne
 ok:=fun k hk=>h.ok k (hs.subset hk)
 rt:=h.rt
 few:=h.few
end Pn
end
section
open Go.RowKit
namespace Pn
open Mf Ed
variable{A:Nat→Prop}{w w' W:zW}{db sb fb:Nat}{cap:Int}{cs:List Int}{D:List Kp}{L Lr:List (zV×zV)}
def yC(k:Kp):Rs:=(k.checked,k.q.kind,k.q.path,k.q.ver)
def dec:zV×zV→Rs
 |(.agg #[.int _ k,.string p,.string v],.agg #[_,_,_,.int _ c])=>(c.toNat,k.toNat,p,v)
 |_=>(0,0,e0,e0)
def LW(L:List (zV×zV)):Prop:=∀x∈L,∃(q:Qn)(T:TypeId)(u:zV)(ta:Option Addr)(tn tc:Nat)(ch ck:Nat),x=(qv q,.agg #[.iface T u,.slice ta tn tc,zI (ch:Nat),zI (ck:Nat)])
theorem LX{v:zV}:∀{f:Fi},fK A w v f→∃T u,v=.iface T u
 | .man _ _,⟨_,_,_,h,_⟩=>⟨_,_,h⟩
 | .idx _ _,⟨_,h,_⟩=>⟨_,_,h⟩
 | .wants _ _,⟨_,_,h,_⟩=>⟨_,_,h⟩
 | .list _ _,⟨_,_,h,_⟩=>⟨_,_,h⟩
 | .ord _ _,⟨_,_,h,_⟩=>⟨_,_,h⟩
theorem D8:∀{L:List (zV×zV)} {D:List Kp},dP A w L D→L.map dec=D.map yC∧LW L
 |[],[],_=>⟨rfl,fun x hx=>by simp at hx⟩
 |x::L,k::D,⟨h1,h2,h3⟩=>by
  obtain⟨fv,tv,e,hf,ht⟩:=h2;obtain⟨T,u,ef⟩:=LX hf;obtain⟨ta,tc,et⟩:=ht.len;have ih:=D8 h3;obtain⟨x1,x2⟩:=x;simp only at h1 e;rw[ef,et] at e;subst h1;subst e;refine⟨?_,fun y hy=>?_⟩
  ·rw[bH,bH,ih.1]
   rfl
  ·rcases aV.1 hy with hy|hy
   ·exact⟨k.q,T,u,ta,_,tc,k.changed,k.checked,hy⟩
   ·exact ih.2 y hy
 |[],_::_,h=>h.elim
 |_::_,[],h=>h.elim
theorem Fx{α:Type}{cf:α→α→Int}(hC:Pv.Cmp (fun _=>True) cf){R T:List α}(h:R.Perm T):Ss.aJ (Go.Proofs.ltOf cf) R=Ss.aJ (Go.Proofs.ltOf cf) T:=by
 have hW:Go.Sort.SWO (Go.Proofs.ltOf cf):=Pv.ni id hC;refine Ss.rX (lt:=Go.Proofs.ltOf cf) (tag:=fun _=>0) _ _ (((Ss.bY _).trans h).trans (Ss.bY _).symm) (List.Pairwise.imp (R:=fun a b=>Go.Proofs.ltOf cf b a=false) (fun {a b} h=>(Ss.dZ (lt:=Go.Proofs.ltOf cf) (tag:=fun _=>0) b a).2 ⟨h,Or.inr (ag _)⟩) (Ss.pF hW _)) (List.Pairwise.imp (R:=fun a b=>Go.Proofs.ltOf cf b a=false) (fun {a b} h=>(Ss.dZ (lt:=Go.Proofs.ltOf cf) (tag:=fun _=>0) b a).2 ⟨h,Or.inr (ag _)⟩) (Ss.pF hW _)) ?_;intro x _ y _ h1 h2;have h1:=((Ss.dZ _ _).1 h1).1;have h2:=((Ss.dZ _ _).1 h2).1;unfold Go.Proofs.ltOf at h1 h2;have h3:=hC.anti x y trivial trivial;refine hC.zero x y trivial trivial ?_;have h4:¬cf x y<0:=by simpa using h1
 have h5:¬cf y x<0:=by simpa using h2
 omega
section
variable{P:Program}(w:zW){ops:Array Oper}{rest:List Oper}{o:Oper}{a:Act}{Q:Exit→Act→zW→Prop}
theorem yD(hg:o.guard=none)(it:Operand)(hop:o.op=Op.next it false)(k:TypeId)(b r:Nat)(L Lr:List (zV×zV))(hL:LW L)
  (hit:a.eval it=zP r) (h:Mp.cM P k w b r L Lr)
  (hDone:Lr=[]→wpList P ops Q rest (a.put o.dst (.tuple #[.bool false])) w)
  (hMore:∀(qk:Nat)(qp qw:zA)(T:TypeId)(u:zV)(ta:Option Addr)(tn tc:Nat)(ch ck:Nat)(Lr':List (zV×zV))(w':zW),Lr.Perm ((.agg #[zI (qk:Nat),.string qp,.string qw],.agg #[.iface T u,.slice ta tn tc,zI (ch:Nat),zI (ck:Nat)])::Lr')→Mp.cM P k w' b r L Lr'→w.grownBy w' (some r)→w'.heap.size=w.heap.size→
   (Instr.entry (zP r)).run P w'=.ok (.tuple #[.agg #[zI (qk:Nat),.string qp,.string qw],.agg #[.iface T u,.slice ta tn tc,zI (ch:Nat),zI (ck:Nat)]]) w'→wpList P ops Q rest (a.put o.dst (.tuple #[.bool true,.agg #[zI (qk:Nat),.string qp,.string qw],.agg #[.iface T u,.slice ta tn tc,zI (ch:Nat),zI (ck:Nat)]])) w'):
  wpList P ops Q (o::rest) a w:=by
 refine wpList_plain hg fun K' hK'=>?_
 unfold Oper.wp;rcases h.next o.type with⟨h0,hrun⟩|⟨key,v,Lr',w',hm,hp,hrun,hrg,hgr,hsz,hen⟩
 ·simp[execOp,hop,hit,hrun,Result.andThen]
  exact hK' _ _ (hDone h0)
 ·obtain⟨q,T,u,ta,tn,tc,ch,ck,e⟩:=hL _ hm
  injection e with e1 e2;subst e1;subst e2;simp[execOp,hop,hit,hrun,Result.andThen];exact hK' _ _ (hMore q.kind q.path q.ver T u ta tn tc ch ck Lr' w' hp hrg hgr hsz hen)
end
end Pn
end
section
open Go.RowKit
namespace Pn
open Mf Ed
section
variable{P:Program}(w:zW){ops:Array Oper}{rest:List Oper}{o:Oper}{a:Act}{Q:Exit→Act→zW→Prop}
theorem zm(hg:o.guard=none)(m:Operand)(t:TypeId)(hop:o.op=.call {callee:=.builtin .len,args:=#[m],argTypes:=#[t]})(k e:TypeId)(ht:P.underlying t=some (.map k e))(b:Nat)(L:List (zV×zV))
  (hm:a.eval m=.map (some b)) (h:Mp.MapAt P k w b L) (hK:wpList P ops Q rest (a.put o.dst (zI ((L.length:Nat):Int))) w):wpList P ops Q (o::rest) a w:=by
 refine wpList_plain hg fun K' hK'=>?_
 have hr:=h.len ht o.type;unfold Oper.wp execOp;simp only[hop,resolve,invoke,builtin,Sem.run_bind,Sem.run_pure,Result.andThen_ok,List.map_toArray,bH,fQ,hm,hr];exact hK' _ _ hK
end
variable{A:Nat→Prop}{w w' W:zW}{db sb fb:Nat}{cap:Int}{cs:List Int}{D:List Kp}
theorem N9(n:Nat)(hn:n≤2000000000000):∃Z:Array zV,Z.size=n*4∧∀W:zW,(Instr.makeSlice 197 (zI 0) (zI (n:Nat))).run prog W=.ok (.slice (some ⟨W.heap.size,0,none⟩) 0 n) (W.alloc (.cells Z 203)):=by
 obtain⟨i,h1,h2,h3,h4⟩:=Bm.gM 203 (.agg #[zI 0,zE,zE,zI 0]) 4 48 (by kernel_rfl);refine⟨madeCells (Value.agg #[zI 0,zE,zE,zI 0]).cells (n*i.size),by rw[size_madeCells,h3],fun W=>?_⟩;have h:=run_make (P:=prog) W 197 203 i _ underlying197 h1 h2 .i64 .i64 0 (n:Nat) (Int.le_refl _) (by omega) (by rw[h4];omega) (by omega);simpa using h
theorem Qh(qk ck:Nat)(qp qw:zA)(u x y:zV):dec (.agg #[zI (qk:Nat),.string qp,.string qw],.agg #[x,y,u,zI (ck:Nat)])=(ck,qk,qp,qw):=rfl
theorem Fy(w:zW)(h:dG A w db sb fb cap cs D)(hm:Ml w)(hD:D.length≤2000000000000):
  zC 113 #[zP db] w fun e w'=>∃g c,e=.returned (.slice (some ⟨g,0,none⟩) D.length c)∧w'.ownsRow w.heap.size 203 4 (.slice (some ⟨g,0,none⟩) D.length c) D.length ((Ss.aJ (Go.Proofs.ltOf nU) (D.map yC)).flatMap iD)∧Below w.heap.size w w':=by
 obtain⟨i2,hi1,hi2,hi3,hi4⟩:=Bm.gM 203 (.agg #[zI 0,zE,zE,zI 0]) 4 48 (by kernel_rfl);have HI:Hid (prog.info? 203=some i2∧i2.zero=some (.agg #[zI 0,zE,zE,zI 0])∧i2.size=4∧i2.bytes=48):=⟨hi1,hi2,hi3,hi4⟩;clear hi1 hi2 hi3 hi4;obtain⟨L,hM,hE⟩:=h.map;obtain⟨hdec,Oy⟩:=D8 hE;have hlen:L.length=D.length:=hE.len;have c2:=h.f2.1;have hdb:=h.f2.lt;have HMl:Hid (Ml w):=hm;have HG:Hid (LW L):=Oy;have HDc:Hid (L.map dec=D.map yC):=hdec;have HLn:Hid (L.length=D.length):=hlen;rw[←hlen] at hD ⊢;obtain⟨Z,hZ,hmk⟩:=N9 L.length hD;have hb1:Below w.heap.size w (w.alloc (.cells Z 203)):=(ae _ _).alloc (ag _) _;have hM1:Mp.MapAt prog 201 (w.alloc (.cells Z 203)) fb L:=hM.of_block (hb1.block fb hM.lt);have c2b:(w.alloc (.cells Z 203)).cell? ⟨db,2,none⟩=some (.map (some fb)):=by rw[hb1.cell (p:=⟨db,2,none⟩) hdb];exact c2
 have HO1:Hid ((w.alloc (.cells Z 203)).ownsRow w.heap.size 203 4 (.slice (some ⟨w.heap.size,0,none⟩) 0 L.length) 0 []):=World.ownsRow_made w Z L.length (ag _) (by unfold maxLen;omega) hZ;have HB1:Hid (Below w.heap.size w (w.alloc (.cells Z 203))∧(w.alloc (.cells Z 203)).heap.size=w.heap.size+1):=⟨hb1,by simp⟩;have hfb:=hM.lt;clear h hE hdec Oy hlen hm hZ hb1;go_enter func113,ntmps113
 go_wp2_with (first
  |(at_len;refine zm _ rfl _ 192 rfl 201 259 underlying192 fb L rfl hM ?_)
  |(at_range;refine Ed.nT _ rfl _ 192 rfl 201 259 underlying192 fb L rfl hM1 ?_;intro w0 hrg0 hg0 hs0)
  |go_in)
 go_frame
 rw[HB1.out.2];have Rj:Mp.cM prog 201 w0 fb (w.heap.size+1) L L:=by rw[←HB1.out.2];exact hrg0
 have HT0:Hid (aj (fun _=>False) (w.alloc (.cells Z 203)) w0):=(aj.refl _ _).grown hg0 (fun b _ e=>by cases e);have HV0:Hid (Mp.cM prog 201 w0 fb (w.heap.size+1) L L∧w0.ownsRow w.heap.size 203 4 (.slice (some ⟨w.heap.size,0,none⟩) 0 L.length) 0 []∧w.heap.size≠w.heap.size+1∧Below w.heap.size w w0):=⟨Rj,ar HO1.out (fun b e=>HT0.out.block b (HO1.out.lt b e).2 (fun e=>e)),by omega,bh HB1.out.1 HT0.out (fun _ e=>e.elim)⟩;clear hM hM1 c2 c2b hrg0 hg0 hs0 hmk Rj HT0 HO1 HB1;go_loopg [3] L.length (fun gg s3 wr=>∃(Lr:List (zV×zV))(R:List Rs)(g c:Nat),Lr.length≤gg∧R.length+Lr.length=L.length∧s3=.slice (some ⟨g,0,none⟩) R.length c∧Hid (Mp.cM prog 201 wr fb (w.heap.size+1) L Lr∧wr.ownsRow w.heap.size 203 4 (.slice (some ⟨g,0,none⟩) R.length c) R.length (R.flatMap iD)∧g≠w.heap.size+1∧Below w.heap.size w wr)∧Hid ((R++Lr.map dec).Perm (L.map dec)))
 case atStart=>exact⟨L,[],w.heap.size,L.length,ag _,by simp,rfl,HV0,kP _⟩
 case round=>
  obtain⟨Lr,R,g,c,hlen,hRL,rfl,HV,HP⟩:=hrel;clear HV0
  go_wp2_with (first
   |(at_next;refine yD _ rfl _ rfl 201 fb (w.heap.size+1) L Lr HG.out rfl HV.out.1 ?_ ?_)
   |go_in)
  ·intro h0
   have hgl:=HV.out.2.1.lt g rfl
   have HR:Hid (R.length=L.length∧Ss.aJ (Go.Proofs.ltOf nU) R=Ss.aJ (Go.Proofs.ltOf nU) (D.map yC)):=by
    have h1:=HP.out;rw[h0,fQ,gV,HDc.out] at h1;refine⟨?_,Fx Fs h1⟩;rw[h0] at hRL;simpa using hRL
   have kS:=N6 w.heap.size 203 g c R wr (HMl.out.below HV.out.2.2.2) (by omega) HV.out.2.1 (by omega);clear h0 hRL hlen;have hwr:=HV.out.2.2.2.size
   go_wp2_with (go_at_call 156;fail)
   go_at_call 156;refine kS.mono ?_;rintro e w9 ⟨rfl,ho9,ht9⟩;have hR:=HR.out.1
   have HF:Hid (w9.ownsRow w.heap.size 203 4 (.slice (some ⟨g,0,none⟩) L.length c) L.length ((Ss.aJ (Go.Proofs.ltOf nU) (D.map yC)).flatMap iD)∧Below w.heap.size w w9):=by
    rw[hR,HR.out.2] at ho9;exact⟨ho9,bh HV.out.2.2.2 ht9 (fun b e=>by omega)⟩
   clear ho9 ht9 kS;rw[hR];clear hR;go_wp2;go_ret;exact⟨g,c,rfl,HF.out.1,HF.out.2⟩
  ·intro qk qp qw T u ta tn tc ch ck Lr' w1 hp hrg hgr hsz hen
   have hl1:=hp.length_eq;rw[bX] at hl1
   have HP2:Hid (((R++[(ck,qk,qp,qw)])++Lr'.map dec).Perm (L.map dec)):=by
    have h1:=(hp.map dec).symm;rw[bH,Qh] at h1;rw[eP];exact((List.Perm.append_left R h1).trans HP.out)
   have hgl:=HV.out.2.1.lt g rfl;have hTg:aj (fun b=>b=w.heap.size+1) wr w1:=(aj.refl _ _).grown hgr (fun b _ e=>(cY e).symm)
   have HV1:Hid (Mp.cM prog 201 w1 fb (w.heap.size+1) L Lr'∧w1.ownsRow w.heap.size 203 4 (.slice (some ⟨g,0,none⟩) R.length c) R.length (R.flatMap iD)∧g≠w.heap.size+1∧Below w.heap.size w w1):=by
    refine⟨hrg,ar HV.out.2.1 (fun b e=>hTg.block b (HV.out.2.1.lt b e).2 (fun e2=>?_)),HV.out.2.2.1,bh HV.out.2.2.2 hTg (fun b e=>by omega)⟩;have e3:g=b:=by simpa[Value.ownBlock] using e
    exact HV.out.2.2.1 (by omega)
   clear hp hrg hgr hTg HV HP hsz;go_upto_region 5 with fail;have hb2:Below w1.heap.size w1 ((w1.alloc (.cells #[zI (qk:Nat),.string qp,.string qw] 201)).alloc (.cells #[.iface T u,.slice ta tn tc,zI (ch:Nat),zI (ck:Nat)] 259)):=((ae _ _).alloc (ag _) _).alloc (by simp) _;have HV2:Hid (Mp.cM prog 201 ((w1.alloc (.cells #[zI (qk:Nat),.string qp,.string qw] 201)).alloc (.cells #[.iface T u,.slice ta tn tc,zI (ch:Nat),zI (ck:Nat)] 259)) fb (w.heap.size+1) L Lr'∧((w1.alloc (.cells #[zI (qk:Nat),.string qp,.string qw] 201)).alloc (.cells #[.iface T u,.slice ta tn tc,zI (ch:Nat),zI (ck:Nat)] 259)).ownsRow w.heap.size 203 4 (.slice (some ⟨g,0,none⟩) R.length c) R.length (R.flatMap iD)∧g≠w.heap.size+1∧Below w.heap.size w ((w1.alloc (.cells #[zI (qk:Nat),.string qp,.string qw] 201)).alloc (.cells #[.iface T u,.slice ta tn tc,zI (ch:Nat),zI (ck:Nat)] 259))):=⟨HV1.out.1.of_block (hb2.block _ HV1.out.1.owns.lt) (hb2.block _ HV1.out.1.lt),ar HV1.out.2.1 (fun b e=>hb2.block b (HV1.out.2.1.lt b e).2),HV1.out.2.2.1,HV1.out.2.2.2.trans (hb2.mono HV1.out.2.2.2.size)⟩
   have HX4:Hid (((w1.alloc (.cells #[zI (qk:Nat),.string qp,.string qw] 201)).alloc (.cells #[.iface T u,.slice ta tn tc,zI (ch:Nat),zI (ck:Nat)] 259)).heap[w1.heap.size]?=some (.cells #[zI (qk:Nat),.string qp,.string qw] 201)∧((w1.alloc (.cells #[zI (qk:Nat),.string qp,.string qw] 201)).alloc (.cells #[.iface T u,.slice ta tn tc,zI (ch:Nat),zI (ck:Nat)] 259)).heap[w1.heap.size+1]?=some (.cells #[.iface T u,.slice ta tn tc,zI (ch:Nat),zI (ck:Nat)] 259)):=⟨(aG _ _ _ (by simp)).trans (aD _ _),ez w1 _ _⟩;clear hb2 hen HV1;generalize (w1.alloc (.cells #[zI (qk:Nat),.string qp,.string qw] 201)).alloc (.cells #[.iface T u,.slice ta tn tc,zI (ch:Nat),zI (ck:Nat)] 259)=W2 at*;generalize w1.heap.size=b4 at*;obtain⟨⟨c0,_⟩,⟨c1,_⟩,⟨c2,_⟩⟩:=fd3 HX4.out.1;obtain⟨d0,d1,d2,d3⟩:=I4 HX4.out.2;obtain⟨RX,hRX⟩:∃RX,RX=R.flatMap iD:=⟨_,rfl⟩;have HRX:Hid (RX=R.flatMap iD):=hRX;rw[←hRX] at HV2;clear hRX
   have hnw:∀j v,([zI (qk:Nat),.string qp,.string qw,zI (ck:Nat)]:List zV)[j]?=some v→(W2.alloc (.cells #[zI (qk:Nat),.string qp,.string qw,zI (ck:Nat)] 203)).cell? ((⟨W2.heap.size,0,none⟩:Addr).add j)=some v:=fun j v hj=>by
    obtain⟨g0,g1,g2,g3⟩:=I4 (aD W2 (.cells #[zI (qk:Nat),.string qp,.string qw,zI (ck:Nat)] 203));rw[addr_add,dX];rcases j with _|_|_|_|j
    ·injection hj with hj;rw[←hj];exact g0
    ·injection hj with hj;rw[←hj];exact g1
    ·injection hj with hj;rw[←hj];exact g2
    ·injection hj with hj;rw[←hj];exact g3
    ·simp at hj
   have SE:(W2.alloc (.cells #[zI (qk:Nat),.string qp,.string qw,zI (ck:Nat)] 203)).heap.size=W2.heap.size+1:=by simp
   have hw2:=HV2.out.2.2.2.size;have hrl:=HV2.out.1.lt
   go_wp2_with (at_builtin;refine dU _ rfl _ _ 197 rfl w.heap.size 203 i2 (.agg #[zI 0,zE,zE,zI 0]) 4 48 underlying197 HI.out.1 HI.out.2.1 HI.out.2.2.1 HI.out.2.2.2 rfl (by decide) (.slice (some ⟨g,0,none⟩) R.length c) R.length RX rfl (HV2.out.2.1.alloc _) ⟨W2.heap.size,0,none⟩ 1 1 [zI (qk:Nat),.string qp,.string qw,zI (ck:Nat)] rfl rfl hnw ?_ ?_ ?_ ?_ ?_)
   all_goals first
    |exact⟨rfl,rfl,rfl,rfl⟩
    |(show ∀v∈([zI (qk:Nat),.string qp,.string qw,zI (ck:Nat)]:List zV),v.oneCell'=true;intro v hv;simp at hv;rcases hv with rfl|rfl|rfl|rfl<;>rfl)
    |(show R.length+1≤maxLen;unfold maxLen;omega)
    |(show(R.length+1)*48≤140737488355328;omega)
    |(show w.heap.size≤(W2.alloc _).heap.size;rw[SE];omega)
    |(show w.heap.size≤W2.heap.size+1;omega)
    |skip
   intro lv' w7 hown' hgrow _ hloc;obtain⟨g1,c1',elv⟩:=dL hown' (by omega);subst elv
   have HN:Hid (Mp.cM prog 201 w7 fb (w.heap.size+1) L Lr'∧w7.ownsRow w.heap.size 203 4 (.slice (some ⟨g1,0,none⟩) (R++[(ck,qk,qp,qw)]).length c1') (R++[(ck,qk,qp,qw)]).length ((R++[(ck,qk,qp,qw)]).flatMap iD)∧g1≠w.heap.size+1∧Below w.heap.size w w7):=by
    have hT:aj (fun b=>b=g) W2 w7:=((aj.refl (fun b=>b=g) W2).alloc _).grown hgrow (fun b _ e=>(cY (show some g=some b from e)).symm);have yY:=HV2.out.2.1.lt g rfl;refine⟨HV2.out.1.of_block (hT.block fb HV2.out.1.owns.lt (fun e=>by omega)) (hT.block _ hrl (fun e=>HV2.out.2.2.1 e.symm)),?_,fun e=>?_,bh HV2.out.2.2.2 hT (fun b e=>by omega)⟩
    ·rw[bg,fc,AR,←HRX.out]
     exact hown'
    ·rcases hloc with e2|e2
     ·have e3:g1=g:=by simpa[Value.ownBlock] using e2
      exact HV2.out.2.2.1 (e3.symm.trans e)
     ·have e3:g1=W2.heap.size+1:=by simpa[Value.ownBlock] using e2
      omega
   clear hown' hgrow hloc hnw c0 c1 c2 d0 d1 d2 d3 HV2 HX4;rw[←fc (a:=((ck,qk,qp,qw):Rs)),←bg];go_wp2;go_roundg Lr'.length
   case measure=>omega
   case rel=>exact⟨Lr',R++[(ck,qk,qp,qw)],g1,c1',ag _,by rw[bg,fc];omega,rfl,HN,HP2⟩
end Pn
end
section
open Go.RowKit
namespace Pn
open Mf Ed
variable{A:Nat→Prop}{w w' W:zW}{db sb fb:Nat}{cap:Int}{cs:List Int}{D:List Kp}{q:Qn}
open Classical in
theorem dG.dropped(h:dG A w db sb fb cap cs D)(hin:∃k∈D,k.q=q):
  ∃w',(∀ty,(Builtin.delete_ #[192,201] ty #[.map (some fb),qv q]).run prog w=.ok (.tuple #[]) w')∧dG A w' db sb fb cap cs (D.filter fun k=>decide (k.q≠q))∧aj (fun b=>b=fb) w w':=by
 obtain⟨L,hm,he⟩:=h.map;obtain⟨k,hkD,hkq⟩:=hin;obtain⟨x,hx,e1,_⟩:=he.get.2 k hkD;have hxm:(qv q,x.2)∈L:=by rw[←hkq,←e1];exact hx
 obtain⟨kl,hkey⟩:=hm.keys _ hxm;obtain⟨w1,hrun,ht,hm1⟩:=hm.CY pC underlying192 hkey (yb hm.apart hxm) 0;have tb:=iy ht;have e2:=tb.block db h.f0.lt h.ne;have hT:aj A w w1:=tb.mono (fun b _ e=>by rw[e];exact h.hf);exact⟨w1,fun ty=>hrun,⟨h.f0.of_block e2,h.f1.of_block e2,h.f2.of_block e2,fun j c hj=>(h.cn j c hj).of_block e2,⟨_,hm1,(he.filter q).turn hT⟩,h.ne,h.hd,h.hf⟩,tb⟩
def qOf(r:Rs):Qn:=⟨r.2.1,r.2.2.1,r.2.2.2⟩
theorem dG.apart(h:dG A w db sb fb cap cs D):D.Pairwise (fun a b=>a.q≠b.q):=by
 obtain⟨L,hm,he⟩:=h.map;have hp:=hm.apart;clear hm h
 induction L generalizing D with
 |nil=>cases D with
  |nil=>exact List.Pairwise.nil
  |cons k D=>exact he.elim
 |cons x L ih=>cases D with
  |nil=>exact he.elim
  |cons k D=>
   rw[fB] at hp ⊢;refine⟨fun b hb e=>?_,ih he.2.2 hp.2⟩;obtain⟨y,hy,e1,_⟩:=(dP.get he.2.2).2 b hb;exact hp.1 y hy (by rw[he.1,e1,e])
open Classical in
noncomputable def iG(D:List Kp)(T:List Rs):List Kp:=D.filter fun k=>decide (k.q∉T.map qOf)
open Classical in
theorem left_step{T:List Rs}{x:Rs}:(iG D T).filter (fun k=>decide (k.q≠qOf x))=iG D (T++[x]):=by
 unfold iG;rw[List.filter_filter];refine List.filter_congr (fun k _=>?_);rw[eQ];by_cases h1:k.q∈T.map qOf<;>by_cases h2:k.q=qOf x<;>simp[h1,h2]
theorem D9:iG D []=D:=by
 unfold iG;exact pD (fun k _=>by simp)
open Classical in
theorem Ea{T:List Rs}{j:Nat}{x:Rs}(hp:T.Perm (D.map yC))(hD:D.Pairwise (fun a b=>a.q≠b.q))(hx:T[j]?=some x):∃k∈iG D (T.take j),k.q=qOf x:=by
 have hxm:x∈D.map yC:=hp.mem_iff.1 (jN hx);obtain⟨k,hk,e⟩:=bD.1 hxm;refine⟨k,?_,by rw[←e];rfl⟩
 have hTp:(T.map qOf).Nodup:=by
  have h1:(T.map qOf).Perm (D.map Kp.q):=by
   have h2:=hp.map qOf;rw[ij] at h2;exact h2
  refine(h1.nodup_iff).2 ?_;unfold List.Nodup;rw[jC];exact hD
 unfold iG;refine List.mem_filter.2 ⟨hk,?_⟩;have hkq:k.q=qOf x:=by rw[←e];rfl
 rw[hkq];refine cT (fun hm=>?_);obtain⟨hj,ej⟩:=cq.1 hx;rw[List.map_take] at hm;obtain⟨i,hi,ei⟩:=oz hm;rw[List.getElem_take] at ei;have hi2:i<j:=by rw[jP] at hi;omega
 have hlen:(T.map qOf).length=T.length:=bE _;have e3:(T.map qOf)[j]'(by rw[hlen];exact hj)=qOf x:=by rw[jR,ej]
 have:=(fA.1 hTp) i j (by rw[hlen];omega) (by rw[hlen];exact hj) hi2;exact this (by rw[e3];exact ei)
open Classical in
theorem Eb{T:List Rs}(hp:T.Perm (D.map yC))(hD:D.Pairwise (fun a b=>a.q≠b.q)):∀j,j≤T.length→(iG D (T.take j)).length+j≤D.length
 |0,_=>by rw[List.take_zero,D9];omega
 |j+1,hj=>by
  have hj2:j<T.length:=by omega
  have ih:=Eb hp hD j (by omega);have hx:T[j]?=some T[j]:=aO hj2;obtain⟨k,hk,ek⟩:=Ea hp hD hx;rw[oo hj2,←left_step]
  have h1:((iG D (T.take j)).filter (fun k=>decide (k.q≠qOf T[j]))).length<(iG D (T.take j)).length:=by
   have h2:=filter_lt (p:=fun _=>true) (q:=fun k:Kp=>decide (k.q≠qOf T[j])) (iG D (T.take j)) (fun _ _ _=>rfl) ⟨k,hk,rfl,by simp[ek]⟩
   rwa [List.filter_eq_self.2 (fun _ _=>rfl)] at h2
  omega
end Pn
end
section
open Go.RowKit
namespace Pn
open Mf Ed
variable{A:Nat→Prop}{w w' W:zW}{db sb fb:Nat}{cap:Int}{cs:List Int}{D:List Kp}{q:Qn}
theorem Oa{T:List Rs}{i:Nat}{x:Rs}(h:T[i]?=some x):(T.flatMap iD)[i*4]?=some (zI ((x.2.1:Nat):Int))∧(T.flatMap iD)[i*4+1]?=some (.string x.2.2.1)∧(T.flatMap iD)[i*4+2]?=some (.string x.2.2.2)∧(T.flatMap iD)[i*4+3]?=some (zI ((x.1:Nat):Int)):=by
 obtain⟨hi,e⟩:=cq.1 h;have h0:=Ss.flat_get (enc:=iD) (k:=4) (fun _=>rfl) (by decide) T (i*4) (by omega);have h1:=Ss.flat_get (enc:=iD) (k:=4) (fun _=>rfl) (by decide) T (i*4+1) (by omega);have h2:=Ss.flat_get (enc:=iD) (k:=4) (fun _=>rfl) (by decide) T (i*4+2) (by omega);have h3:=Ss.flat_get (enc:=iD) (k:=4) (fun _=>rfl) (by decide) T (i*4+3) (by omega);rw[show i*4/4=i by omega,show i*4%4=0 by omega,bC T i hi,e] at h0;rw[show(i*4+1)/4=i by omega,show(i*4+1)%4=1 by omega,bC T i hi,e] at h1;rw[show(i*4+2)/4=i by omega,show(i*4+2)%4=2 by omega,bC T i hi,e] at h2;rw[show(i*4+3)/4=i by omega,show(i*4+3)%4=3 by omega,bC T i hi,e] at h3;exact⟨h0,h1,h2,h3⟩
theorem Ec{P:Program}{ops:Array Oper}{o:Oper}{a:Act}{w:zW}{K:Act→zW→Prop}{Q:Exit→Act→zW→Prop}{E:Prop}
  (hg:o.guard=none) (m:Operand) (t:TypeId) (hop:o.op=Op.call {callee:=Callee.builtin Builtin.len,args:=#[m],argTypes:=#[t]})
  (mb:Nat) (hm:a.eval m=.map (some mb)) (v:zV) (hrun:∀ty,(Builtin.len_ #[t] ty #[.map (some mb)]).run P w=.ok v w)
  (hK:K (a.put o.dst v) w):if Region.wanted o (yielded ops a.tmps)=true then Oper.wp P o a w K Q else E:=by
 have hw:Region.wanted o (yielded ops a.tmps)=true:=by simp[Region.wanted,hg]
 rw[ah hw];unfold Oper.wp;simp[execOp,hop,resolve,invoke,builtin,hm,hrun,Result.andThen];exact hK
theorem LY(D:List Kp)(T:List Rs):(iG D T).Sublist D:=List.filter_sublist
theorem Fz(w:zW)(h:dG A w db sb fb cap cs D)(hm:Ml w)(hD:D.length≤2000000000000)(hc:0≤cap∧cap≤9223372036854775807):
  zC 104 #[zP db] w fun e w'=>e=.returned (.tuple #[])∧∃D',dG A w' db sb fb cap cs D'∧(D'.Sublist D∧(D'.length:Int)≤cap∧((D.length:Int)≤cap→D'=D))∧aj (fun b=>b=fb) w w':=by
 have HK:Hid (dG A w db sb fb cap cs D):=h;have HMl:Hid (Ml w):=hm;obtain⟨L,hM,hE⟩:=h.map
 have hlr:∀ty,(Builtin.len_ #[192] ty #[.map (some fb)]).run prog w.drew=.ok (zI ((D.length:Nat):Int)) w.drew:=fun ty=>by
  have h1:=(hM.of_block (w':=w.drew) rfl).len underlying192 ty;rw[hE.len] at h1;exact h1
 have c1:=h.f1.1;have c2:=h.f2.1;have HAp:Hid (D.Pairwise (fun a b=>a.q≠b.q)):=h.apart;have hdl:=h.f0.lt;clear h hm hE hM;generalize hn:D.length=n at*;have HN:Hid (D.length=n):=hn;clear hn;obtain⟨T,hT⟩:∃T,T=Ss.aJ (Go.Proofs.ltOf nU) (D.map yC):=⟨_,rfl⟩
 have HTp:Hid (T.Perm (D.map yC)∧T.length=n):=by
  rw[hT];exact⟨Ss.bY _,by rw[Ss.df,bE];exact HN.out⟩
 have HTe:Hid (T=Ss.aJ (Go.Proofs.ltOf nU) (D.map yC)):=hT;clear hT;go_enter func104,ntmps104;go_upto_region 0 with fail;have Rk:IntKind.i64.wrap ((n:Int)-cap)=(n:Int)-cap:=by simp[IntKind.wrap,IntKind.bits,IntKind.signed];omega
 go_cut [2] (fun s2 wx=>s2=zI ((n:Int)-cap)∧wx=w.drew)
 case first=>
  go_region_law (refine Ec rfl (.tmp 8) 192 rfl fb rfl _ hlr ?_)
  all_goals
   go_wp2_with fail
   go_meet
   exact⟨rfl,rfl⟩
 case rest=>
  obtain⟨h2,hwc⟩:=hcut;rw[h2];subst hwc;clear h2 hlr Rk;have hb3:Below w.heap.size w w.drew:=(ae _ _).drew;have HK3:Hid (dG A w.drew db sb fb cap cs D∧aj (fun b=>b=fb) w w.drew):=⟨HK.out.below hb3,aj.of_below hb3⟩;have TF:db<w.drew.heap.size:=hdl;have HMl3:Hid (Ml w.drew):=HMl.out.below hb3;have kT:=Fy w.drew HK3.out.1 HMl3.out (by rw[HN.out];exact hD);rw[←HTe.out,HN.out] at kT;clear c1 c2 hb3;generalize w.drew=w3 at*;by_cases hx:(n:Int)≤cap
  ·have hx2:(n:Int)-cap≤0:=by omega
   go_wp2;refine aI (v:=.tuple #[]) (by simp[results,results104,go_sem]) rfl ?_;exact⟨rfl,D,HK3.out.1,⟨List.Sublist.refl _,by rw[HN.out];exact hx,fun _=>rfl⟩,HK3.out.2⟩
  ·obtain⟨m,hm⟩:∃m:Nat,(m:Int)=(n:Int)-cap:=⟨((n:Int)-cap).toNat,by omega⟩
   rw[←hm];have hm0:0<m∧m≤n:=by omega
   have HM:Hid ((m:Int)=(n:Int)-cap):=hm;clear hm;have hmi:¬((m:Int)≤0):=by omega
   go_wp2_with (go_at_call 113;fail)
   go_at_call 113;refine kT.mono ?_;rintro e w4 ⟨g,c,rfl,ho4,hb4⟩
   have hcap:n≤c:=by
    rcases ho4.2 with⟨e,_⟩|⟨g',c',cur,e,_,_,hle,_⟩
    ·cases e
    ·injection e with _ _ e3
     rw[e3];exact hle
   have hgl:=ho4.lt g rfl;have HV0:Hid (dG A w4 db sb fb cap cs (iG D (T.take 0))∧w4.ownsRow w3.heap.size 203 4 (.slice (some ⟨g,0,none⟩) n c) n (T.flatMap iD)∧aj (fun b=>b=fb) w w4):=⟨by rw[List.take_zero,D9];exact HK3.out.1.below hb4,ho4,HK3.out.2.more hb4⟩;clear ho4 hb4 kT;have hmc:(m:Int)≤(c:Int):=by omega
   go_wp2;go_loopg [22] m (fun gg s wr=>∃j:Nat,j≤m∧m-j≤gg∧s=zI j∧Hid (dG A wr db sb fb cap cs (iG D (T.take j))∧wr.ownsRow w3.heap.size 203 4 (.slice (some ⟨g,0,none⟩) n c) n (T.flatMap iD)∧aj (fun b=>b=fb) w wr))
   case atStart=>exact⟨0,by omega,by omega,rfl,HV0⟩
   case round=>
    obtain⟨j,hj,hg,rfl,HV⟩:=hrel;clear HV0;by_cases hjm:j<m
    ·have hjl:((j:Nat):Int)<(m:Int):=by omega
     have hjT:j<T.length:=by rw[HTp.out.2];omega
     have hx:T[j]?=some T[j]:=aO hjT;obtain⟨y0,y1,y2,y3⟩:=Oa hx;have x0:wr.cell? ⟨g,j*4,none⟩=some (zI ((T[j].2.1:Nat):Int)):=by rw[HV.out.2.1.cellAt (j*4) (by omega)];exact y0
     have x1:wr.cell? ⟨g,j*4+1,none⟩=some (.string T[j].2.2.1):=by rw[HV.out.2.1.cellAt (j*4+1) (by omega)];exact y1
     have x2:wr.cell? ⟨g,j*4+2,none⟩=some (.string T[j].2.2.2):=by rw[HV.out.2.1.cellAt (j*4+2) (by omega)];exact y2
     have x3:wr.cell? ⟨g,j*4+3,none⟩=some (zI ((T[j].1:Nat):Int)):=by rw[HV.out.2.1.cellAt (j*4+3) (by omega)];exact y3
     have HX:Hid (T[j]?=some T[j]):=hx;clear hx y0 y1 y2 y3;generalize T[j]=y at*;obtain⟨qn,qk,qp,qw⟩:=y;simp only at x0 x1 x2 x3;go_upto_region 5 with fail;clear x0 x1 x2 x3;have hb5:Below wr.heap.size wr (wr.alloc (.cells #[zI ((qk:Nat):Int),.string qp,.string qw,zI ((qn:Nat):Int)] 203)):=(ae _ _).alloc (ag _) _;have HV5:Hid ((dG A (wr.alloc (.cells #[zI ((qk:Nat):Int),.string qp,.string qw,zI ((qn:Nat):Int)] 203)) db sb fb cap cs (iG D (T.take j))∧(wr.alloc (.cells #[zI ((qk:Nat):Int),.string qp,.string qw,zI ((qn:Nat):Int)] 203)).ownsRow w3.heap.size 203 4 (.slice (some ⟨g,0,none⟩) n c) n (T.flatMap iD)∧aj (fun b=>b=fb) w (wr.alloc (.cells #[zI ((qk:Nat):Int),.string qp,.string qw,zI ((qn:Nat):Int)] 203)))∧(wr.alloc (.cells #[zI ((qk:Nat):Int),.string qp,.string qw,zI ((qn:Nat):Int)] 203)).heap[wr.heap.size]?=some (.cells #[zI ((qk:Nat):Int),.string qp,.string qw,zI ((qn:Nat):Int)] 203)):=⟨⟨HV.out.1.below hb5,ar HV.out.2.1 (fun b e=>hb5.block b (HV.out.2.1.lt b e).2),HV.out.2.2.more hb5⟩,aD _ _⟩;clear hb5 HV;generalize wr.alloc (.cells #[zI ((qk:Nat):Int),.string qp,.string qw,zI ((qn:Nat):Int)] 203)=W5 at*;generalize wr.heap.size=b4 at*;obtain⟨d0,d1,d2,d3⟩:=I4 HV5.out.2;have c2:=HV5.out.1.1.f2.1;obtain⟨w7,hrun,hd7,ht7⟩:=(HV5.out.1.1.below ((ae _ _).drew)).dropped (Ea HTp.out.1 HAp.out HX.out)
     have Oz:∀ty,(Builtin.delete_ #[192,201] ty #[.map (some fb),.agg #[zI ((qk:Nat):Int),.string qp,.string qw]]).run prog W5.drew=.ok (.tuple #[]) w7:=hrun
     have HN7:Hid (dG A w7 db sb fb cap cs (iG D (T.take (j+1)))∧w7.ownsRow w3.heap.size 203 4 (.slice (some ⟨g,0,none⟩) n c) n (T.flatMap iD)∧aj (fun b=>b=fb) w w7):=by
      have hTu:aj (fun b=>b=fb) W5 w7:=(aj.of_below ((ae _ _).drew)).trans ht7 (fun _ _ e=>e) (fun _ _ e=>e);refine⟨?_,ar HV5.out.1.2.1 (fun b e=>hTu.block b (HV5.out.1.2.1.lt b e).2 (fun e2=>?_)),HV5.out.1.2.2.trans hTu (fun _ _ e=>e) (fun _ _ e=>e)⟩
      ·obtain⟨SF,ej⟩:=cq.1 HX.out
       rw[oo SF,ej,←left_step];exact hd7
      ·have h1:=(HV5.out.1.2.1.lt b e).1
       have h2:=HK3.out.1.map;obtain⟨L2,hM2,_⟩:=h2;have:=hM2.lt;omega
     clear hrun hd7 ht7 HV5
     go_region_law (refine px rfl (.tmp 29) (.tmp 31) 192 201 rfl fb (.agg #[zI ((qk:Nat):Int),.string qp,.string qw]) rfl rfl w7 Oz ?_)
     all_goals
      clear Oz d0 d1 d2 d3 c2;go_wp2;go_roundg (m-(j+1))
      case measure=>omega
      case rel=>exact⟨j+1,by omega,by omega,by go_num,HN7⟩
    ·have hjl:(((j:Nat):Int)<(m:Int))=False:=by simp;omega
     have hje:m=j:=by omega
     subst hje
     have HL:Hid (((iG D (T.take m)).length:Int)≤cap):=by
      have h1:=Eb HTp.out.1 HAp.out m (by rw[HTp.out.2];omega);have h2:=HM.out;have h3:=HN.out;show((iG D (T.take m)).length:Int)≤cap;omega
     go_wp2;exact im (v:=.tuple #[]) (by simp[results,results104,go_sem]) rfl ⟨rfl,_,HV.out.1,⟨LY _ _,HL.out,fun h=>by omega⟩,HV.out.2.2⟩
