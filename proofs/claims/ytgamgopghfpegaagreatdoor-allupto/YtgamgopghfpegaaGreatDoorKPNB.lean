import Derived.Test.YtgamgopghfpegaaGreatDoorKPNC
set_option linter.all false
open Go.Proofs.Tryz
set_option maxRecDepth 100000
set_option maxHeartbeats 4000000
namespace Go.Proofs.YtgamgopghfpegaaGreatDoor
namespace Pn
open Mf
def ew(g:Qn→Nat):List Tie→Nat
 |[]=>0
 | .rd _ _::r=>ew g r
 | .ask q::r=>g q+ew g r
theorem iB(g:Qn→Nat):∀(a b:List Tie),ew g (a++b)=ew g a+ew g b
 |[],b=>by simp[ew]
 | .rd _ _::r,b=>iB g r b
 | .ask q::r,b=>by
  show g q+ew g (r++b)=g q+ew g r+ew g b;rw[iB g r b];omega
variable{S:Nat→Shf}{G:Nat}{D:List Kp}
def yB(S:Nat→Shf)(G m:Nat)(g:Qn→Nat)(F:Find):Prop:=∀D q k J W,Inv S G D→rk q<m→q.kind≤4→F D q k J W→J.length≤D.length+g q
theorem EM{r}{F}{g}(hF:lY S G r F)(hC:yB S G r g F)(h:Inv S G D){c}(hl:Cm.Low (fun q=>rk q<r∧q.kind≤4) c){E}{T:Cm Fi}{R}{W}(hp:Pre F (S G) D c E T R W):E≤D.length+ew g R:=by
 induction hp with
 |start=>exact Nat.le_add_right _ _
 |rd _ ih=>rw[iB];omega
 |ask h0 hf ih=>
  have M:=xW hF h hl h0;have f:=M.low;cases f with|ask _ _ O hk=>
  have h2:=hC _ _ _ _ _ M.inv O.1 O.2 hf;rw[iB];simp only[ew];omega
theorem yC{r T}{F}{g}(hF:lY S G r F)(hC:yB S G r g F)(h:Inv S G D){O}{R}{W}(M:∀q,Tie.ask q∈O→rk q<r∧q.kind≤4)(hp:Chk F (S G) T D O R W):R≤D.length+ew g O:=by
 induction hp with
 |start=>exact Nat.le_add_right _ _
 |rd _ _ E=>
  have E:=E (fun q f=>M q (lA _ f));rw[iB];omega
 | @ask R D2 q kk O W W2 h0 hf _ E=>
  have E:=E (fun q f=>M q (lA _ f));have h1:=uL hF h (fun q f=>M q (lA _ f)) h0;have f:=M q ah;have h2:=hC _ _ _ _ _ h1.inv f.1 f.2 hf;rw[iB];simp only[ew];omega
theorem Bb{r ck}{F}{g}(hF:lY S G r F)(O:yB S G r g F)(h:Inv S G D){ts}{T}{W}{b}(R:∀q,Tie.ask q∈ts→rk q<r∧q.kind≤4)(hp:uK F (S G) ck D ts T W b):T≤D.length+ew g ts:=by
 cases hp with
 |yes f=>exact yC hF O h R f
 |rd e f _=>
  have h2:=yC hF O h (fun q M=>R q ax) f;rw[e,iB];omega
 | @ask T D2 q kk t1 t2 W W2 e f hf _=>
  have E:=fun q M=>R q (by rw[e];exact lA _ M)
  have h2:=yC hF O h E f;have h3:=uL hF h E f;have M:=R q (by rw[e];simp);have h4:=O _ _ _ _ _ h3.inv M.1 M.2 hf;rw[e,iB];simp only[ew];omega
theorem yD{F}{m}{g}(hF:lY S G m F)(hC:yB S G m g F)(hT:∀s q,q.kind≤4→2*ew g (im s q)+1≤g q):yB S G (m+1) g (Found F (S G) G):=by
 intro D q k J W hI hr a0 hf;have E:lY S G (rk q) F:=fun D T k J W h1 h2 h3 h4=>hF D T k J W h1 ae h3 h4
 have O:yB S G (rk q) g F:=fun D T k J W h1 h2 h3 h4=>hC D T k J W h1 ae h3 h4
 have lV:=sL q
 have Gg:∀k∈D,k.q=q→∀T,Tie.ask T∈k.ties→rk T<rk q∧T.kind≤4:=fun k M e T a1=>by
  rw[(hI.val k M).2,e] at a1;exact Cm.lW _ lV _ a1
 have R:∀k∈D,k.q=q→2*ew g k.ties+1≤g q:=fun k M e=>by
  rw[(hI.val k M).2,e]
  grind
 cases hf with
 |there _ _ _=>omega
 | @held k D1 W M hq _ _ h=>
  have h1:=Bb E O hI (Gg k M hq) h;have h2:=R k M hq;refine aP (pT D1 _) ?_;omega
 | @anew k D1 D2 W W2 f ts M hq _ _ _ h hp=>
  have h1:=Bb E O hI (Gg k M hq) h;have h2:=R k M hq;obtain⟨i1,_⟩:=uM E hI (Gg k M hq) h;have h3:=EM E O i1 lV hp
  have ht:ts=im (S G) q:=by
   unfold im;rw[(xW E i1 lV hp).ties];simp[Cm.ties]
  have h4:=hT (S G) q a0;rw[←ht] at h4;refine aP (pT D2 _) ?_;omega
 | @first D2 W2 f ts _ _ hp=>
  have h3:=EM E O hI lV hp
  have ht:ts=im (S G) q:=by
   unfold im;rw[(xW E hI lV hp).ties];simp[Cm.ties]
  have h4:=hT (S G) q a0;rw[←ht] at h4;refine aP (pT D2 _) ?_;omega
theorem EN{g:Qn→Nat}(f:∀(s:Shf)(q:Qn),q.kind≤4→2*ew g (im s q)+1≤g q):∀r,yB S G (r+1) g (fnd (S G) G r)
 |0=>yD (fun _ _ _ _ _ _ h _ _=>absurd h (fB _)) (fun _ _ _ _ _ _ h _ _=>absurd h (fB _)) f
 |r+1=>yD (lZ r) (EN f r) f
end Pn
namespace Pn
open Mf
def gq(q:Qn):Nat:=if q.kind≤1 then 1 else if q.kind=2 then 4009 else if q.kind=3 then 489099 else 1459279
theorem ji(root:zA)(X:List Mo)(s:Shf)(o:Qn→Fi):∀(l f:List Mo)(E:List Pb),ew gq ((bp root X l f E).ties s o)≤l.length
 |[],f,E=>ai _
 |r::rest,f,E=>by
  unfold bp
  split
  ·exact Nat.le_succ_of_le (ji root X s o rest f E)
  ·show 1+ew gq ((match choose r (li (o ⟨1,r.1,e0⟩)) X with | .inl m=>_ | .inr p=>_:Cm Fi).ties s o)≤_
   rw[dF];cases choose r (li (o ⟨1,r.1,e0⟩)) X with
   |inl m=>have:=ji root X s o rest (f++[m]) E;simp only[];omega
   |inr p=>have:=ji root X s o rest f (E++[p]);simp only[];omega
theorem qB(root:zA)(s:Shf)(o:Qn→Fi):∀(n:Nat)(l:List Mo)(i:Nat)(f:List Pb),ew gq ((cO root n l i f).ties s o)≤n*4009
 |0,l,i,f=>aN _
 |n+1,l,i,f=>by
  cases h:l[i]? with
  |none=>
   rw[py (BA.1 h)];exact aN _
  |some m=>
   rw[px h];show 4009+ew gq ((my root n i (f++(cM (o ⟨2,m.1,m.2⟩)).2) (cz l (cM (o ⟨2,m.1,m.2⟩)).1)).ties s o)≤_;cases cz l (cM (o ⟨2,m.1,m.2⟩)).1 with
   |none=>show 4009+0≤_;omega
   |some E=>
    have:=qB root s o n E (i+1) (f++(cM (o ⟨2,m.1,m.2⟩)).2);show 4009+ew gq ((cO root n E (i+1) _).ties s o)≤_;omega
theorem qC(fin:List (List Mo)→Fi)(s:Shf)(o:Qn→Fi):∀(l:List Mo)(ws:List (List Mo)),ew gq ((fh fin l ws).ties s o)≤l.length*4009
 |[],_=>aN _
 |m::r,ws=>by
  have:=qC fin s o r (ws++[(cM (o ⟨2,m.1,m.2⟩)).1]);show 4009+ew gq ((fh fin r _).ties s o)≤_
  grind
theorem GF s:(lL (orc (val s) ⟨3,e0,e0⟩)).1.length≤60:=by
 show(lL (val s ⟨3,e0,e0⟩).ess).1.length≤60;cases h:val s ⟨3,e0,e0⟩ with
 |list f E=>exact yw h
 |_=>exact aN _
theorem Qm s q(h:q.kind≤4):2*ew gq (im s q)+1≤gq q:=by
 unfold im eV;by_cases F:q.kind=0
 ·rw[ay F];unfold gq;rw[ay ae];exact ai _
 rw[au F];by_cases M:q.kind=1
 ·rw[ay M];unfold gq;rw[ay ae];exact ai _
 rw[au M];by_cases f:q.kind=2
 ·rw[ay f]
  have e:gq q=4009:=by unfold gq;rw[au ae,ay f]
  rw[e]
  have O:ew gq ((gC (q.path,q.ver)).ties s (orc (val s)))≤2003+1:=by
   have T:∀a b,(lh (orc (val s) ⟨0,a,b⟩)).2.R.length≤2001:=fun a b=>by
    show(lh (val s ⟨0,a,b⟩).ess).2.R.length≤2001;rw[nE s (aN 1)];exact yq _
   have hg:∀a b,gq ⟨0,a,b⟩=1:=fun _ _=>rfl
   unfold gC;simp only[Cm.ties,ew,hg]
   split
   ·show 1+(1+0)≤_;omega
   ·refine aP (Nat.add_le_add_left (Nat.add_le_add_left (aP (ji _ _ _ _ _ _ _) (T _ _)) _) _) ?_
    omega
  omega
 rw[au f];by_cases E:q.kind=3
 ·rw[ay E]
  have e:gq q=489099:=by unfold gq;rw[au ae,au f,ay E]
  rw[e]
  have O:ew gq (il.ties s (orc (val s)))≤61*4009:=by
   unfold il;simp only[Cm.ties,ew]
   split
   ·exact aN _
   ·exact qB _ _ _ 61 _ _ _
  omega
 rw[au E];have e:gq q=1459279:=by unfold gq;rw[au ae,au f,au E]
 rw[e]
 have O:ew gq ((vE fj).ties s (orc (val s)))≤489099+60*4009:=by
  have h5:=qC (fj (lL (orc (val s) ⟨3,e0,e0⟩)).1) s (orc (val s)) (lL (orc (val s) ⟨3,e0,e0⟩)).1 [];have h6:=GF s;show 489099+ew gq ((fh _ (lL (orc (val s) ⟨3,e0,e0⟩)).1 []).ties s (orc (val s)))≤_;omega
 omega
theorem vJ{S}{G r}{D J}{q}{k}{W}(f:Inv S G D)(F:rk q≤r)(E:q.kind≤4)(h:fnd (S G) G r D q k J W):J≤D.length+gq q:=
 EN Qm r D q k J W f (mJ F) E h
end Pn
section
open Go.RowKit
namespace Pn
open Mf Ed
variable{A:Nat→Prop}{S:Nat→Shf}{w w':zW}{I U fb mb G:Nat}{cap:Int}{V:List Int}{D J:List Kp}{L:List (zV×zV)}
theorem Eng.shrunk(h:Eng A S w I U fb mb G cap V D L)(hd:dB A w' I U fb cap V J)(E:J.Sublist D)(f:aj (fun b=>b=fb) w w'):Eng A S w' I U fb mb G cap V J L where
 desk:=hd
 shelf:=h.shelf.of_block (f.block U h.shelf.f0.lt (fun e=>h.ne.2.2.1 e.symm)) (f.block mb h.shelf.map.lt (fun e=>h.ne.2.2.2.1 e.symm))
 on:=h.on
 inv:=h.inv.sub E
 ml:=by
  obtain⟨m,hm⟩:=h.ml;exact⟨m,(f.cell h.ml.pos (fun e=>h.ne.2.2.2.2.2 e.symm)).trans hm⟩
 len:=h.len
 hA:=fun b e=>bU (h.hA b e) f.size
 ns:=h.ns
 ne:=h.ne
 ok:=fun k F=>h.ok k (E.subset F)
 rt:=h.rt
end Pn
end
section
open Go.RowKit
namespace Pn
open Mf Ed
variable{A:Nat→Prop}{w w' W:zW}{I U fb:Nat}{cap:Int}{V:List Int}{D:List Kp}{L Lr:List (zV×zV)}
def yE(k:Kp):Rs:=(k.checked,k.q.kind,k.q.path,k.q.ver)
def dec:zV×zV→Rs
 |(.agg #[.int _ k,.string p,.string v],.agg #[_,_,_,.int _ c])=>(c.toNat,k.toNat,p,v)
 |_=>(0,0,e0,e0)
def Rb(L:List (zV×zV)):Prop:=∀x∈L,∃(q:Qn)(T:TypeId)(u:zV)(F:Option Addr)(O M:Nat)(f E:Nat),x=(qv q,.agg #[.iface T u,.slice F O M,.int .i64 (f:Nat),.int .i64 (E:Nat)])
theorem NV{v:zV}:∀{f:Fi},iC A w v f→∃T u,v=.iface T u
 | .man _ _,⟨_,_,_,h,_⟩=>⟨_,_,h⟩
 | .idx _ _,⟨_,h,_⟩=>⟨_,_,h⟩
 | .wants _ _,⟨_,_,h,_⟩=>⟨_,_,h⟩
 | .list _ _,⟨_,_,h,_⟩=>⟨_,_,h⟩
 | .ord _ _,⟨_,_,h,_⟩=>⟨_,_,h⟩
theorem EO:∀{L:List (zV×zV)} {D:List Kp},ee A w L D→L.map dec=D.map yE∧Rb L
 |[],[],_=>⟨rfl,fun x hx=>by simp at hx⟩
 |x::L,k::D,⟨E,O,R⟩=>by
  obtain⟨fv,tv,e,hf,ht⟩:=O;obtain⟨T,u,M⟩:=NV hf;obtain⟨ta,tc,et⟩:=ht.len;have F:=EO R;obtain⟨x1,x2⟩:=x;simp only at E e;rw[M,et] at e;subst E;subst e;refine⟨?_,fun y f=>?_⟩
  ·rw[eA,eA,F.1]
   rfl
  ·rcases bI.1 f with f|f
   ·grind
   ·exact F.2 y f
 |[],_::_,h=>h.elim
 |_::_,[],h=>h.elim
theorem GG{α}{f}(M:Pv.Cmp (fun _=>True) f){R T:List α}(h:R.Perm T):Ss.aQ (Go.Proofs.ltOf f) R=Ss.aQ (Go.Proofs.ltOf f) T:=by
 have O:Go.Sort.SWO (Go.Proofs.ltOf f):=Pv.ki id M;refine Ss.sj _ _ (((Ss.cg _).trans h).trans (Ss.cg _).symm) (List.Pairwise.imp (fun {a b} h=>(Ss.cE (tag:=fun _=>0) b a).2 ⟨h,Or.inr (ai _)⟩) (Ss.iA O _)) (List.Pairwise.imp (fun {a b} h=>(Ss.cE b a).2 ⟨h,Or.inr (ai _)⟩) (Ss.iA O _)) ?_;intro x _ y _ E F;have E:=((Ss.cE _ _).1 E).1;have F:=((Ss.cE _ _).1 F).1;unfold Go.Proofs.ltOf at E F;have h3:=M.anti x y trivial trivial;refine M.zero x y trivial trivial ?_
 grind
section
variable{P:Program}(w:zW){Y:Array Oper}{rest:List Oper}{o:Oper}{a:Act}{Q:Exit→Act→zW→Prop}
theorem yF(hg:o.guard=none)it(a1:o.op=Op.next it false)k b r L Lr(hL:Rb L)
  (hit:a.eval it=.pointer (some (r,0))) (h:Mp.cY P k w b r L Lr)
  (F:Lr=[]→wpList P Y Q rest (a.put o.dst (.tuple #[false])) w)
  (M:∀qk (qp qw:zA) T u ta tn tc O R E w',Lr.Perm ((.agg #[(qk:Nat),qp,qw],.agg #[.iface T u,.slice ta tn tc,(O:Nat),(R:Nat)])::E)→Mp.cY P k w' b r L E→w.grownBy w' (r)→w'=w.heap.size→
   (Instr.entry (.pointer (some (r,0)))).run P w'=.ok (.tuple #[.agg #[(qk:Nat),qp,qw],.agg #[.iface T u,.slice ta tn tc,(O:Nat),(R:Nat)]]) w'→wpList P Y Q rest (a.put o.dst (.tuple #[true,.agg #[(qk:Nat),qp,qw],.agg #[.iface T u,.slice ta tn tc,(O:Nat),(R:Nat)]])) w'):
  wpList P Y Q (o::rest) a w:=by
 refine wpList_plain hg fun K' a0=>?_
 unfold Oper.wp;rcases h.next o.type with⟨h0,f⟩|⟨key,v,E,w',hm,hp,f,a4,a3,a5,a2⟩
 ·simp[execOp,a1,hit,f,Result.andThen]
  exact a0 _ _ (F h0)
 ·obtain⟨q,T,u,ta,tn,tc,O,R,e⟩:=hL _ hm
  injection e with e1 e2;subst e1;subst e2;simp[execOp,a1,hit,f,Result.andThen];exact a0 _ _ (M _ _ _ T u ta tn tc O R E w' hp a4 a3 a5 a2)
end
end Pn
end
section
open Go.RowKit
namespace Pn
open Mf Ed
section
variable{P:Program}(w:zW){Y:Array Oper}{rest:List Oper}{o:Oper}{a:Act}{Q:Exit→Act→zW→Prop}
theorem qD(F:o.guard=none)m t(E:o.op=.call {callee:=.builtin .len,args:=#[m],argTypes:=#[t]})k e(O:P.underlying t=some (.map k e))(b:Nat)L
  (hm:a.eval m=.map (b)) (h:Mp.MapAt P k w b L) (hK:wpList P Y Q rest (a.put o.dst (((L:Nat):Int))) w):wpList P Y Q (o::rest) a w:=by
 refine wpList_plain F fun R f=>?_
 have M:=h.len O o.type;unfold Oper.wp execOp;simp only[E,resolve,invoke,builtin,Sem.run_bind,Sem.run_pure,Result.andThen_ok,List.map_toArray,eA,mG,hm,M];exact f _ _ hK
end
variable{A:Nat→Prop}{w w' W:zW}{I U fb:Nat}{cap:Int}{V:List Int}{D:List Kp}
theorem Qo n(O:n≤2000000000000):∃Z,Z.size=n*4∧∀W,(Instr.makeSlice 124 (.int .i64 0) ((n:Nat))).run prog W=.ok (.slice (some (W,0)) 0 n) (W.alloc (.cells Z 130)):=by
 obtain⟨i,f,E,F,M⟩:=Bm.eD 130 (.agg #[.int .i64 0,zE,zE,.int .i64 0]) 4 48 aB;refine⟨madeCells (Value.agg #[.int .i64 0,zE,zE,.int .i64 0]).cells (n*i.size),by rw[size_madeCells,F],fun W=>?_⟩;have h:=run_make W 124 130 i _ underlying124 f E .i64 .i64 0 n (Int.le_refl _) ae (by rw[M];omega) ae;simpa using h
theorem S5 E f(F M:zA)u x y:dec (.agg #[(E:Nat),F,M],.agg #[x,y,u,(f:Nat)])=(f,E,F,M):=rfl
theorem rz w(h:dB A w I U fb cap V D)(hm:Ml w)(hD:D.length≤2000000000000):
  zC 70 #[.pointer (some (I,0))] w fun e w'=>∃g c,e=.returned (.slice (some (g,0)) D c)∧w'.ownsRow w 130 4 (.slice (some ⟨g,0,none⟩) D c) D ((Ss.aQ (Go.Proofs.ltOf nV) (D.map yE)).flatMap jJ)∧Below w w w':=by
 obtain⟨i2,b1,b2,b3,b5⟩:=Bm.eD 130 (.agg #[.int .i64 0,zE,zE,.int .i64 0]) 4 48 aB;have HI:Hid (_∧_∧_∧_):=⟨b1,b2,b3,b5⟩;clear b1 b2 b3 b5;obtain⟨L,hM,hE⟩:=h.map;obtain⟨a5,Rc⟩:=EO hE;have F:=hE.len;have c2:=h.f2.1;have bi:=h.f2.lt;have ba:=zH hm;have HG:=zH Rc;have b9:=zH a5;have c3:=zH F;rw[←F] at hD ⊢;obtain⟨Z,hZ,bq⟩:=Qo _ hD;have a4:Below w.heap.size w (w.alloc (.cells Z 130)):=(af _ _).alloc (ai _) _;have av:=hM.of_block (a4.block fb hM.lt);have bd:(w.alloc (.cells Z 130)).cell? (I,2)=some (.map (some fb)):=by rw[a4.cell bi];exact c2
 have a8:Hid ((w.alloc _).ownsRow _ 130 4 _ 0 []):=World.ownsRow_made w Z _ (ai _) (by unfold maxLen;omega) hZ;have a2:Hid (_∧(w.alloc (.cells Z 130))=w.heap.size+1):=⟨a4,ah⟩;have c5:=hM.lt;clear h hE a5 Rc F hm hZ a4;go_enter func70,ntmps70
 go_wp2_with (first
  |(at_len;refine qD _ rfl _ 102 rfl 128 169 underlying102 fb L rfl hM ?_)
  |(at_range;refine Ed.nQ _ rfl _ 102 rfl 128 169 underlying102 fb L rfl av ?_;intro w0 a7 az bt)
  |go_in)
 go_frame
 rw[a2.out.2];have Uz:Mp.cY prog 128 w0 fb (w+1) L L:=by rw[←a2.out.2];exact a7
 have a9:Hid (aj (fun _=>False) _ w0):=(aj.refl _ _).grown az (fun b _ e=>by cases e);have aq:Hid (_∧_∧w≠w.heap.size+1∧_):=⟨Uz,ar a8.out (fun b e=>a9.out.block b (a8.out.lt b e).2 (fun e=>e)),ae,bg a2.out.1 a9.out (fun _ e=>e.elim)⟩;clear hM av c2 bd a7 az bt bq Uz a9 a8 a2;go_loopg [3] L (fun gg s3 wr=>∃(Lr:List (zV×zV))(R:List Rs)(g c:Nat),Lr.length≤gg∧R.length+Lr.length=L.length∧s3=.slice (some ⟨g,0,none⟩) R.length c∧Hid (Mp.cY prog 128 wr fb (w.heap.size+1) L Lr∧wr.ownsRow w.heap.size 130 4 (.slice (some ⟨g,0,none⟩) R.length c) R.length (R.flatMap jJ)∧g≠w.heap.size+1∧Below w.heap.size w wr)∧Hid ((R++Lr.map dec).Perm (L.map dec)))
 case atStart=>exact⟨L,[],_,_,ai _,ah,rfl,aq,jb _⟩
 case round=>
  obtain⟨Lr,R,g,c,F,ab,rfl,HV,HP⟩:=hrel;clear aq
  go_wp2_with (first
   |(at_next;refine yF _ rfl _ rfl 128 fb _ L Lr HG.out rfl HV.out.1 ?_ ?_)
   |go_in)
  ·intro h0
   have bm:=HV.out.2.1.lt g rfl
   have HR:Hid (R=L.length∧Ss.aQ (Go.Proofs.ltOf nV) R=Ss.aQ (Go.Proofs.ltOf nV) (D.map yE)):=by
    have h1:=HP.out;rw[h0,mG,eP,b9.out] at h1;refine⟨?_,GG Gy h1⟩;rw[h0] at ab;simpa using ab
   have kS:=Qe _ 130 g c R wr (ba.out.below HV.out.2.2.2) ae HV.out.2.1 ae;clear h0 ab F;have c7:=HV.out.2.2.2.size
   go_wp2_with (go_at_call 95;fail)
   go_at_call 95;refine kS.mono ?_;rintro e w9 ⟨rfl,an,b8⟩;have hR:=HR.out.1
   have HF:Hid (w9.ownsRow w 130 4 (.slice (some (g,0)) L c) L ((Ss.aQ (Go.Proofs.ltOf nV) (D.map yE)).flatMap jJ)∧Below w.heap.size w w9):=by
    rw[hR,HR.out.2] at an;exact⟨an,bg HV.out.2.2.2 b8 (fun b e=>ae)⟩
   clear an b8 kS;rw[hR];clear hR;go_wp2;go_ret;exact⟨g,c,rfl,HF.out.1,HF.out.2⟩
  ·intro qk qp qw T u ta tn tc ch O a3 w1 hp b7 b0 bv bk
   have bn:=hp.length_eq;rw[dF] at bn
   have c4:Hid (((R++[(O,qk,qp,qw)])++a3.map dec).Perm (L.map dec)):=by
    have h1:=(hp.map dec).symm;rw[eA,S5] at h1;rw[gX];exact((List.Perm.append_left R h1).trans HP.out)
   have bm:=HV.out.2.1.lt g rfl;have ak:=(aj.refl _ _).grown b0 (fun b _ e=>(jr e).symm)
   have E:Hid (Mp.cY prog 128 w1 fb (w+1) L a3∧w1.ownsRow w 130 4 (.slice (some (g,0)) R c) R (R.flatMap jJ)∧g≠w+1∧Below w.heap.size w w1):=by
    refine⟨b7,ar HV.out.2.1 (fun b e=>ak.block b (HV.out.2.1.lt b e).2 (fun e2=>?_)),HV.out.2.2.1,bg HV.out.2.2.2 ak (fun b e=>ae)⟩;have e3:g=b:=by simpa[Value.ownBlock] using e
    exact HV.out.2.2.1 ae
   clear hp b7 b0 ak HV HP bv;go_upto_region 5 with fail;have a0:Below w1.heap.size w1 ((w1.alloc (.cells #[qk,qp,qw] 128)).alloc (.cells #[.iface T u,.slice ta tn tc,ch,O] 169)):=((af _ _).alloc (ai _) _).alloc ah _;have f:Hid (_∧_∧_∧_):=⟨E.out.1.of_block (a0.block _ E.out.1.owns.lt) (a0.block _ E.out.1.lt),ar E.out.2.1 (fun b e=>a0.block b (E.out.2.1.lt b e).2),E.out.2.2.1,E.out.2.2.2.trans (a0.mono E.out.2.2.2.size)⟩;have aa:Hid (((w1.alloc (.cells #[qk,qp,qw] 128)).alloc (.cells #[.iface T u,.slice ta tn tc,ch,O] 169)).heap[_]?=_∧((w1.alloc (.cells #[qk,qp,qw] 128)).alloc (.cells #[.iface T u,.slice ta tn tc,ch,O] 169)).heap[_]?=_):=⟨(aO _ _ _ ah).trans (aI _ _),dX w1 _ _⟩;clear a0 bk E;generalize (w1.alloc (.cells #[.int .i64 (qk:Nat),.string qp,.string qw] 128)).alloc (.cells #[.iface T u,.slice ta tn tc,.int .i64 (ch:Nat),.int .i64 (O:Nat)] 169)=W2 at*;generalize w1.heap.size=b4 at*;obtain⟨⟨c0,_⟩,⟨c1,_⟩,⟨c2,_⟩⟩:=fd3 aa.out.1;obtain⟨d0,d1,d2,d3⟩:=Kb aa.out.2;obtain⟨RX,ad⟩:∃RX,RX=R.flatMap jJ:=⟨_,rfl⟩;have bb:=zH ad;rw[←ad] at f;clear ad
   have b6:∀j v,([(qk:Nat),qp,qw,(O:Nat)]:List zV)[j]?=some v→(W2.alloc (.cells #[qk,qp,qw,O] 130)).cell? (((W2,0):Addr).add j)=some v:=fun j v hj=>by
    obtain⟨g0,g1,g2,g3⟩:=Kb (aI W2 (.cells #[qk,qp,qw,O] 130));rw[addr_add,dQ];rcases j with _|_|_|_|j
    ·grind
    ·grind
    ·grind
    ·grind
    ·simp at hj
   have VK:(W2.alloc (.cells #[qk,qp,qw,O] 130))=W2.heap.size+1:=ah;have c6:=f.out.2.2.2.size;have bs:=f.out.1.lt
   go_wp2_with (at_builtin;refine bO _ rfl _ _ 124 rfl _ 130 i2 _ 4 48 underlying124 HI.out.1 HI.out.2.1 HI.out.2.2.1 HI.out.2.2.2 rfl aA (.slice _ _ c) _ RX rfl (f.out.2.1.alloc _) _ 1 1 _ rfl rfl b6 ?_ ?_ ?_ ?_ ?_)
   all_goals first
    |exact⟨rfl,rfl,rfl,rfl⟩
    |(show ∀v∈([.int .i64 (qk:Nat),.string qp,.string qw,.int .i64 (O:Nat)]:List zV),v.oneCell'=true;intro v hv;simp at hv;rcases hv with rfl|rfl|rfl|rfl<;>rfl)
    |(show R.length+1≤maxLen;unfold maxLen;omega)
    |(show(R.length+1)*48≤140737488355328;omega)
    |(show w.heap.size≤(W2.alloc _).heap.size;rw[VK];omega)
    |(show w.heap.size≤W2.heap.size+1;omega)
    |skip
   intro c8 w7 M a1 _ a6;obtain⟨g1,bc,bh⟩:=bo M ae;subst bh
   have HN:Hid (Mp.cY prog 128 w7 fb (w+1) L a3∧w7.ownsRow w 130 4 (.slice (some (g1,0)) (R++[(O,qk,qp,qw)]) bc) (R++[(O,qk,qp,qw)]) ((R++[(O,qk,qp,qw)]).flatMap jJ)∧g1≠w+1∧Below w.heap.size w w7):=by
    have hT:=((aj.refl _ W2).alloc _).grown a1 (fun b _ e=>(jr (show some g=_ from e)).symm);have vV:=f.out.2.1.lt g rfl;refine⟨f.out.1.of_block (hT.block fb f.out.1.owns.lt (fun e=>ae)) (hT.block _ bs (fun e=>f.out.2.2.1 e.symm)),?_,fun e=>?_,bg f.out.2.2.2 hT (fun b e=>ae)⟩
    ·rw[bj,iT,Bw,←bb.out]
     exact M
    ·rcases a6 with e2|e2
     ·have e3:g1=g:=by simpa[Value.ownBlock] using e2
      exact f.out.2.2.1 (e3.symm.trans e)
     ·have e3:g1=W2+1:=by simpa[Value.ownBlock] using e2
      omega
   clear M a1 a6 b6 c0 c1 c2 d0 d1 d2 d3 f aa;rw[←iT (a:=((O,qk,qp,qw))),←bj];go_wp2;go_roundg a3
   case measure=>omega
   grind
end Pn
end
section
open Go.RowKit
namespace Pn
open Mf Ed
variable{A:Nat→Prop}{w w' W:zW}{I U fb:Nat}{cap:Int}{V:List Int}{D:List Kp}{q:Qn}
open Classical in
theorem dB.dropped(h:dB A w I U fb cap V D)(O:∃k∈D,k.q=q):
  ∃w',(∀ty,(Builtin.delete_ #[102,128] ty #[.map (some fb),qv q]).run prog w=.ok (.tuple #[]) w')∧dB A w' I U fb cap V (D.filter fun k=>decide (k.q≠q))∧aj (fun b=>b=fb) w w':=by
 obtain⟨L,hm,he⟩:=h.map;obtain⟨k,R,T⟩:=O;obtain⟨x,hx,e1,_⟩:=he.get.2 k R;have F:(qv q,x.2)∈L:=by rw[←T,←e1];exact hx
 obtain⟨kl,f⟩:=hm.keys _ F;obtain⟨w1,E,ht,a0⟩:=hm.Dv pg underlying102 f (yg hm.apart F) 0;have tb:=iL ht;have M:=tb.block I h.f0.lt h.ne;have hT:aj A w w1:=tb.mono (fun b _ e=>by rw[e];exact h.hf);exact⟨w1,fun ty=>E,⟨h.f0.of_block M,h.f1.of_block M,h.f2.of_block M,fun j c hj=>(h.cn j c hj).of_block M,⟨_,a0,(he.filter q).turn hT⟩,h.ne,h.hd,h.hf⟩,tb⟩
def qOf(r:Rs):Qn:=⟨r.2.1,r.2.2.1,r.2.2.2⟩
theorem dB.apart(h:dB A w I U fb cap V D):D.Pairwise (fun a b=>a.q≠b.q):=by
 obtain⟨L,hm,he⟩:=h.map;have f:=hm.apart;clear hm h
 induction L generalizing D with
 |nil=>cases D with
  |nil=>exact List.Pairwise.nil
  |cons k D=>exact he.elim
 |cons x L O=>cases D with
  |nil=>exact he.elim
  |cons k D=>
   rw[eM] at f ⊢;refine⟨fun b F e=>?_,O he.2.2 f.2⟩;obtain⟨y,M,E,_⟩:=(ee.get he.2.2).2 b F;exact f.1 y M (by rw[he.1,E,e])
open Classical in
noncomputable def jE(D:List Kp)(T:List Rs):List Kp:=D.filter fun k=>decide (k.q∉T.map qOf)
open Classical in
theorem left_step{T:List Rs}{x:Rs}:(jE D T).filter (fun k=>decide (k.q≠qOf x))=jE D (T++[x]):=by
 unfold jE;rw[List.filter_filter]
 grind
theorem EP:jE D []=D:=by
 unfold jE;simp
open Classical in
theorem ER{T:List Rs}{j}{x:Rs}(hp:T.Perm (D.map yE))(hD:D.Pairwise (fun a b=>a.q≠b.q))(hx:T[j]?=x):∃k∈jE D (T.take j),k.q=qOf x:=by
 have M:=hp.mem_iff.1 (wK hx);obtain⟨k,hk,e⟩:=dC.1 M;refine⟨k,?_,by rw[←e];rfl⟩
 have f:(T.map qOf).Nodup:=by
  have h1:(T.map qOf).Perm (D.map Kp.q):=by
   have O:=hp.map qOf;rw[ou] at O;exact O
  refine(h1.nodup_iff).2 ?_;unfold List.Nodup;rw[rH];exact hD
 unfold jE;refine List.mem_filter.2 ⟨hk,?_⟩;have F:k.q=qOf x:=by rw[←e];rfl
 rw[F];refine bu (fun hm=>?_);obtain⟨hj,ej⟩:=dh.1 hx;rw[List.map_take] at hm;obtain⟨i,hi,ei⟩:=oq hm;rw[List.getElem_take] at ei;have E:i<j:=by rw[jy] at hi;omega
 have R:(T.map qOf).length=_:=dM _;have e3:(T.map qOf)[j]'(ae)=qOf x:=by rw[qJ,ej]
 have:=(lB.1 f) i j ae ae E
 grind
open Classical in
theorem ES{T:List Rs}(F:T.Perm (D.map yE))(E:D.Pairwise (fun a b=>a.q≠b.q)):∀j,j≤T.length→(jE D (T.take j)).length+j≤D.length
 |0,_=>by rw[List.take_zero,EP];omega
 |j+1,hj=>by
  have f:j<T:=ae;have ih:=ES F E j ae;have hx:=dE f;obtain⟨k,R,M⟩:=ER F E hx;rw[lC f,←left_step]
  have h1:((jE D (T.take j)).filter (fun k=>decide (k.q≠qOf T[j])))<(jE D (T.take j)).length:=by
   have O:=filter_lt (q:=fun k:Kp=>decide (k.q≠qOf T[j])) _ (fun _ _ _=>rfl) ⟨k,R,rfl,by simp[M]⟩
   rwa [List.filter_eq_self.2 (fun _ _=>rfl)] at O
  omega
end Pn
end
section
open Go.RowKit
namespace Pn
open Mf Ed
variable{A:Nat→Prop}{w w' W:zW}{I U fb:Nat}{cap:Int}{V:List Int}{D:List Kp}{q:Qn}
theorem Ig{T:List Rs}{i}{x:Rs}(h:T[i]?=x):(T.flatMap jJ)[i*4]?=some (.int .i64 ((x.2.1:Nat):Int))∧(T.flatMap jJ)[i*4+1]?=some (.string x.2.2.1)∧(T.flatMap jJ)[i*4+2]?=some (.string x.2.2.2)∧(T.flatMap jJ)[i*4+3]?=some (.int .i64 ((x.1:Nat):Int)):=by
 obtain⟨f,e⟩:=dh.1 h;have E:=Ss.flat_get (enc:=jJ) (k:=4) (fun _=>rfl) aA T (i*4) ae;have F:=Ss.flat_get (enc:=jJ) (k:=4) (fun _=>rfl) aA T (i*4+1) ae;have M:=Ss.flat_get (enc:=jJ) (k:=4) (fun _=>rfl) aA T (i*4+2) ae;have O:=Ss.flat_get (enc:=jJ) (k:=4) (fun _=>rfl) aA T (i*4+3) ae;rw[show _/4=i by omega,show _%4=0 by omega,cB T i f,e] at E;rw[show _/4=i by omega,show _%4=1 by omega,cB T i f,e] at F;rw[show _/4=i by omega,show _%4=2 by omega,cB T i f,e] at M;rw[show _/4=i by omega,show _%4=3 by omega,cB T i f,e] at O;exact⟨E,F,M,O⟩
theorem ET{P}{Y}{o}{a}{w}{K}{Q}{E}
  (M:o.guard=none) m t (F:o.op=Op.call {callee:=Callee.builtin Builtin.len,args:=#[m],argTypes:=#[t]})
  (mb:Nat) (hm:a.eval m=.map (mb)) v (f:∀ty,(Builtin.len_ #[t] ty #[.map (mb)]).run P w=.ok v w)
  (hK:K (a.put o.dst v) w):if Region.wanted o (yielded Y a.tmps)=true then Oper.wp P o a w K Q else E:=by
 have O:Region.wanted o (yielded Y a.tmps)=true:=by simp[Region.wanted,M]
 rw[ay O];unfold Oper.wp;simp[execOp,F,resolve,invoke,builtin,hm,f,Result.andThen];exact hK
theorem NW D T:(jE D T).Sublist D:=List.filter_sublist
theorem GH(w:zW)(h:dB A w I U fb cap V D)(hm:Ml w)(hD:D.length≤2000000000000)(hc:0≤cap∧cap≤9223372036854775807):
  zC 80 #[.pointer (some ⟨I,0,none⟩)] w fun e w'=>e=.returned (.tuple #[])∧∃J,dB A w' I U fb cap V J∧(J.Sublist D∧(J.length:Int)≤cap∧((D.length:Int)≤cap→J=D))∧aj (fun b=>b=fb) w w':=by
 have HK:=zH h;have aa:=zH hm;obtain⟨L,hM,hE⟩:=h.map
 have a8:∀ty,(Builtin.len_ #[102] ty #[.map (some fb)]).run prog w.drew=.ok (.int .i64 ((D.length:Nat):Int)) w.drew:=fun ty=>by
  have h1:=(hM.of_block (w':=w.drew) rfl).len underlying102 ty;rw[hE.len] at h1;exact h1
 have c1:=h.f1.1;have c2:=h.f2.1;have a3:=zH h.apart;have an:=h.f0.lt;clear h hm hE hM;generalize hn:D.length=n at*;have HN:=zH hn;clear hn;obtain⟨T,hT⟩:∃T,T=Ss.aQ (Go.Proofs.ltOf nV) (D.map yE):=⟨_,rfl⟩
 have M:Hid (T.Perm (D.map yE)∧T.length=n):=by
  rw[hT];exact⟨Ss.cg _,by rw[Ss.aY,dM];exact HN.out⟩
 have ad:=zH hT;clear hT;go_enter func80,ntmps80;go_upto_region 0 with fail;have UA:IntKind.i64.wrap ((n:Int)-cap)=(n:Int)-cap:=by simp[IntKind.wrap,IntKind.bits,IntKind.signed];omega
 go_cut [2] (fun s2 wx=>s2=.int .i64 ((n:Int)-cap)∧wx=w.drew)
 case first=>
  go_region_law (refine ET rfl (.tmp 8) 102 rfl fb rfl _ a8 ?_)
  all_goals
   go_wp2_with fail
   go_meet
   exact⟨rfl,rfl⟩
 case rest=>
  obtain⟨h2,b0⟩:=hcut;rw[h2];subst b0;clear h2 a8 UA;have O:Below w.heap.size w w.drew:=(af _ _).drew;have E:Hid (dB A w.drew I U fb cap V D∧aj (fun b=>b=fb) w w.drew):=⟨HK.out.below O,aj.of_below O⟩;have Xd:I<w.drew.heap.size:=an;have a4:=zH (aa.out.below O);have kT:=rz w.drew E.out.1 a4.out (by rw[HN.out];exact hD);rw[←ad.out,HN.out] at kT;clear c1 c2 O;generalize w.drew=w3 at*;by_cases hx:(n:Int)≤cap
  ·have ba:(n:Int)-cap≤0:=ae
   go_wp2;refine aL (v:=.tuple #[]) (by simp[results,results80,go_sem]) rfl ?_;exact⟨rfl,D,E.out.1,⟨List.Sublist.refl _,by rw[HN.out];exact hx,fun _=>rfl⟩,E.out.2⟩
  ·obtain⟨m,hm⟩:∃m:Nat,(m:Int)=(n:Int)-cap:=⟨((n:Int)-cap).toNat,ae⟩
   rw[←hm];have b7:0<m∧m≤n:=ae;have HM:=zH hm;clear hm;have b9:¬((m:Int)≤0):=ae
   go_wp2_with (go_at_call 70;fail)
   go_at_call 70;refine kT.mono ?_;rintro e w4 ⟨g,c,rfl,a0,a2⟩
   have b1:n≤c:=by
    rcases a0.2 with⟨e,_⟩|⟨g',c',b2,e,_,_,b6,_⟩
    ·cases e
    ·grind
   have b3:=a0.lt g rfl;have a5:Hid (dB A w4 I U fb cap V (jE D (T.take 0))∧w4.ownsRow w3.heap.size 130 4 (.slice (some ⟨g,0,none⟩) n c) n (T.flatMap jJ)∧aj (fun b=>b=fb) w w4):=⟨by rw[List.take_zero,EP];exact E.out.1.below a2,a0,E.out.2.more a2⟩;clear a0 a2 kT;have b8:(m:Int)≤(c:Int):=ae;go_wp2;go_loopg [22] m (fun gg s wr=>∃j:Nat,j≤m∧m-j≤gg∧s=.int .i64 j∧Hid (dB A wr I U fb cap V (jE D (T.take j))∧wr.ownsRow w3.heap.size 130 4 (.slice (some ⟨g,0,none⟩) n c) n (T.flatMap jJ)∧aj (fun b=>b=fb) w wr))
   case atStart=>exact⟨0,ae,ae,rfl,a5⟩
   case round=>
    obtain⟨j,hj,hg,rfl,F⟩:=hrel;clear a5;by_cases b5:j<m
    ·have az:((j:Nat):Int)<(m:Int):=ae
     have aq:j<T.length:=by rw[M.out.2];omega
     have hx:=dE aq;obtain⟨y0,y1,y2,y3⟩:=Ig hx;have x0:wr.cell? ⟨g,j*4,none⟩=some (.int .i64 ((T[j].2.1:Nat):Int)):=by rw[F.out.2.1.cellAt (j*4) ae];exact y0
     have x1:wr.cell? ⟨g,j*4+1,none⟩=some (.string T[j].2.2.1):=by rw[F.out.2.1.cellAt (j*4+1) ae];exact y1
     have x2:wr.cell? ⟨g,j*4+2,none⟩=some (.string T[j].2.2.2):=by rw[F.out.2.1.cellAt (j*4+2) ae];exact y2
     have x3:wr.cell? ⟨g,j*4+3,none⟩=some (.int .i64 ((T[j].1:Nat):Int)):=by rw[F.out.2.1.cellAt (j*4+3) ae];exact y3
     have HX:=zH hx;clear hx y0 y1 y2 y3;generalize T[j]=y at*;obtain⟨qn,qk,qp,qw⟩:=y;simp only at x0 x1 x2 x3;go_upto_region 5 with fail;clear x0 x1 x2 x3;have R:Below wr.heap.size wr (wr.alloc (.cells #[.int .i64 ((qk:Nat):Int),.string qp,.string qw,.int .i64 ((qn:Nat):Int)] 130)):=(af _ _).alloc (ai _) _;have f:Hid ((dB A (wr.alloc (.cells #[.int .i64 ((qk:Nat):Int),.string qp,.string qw,.int .i64 ((qn:Nat):Int)] 130)) I U fb cap V (jE D (T.take j))∧(wr.alloc (.cells #[.int .i64 ((qk:Nat):Int),.string qp,.string qw,.int .i64 ((qn:Nat):Int)] 130)).ownsRow w3.heap.size 130 4 (.slice (some ⟨g,0,none⟩) n c) n (T.flatMap jJ)∧aj (fun b=>b=fb) w (wr.alloc (.cells #[.int .i64 ((qk:Nat):Int),.string qp,.string qw,.int .i64 ((qn:Nat):Int)] 130)))∧(wr.alloc (.cells #[.int .i64 ((qk:Nat):Int),.string qp,.string qw,.int .i64 ((qn:Nat):Int)] 130)).heap[wr.heap.size]?=some (.cells #[.int .i64 ((qk:Nat):Int),.string qp,.string qw,.int .i64 ((qn:Nat):Int)] 130)):=⟨⟨F.out.1.below R,ar F.out.2.1 (fun b e=>R.block b (F.out.2.1.lt b e).2),F.out.2.2.more R⟩,aI _ _⟩;clear R F;generalize wr.alloc _=W5 at*;generalize wr.heap.size=b4 at*;obtain⟨d0,d1,d2,d3⟩:=Kb f.out.2;have c2:=f.out.1.1.f2.1;obtain⟨w7,a1,a7,a9⟩:=(f.out.1.1.below ((af _ _).drew)).dropped (ER M.out.1 a3.out HX.out)
     have EU:∀ty,(Builtin.delete_ #[102,128] ty #[.map (some fb),.agg #[.int .i64 ((qk:Nat):Int),.string qp,.string qw]]).run prog W5.drew=.ok (.tuple #[]) w7:=a1
     have ab:Hid (dB A w7 I U fb cap V (jE D (T.take (j+1)))∧w7.ownsRow w3.heap.size 130 4 (.slice (some ⟨g,0,none⟩) n c) n (T.flatMap jJ)∧aj (fun b=>b=fb) w w7):=by
      have a6:=(aj.of_below ((af _ _).drew)).trans a9 (fun _ _ e=>e) (fun _ _ e=>e);refine⟨?_,ar f.out.1.2.1 (fun b e=>a6.block b (f.out.1.2.1.lt b e).2 (fun e2=>?_)),f.out.1.2.2.trans a6 (fun _ _ e=>e) (fun _ _ e=>e)⟩
      ·obtain⟨VL,ej⟩:=dh.1 HX.out
       rw[lC VL,ej,←left_step];exact a7
      ·have h1:=(f.out.1.2.1.lt b e).1
       have h2:=E.out.1.map;obtain⟨L2,ak,_⟩:=h2;have:=ak.lt;omega
     clear a1 a7 a9 f
     go_region_law (refine jY rfl (.tmp 29) (.tmp 31) 102 128 rfl fb (.agg #[.int .i64 ((qk:Nat):Int),.string qp,.string qw]) rfl rfl w7 EU ?_)
     all_goals
      clear EU d0 d1 d2 d3 c2;go_wp2;go_roundg (m-(j+1))
      case measure=>omega
      case rel=>exact⟨j+1,ae,ae,by go_num,ab⟩
    ·have az:(((j:Nat):Int)<(m:Int))=False:=aJ
     have av:m=j:=ae;subst av
     have HL:Hid (((jE D (T.take m)).length:Int)≤cap):=by
      have h1:=ES M.out.1 a3.out m (by rw[M.out.2];omega);have h2:=HM.out;have h3:=HN.out;show((jE D (T.take m)).length:Int)≤cap;omega
     go_wp2;exact fQ (v:=.tuple #[]) (by simp[results,results80,go_sem]) rfl ⟨rfl,_,F.out.1,⟨NW _ _,HL.out,fun h=>ae⟩,F.out.2.2⟩
