import Derived.Test.YtgamgopghfpegaaGreatDoorKOBB
import Derived.Test.YtgamgopghfpegaaGreatDoorKALB
set_option linter.all false
open Go.Proofs.Tryz
set_option maxRecDepth 100000
set_option maxHeartbeats 2000000
namespace Go.Proofs.YtgamgopghfpegaaGreatDoor
open Go.RowKit
namespace Pn
open Mf Ed
def iD(z:Bool)(w:zW)(B G:Nat)(Y N:zV)(l o:List Tt)(root:zA)(J:Nat):Prop:=match z with
 |true=>gD w B G Y N l o root J
 |false=>gD w B G N Y o l root J
abbrev fz:Bool→Nat
 |true=>0
 |false=>1
abbrev Fr(w w':zW)(G:Nat):Prop:=∀i u,4≤i→Ed.Fd w G i u→Ed.Fd w' G i u
variable{z:Bool}{w W w':zW}{B G J rev':Nat}{Y N j0:zV}{l o l':List Tt}{root:zA}
theorem iD.below(h:iD z w B G Y N l o root J)(D:Below w w W):iD z W B G Y N l o root J:=by
 cases z<;>exact gD.below h D
theorem iD.at(h:iD z w B G Y N l o root J):Ed.Fd w G (fz z) Y∧Ed.Fd w G 3 (J)∧w.ownsRow B 84 3 Y l (cZ l)∧w.ownsRow B 84 3 N o (cZ o)∧Y.ownBlock≠G∧N.ownBlock≠G∧(∀b,Y.ownBlock=some b→N.ownBlock≠b)∧B≤w:=by
 cases z<;>have h:gD _ _ _ _ _ _ _ _ _:=h
 ·exact⟨h.f1,h.f3,h.oi,h.om,h.ne.2.1,h.ne.1,fun b e D=>h.ne.2.2 b D e,h.ba⟩
 ·exact⟨h.f0,h.f3,h.om,h.oi,h.ne.1,h.ne.2.1,h.ne.2.2,h.ba⟩
theorem Fp(D:Below w w W):Fr w W G:=fun _ _ _ h=>h.of_block (D.block G h.lt)
theorem iD.put(h:iD z w B G Y N l o root J)(ht:aj (fun b=>b=G∨Y.ownBlock=b) w W)(S:∀i u,i≠3→Ed.Fd w G i u→Ed.Fd W G i u)(h3:Ed.Fd W G 3 (rev'))(ho:W.ownsRow B 84 3 j0 l' (cZ l'))(hn:lI w Y j0):iD z (W.setCell (G,fz z) j0) B G j0 N l' o root rev'∧Fr w (W.setCell (G,fz z) j0) G:=by
 obtain⟨a0,a3,r,r2,n1,n2,n3,ba⟩:=h.at;have hb:B≤(W.setCell (G,fz z) j0):=by have:=ht.size;simp;omega
 have D:=fun e=>(hn G e).elim n1 (fun q=>by have:=a0.lt;omega)
 have h2:∀b,_→_≠_:=fun b e e2=>(hn b e).elim (fun q=>n3 b q e2) (fun q=>by have:=(r2.lt b e2).2;omega)
 have q1:=ownsRow_setCell_other (a:=(G,fz z)) ho D j0;have q2:=ownsRow_setCell_other (a:=(G,fz z)) (ar r2 fun b e=>ht.block b (r2.lt b e).2 (fun q=>q.elim (fun q=>n2 (q▸e)) (fun q=>n3 b q e))) n2 j0;have g0:=iq (S _ _ ax a0) j0;refine⟨?_,fun i u hi hf=>(S i u ae hf).set (Nat.ne_of_gt (bU ax hi))⟩;cases z<;>have h:gD _ _ _ _ _ _ _ _ _:=h
 ·exact⟨(S _ _ aA h.f0).set aA,g0,(S _ _ aA h.f2).set aA,h3.set aA,q2,q1,⟨n2,D,fun b e e2=>h2 b e2 e⟩,hb⟩
 ·exact⟨g0,(S _ _ aA h.f1).set aA,(S _ _ aA h.f2).set aA,h3.set aA,q1,q2,⟨D,n2,h2⟩,hb⟩
theorem iD.ris(h:iD z w B G Y N l o root J)(n:Int)(S:n=(rev':Nat)):iD z (w.setCell (G,3) (n)) B G Y N l o root rev'∧Fr w (w.setCell (G,3) (n)) G:=by
 subst S;refine⟨?_,fun i u hi D=>D.set ae⟩;cases z<;>have h:gD _ _ _ _ _ _ _ _ _:=h
 all_goals exact⟨h.f0.set aA,h.f1.set aA,h.f2.set aA,iq h.f3 _,ownsRow_setCell_other h.om h.ne.1 _,ownsRow_setCell_other h.oi h.ne.2.1 _,h.ne,by have:=h.ba;simp_all⟩
def DzP(z:Bool)(w w':zW)(B G:Nat)(Y N:zV)(l' o:List Tt)(root:zA)(rev':Nat):Prop:=∃j0,iD z w' B G j0 N l' o root rev'∧Fr w w' G∧aj (fun b=>b=G∨Y.ownBlock=some b) w w'∧lI w Y j0
theorem Oz(p v s:zA)D w(hp:p.size≤4611686018427387904)(hl:l.length≤90000)(hr:J<4611686018427387904):
  (iD true w B G Y N l o root J→D=60→zC 14 #[.pointer (some (G,0)),p,v,s] w fun e w'=>e=.returned ((eI l ⟨p,v,s⟩ D (aT p v)).2.1)∧DzP true w w' B G Y N (eI l ⟨p,v,s⟩ D (aT p v)).1 o root (J+(eI l ⟨p,v,s⟩ D (aT p v)).2.2))∧
  (iD false w B G Y N l o root J→D=30→v=⟨#[]⟩→zC 18 #[.pointer (some (G,0)),p,s] w fun e w'=>e=.returned ((eI l ⟨p,v,s⟩ D (aT p v)).2.1)∧DzP false w w' B G Y N (eI l ⟨p,v,s⟩ D (aT p v)).1 o root (J+(eI l ⟨p,v,s⟩ D (aT p v)).2.2)):=by
 have kn:=Ah p v w hp;generalize aT p v=er at*;generalize a5:eI l ⟨p,v,s⟩ D er=PP;have a2:=zH a5;clear a5;refine⟨fun h hm=>?_,fun h hm hv=>?_⟩
 all_goals
  have HD:=zH h;clear h
  first
   |(subst hv;subst hm;go_enter func18,ntmps18)
   |(subst hm;go_enter func14,ntmps14)
  go_wp2_with (go_at_call 32;fail)
  go_at_call 32;refine kn.mono ?_;rintro e w1 ⟨rfl,a4⟩;clear kn;have a1:=zH (iD.below HD.out a4);have S:Hid (aj (fun b=>b=G∨Y.ownBlock=b) w w1∧Fr w w1 G):=⟨aj.of_below a4,Fp a4⟩;clear a4;by_cases h0:er=0
  ·subst h0
   obtain⟨⟨c0,a7⟩,a3,r,_,n1,_,_,ba⟩:=iD.at a1.out
   first|have kl:=Du G B 60 J l ⟨p,v,s⟩ Y w1 r ba hl a3 hr n1|have kl:=Du G B 30 J l ⟨p,⟨#[]⟩,s⟩ Y w1 r ba hl a3 hr n1
   have HP:=zH ((ay rfl).symm.trans a2.out);clear a2 a3 r n1 ba
   go_wp2_with (go_at_call 33;fail)
   go_at_call 33;refine kl.mono ?_;rintro e w2 ⟨a9,rfl,ho,a6,a0,ht,OA⟩;obtain⟨oa,oc,rfl⟩:=xy ho;obtain⟨d0,a8⟩:=OA _ _ aA (iD.at a1.out).1;have q:=iD.put a1.out ht OA a6 ho a0;have HF:Hid (DzP _ w _ B G Y N _ o root _):=⟨_,q.1,fun i u hi hf=>q.2 i u hi (S.out.2 i u hi hf),(S.out.1.trans ht (fun _ _ e=>e) (fun _ _ e=>e)).set (fun _=>Or.inl rfl) _,fun b e=>(a0 b e).imp id (aP S.out.1.size)⟩;clear kl c0 a7 ho a6 a0 ht OA q;have e:=HP.out;subst e;clear HP;go_wp2;go_ret;exact⟨rfl,HF.out⟩
  ·have HP:=zH ((au h0).symm.trans a2.out)
   clear a2;have hq:(er==0)=false:=by rw[bX];exact h0
   go_wp2;go_ret;have e:=HP.out;subst e;exact⟨rfl,Y,a1.out,S.out.2,S.out.1,lI.refl _ _⟩
theorem IE(p v:zA)w(hp:p.size≤4611686018427387904)(hl:l.length≤90000)(hr:J<4611686018427387904):
  (iD true w B G Y N l o root J→zC 16 #[.pointer (some (G,0)),p,v] w fun e w'=>e=.returned ((aT p v))∧DzP true w w' B G Y N (bY l p v (aT p v)).1 o root (J+(bY l p v (aT p v)).2))∧
  (iD false w B G Y N l o root J→v=⟨#[]⟩→zC 20 #[.pointer (some (G,0)),p] w fun e w'=>e=.returned ((aT p v))∧DzP false w w' B G Y N (bY l p v (aT p v)).1 o root (J+(bY l p v (aT p v)).2)):=by
 have kn:=Ah p v w hp;generalize aT p v=er at*;generalize a5:bY l p v er=PP;have S:=zH a5;have e2:IntKind.i64.wrap (J+1)=J+1:=by simp[IntKind.wrap,IntKind.bits,IntKind.signed];omega
 clear a5;refine⟨fun h=>?_,fun h hv=>?_⟩
 all_goals
  have HD:=zH h;clear h
  first
   |(subst hv;go_enter func20,ntmps20)
   |go_enter func16,ntmps16
  go_wp2_with (go_at_call 32;fail)
  go_at_call 32;refine kn.mono ?_;rintro e w1 ⟨rfl,a4⟩;clear kn;obtain⟨⟨c0,a2⟩,_,r,_⟩:=iD.at (iD.below HD.out a4)
  go_wp2_with (go_at_call 35;fail)
  go_at_call 35;refine(Ed.jW p _ l Y B w1 r ae).mono ?_;rintro e w2 ⟨rfl,a6⟩;have hb:=a4.trans (a6.mono a4.size);have a0:=zH (iD.below HD.out hb);have D:Hid (aj (fun b=>b=G∨Y.ownBlock=b) w w2∧Fr w w2 G):=⟨aj.of_below hb,Fp hb⟩;clear a4 a6 hb c0 a2 r;by_cases h0:er=0
  ·subst h0
   cases hfi:l.findIdx? (hit p _) with
   |none=>
    rw[show at? p _ l=-1 by unfold at?;rw[hfi]];have HP:Hid ((l,0)=PP):=by rw[←S.out];unfold bY;rw[ay rfl,hfi];rfl
    clear S hfi;go_wp2;go_ret;have e:=HP.out;subst e;exact⟨rfl,Y,a0.out,D.out.2,D.out.1,lI.refl _ _⟩
   |some i=>
    rw[show at? p _ l=i by unfold at?;rw[hfi]];have HP:Hid ((l.eraseIdx i,1)=PP):=by rw[←S.out];unfold bY;rw[ay rfl,hfi];rfl
    have a8:decide ((i:Int)≥0)=true:=bu ae;clear S hfi;obtain⟨⟨c0,a2⟩,_,r,_,_,_,_,ba⟩:=iD.at a0.out;have kw:=Dt l i Y B w2 r ae;generalize l.eraseIdx i=l2 at*;clear r
    go_wp2_with (go_at_call 36;fail)
    go_at_call 36;refine kw.mono ?_;rintro e w3 ⟨a9,rfl,ho,a1⟩;obtain⟨oa,oc,rfl⟩:=xy ho;clear kw c0 a2;have hk:∀i u,i≠3→Ed.Fd w2 G i u→_:=fun i u _ hf=>hf.of_block (a1.block G hf.lt)
    obtain⟨⟨c0,a2⟩,a3,_⟩:=iD.at (iD.below a0.out a1);have q:=iD.put a0.out (aj.of_below a1) hk a3 (LP ho ba) (fun b e=>Or.inr (ho.lt b e).1);obtain⟨c3,a7⟩:=(iD.at q.1).2.1;have q2:=iD.ris q.1 (J+1) (rev':=J+1) ae;have HF:Hid (DzP _ w _ B G Y N _ o root _):=⟨_,q2.1,fun i u hi hf=>q2.2 i u hi (q.2 i u hi (D.out.2 i u hi hf)),((D.out.1.more a1).set (fun _=>Or.inl rfl) _).set (fun _=>Or.inl rfl) _,fun b e=>Or.inr (aP D.out.1.size (ho.lt b e).1)⟩;clear ho a1 hk a3 q q2 ba;go_wp2;go_ret;have e:=HP.out;subst e;exact⟨rfl,HF.out⟩
  ·have HP:=zH ((au h0).symm.trans S.out)
   clear S;have hq:(er==0)=false:=by rw[bX];exact h0
   go_wp2;go_ret;have e:=HP.out;subst e;exact⟨rfl,Y,a0.out,D.out.2,D.out.1,lI.refl _ _⟩
theorem QJ(p:zA)w(h:gD w B G Y N l o root J)(hp:p.size≤4611686018427387904)(hr:J<4611686018427387904):
  zC 22 #[.pointer (some (G,0)),p] w fun e w'=>e=.returned ((fE p))∧gD w' B G Y N l o (Ed.rootOf root p).1 (J+(Ed.rootOf root p).2)∧Fr w w' G∧aj (fun b=>b=G) w w':=by
 have k1:=qV p w hp;have e2:IntKind.i64.wrap (J+1)=J+1:=by simp[IntKind.wrap,IntKind.bits,IntKind.signed];omega
 obtain⟨D,q2⟩:=iD.ris (z:=true) h (J+1) (rev':=J+1) ae;have D:gD _ _ _ _ _ _ _ _ _:=D;have HN:Hid (gD _ B G Y N l o p _∧Fr w ((w.setCell _ _).setCell _ (p)) G∧aj _ w ((w.setCell _ (.int .i64 (J+1))).setCell _ (p))):=⟨⟨D.f0.set aA,D.f1.set aA,iq D.f2 _,D.f3.set aA,ownsRow_setCell_other D.om D.ne.1 _,ownsRow_setCell_other D.oi D.ne.2.1 _,D.ne,by have:=D.ba;simp_all⟩,fun i u hi hf=>(q2 i u hi hf).set (o':=2) ae,((aj.refl (fun b=>b=G) w).set (a:=(G,3)) (fun _=>rfl) _).set (a:=(G,2)) (fun _=>rfl) _⟩;have HO:Hid (_∧Fr w w G∧aj (fun b=>b=G) w w):=⟨h,fun _ _ _ h=>h,aj.refl _ _⟩;obtain⟨c2,a0⟩:=h.f2;obtain⟨c3,a1⟩:=h.f3;have he:=gZ p
 have HE:Hid (fE p=(if decide (p.size=0)=false∧Pv.aK p=false then 2 else 0)∧Ed.rootOf root p=if decide (p.size=0)=false∧Pv.aK p=false then (root,0) else if (p.toList==root.toList)=true then (root,0) else (p,1)):=by
  have S:fE p=if decide (p.size=0)=false∧Pv.aK p=false then 2 else 0:=by unfold fE;simp only[mK]
  refine⟨S,?_⟩;unfold Ed.rootOf;rw[S];by_cases h:decide (p.size=0)=false∧Pv.aK p=false
  ·grind
  ·grind
 generalize Pv.aK p.data.toList=a at*;generalize decide (p.size=0)=t at*;generalize hb:(p.toList==root.toList)=b at*;clear h D q2;go_enter func22,ntmps22
 go_wp2_with (go_at_call 40;fail)
 go_at_call 40;refine k1.mono ?_;intro S w1 h1;rw[h1.1,h1.2];clear h1 k1;cases a<;>cases t<;>cases b
 all_goals
  go_wp2;go_ret;rw[HE.out.1,HE.out.2]
  first
   |exact⟨rfl,HN.out⟩
   |exact⟨rfl,HO.out⟩
end Pn
namespace Pn
open Mf Ed
variable{A A2 Z X p P:Nat→Prop}{w w' W:zW}{O pb V B G I n d f g:Nat}{cap er:Int}{mv U:zV}{M F j2 j1:List Tt}{root L pp vv ss:zA}{T:Tri}{args:List zV}
theorem G6(h:gD w B G mv U M F root I)(D:aj p w w')(S:∀b,(b=G∨mv.ownBlock=b∨U.ownBlock=b)→¬p b):gD w' B G mv U M F root I:=
 have k:=D.block G h.f0.lt (S G (Or.inl rfl))
 ⟨h.f0.of_block k,h.f1.of_block k,h.f2.of_block k,h.f3.of_block k,ar h.om (fun b e=>D.block b (h.om.lt b e).2 (S b (Or.inr (Or.inl e)))),ar h.oi (fun b e=>D.block b (h.oi.lt b e).2 (S b (Or.inr (Or.inr e)))),h.ne,aP h.ba D.size⟩
theorem wh.keep(h:wh A w B G mv U M F root I T)(D:aj p w w')(hp:∀b,(b=G∨mv.ownBlock=b∨U.ownBlock=b)→¬p b)(ha:∀b,b<w.heap.size→p b→A b)(S:∀b,b<w.heap.size→A2 b→A b):wh A2 w' B G mv U M F root I T:=by
 obtain⟨v1,v2,v3,⟨f1,f2,f3⟩,r1,r2,r3⟩:=h.l;have k:=D.block G h.d.f0.lt (hp G (Or.inl rfl));exact⟨G6 h.d D hp,⟨v1,v2,v3,⟨f1.of_block k,f2.of_block k,f3.of_block k⟩,r1.keep D S ha,r2.keep D S ha,r3.keep D S ha⟩,h.le⟩
abbrev Db(V:Nat)(mv U:zV)(b:Nat):Prop:=b=V∨mv.ownBlock=some b∨U.ownBlock=some b
theorem UU(k:EdK pp vv ss M F root f g args j2 j1 L er d)(hl:M.length≤60∧F.length≤30)(hp:pp.size<281474976710656)(hn:I<4611686018427387904)(h:wh A w 0 V mv U M F root I T)(hA:∀b,Db V mv U b→A b):
  zC g (.pointer (some (V,0))::args).toArray w fun e w'=>e=.returned (er)∧∃S D,wh (fun b=>A b∨(w≤b∧b<w')) w' 0 V S D j2 j1 L (I+d) T∧aj (Db V mv U) w w'∧lI w mv S∧lI w U D:=by
 have z:∀{S D:zV} {w':zW} {q:Nat→Prop},gD w' 0 V S D j2 j1 L (I+d)→Fr w w' V→aj q w w'→(∀b,q b→Db V mv U b)→lI w mv S→lI w U D→∃S D,wh (fun b=>A b∨(w≤b∧b<w')) w' 0 V S D j2 j1 L (I+d) T∧aj (Db V mv U) w w'∧lI w mv S∧lI w U D:=fun {S D w' q'} h1 h2 h3 hq h4 h5=>by
  obtain⟨v1,v2,v3,⟨f1,f2,f3⟩,r1,r2,r3⟩:=h.l;have h3:=h3.mono (fun b _ e=>hq b e);have t:=h3.mono (fun b _ e=>hA b e);have q:∀b,b<w.heap.size→(A b∨(w≤b∧b<w'))→A b:=fun b hb e=>e.elim id (fun e=>ae)
  exact⟨_,_,⟨h1,⟨v1,v2,v3,⟨h2 4 _ aA f1,h2 5 _ aA f2,h2 6 _ aA f3⟩,r1.keep t q,r2.keep t q,r3.keep t q⟩,h.le⟩,h3,h4,h5⟩
 have m:∀b,(_∨_)→Db V mv U b:=fun b e=>e.imp id Or.inl
 have i:∀b,(_∨_)→Db V mv U b:=fun b e=>e.imp id Or.inr
 cases k
 ·exact((Oz pp vv ss 60 w ae ae hn).1 h.d rfl).mono fun e w' ⟨e1,Y,h1,h2,h3,h4⟩=>⟨e1,z h1 h2 h3 m h4 (lI.refl _ _)⟩
 ·exact((IE pp vv w ae ae hn).1 h.d).mono fun e w' ⟨e1,Y,h1,h2,h3,h4⟩=>⟨e1,z h1 h2 h3 m h4 (lI.refl _ _)⟩
 ·exact((Oz pp _ ss 30 w ae ae hn).2 h.d rfl rfl).mono fun e w' ⟨e1,Y,h1,h2,h3,h4⟩=>⟨e1,z h1 h2 h3 i (lI.refl _ _) h4⟩
 ·exact((IE pp _ w ae ae hn).2 h.d rfl).mono fun e w' ⟨e1,Y,h1,h2,h3,h4⟩=>⟨e1,z h1 h2 h3 i (lI.refl _ _) h4⟩
 ·exact(QJ pp w h.d ae hn).mono fun e w' ⟨e1,h1,h2,h3⟩=>⟨e1,z h1 h2 h3 (fun b e=>Or.inl e) (lI.refl _ _) (lI.refl _ _)⟩
structure Pr(A Z X:Nat→Prop)(w:World)(O pb V:Nat)(cap:Int)(mv U:zV)(M F:List Tt)(root:zA)(I:Nat)(T:Tri)(n:Nat):Prop where
 g:w.heap[O]?=some (.cells #[.pointer (some ⟨pb,0,none⟩),.pointer (some ⟨V,0,none⟩),.int .i64 cap] 49)
 ga:¬A O
 e:EgT A X w pb cap M F root I T n
 d:wh A w 0 V mv U M F root I T
 xz:∀b,X b→Z b
 dz:∀b,Db V mv U b→Z b∧¬X b
 za:∀b,Z b→A b
 le:(M.length≤60∧F.length≤30)∧root.size≤N48∧cap≤9223372036854775807
theorem EgT.less(h:EgT A X w pb cap M F root I T n)(hs:∀b,A2 b→A b)(hx:∀b,X b→A2 b):EgT A2 X w pb cap M F root I T n:=by
 obtain⟨S,cs,D,db,sb,fb,mb,g,r⟩:=h;exact⟨S,cs,D,db,sb,fb,mb,⟨g.eng.less hs ⟨hx _ g.xx.2.1,hx _ g.xx.2.2.2.1,hx _ g.xx.2.2.1,hx _ g.xx.2.2.2.2⟩,g.sh,g.tl.more (fun b _ e=>hs b e),hx,g.xx,fun e=>g.az (hs 0 e),g.ne,g.dc⟩,r⟩
theorem Pr.grow(h:Pr A Z X w O pb V cap mv U M F root I T n)(ht:aj p w w')(D:∀b,b<w.heap.size→p b→A b∧¬Z b)(hP:∀b,P b→w≤b∧b<w'):Pr (fun b=>A b∨P b) Z X w' O pb V cap mv U M F root I T n:=by
 have hl:=ag h.g;have hr:=h.e.lt;have q:∀b,b<w.heap.size→(A b∨P b)→A b:=fun b S e=>e.elim id (fun e=>ax)
 obtain⟨w1,k1,k2,k3⟩:=yI ht;refine⟨(ht.block O hl (fun e=>h.ga (D O hl e).1)).trans h.g,fun e=>h.ga (q O hl e),h.e.grow ht (fun b S e=>⟨(D b S e).1,fun x=>(D b S e).2 (h.xz b x)⟩) P hP,?_,h.xz,h.dz,fun b e=>Or.inl (h.za b e),h.le⟩;refine(h.d.keep (aj.of_below k1) (fun _ _ e=>e) (fun _ _ e=>e.elim) q).keep k2 (fun b e x=>(D b x.2 x.1).2 (h.dz b e).1) (fun b _ x=>Or.inl (D b x.2 x.1).1) (fun _ _ e=>e)
theorem Pr.turn(h:Pr A Z X w O pb V cap mv U M F root I T n)(S:aj p w w')(D:∀b,b<w.heap.size→p b→A b∧¬Z b):Pr A Z X w' O pb V cap mv U M F root I T n:=by
 have k:=h.grow S D (P:=fun _=>False) (fun _ e=>e.elim)
 grind
theorem Pr.less(h:Pr A Z X w O pb V cap mv U M F root I T n)(D:∀b,A2 b→A b)(S:∀b,Z b→A2 b):Pr A2 Z X w O pb V cap mv U M F root I T n:=
 ⟨h.g,fun e=>h.ga (D _ e),h.e.less D (fun b e=>S b (h.xz b e)),⟨h.d.d,by
  obtain⟨v1,v2,v3,f,r1,r2,r3⟩:=h.d.l;exact⟨v1,v2,v3,f,r1.more (fun b _ e=>D b e),r2.more (fun b _ e=>D b e),r3.more (fun b _ e=>D b e)⟩,h.d.le⟩,h.xz,h.dz,S,h.le⟩
theorem Pr.edited{D}{a0 S}(h:Pr A Z X w O pb V cap mv U M F root I T n)(k:EdK pp vv ss M F root f g args j2 j1 L er d)(h1:EgT A X D pb cap j2 j1 L (I+d) T n)(t1:aj X w D)(h2:wh (fun b=>A b∨(D≤b∧b<w')) w' 0 V a0 S j2 j1 L (I+d) T)(t2:aj (Db V mv U) D w')(hm:lI D mv a0)(hi:lI D U S):
  Pr (fun b=>A b∨(D≤b∧b<w')) (fun b=>Z b∨(D≤b∧b<w')) X w' O pb V cap a0 S j2 j1 L (I+d) T n∧aj Z w w':=by
 have s1:=t1.size;have hl:=ag h.g;have t:=t1.trans t2 (fun b _ e=>h.xz b e) (fun b _ e=>(h.dz b e).1);have ko:=k.ok h.le.1 h.le.2.1;have hx:=fun b e=>h1.lt.1 b (h1.lt.2.1 b e)
 refine⟨⟨(t.block O hl (fun e=>h.ga (h.za O e))).trans h.g,fun e=>e.elim h.ga (fun e=>ae),h1.grow t2 (fun b _ e=>⟨h.za b (h.dz b e).1,(h.dz b e).2⟩) _ (fun _ e=>e),h2,fun b e=>Or.inl (h.xz b e),fun b e=>?_,fun b e=>e.imp (h.za b) id,⟨ko.1,ko.2.1,h.le.2.2⟩⟩,t⟩;have old:_→(Z b∨(D≤b∧b<w'))∧_:=fun e=>⟨Or.inl (h.dz b e).1,(h.dz b e).2⟩
 have new:D≤b→_→(Z b∨(_∧b<w'))∧¬X b:=fun q q2=>⟨Or.inr ⟨q,q2⟩,fun x=>ax⟩
 rcases e with e|e|e
 ·grind
 ·exact(hm b e).elim (fun q=>old (Or.inr (Or.inl q))) (fun q=>new q (h2.d.om.lt b e).2)
 ·exact(hi b e).elim (fun q=>old (Or.inr (Or.inr q))) (fun q=>new q (h2.d.oi.lt b e).2)
end Pn
namespace Pn
open Mf Ed
structure Qs(Z:Nat→Prop)(Q:(Nat→Prop)→World→Prop):Prop where
 grow:∀{A P p:Nat→Prop} {w w':zW},Q A w→aj p w w'→(∀b,b<w.heap.size→p b→A b∧¬Z b)→(∀b,P b→w.heap.size≤b∧b<w'.heap.size)→Q (fun b=>A b∨P b) w'
 less:∀{A A2:Nat→Prop} {w:zW},Q A w→(∀b,A2 b→A b)→(∀b,Z b→A2 b)→Q A2 w
 lt:∀{A:Nat→Prop} {w:zW},Q A w→∀b,A b→b<w.heap.size
 za:∀{A:Nat→Prop} {w:zW},Q A w→∀b,Z b→A b
structure Bd(Q:(Nat→Prop)→World→Prop)(Z A R:Nat→Prop)(w:World)(wb:Nat)(g0 g1:zV)(c:Nat)(ss:Nat→zV)(E:Nat→List Ent):Prop where
 q:Q (fun b=>A b∨R b) w
 lw:Lw A R w wb g0 g1 c ss E
 nz:∀b,(b=wb∨R b∨∃k,k<3∧Ow (ss k) b)→¬Z b
 ra:∀b,R b→¬A b
variable{Q:(Nat→Prop)→zW→Prop}{Z Z' A A2 R X P p:Nat→Prop}{w w' W:zW}{wb c k f n B:Nat}{g0 g1 v:zV}{ss:Nat→zV}{E:Nat→List Ent}{xs:List zV}
theorem Qs.turn(S:Qs Z Q)(h:Q A w)(ht:aj p w w')(D:∀b,b<w.heap.size→p b→A b∧¬Z b):Q A w':=
 S.less (S.grow (P:=fun _=>False) h ht D (fun _ e=>e.elim)) (fun _ e=>Or.inl e) (S.za h)
theorem Bd.fin(S:Qs Z Q)(h:Bd Q Z A R w wb g0 g1 c ss E):Q A w∧Lw A (fun _=>False) w wb g0 g1 c ss E:=
 ⟨S.less h.q (fun _ e=>Or.inl e) (fun b e=>(S.za h.q b e).resolve_right (fun r=>h.nz b (Or.inr (Or.inl r)) e)),h.lw.keep (aj.refl (fun _=>False) w) (fun _ _ e=>e.elim) (fun _ e=>e.elim) (fun _ _ e=>Or.inl (e.resolve_right id)) (fun _ e=>e)⟩
theorem Bd.take(S:Qs Z Q)(T:TkP k f)(D:k<3)(h:Bd Q Z A R w wb g0 g1 c ss E)(hv:w.ownsRow B (tt k) (zt k) v n xs)(hn:n≤10000000)(hc:c≤10000000)(hR:∀b,Ow v b→R b):
  zC f #[.pointer (some (wb,0)),v] w fun e w'=>e=.returned (.tuple #[])∧∃Y E4,Bd Q Z (fun b=>A b∨Ow Y b) (fun b=>R b∧¬Ow v b) w' wb g0 g1 (c+1) (us ss k Y) (us E k (E k++E4))∧aj (Lb wb ss k v) w w'∧∀b,Ow Y b→A b∨w≤b:=by
 have hl:=S.lt h.q;refine(T A (fun b=>R b∧¬_) w wb g0 g1 c ss E B n v xs (h.lw.keep (aj.refl (fun _=>False) w) (fun _ _ e=>e.elim) (fun _ e=>e.elim) (fun b _ e=>e.imp id (fun e=>e.elim And.left (hR b))) (fun _ e=>e)) hv hn hc (fun b e q=>q.elim (h.ra b (hR b e)) (fun q=>q.2 e)) (fun b e=>hl b (e.imp id And.left))).mono fun e w' hh=>?_
 obtain⟨e1,Y,E4,l,t,hb⟩:=hh;refine⟨e1,Y,E4,⟨?_,l,fun b e=>?_,fun b e q=>?_⟩,t,fun b e=>(hb b e).imp (h.lw.la k b D) id⟩
 ·have lt:=fun b e=>((l.ro k D).lt b (by simpa[us] using e)).2
  refine S.less (S.grow (P:=fun b=>Ow Y b∧w≤b) h.q t (fun b a0 e=>?_) (fun b e=>⟨e.2,lt b e.1⟩)) (fun b e=>?_) (fun b e=>Or.inl (Or.inl ((S.za h.q b e).resolve_right (fun r=>h.nz b (Or.inr (Or.inl r)) e))))
  ·rcases e with e|e|e
   ·exact⟨Or.inl (e▸h.lw.aw),h.nz b (Or.inl e)⟩
   ·exact⟨Or.inl (h.lw.la k b D e),h.nz b (Or.inr (Or.inr ⟨k,D,e⟩))⟩
   ·exact⟨Or.inr (hR b e),h.nz b (Or.inr (Or.inl (hR b e)))⟩
  ·rcases e with(e|e)|e
   ·grind
   ·rcases hb b e with q|q
    ·exact Or.inl (Or.inl (h.lw.la k b D q))
    grind
   grind
 ·rcases e with e|e|⟨j,hj,e⟩
  ·exact h.nz b (Or.inl e)
  ·exact h.nz b (Or.inr (Or.inl e.1))
  ·by_cases q:j=k
   ·simp only[us,ay q] at e
    rcases hb b e with z|z
    ·exact h.nz b (Or.inr (Or.inr ⟨k,D,z⟩))
    ·exact fun y=>by have:=hl b (S.za h.q b y);omega
   ·simp only[us,au q] at e
    exact h.nz b (Or.inr (Or.inr ⟨j,hj,e⟩))
 ·rcases q with q|q
  ·exact h.ra b e.1 q
  ·rcases hb b q with z|z
   ·exact h.ra b e.1 (h.lw.la k b D z)
   grind
def Pq(A Z:Nat→Prop)(w:zW)(O q:Nat):Prop:=∃X pb V cap mv U M F root I T n,Pr A Z X w O pb V cap mv U M F root I T n∧I≤q∧n≤q*1948378
theorem Pq.grow{O q}(h:Pq A Z w O q)(ht:aj p w w')(S:∀b,b<w.heap.size→p b→A b∧¬Z b)(D:∀b,P b→w≤b∧b<w'):Pq (fun b=>A b∨P b) Z w' O q:=by
 obtain⟨X,pb,V,cap,mv,U,M,F,root,I,T,n,h,r⟩:=h;exact⟨X,pb,V,cap,mv,U,M,F,root,I,T,n,h.grow ht S D,r⟩
theorem Pq.less{O q}(h:Pq A Z w O q)(D:∀b,A2 b→A b)(S:∀b,Z b→A2 b):Pq A2 Z w O q:=by
 obtain⟨X,pb,V,cap,mv,U,M,F,root,I,T,n,h,r⟩:=h;exact⟨X,pb,V,cap,mv,U,M,F,root,I,T,n,h.less D S,r⟩
theorem Pq.more{O q D}(h:Pq A Z w O q)(S:q≤D):Pq A Z w O D:=by
 obtain⟨X,pb,V,cap,mv,U,M,F,root,I,T,n,h,r⟩:=h;exact⟨X,pb,V,cap,mv,U,M,F,root,I,T,n,h,ae,ae⟩
theorem Pq.za{O q}(h:Pq A Z w O q):(∀b,Z b→A b)∧∀b,A b→b<w:=by
 obtain⟨X,pb,V,cap,mv,U,M,F,root,I,T,n,h,r⟩:=h;exact⟨h.za,h.e.lt.1⟩
theorem G7 Z Z' O a0 q q':Qs (fun b=>Z b∨Z' b) (fun A w=>Pq A Z w O q∧Pq A Z' w a0 q'):=
 ⟨fun h ht S hP=>⟨h.1.grow ht (fun b D e=>⟨(S b D e).1,fun z=>(S b D e).2 (Or.inl z)⟩) hP,h.2.grow ht (fun b D e=>⟨(S b D e).1,fun z=>(S b D e).2 (Or.inr z)⟩) hP⟩,fun h hs hz=>⟨h.1.less hs (fun b e=>hz b (Or.inl e)),h.2.less hs (fun b e=>hz b (Or.inr e))⟩,fun h=>h.1.za.2,fun h b e=>e.elim (h.1.za.1 b) (h.2.za.1 b)⟩
structure Sy(A Z Z':Nat→Prop)(w:World)(wb:Nat)(g0 g1:zV)(O gb' q c:Nat)(ss:Nat→zV)(E:Nat→List Ent):Prop where
 m:Pq A Z w O q
 o:Pq A Z' w gb' q
 l:Lw A (fun _=>False) w wb g0 g1 c ss E
 nz:∀b,(b=wb∨∃k,k<3∧Ow (ss k) b)→¬(Z b∨Z' b)
 zz:∀b,Z b→¬Z' b
 cq:c≤5*q
def SyP(A Z':Nat→Prop)(w:zW)(wb:Nat)(g0 g1:zV)(O D q:Nat)(w':zW):Prop:=∃A' Z1 c' S E',Sy A' Z1 Z' w' wb g0 g1 O D (q+1) c' S E'∧aj A w w'∧(∀b,A' b→A b∨w.heap.size≤b)∧∀b,Z1 b→A b∨w.heap.size≤b
