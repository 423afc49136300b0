import Derived.Test.YtelmkfkgpnadnaaGreatDoorJShelf
import Derived.Test.YtelmkfkgpnadnaaGreatDoorJCB
import Derived.Test.YtelmkfkgpnadnaaGreatDoorJPME
set_option linter.all false
open Go.Proofs.Tryz
set_option maxRecDepth 100000
set_option maxHeartbeats 2000000
namespace Go.Proofs.YtelmkfkgpnadnaaGreatDoor
section
open Go.RowKit Go.Sort Go.Shelf Go.Lib
namespace Ss
theorem pF{α:Type}{lt:α→α→Bool}(hS:SWO lt)(L:List α):(aJ lt L).Pairwise (fun a b=>lt b a=false):=by
 obtain⟨T,hT⟩:∃T:List (α×Nat),T=L.mapIdx fun i x=>(x,i):=⟨_,rfl⟩
 have hp:T.Pairwise (fun a b=>a.2<b.2):=by
  rw[hT,fA];intro i j hi hj hij;simpa using hij
 have hm:T.map Prod.fst=L:=by
  rw[hT];apply lF;intro i;simp[Function.comp_def]
 have hS':SWO (fun x y:α×Nat=>lt x.1 y.1):=⟨fun x=>hS.irrefl _,fun x y z h1 h2=>hS.trans _ _ _ h1 h2,fun x y z h1 h2=>hS.ntrans _ _ _ h1 h2⟩;have h1:=iQ (tag:=Prod.snd) hS' T hp;have h2:=jV (lt:=fun x y:α×Nat=>lt x.1 y.1) Prod.fst lt (fun _ _=>rfl) T;rw[←hm,←h2,jC];exact h1.imp (fun h=>((dZ _ _).1 h).1)
theorem IP{α:Type}[Inhabited α]{cf:α→α→Int}(hC:Pv.Cmp (fun _=>True) cf){d d':Array α}(hP:PermIn 0 d.size d d')(hS:SortedIn (Go.Proofs.ltOf cf) 0 d.size d'):d'.toList=aJ (Go.Proofs.ltOf cf) d.toList:=by
 have hW:SWO (Go.Proofs.ltOf cf):=Pv.ni id hC
 have hp:d'.toList.Perm d.toList:=by
  have h1:=hP.2.2;have e1:d'.extract 0 d.size=d':=by rw[←hP.1];exact oC
  have e2:d.extract 0 d.size=d:=oC;rw[e1,e2] at h1;exact h1
 refine rX (lt:=Go.Proofs.ltOf cf) (tag:=fun _=>0) _ _ (hp.trans (bY _).symm) ?_ (List.Pairwise.imp (R:=fun a b=>Go.Proofs.ltOf cf b a=false) (fun {a b} h=>(dZ (lt:=Go.Proofs.ltOf cf) (tag:=fun _=>0) b a).2 ⟨h,Or.inr (ag _)⟩) (pF hW _)) ?_
 ·unfold Ck
  rw[fA];intro i j hi hj hij;have hi':i<d'.size:=by simpa using hi
  have hj':j<d'.size:=by simpa using hj
  have:=hS i j (aK _) hij (by rw[←hP.1];exact hj');rw[bC d' i hi',bC d' j hj'] at this;exact(dZ _ _).2 ⟨by simpa using this,Or.inr (ag _)⟩
 ·intro x _ y _ h1 h2
  have h1:=((dZ _ _).1 h1).1;have h2:=((dZ _ _).1 h2).1;unfold Go.Proofs.ltOf at h1 h2;have h3:=hC.anti x y trivial trivial;refine hC.zero x y trivial trivial ?_;have h4:¬cf x y<0:=by simpa using h1
  have h5:¬cf y x<0:=by simpa using h2
  omega
theorem yj{α:Type}[Inhabited α]{enc:α→List zV}{k:Nat}(hk:∀x,(enc x).length=k)(h0:0<k){cf:α→α→Int}(hC:Pv.Cmp (fun _=>True) cf)(fn gn:Nat)
  (kS:∀(blk off cap:Nat)(d:Array α)(w:zW),CmpLays prog gn #[] enc k cf blk off d.size w→HoldsK enc k w blk off d→blk<w.heap.size→d.size<4611686018427387904→
   zC fn #[.slice (some ⟨blk,off,none⟩) d.size cap,.func (.func gn) #[] #[]] w fun e w'=>e=.returned (.tuple #[])∧∃d' n os,PermIn 0 d.size d d'∧SortedIn (Go.Proofs.ltOf cf) 0 d.size d'∧w'=sortWorldK enc k w blk off n d' os)
  (kC:∀(x y:α)(W:zW),Ml W→zC gn #[.agg (enc x).toArray,.agg (enc y).toArray] W fun e w'=>e=.returned (zI (cf x y))∧Dr.Below W.heap.size W w')
  (B e g cap:Nat) (L:List α) (w:zW) (hm:Ml w) (hg0:g≠0) (h:w.ownsRow B e k (.slice (some ⟨g,0,none⟩) L.length cap) L.length (L.flatMap enc)) (hl:L.length≤4000000000000000000):
  zC fn #[.slice (some ⟨g,0,none⟩) L.length cap,.func (.func gn) #[] #[]] w fun e' w'=>e'=.returned (.tuple #[])∧w'.ownsRow B e k (.slice (some ⟨g,0,none⟩) L.length cap) L.length ((aJ (Go.Proofs.ltOf cf) L).flatMap enc)∧aj (fun b=>b=g) w w':=by
 have hs:L.toArray.size=L.length:=by simp
 have h':w.ownsRow B e k (.slice (some ⟨g,0,none⟩) L.toArray.size cap) L.toArray.size (L.toArray.toList.flatMap enc):=by simpa using h
 have hH:=tV hk h0 h';have hgl:=(h.lt g rfl).2
 have hcmp:CmpLays prog gn #[] enc k cf g 0 L.toArray.size w:=fun m os dk hs x y=>by
  have hml:Ml (sortWorldK enc k w g 0 m dk os):=by
   obtain⟨q,e⟩:=hm;have h0:=aU w _ e;exact⟨q,by rw[aW (w:=w) (a:=⟨0,0,none⟩) (pQ (⟨m,os,rfl⟩:SWK enc k w g 0 dk _) 0 h0 (fun e=>hg0 e.symm))];exact e⟩
  refine(kC x y _ hml).mono ?_;rintro e w' ⟨rfl,hb⟩;exact⟨rfl,hb.grow⟩
 have k1:=kS g 0 cap L.toArray w hcmp hH hgl (by rw[hs];omega);rw[hs] at k1;refine k1.mono ?_;rintro e' w' ⟨rfl,d',n,os,hP,hS,rfl⟩
 have hd:d'.toList=aJ (Go.Proofs.ltOf cf) L:=by
  have:=IP hC (d:=L.toArray) (d':=d') (by rw[hs];exact hP) (by rw[hs];exact hS);simpa using this
 have hz:d'.size=L.length:=by rw[←hs];exact hP.1
 have hr:=qV hk h0 (d:=L.toArray) (d':=d') hz (by simpa using h) (⟨n,os,rfl⟩:SWK enc k w g 0 d' _);rw[hd] at hr;exact⟨rfl,hr⟩
theorem ui:∀args w,(callFunc 128 args).run prog w=.ok (.enter 128 args) w:=fun _ _=>by kernel_rfl
theorem IQ(B e g cap:Nat)(L:List Mo)(w:zW)(hm:Ml w)(hg0:g≠0)(h:w.ownsRow B e 2 (.slice (some ⟨g,0,none⟩) L.length cap) L.length (L.flatMap Sm.mc))(hl:L.length≤4000000000000000000):
  zC 339 #[.slice (some ⟨g,0,none⟩) L.length cap,.func (.func 128) #[] #[]] w fun e' w'=>e'=.returned (.tuple #[])∧w'.ownsRow B e 2 (.slice (some ⟨g,0,none⟩) L.length cap) L.length ((aJ (Go.Proofs.ltOf fF) L).flatMap Sm.mc)∧aj (fun b=>b=g) w w':=
 yj (enc:=Sm.mc) (k:=2) (fun _=>rfl) (by decide) rW 339 128
  (fun blk off cap d w hc hH hb hs=>Tryz.sortFunc_m 2 isAgg29 sizeOf29 Sm.mc (fun _=>rfl) (fun x v hv=>Sm.Bb [x] v (by simpa using hv)) fF (Pv.ni id rW) 128 #[] blk off cap d w ui hc hH hb hs)
  (fun x y W hW=>Dr.compareModules_any x.1 x.2 y.1 y.2 W hW) B e g cap L w hm hg0 h hl
end Ss
end
section
open Go.RowKit
namespace Pn
open Mf Ed
open Classical in
theorem Fj{S:List Mo}{i:Nat}{x y:Mo}(hx:S[i]?=some x)(hy:S[i+1]?=some y)(e:y.1=x.1):lasts (S.drop i)=lasts (S.drop (i+1)):=by
 obtain⟨h1,e1⟩:=cq.1 hx;obtain⟨h2,e2⟩:=cq.1 hy;rw[dt h1,dt h2,e1,e2,lasts,ah e]
open Classical in
theorem Fl{S:List Mo}{i:Nat}{x y:Mo}(hx:S[i]?=some x)(hy:S[i+1]?=some y)(e:y.1≠x.1):lasts (S.drop i)=x::lasts (S.drop (i+1)):=by
 obtain⟨h1,e1⟩:=cq.1 hx;obtain⟨h2,e2⟩:=cq.1 hy;rw[dt h1,dt h2,e1,e2,lasts,af e]
theorem IU{S:List Mo}{i:Nat}{x:Mo}(hx:S[i]?=some x)(hn:S.length≤i+1):lasts (S.drop i)=x::lasts (S.drop (i+1)):=by
 obtain⟨h1,e1⟩:=cq.1 hx;rw[dt h1,rO hn,e1]
 rfl
theorem Ll{S:List Mo}{i:Nat}{x:Mo}(h:S[i]?=some x):(S.flatMap Sm.mc)[i*2]?=some (.string x.1)∧(S.flatMap Sm.mc)[i*2+1]?=some (.string x.2):=by
 obtain⟨hi,e⟩:=cq.1 h;have h0:=Ss.flat_get (enc:=Sm.mc) (k:=2) (fun _=>rfl) (by decide) S (i*2) (by omega);have h1:=Ss.flat_get (enc:=Sm.mc) (k:=2) (fun _=>rfl) (by decide) S (i*2+1) (by omega);rw[show i*2/2=i by omega,show i*2%2=0 by omega,bC S i hi,e] at h0;rw[show(i*2+1)/2=i by omega,show(i*2+1)%2=1 by omega,bC S i hi,e] at h1;exact⟨h0,h1⟩
theorem DG(B g c:Nat)(l:List Mo)(w:zW)(hm:Ml w)(hg0:g≠0)(hl:l.length≤1000)(h:w.ownsRow B 29 2 (.slice (some ⟨g,0,none⟩) l.length c) l.length (mcs l)):
  zC 330 #[.slice (some ⟨g,0,none⟩) l.length c] w fun e w'=>∃mv,e=.returned mv∧w'.ownsRow w.heap.size 29 2 mv (highest l).length (mcs (highest l))∧aj (fun b=>b=g) w w':=by
 obtain⟨i2,hi1,hi2,hi3,hi4⟩:=Bm.gM 29 (.agg #[zE,zE]) 2 32 (by kernel_rfl);have HI:Hid (prog.info? 29=some i2∧i2.zero=some (.agg #[zE,zE])∧i2.size=2∧i2.bytes=32):=⟨hi1,hi2,hi3,hi4⟩;clear hi1 hi2 hi3 hi4;have kS:=Ss.IQ B 29 g c l w hm hg0 h (by omega);obtain⟨S,hS⟩:∃S,S=Ss.aJ (ltOf fF) l:=⟨_,rfl⟩;have hSl:S.length=l.length:=by rw[hS];exact Ss.df _
 rw[←hS] at kS
 have HH:Hid (lasts (S.drop 0)=highest l):=by
  show lasts (S.drop 0)=highest l;rw[List.drop_zero,hS];rfl
 have hgl:=(h.lt g rfl).2;clear h hm hS hg0;generalize highest l=hh at*;generalize l.length=n at*;have HSl:Hid (S.length=n):=hSl;clear hSl;go_enter func330,ntmps330
 go_wp2_with (go_at_call 339;fail)
 go_at_call 339;refine kS.mono ?_;rintro e w1 ⟨rfl,ho1,ht1⟩;clear kS
 have FG:Hid (∀wr:zW,wr.heap[g]?=w1.heap[g]?→∀i,i<n→∃x:Mo,S[i]?=some x∧wr.cell? ⟨g,i*2,none⟩=some (.string x.1)∧wr.cell? ⟨g,i*2+1,none⟩=some (.string x.2)):=fun wr hb i hi=>by
  have hi':i<S.length:=by have:=HSl.out;omega
  have hx:S[i]?=some S[i]:=aO hi';obtain⟨h0,h1⟩:=Ll hx;refine⟨S[i],hx,?_,?_⟩
  ·rw[aW (w:=w1) (a:=⟨g,i*2,none⟩) hb,ho1.cellAt (i*2) (by omega)];exact h0
  ·rw[aW (w:=w1) (a:=⟨g,i*2+1,none⟩) hb,ho1.cellAt (i*2+1) (by omega)];exact h1
 have HT1:Hid (aj (fun b=>b=g) w w1):=ht1;have hs1:=ht1.size;clear ho1 ht1;go_wp2;go_loopg [3,10] n (fun gg s3 s10 wr=>∃(i:Nat)(ms:List Mo)(mv:zV),i≤n∧n-i≤gg∧s3=mv∧s10=zI i∧Hid (wr.heap[g]?=w1.heap[g]?∧aj (fun b=>b=g) w wr∧wr.ownsRow w.heap.size 29 2 mv ms.length (mcs ms)∧ms++lasts (S.drop i)=hh∧ms.length≤i))
 case atStart=>exact⟨0,[],zN,by omega,by omega,rfl,rfl,rfl,HT1.out,iW _ _ _ _,HH.out,ag _⟩
 case round=>
  obtain⟨i,ms,mv,hi,hg,rfl,rfl,HR⟩:=hrel;clear HH HT1;by_cases hin:i<n
  ·obtain⟨x,hx,x0,x1⟩:=FG.out wr HR.out.1 i hin
   have hil:((i:Nat):Int)<(n:Int):=by omega
   have hml:=HR.out.2.2.2.2;obtain⟨x0',x1'⟩:=x;simp only at x0 x1;obtain⟨ma,mc,e1⟩:=ay HR.out.2.2.1;subst e1;have hwr:=HR.out.2.1.size;have hgr:g<wr.heap.size:=by omega
   have HB5:Hid (zB wr (wr.alloc (.cells #[.string x0',.string x1'] 29))∧(wr.alloc (.cells #[.string x0',.string x1'] 29)).heap[wr.heap.size]?=some (.cells #[.string x0',.string x1'] 29)∧(wr.alloc (.cells #[.string x0',.string x1'] 29)).heap.size=wr.heap.size+1):=⟨(ae _ _).alloc (ag _) _,aD _ _,by simp⟩;go_upto_region 6 with fail;clear x0 x1;generalize hW2:wr.alloc (.cells #[.string x0',.string x1'] 29)=W2 at*;have HR2:Hid (W2.heap[g]?=w1.heap[g]?∧aj (fun b=>b=g) w W2∧W2.ownsRow w.heap.size 29 2 (.slice ma ms.length mc) ms.length (mcs ms)):=⟨(HB5.out.1.block g hgr).trans HR.out.1,HR.out.2.1.more HB5.out.1,ar HR.out.2.2.1 (fun b e=>HB5.out.1.block b (HR.out.2.2.1.lt b e).2)⟩;obtain⟨⟨z0,_⟩,⟨z1,_⟩⟩:=fd2 HB5.out.2.1;clear hW2;by_cases hi1:i+1<n
   ·obtain⟨y,hy,y0,y1⟩:=FG.out W2 HR2.out.1 (i+1) hi1
    obtain⟨y0',y1'⟩:=y;simp only at y0 y1;have hd1:decide (((i:Nat):Int)+1<(n:Int))=true:=cT (by omega);have hd2:((i:Nat):Int)+1<(n:Int):=by omega
    by_cases he:y0'=x0'
    ·have HN:Hid (ms++lasts (S.drop (i+1))=hh):=by
      show ms++lasts (S.drop (i+1))=hh;rw[←Fj hx hy he];exact HR.out.2.2.2.1
     have q0:(y0'.toList==x0'.toList)=true:=by rw[he];simp
     clear hx hy he;go_quiet (fail);generalize hW:World.drewN _ _=W4
     have HR4:Hid (W4.heap[g]?=w1.heap[g]?∧aj (fun b=>b=g) w W4∧W4.ownsRow w.heap.size 29 2 (.slice ma ms.length mc) ms.length (mcs ms)):=by
      rw[←hW];exact⟨HR2.out.1,HR2.out.2.1.more (aZ (ae _ _) _),ar HR2.out.2.2 (fun _ _=>rfl)⟩
     clear hW;go_wp2;go_roundg (n-(i+1))
     case measure=>omega
     case rel=>exact⟨i+1,ms,_,by omega,by omega,rfl,by go_num,HR4.out.1,HR4.out.2.1,HR4.out.2.2,HN.out,by omega⟩
    ·have HN:Hid (ms++[(x0',x1')]++lasts (S.drop (i+1))=hh):=by
      show ms++[(x0',x1')]++lasts (S.drop (i+1))=hh;rw[eP,ow,←Fl hx hy he];exact HR.out.2.2.2.1
     have q0:=Rn.dr he;clear hx hy he;go_quiet (fail);generalize hW:World.drewN _ _=W4
     have HR4:Hid ((W4.heap[g]?=w1.heap[g]?∧aj (fun b=>b=g) w W4∧W4.ownsRow w.heap.size 29 2 (.slice ma ms.length mc) ms.length (mcs ms))∧W4.heap[wr.heap.size]?=some (.cells #[.string x0',.string x1'] 29)∧W4.heap.size=wr.heap.size+1):=by
      rw[←hW];exact⟨⟨HR2.out.1,HR2.out.2.1.more (aZ (ae _ _) _),ar HR2.out.2.2 (fun _ _=>rfl)⟩,HB5.out.2.1,HB5.out.2.2⟩
     clear hW z0 z1;obtain⟨⟨z0,_⟩,⟨z1,_⟩⟩:=fd2 HR4.out.2.1;have hnw:∀j u,[Value.string x0',.string x1'][j]?=some u→(W4.alloc (.cells #[.string x0',.string x1'] 29)).cell? ((⟨W4.heap.size,0,none⟩:Addr).add j)=some u:=cell_two_new W4 29 _ _;have hw4:=HR4.out.2.2;have Qd:(W4.alloc (.cells #[.string x0',.string x1'] 29)).heap.size=W4.heap.size+1:=by simp
     have HZ4:Hid (W4.heap.size=wr.heap.size+1):=hw4;clear hw4
     go_wp2_with (at_builtin;refine dU _ rfl _ _ 23 rfl w.heap.size 29 i2 (.agg #[zE,zE]) 2 32 underlying23 HI.out.1 HI.out.2.1 HI.out.2.2.1 HI.out.2.2.2 rfl (by decide) (.slice ma ms.length mc) ms.length (mcs ms) rfl (HR4.out.1.2.2.alloc _) ⟨W4.heap.size,0,none⟩ 1 1 [.string x0',.string x1'] rfl rfl hnw ?_ ?_ ?_ ?_ ?_)
     all_goals first
      |(show ∀u∈[Value.string x0',Value.string x1'],u.oneCell'=true;intro u hu;simp at hu;rcases hu with rfl|rfl<;>rfl)
      |(show ms.length+1≤maxLen;unfold maxLen;omega)
      |(show(ms.length+1)*32≤140737488355328;omega)
      |(show w.heap.size≤(W4.alloc _).heap.size;rw[Qd];have:=HZ4.out;omega)
      |(show w.heap.size≤W4.heap.size+1;have:=HZ4.out;omega)
      |skip
     intro lv' w3 hown' hgrow _ hloc
     have HB3:Hid (w3.heap[g]?=w1.heap[g]?∧aj (fun b=>b=g) w w3∧w3.ownsRow w.heap.size 29 2 lv' (ms++[(x0',x1')]).length (mcs (ms++[(x0',x1')]))∧ms++[(x0',x1')]++lasts (S.drop (i+1))=hh∧(ms++[(x0',x1')]).length≤i+1):=by
      have hT:aj (fun b=>(Value.slice ma ms.length mc).ownBlock=some b) W4 w3:=((aj.refl _ _).alloc _).grown hgrow (fun b _ e=>e);have hlt:∀b,(Value.slice ma ms.length mc).ownBlock=some b→w.heap.size≤b:=fun b e=>(HR4.out.1.2.2.lt b e).1
      refine⟨(hT.block g (by have:=HZ4.out;omega) (fun e=>by have:=hlt g e;omega)).trans HR4.out.1.1,HR4.out.1.2.1.trans hT (fun _ _ e=>e) (fun b hb e=>by have:=hlt b e;omega),?_,HN.out,by rw[bg,fc];omega⟩;rw[bg];simpa[mcs,Sm.mc] using hown'
     clear hown' hgrow hloc hnw z0 z1;go_wp2;go_roundg (n-(i+1))
     case measure=>omega
     case rel=>exact⟨i+1,_,_,by omega,by omega,rfl,by go_num,HB3⟩
   ·have HN:Hid (ms++[(x0',x1')]++lasts (S.drop (i+1))=hh):=by
     show ms++[(x0',x1')]++lasts (S.drop (i+1))=hh;rw[eP,ow,←IU hx (by have:=HSl.out;omega)];exact HR.out.2.2.2.1
    have hd1:decide (((i:Nat):Int)+1<(n:Int))=false:=bK (by omega);have hd2:(((i:Nat):Int)+1<(n:Int))=False:=by simp;omega
    have hd3:decide ((n:Int)>((i:Nat):Int)+1)=false:=bK (by omega);clear hx;go_quiet (fail);generalize hW:World.drewN _ _=W4
    have HR4:Hid ((W4.heap[g]?=w1.heap[g]?∧aj (fun b=>b=g) w W4∧W4.ownsRow w.heap.size 29 2 (.slice ma ms.length mc) ms.length (mcs ms))∧W4.heap[wr.heap.size]?=some (.cells #[.string x0',.string x1'] 29)∧W4.heap.size=wr.heap.size+1):=by
     rw[←hW];exact⟨⟨HR2.out.1,HR2.out.2.1.more (aZ (ae _ _) _),ar HR2.out.2.2 (fun _ _=>rfl)⟩,HB5.out.2.1,HB5.out.2.2⟩
    clear hW z0 z1;obtain⟨⟨z0,_⟩,⟨z1,_⟩⟩:=fd2 HR4.out.2.1;have hnw:∀j u,[Value.string x0',.string x1'][j]?=some u→(W4.alloc (.cells #[.string x0',.string x1'] 29)).cell? ((⟨W4.heap.size,0,none⟩:Addr).add j)=some u:=cell_two_new W4 29 _ _;have hw4:=HR4.out.2.2;have Qd:(W4.alloc (.cells #[.string x0',.string x1'] 29)).heap.size=W4.heap.size+1:=by simp
    have HZ4:Hid (W4.heap.size=wr.heap.size+1):=hw4;clear hw4
    go_wp2_with (at_builtin;refine dU _ rfl _ _ 23 rfl w.heap.size 29 i2 (.agg #[zE,zE]) 2 32 underlying23 HI.out.1 HI.out.2.1 HI.out.2.2.1 HI.out.2.2.2 rfl (by decide) (.slice ma ms.length mc) ms.length (mcs ms) rfl (HR4.out.1.2.2.alloc _) ⟨W4.heap.size,0,none⟩ 1 1 [.string x0',.string x1'] rfl rfl hnw ?_ ?_ ?_ ?_ ?_)
    all_goals first
     |(show ∀u∈[Value.string x0',Value.string x1'],u.oneCell'=true;intro u hu;simp at hu;rcases hu with rfl|rfl<;>rfl)
     |(show ms.length+1≤maxLen;unfold maxLen;omega)
     |(show(ms.length+1)*32≤140737488355328;omega)
     |(show w.heap.size≤(W4.alloc _).heap.size;rw[Qd];have:=HZ4.out;omega)
     |(show w.heap.size≤W4.heap.size+1;have:=HZ4.out;omega)
     |skip
    intro lv' w3 hown' hgrow _ hloc
    have HB3:Hid (w3.heap[g]?=w1.heap[g]?∧aj (fun b=>b=g) w w3∧w3.ownsRow w.heap.size 29 2 lv' (ms++[(x0',x1')]).length (mcs (ms++[(x0',x1')]))∧ms++[(x0',x1')]++lasts (S.drop (i+1))=hh∧(ms++[(x0',x1')]).length≤i+1):=by
     have hT:aj (fun b=>(Value.slice ma ms.length mc).ownBlock=some b) W4 w3:=((aj.refl _ _).alloc _).grown hgrow (fun b _ e=>e);have hlt:∀b,(Value.slice ma ms.length mc).ownBlock=some b→w.heap.size≤b:=fun b e=>(HR4.out.1.2.2.lt b e).1
     refine⟨(hT.block g (by have:=HZ4.out;omega) (fun e=>by have:=hlt g e;omega)).trans HR4.out.1.1,HR4.out.1.2.1.trans hT (fun _ _ e=>e) (fun b hb e=>by have:=hlt b e;omega),?_,HN.out,by rw[bg,fc];omega⟩;rw[bg];simpa[mcs,Sm.mc] using hown'
    clear hown' hgrow hloc hnw z0 z1;go_wp2;go_roundg (n-(i+1))
    case measure=>omega
    case rel=>exact⟨i+1,_,_,by omega,by omega,rfl,by go_num,HB3⟩
  ·have hil:(((i:Nat):Int)<(n:Int))=False:=by simp;omega
   have HE:Hid (ms=hh):=by
    show ms=hh;have h1:=HR.out.2.2.2.1;rw[rO (by have:=HSl.out;omega)] at h1;simpa[lasts] using h1
   go_wp2;go_ret;exact⟨_,rfl,by rw[←HE.out];exact HR.out.2.2.1,HR.out.2.1⟩
