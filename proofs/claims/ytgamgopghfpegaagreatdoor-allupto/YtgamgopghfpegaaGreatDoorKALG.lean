import Derived.Test.YtgamgopghfpegaaGreatDoorKALE
set_option linter.all false
open Go.Proofs.Tryz
set_option maxRecDepth 100000
set_option maxHeartbeats 8000000
namespace Go.Proofs.YtgamgopghfpegaaGreatDoor
open Go.RowKit
namespace Pn
open Mf Ed
variable{A Z Y X P p:Nat→Prop}{w a B W:zW}{Q I G q c:Nat}{U V:zV}{F:Nat→zV}{E:Nat→List Ent}
theorem Sy.below(h:Sy A Z Y w Q U V I G q c F E)(f:Below w w W):Sy A Z Y W Q U V I G q c F E:=by
 have k:=(G7 Z Y I G q q).turn (p:=fun _=>False) ⟨h.m,h.o⟩ (aj.of_below f) (fun _ _ e=>e.elim);exact⟨k.1,k.2,h.l.keep (p:=fun _=>False) (aj.of_below f) (fun _ _ e=>e.elim) (fun _ e=>e.elim) (fun _ _ e=>e) (fun _ e=>e),h.nz,h.zz,h.cq⟩
theorem Sy.same(h:Sy A Z Y w Q U V I G q c F E)(f:Below w w W):SyP A Y w Q U V I G q W:=by
 have k:=h.below f;have:=h.cq;exact⟨A,Z,c,F,E,⟨k.m.more (bW q),k.o.more (bW q),k.l,k.nz,k.zz,ae⟩,aj.of_below f,fun _ e=>Or.inl e,fun b e=>Or.inl (h.m.za.1 b e)⟩
theorem SyP.of_below(h:SyP A Y W Q U V I G q a)(S:Below w w W):SyP A Y w Q U V I G q a:=by
 obtain⟨A',Z1,c',f,E',k1,k2,k3,k4⟩:=h;have:=S.size;exact⟨A',Z1,c',f,E',k1,(aj.of_below (p:=fun _=>False) S).trans k2 (fun _ _ e=>e.elim) (fun _ _ e=>e),fun b e=>(k3 b e).imp id (fun e=>ae),fun b e=>(k4 b e).imp id (fun e=>ae)⟩
theorem Sy.next{f}(h:Sy A Z Y w Q U V I G q c F E)(hq:Pq (fun b=>A b∨P b) f W I (q+1))(ht:aj Z w W)(S:∀b,P b→w≤b∧b<W)(hz:∀b,f b→Z b∨P b):SyP A Y w Q U V I G q W:=by
 have za:=h.m.za;have zo:=h.o.za;have lz:∀b,(b=Q∨∃k,_∧_)→_:=fun b e=>e.elim (fun e=>e▸ag h.l.hw) (fun⟨k,hk,e⟩=>((h.l.ro k hk).lt b e).2)
 have:=h.cq;refine⟨fun b=>A b∨P b,f,c,F,E,⟨hq,(h.o.more (bW q)).grow ht (fun b _ e=>⟨za.1 b e,h.zz b e⟩) S,h.l.keep ht (fun b _ e=>Or.inl (za.1 b e)) (fun b e=>⟨fun q=>h.nz b (Or.inl q) (Or.inl e),fun k hk q=>h.nz b (Or.inr ⟨k,hk,q⟩) (Or.inl e)⟩) (fun b hb e=>(e.resolve_right id).imp id (fun e=>ax)) (fun _ e=>Or.inl e),fun b e z=>?_,fun b e z=>?_,ae⟩,ht.mono (fun b _ e=>za.1 b e),fun b e=>e.imp id (fun e=>(S b e).1),fun b e=>(hz b e).imp (za.1 b) (fun e=>(S b e).1)⟩
 ·rcases z with z|z
  ·rcases hz b z with z|z
   ·exact h.nz b e (Or.inl z)
   grind
  ·exact h.nz b e (Or.inr z)
 ·rcases hz b e with e|e
  ·exact h.zz b e z
  grind
theorem EdK.of p v s L R root(S:Int)(h:1≤S∧S≤5):∃f g args a2 a1 a0 er d,EdK p v s L R root f g args a2 a1 a0 er d∧((S=1∧f=13∧g=14∧args=[.string p,.string v,.string s])∨(S=2∧f=15∧g=16∧args=[.string p,.string v])∨(S=3∧f=17∧g=18∧args=[.string p,.string s])∨(S=4∧f=19∧g=20∧args=[.string p])∨(S=5∧f=21∧g=22∧args=[.string p])):=by
 rcases(by omega:S=1∨S=2∨S=3∨S=4∨S=5) with rfl|rfl|rfl|rfl|rfl
 ·exact⟨_,_,_,_,_,_,_,_,.pm,ah⟩
 ·exact⟨_,_,_,_,_,_,_,_,.dm,ah⟩
 ·exact⟨_,_,_,_,_,_,_,_,.pi,ah⟩
 ·exact⟨_,_,_,_,_,_,_,_,.di,ah⟩
 ·exact⟨_,_,_,_,_,_,_,_,.sr,ah⟩
def Ed1(A Y:Nat→Prop)(W:zW)(Q:Nat)(U V:zV)(I G q D g:Nat)(args:List zV)(S:Int)(B:zW):Prop:=
 aj A W B∧∀f,zB B f→zC g (.pointer (some ⟨D,0,none⟩)::args).toArray f fun e w4=>e=.returned (.int .i64 S)∧SyP A Y W Q U V I G q w4
theorem Sy.edit{pv vv sv}{L R a3 a2}{root a0}{O D f g d J n}{cap er}{mv M}{T}{args}(h:Sy A Z Y w Q U V I G q c F E)(S:Pr A Z X w I O D cap mv M L R root J T n)(hn:J≤q∧n≤q*1948378)(hq:q≤500000)(k:EdK pv vv sv L R root f g args a3 a2 a0 er d)(h1:pv.size<281474976710656)(h2:vv.size<281474976710656)(h3:sv.size<281474976710656):
  zC f (.pointer (some (O,0))::args).toArray w fun e B=>e=.returned (er)∧Ed1 A Y w Q U V I G q D g args er B:=by
 refine(UB k S.le.1 S.le.2.1 h1 h2 h3 ae S.e).mono fun e B ⟨e1,he,ht⟩=>⟨e1,ht.mono (fun b _ e=>S.za b (S.xz b e)),fun W3 hb=>?_⟩
 have a1:=ht.more hb;have hd:=S.d.keep a1 (fun b e x=>(S.dz b e).2 x) (fun b _ e=>S.za b (S.xz b e)) (fun _ _ e=>e);refine(UU k S.le.1 h1 ae hd (fun b e=>S.za b (S.dz b e).1)).mono fun e w4 ⟨e2,a7,a6,a4,a5,hm,hi⟩=>⟨e2,?_⟩
 obtain⟨q1,q2⟩:=S.edited k (he.below hb) a1 a4 a5 hm hi;have ko:=k.ok S.le.1 S.le.2.1;have sz:=a1.size;exact h.next ⟨X,O,D,cap,a7,a6,a3,a2,a0,_,T,n,q1,ae,ae⟩ q2 (fun b e=>⟨ae,e.2⟩) (fun b e=>e)
end Pn
namespace Pn
open Mf Ed
variable{A Z Y X P p:Nat→Prop}{w a B W:zW}{Q I G q c O D J n N:Nat}{U V mv M:zV}{F:Nat→zV}{E:Nat→List Ent}{cap:Int}{L R:List Tt}{root:zA}{T:Tri}
theorem Pr.evicted(h:Pr A Z X w I O D cap mv M L R root J T n)(f:aj X w W)(he:EgT A X W O cap L R root J T N):Pr A Z X W I O D cap mv M L R root J T N:=
 ⟨(f.block I (ag h.g) (fun x=>h.ga (h.za I (h.xz I x)))).trans h.g,h.ga,he,h.d.keep f (fun b e x=>(h.dz b e).2 x) (fun b _ e=>h.za b (h.xz b e)) (fun _ _ e=>e),h.xz,h.dz,h.za,h.le⟩
theorem Sy.evicted(h:Sy A Z Y w Q U V I G q c F E)(f:Pr A Z X w I O D cap mv M L R root J T n)(hn:J≤q∧n≤q*1948378)(S:aj X w W)(he:EgT A X W O cap L R root J T N)(hl:N≤n):SyP A Y w Q U V I G q W:=by
 have k:=f.evicted S he;refine h.next (P:=fun _=>False) ⟨X,O,D,cap,mv,M,L,R,root,J,T,N,?_,ae,ae⟩ (S.mono fun b _ e=>f.xz b e) (fun _ e=>e.elim) (fun _ e=>Or.inl e)
 grind
theorem nJ w(f:Pr A Z X w I O D cap mv M L R root J T n):zC 9 #[.pointer (some (I,0))] w fun e w'=>e=.returned (true)∧w'=w:=by
 have S:=uX f.e;have hc:=f.e.lt.2.2.2.2;obtain⟨⟨c0,_⟩,_,⟨c2,_⟩⟩:=fd3 f.g;have h0:decide ((n:Int)≥0)=true:=bu ae;clear f;go_enter func9,ntmps9
 go_wp2_with (go_at_call 27;refine S.mono ?_;rintro e w2 ⟨rfl,rfl⟩)
 go_ret;simp
theorem SyP.turn(h:SyP A Y w Q U V I G q W):aj A w W:=by
 obtain⟨_,_,_,_,_,_,k,_⟩:=h;exact k
theorem rD(w:zW):Below w w w.drew:=(af _ _).drew
theorem QK h:bits .and .i64 h 1=0∨bits .and .i64 h 1=1:=by
 have e:(BitVec.ofInt 64 h&&& BitVec.ofInt 64 1).toNat=(BitVec.ofInt 64 h).toNat%2:=by
  rw[BitVec.toNat_and];have f:(BitVec.ofInt 64 1).toNat=1:=aA;rw[f,Nat.and_one_is_mod]
 have k:bits .and .i64 h 1=IntKind.i64.wrap ((BitVec.ofInt 64 h&&& BitVec.ofInt 64 1).toNat):=rfl;rw[k,e];rcases Nat.mod_two_eq_zero_or_one (BitVec.ofInt 64 h).toNat with e|e<;>rw[e]
 ·left;decide
 ·right;decide
theorem CS(n:Int)w:zC 12 #[n] w fun e w'=>e=.returned (n)∧w'=w:=by
 go_enter func12,ntmps12;go_wp2;go_ret;simp
theorem Fq j(kd hh nn:Int)(pv vv sv:zA)w(h:Sy A Z Y w Q U V I G q c F E)(hq:q≤500000)(hj:bits BinOp.and IntKind.i64 hh 1=((j:Nat):Int))(hg:(j=0∧U=.pointer (some (I,0)))∨(j=1∧V=.pointer (some (I,0))))(h1:pv.size<281474976710656)(h2:vv.size<281474976710656)(h3:sv.size<281474976710656):
  zC 7 #[.pointer (some (Q,0)),.agg #[kd,hh,pv,vv,sv,nn]] w fun e w'=>e=.returned (true)∧SyP A Y w Q U V I G q w':=by
 have a8:zB w (w.alloc (.cells #[kd,hh,pv,vv,sv,nn] 25)):=(af _ _).alloc (ai _) _;have HX:Hid ((w.alloc (.cells #[kd,hh,pv,vv,sv,nn] 25)).heap[_]?=_):=aI _ _;have HS:=zH h;have HB:=zH a8
 have av:(w.alloc (.cells #[kd,hh,pv,vv,sv,nn] 25)).cell? (Q,j)=some (.pointer (some (I,0))):=by
  obtain⟨⟨f0,_⟩,⟨f1,_⟩,_⟩:=fd6 ((a8.block Q (ag h.l.hw)).trans h.l.hw);rcases hg with⟨rfl,rfl⟩|⟨rfl,rfl⟩
  ·exact f0
  ·exact f1
 have an:(0)≤(j:Int):=ae;have aq:(j:Int)<2:=ae;obtain⟨⟨x0,_⟩,⟨x1,_⟩,_⟩:=fd6 HX.out;clear h hg a8;go_enter func7,ntmps7;go_upto_region 1 with fail;go_quiet (fail);generalize hW:World.drewN _ _=WA;have HB:Hid (zB w WA):=by rw[←hW];exact bw HB.out _
 have HX:Hid (WA.heap[w.heap.size]?=some (.cells #[kd,hh,pv,vv,sv,nn] 25)):=by rw[←hW];exact HX.out
 clear hW av hj an aq x0 x1;obtain⟨X,O,D,cap,mv,M,L,R,root,J,T,n,hP,hn⟩:=(HS.out.below HB.out).m;have HP:Hid (_∧_):=⟨hP,hn⟩;have a3:Hid (¬A w):=fun e=>by have:=HS.out.m.za.2 _ e;omega
 obtain⟨⟨x0,_⟩,⟨x1,_⟩,⟨x2,_⟩,⟨x3,_⟩,⟨x4,_⟩,⟨x5,_⟩⟩:=fd6 HX.out;obtain⟨⟨a0,_⟩,⟨a1,_⟩,⟨a2,_⟩⟩:=fd3 hP.g;generalize w.heap.size=bx at x0 x1 x2 x3 x4 x5 HX a3 ⊢;by_cases a5:1≤kd∧kd≤5
 ·obtain⟨f,g,args,b3,b2,az,er,d,K,hf⟩:=EdK.of pv vv sv L R root kd a5
  have a6:=rD WA;have k1:=(HS.out.below (HB.out.drew)).edit (hP.turn (p:=fun _=>False) (aj.of_below a6) (fun _ _ e=>e.elim)) hn hq K h1 h2 h3;have HF:Hid (∀w',SyP A Y _ Q U V I G q w'→_):=fun w' h=>h.of_below HB.out.drew
  have HG:Hid (∀w',aj A WA.drew w'→_∧_):=fun w' t=>⟨(t.block I (ag hP.g) hP.ga).trans hP.g,(t.block bx (ag HX.out) a3.out).trans HX.out⟩
  rcases hf with⟨rfl,rfl,rfl,rfl⟩|⟨rfl,rfl,rfl,rfl⟩|⟨rfl,rfl,rfl,rfl⟩|⟨rfl,rfl,rfl,rfl⟩|⟨rfl,rfl,rfl,rfl⟩
  all_goals
   clear K a5 a6 hP hn HP HS HB h1 h2 h3
   first|go_upto_region 4 with fail|go_upto_region 8 with fail|go_upto_region 12 with fail|go_upto_region 16 with fail|go_upto_region 20 with fail
   go_region_held3 (fun w'=>w'.cell? (I,0)=some (.pointer (some (O,0)))∧w'.cell? (bx,2)=some (.string pv)∧w'.cell? ⟨bx,3,none⟩=some (.string vv)∧w'.cell? ⟨bx,4,none⟩=some (.string sv))
    (first|exact⟨a0,x2,x3,x4⟩|exact⟨b0,y2,y3,y4⟩)
    (first
     |(first|go_at_call 13|go_at_call 15|go_at_call 17|go_at_call 19|go_at_call 21
       refine k1.mono ?_;rintro e B ⟨rfl,hE⟩;have HE:Hid _:=hE;obtain⟨g3,e3⟩:=HG.out B hE.1;obtain⟨⟨b0,_⟩,⟨b1,_⟩,_⟩:=fd3 g3;obtain⟨_,_,⟨y2,_⟩,⟨y3,_⟩,⟨y4,_⟩,_⟩:=fd6 e3;clear g3 e3 hE))
   all_goals
    have k2:=HE.out.2 _ (rD B);clear k1 a0 a1 a2 x0 x1 x2 x3 x4 x5 b0
    first|go_upto_region 5 with fail|go_upto_region 9 with fail|go_upto_region 13 with fail|go_upto_region 17 with fail|go_upto_region 21 with fail
    go_region_held3 (fun w'=>w'.cell? (I,1)=some (.pointer (some (D,0)))∧w'.cell? (bx,2)=some (.string pv)∧w'.cell? ⟨bx,3,none⟩=some (.string vv)∧w'.cell? ⟨bx,4,none⟩=some (.string sv))
     (first|exact⟨b1,y2,y3,y4⟩|exact⟨d1,z2,z3,z4⟩)
     (first
      |(first|go_at_call 14|go_at_call 16|go_at_call 18|go_at_call 20|go_at_call 22
        refine k2.mono ?_;rintro e w4 ⟨rfl,a7⟩;have ad:=zH (HF.out w4 a7);obtain⟨g3,e3⟩:=HG.out w4 a7.turn;obtain⟨_,⟨d1,_⟩,_⟩:=fd3 g3;obtain⟨_,_,⟨z2,_⟩,⟨z3,_⟩,⟨z4,_⟩,_⟩:=fd6 e3;clear g3 e3 a7))
    all_goals
     clear k2 b1 y2 y3 y4 d1 z2 z3 z4 HE HG HX a3 HF
     go_wp2_with (go_at_call 12;refine(CS _ _).mono ?_;rintro e w' ⟨rfl,rfl⟩)
     go_ret;exact⟨rfl,ad.out⟩
 ·have a4:Hid (∀w',SyP A Y WA Q U V I G q w'→_):=fun w' h=>h.of_below HB.out
  have S:=zH (HS.out.below HB.out);have ne:∀i:Int,1≤i∧i≤5→(kd==i)=false:=fun i hi=>by rw[bX];omega
  have n1:=ne 1 aA;have n2:=ne 2 aA;have n3:=ne 3 aA;have n4:=ne 4 aA;have n5:=ne 5 aA;clear ne;by_cases h6:kd=6
  ·subst h6
   have kr:=Ks hP.e;obtain⟨r3,_⟩:=hP.d.d.f3;have HF:=zH (a4.out _ (S.out.same (af _ _)));clear hP hn HP HS HB S a4 HX a3 x1 x2 x3 x4 x5 a5
   go_wp2_with (go_at_call 23;refine kr.mono ?_;rintro e w' ⟨rfl,rfl⟩)
   go_ret;exact⟨rfl,HF.out⟩
  ·by_cases h7:kd=7
   ·subst h7
    have kr:=G8 WA S.out hq;clear hP hn HP HS HB S HX a3 x1 x2 x3 x4 x5 a5 a0 a1 a2 h6
    go_wp2_with (go_at_call 24;fail)
    go_at_call 24;refine kr.mono ?_;rintro e w2 ⟨rfl,hF⟩;have HF:=zH (a4.out _ hF);clear kr hF x0;go_wp2;go_ret;exact⟨rfl,HF.out⟩
   ·by_cases h8:kd=8
    ·subst h8
     have kr:=OD WA S.out hq;clear hP hn HP HS HB S HX a3 x1 x2 x3 x4 x5 a5 a0 a1 a2 h6 h7
     go_wp2_with (go_at_call 25;fail)
     go_at_call 25;refine kr.mono ?_;rintro e w2 ⟨rfl,hF⟩;have HF:=zH (a4.out _ hF);clear kr hF x0;go_wp2;go_ret;exact⟨rfl,HF.out⟩
    ·by_cases a9:kd=10
     ·subst a9
      have kr:=nJ WA hP;have HF:=zH (a4.out _ (S.out.same (af _ _)));clear hP hn HP HS HB S a4 HX a3 x1 x2 x3 x4 x5 a5 a0 a1 a2 h6 h7 h8
      go_wp2_with (go_at_call 9;refine kr.mono ?_;rintro e w' ⟨rfl,rfl⟩)
      go_ret;exact⟨rfl,HF.out⟩
     ·have n6:(kd==6)=false:=by rw[bX];exact h6
      have n7:(kd==7)=false:=by rw[bX];exact h7
      have n8:(kd==8)=false:=by rw[bX];exact h8
      have b4:(kd==10)=false:=by rw[bX];exact a9
      have a6:=rD WA;have ke:=S6 nn _ (hP.e.below a6) ae;have kr:=uX hP.e;have ak:Hid (n≤1000000000000):=by show n≤_;omega
      have HG:Hid (∀w',EgT A X w' O cap L R root J T (n-1)→aj X WA.drew w'→(w'.cell? (I,0)=some (.pointer (some (O,0)))∧w'.cell? (bx,5)=some (.int .i64 nn))∧SyP A Y w Q U V I G q w'):=fun w' he t=>by
       have t':=(aj.of_below (p:=fun _=>False) a6).trans t (fun _ _ e=>e.elim) (fun _ _ e=>e);have xa:=fun b e=>hP.za b (hP.xz b e)
       exact⟨⟨(fd3 (hP.evicted t' he).g).1.1,(fd6 ((t'.block bx (ag HX.out) (fun e=>a3.out (xa bx e))).trans HX.out)).2.2.2.2.2.1⟩,a4.out _ (S.out.evicted hP hn t' he (Nat.sub_le _ _))⟩
      by_cases h9:kd=9
      ·subst h9
       clear hP hn HP HS HB S a4 HX a3 x1 x2 x3 x4 a5 a1 a2 kr a6;go_upto_region 31 with fail
       go_region_held3 (fun w'=>w'.cell? (I,0)=some (.pointer (some (O,0)))∧w'.cell? (bx,5)=some (.int .i64 nn))
        (first|exact⟨a0,x5⟩|exact hc)
        (first|(go_at_call 26;refine ke.mono ?_;rintro e B ⟨rfl,he,ht⟩;obtain⟨hc,hs⟩:=HG.out B he ht;have HF:=zH hs;clear he ht hs))
       all_goals
        clear ke a0 x0 x5 hc HG;go_wp2;go_ret;exact⟨rfl,HF.out⟩
      ·have n9:(kd==9)=false:=by rw[bX];exact h9
       by_cases aa:kd=11
       ·subst aa
        clear hn HP HS HB S a4 HX a3 x1 x2 x3 x4 a5 a1 a2 a6 hP;obtain⟨m,hm⟩:∃m,n-1=m:=⟨_,rfl⟩;have HM:=zH hm;rw[hm] at ke HG;clear hm;go_upto_region 37 with(go_at_call 27;refine kr.mono ?_;rintro e w' ⟨rfl,rfl⟩)
        go_region_held3 (fun w'=>w'.cell? (I,0)=some (.pointer (some (O,0)))∧w'.cell? (bx,5)=nn)
         (first|exact⟨a0,x5⟩|exact hc)
         (first|(go_at_call 26;refine ke.mono ?_;rintro e B ⟨rfl,he,ht⟩;obtain⟨hc,hs⟩:=HG.out B he ht;have HF:=zH hs;have ab:=uX he;clear he ht hs))
        all_goals
         obtain⟨b0,_⟩:=hc;clear ke a0 x0 x5 kr HG;by_cases h0:n=0
         ·obtain rfl:m=0:=by have:=HM.out;omega
          subst h0
          go_wp2_with (go_at_call 27;refine ab.mono ?_;rintro e w' ⟨rfl,rfl⟩)
          go_ret;exact⟨rfl,HF.out⟩
         ·have e1:n-1=(m:Int):=by have:=HM.out;omega
          have e2:wrap64 (n-1)=m:=by have:=ak.out;rw[e1];unfold wrap64;omega
          clear e1 h0
          go_wp2_with (go_at_call 27;refine ab.mono ?_;rintro e w' ⟨rfl,rfl⟩)
          go_ret;exact⟨rfl,HF.out⟩
       ·have b5:(kd==11)=false:=by rw[bX];exact aa
        have HF:=zH (a4.out _ (S.out.same (af _ _)));clear hP hn HP HS HB S a4 HX a3 x1 x2 x3 x4 x5 a5 a0 a1 a2 ke kr HG a6;go_wp2;go_ret;exact⟨rfl,HF.out⟩
