import Derived.Test.YtgamgopghfpegaaGreatDoorKEB
set_option linter.all false
open Go.Proofs.Tryz
set_option maxRecDepth 100000
set_option maxHeartbeats 4000000
namespace Go.Proofs.YtgamgopghfpegaaGreatDoor
open Go.RowKit
namespace Ed
variable{w w':zW}{I mb G:Nat}{L:List (zV×zV)}
theorem jY{P}{D}{o}{a}{w}{K}{Q}{E}
  (M:o.guard=none) m x t k (F:o.op=Op.call {callee:=Callee.builtin Builtin.delete,args:=#[m,x],argTypes:=#[t,k]})
  (mb:Nat) key (hm:a.eval m=.map (mb)) (R:a.eval x=key) w' (f:∀ty,(Builtin.delete_ #[t,k] ty #[.map (mb),key]).run P w=.ok (.tuple #[]) w')
  (hK:K (a.put o.dst (.tuple #[])) w'):if Region.wanted o (yielded D a.tmps)=true then Oper.wp P o a w K Q else E:=by
 have O:Region.wanted o (yielded D a.tmps)=true:=by simp[Region.wanted,M]
 rw[ay O];unfold Oper.wp;simp[execOp,F,resolve,invoke,builtin,hm,R,f,Result.andThen];exact hK
theorem Dy(s:zA)(b:Bool)W:(Instr.field 137 (.agg #[s,b]) 1).run prog W=.ok (b) W:=aB
theorem aW.dropped{F}{old}{k}{p v}(h:aW w I mb G L)(O:L.Perm ((plc k p v,txt old)::F))(S:(Lit.int .i64 k).wf=true)(T:p.size≤maxLen)(V:v.size≤maxLen):
  ∃w',(∀ty,(Builtin.delete_ #[99,110] ty #[.map (mb),plc k p v]).run prog w=.ok (.tuple #[]) w')∧aW w' I mb G F∧aj (fun x=>x=mb) w w':=by
 obtain⟨kl,D⟩:=rX k p v S T V;obtain⟨w1,E,U,hm⟩:=h.map.Dv gP underlying99 D O 0;have f:∀ty,(Builtin.delete_ #[99,110] ty #[.map (mb),_]).run _ w=_:=fun ty=>E
 have R:=iL U;have M:=R.block I h.f0.lt h.ne;exact⟨w1,f,⟨h.f0.of_block M,h.f1.of_block M,hm,(h.good.perm O).tail,h.ne⟩,R⟩
theorem xB k p v d L' w(h:aW w I mb G L)(hk:(Lit.int .i64 k).wf=true)(hp:p.size≤281474976710656)(hv:v.size≤281474976710656)(hr:G<4611686018427387904)
  (hS:iK L (plc k p v) d L'):
  zC 57 #[.pointer (some (I,0)),plc k p v] w fun e w'=>e=.returned (.tuple #[])∧aW w' I mb (G+d) L'∧aj (fun b=>b=I∨b=mb) w w':=by
 obtain⟨kl,E⟩:=rX k p v hk (by unfold maxLen;omega) (by unfold maxLen;omega);have M:Hid (zB w (w.alloc (.cells #[k,p,v] 110)).drew):=((af _ _).alloc (ai _) _).drew;have V:Hid (jX (w.alloc _).drew _ k p v):=(jX.new w k p v).of_block rfl;have f:=zH (h.below M.out);have a1:_∧_:=⟨h.f0.lt,h.map.lt⟩;clear h;cases hS with
 |none hn=>
  have a0:=Dy ⟨#[]⟩ false;have lk:=f.out.map.look_none false gP underlying99 (nh _) E hn;go_enter func57,ntmps57;go_upto_region 1 with fail;have S:(w.alloc _).cell? _=_:=f.out.f0.1
  go_region
  all_goals
   go_wp2;exact fQ (by simp[results,results57,go_sem]) rfl ⟨rfl,f.out,aj.of_below M.out⟩
 |there old L0 hL=>
  have a0:=Dy old true;have lk:=f.out.map.look_some false gP underlying99 (nh _) E (hL.mem_iff.2 (bS ..));go_enter func57,ntmps57;go_upto_region 1 with fail;have S:(w.alloc _).cell? _=_:=f.out.f0.1
  go_region
  all_goals
   clear lk S;generalize (w.alloc (.cells #[.int .i64 k,.string p,.string v] 110)).drew=W1 at*;obtain⟨⟨x0,_⟩,⟨x1,_⟩,⟨x2,_⟩⟩:=V.out;have S:=f.out.f0.1;obtain⟨w7,F,h7,R⟩:=aW.dropped (w:=W1.drew) (f.out.of_block rfl rfl) hL hk (by unfold maxLen;omega) (by unfold maxLen;omega);have D:=zH h7;have O:=zH ((aj.of_below (p:=fun b=>b=I∨b=mb) M.out.drew).trans R (fun _ _ e=>e) (fun _ _ e=>Or.inr e));clear h7 R;go_upto_region 2 with fail
   go_region_law (refine jY rfl _ _ 99 110 rfl mb _ rfl rfl w7 F ?_)
   all_goals
    clear F x0 x1 x2 S;have g1:=D.out.f1.1;have g2:=D.out.f1.2;have e2:IntKind.i64.wrap (G+1)=G+1:=by simp[IntKind.wrap,IntKind.bits,IntKind.signed];omega
    have T:=zH D.out.bump;have U:Hid (aj _ w (w7.setCell _ (.int .i64 (G+1)))):=O.out.set (a:=(I,1)) (fun _=>Or.inl rfl) _;clear D O;go_wp2;exact fQ (by simp[results,results57,go_sem]) rfl ⟨rfl,T.out,U.out⟩
end Ed
namespace Ed
variable{w w':zW}{I mb Z G:Nat}{Y J:List Tt}{root:zA}
theorem aW.perm{L f}(h:aW w I mb G L)(e:L.Perm f):aW w I mb G f:=⟨h.f0,h.f1,h.map.perm e,h.good.perm e,h.ne⟩
theorem TW t w(h:aW w I mb G (fH Y J root))(V:Y+J.length≤90000)(R:t.path.size≤281474976710656)(U:t.ver.size≤281474976710656)(T:t.s.size≤281474976710656)(S:G<4611686018427387904):
  zC 55 #[.pointer (some (I,0)),plc 0 t.path t.ver,t.s,.int .i64 60] w fun e w'=>e=.returned ((dw Y t 60).2.1)∧aW w' I mb (G+(dw Y t 60).2.2) (fH (dw Y t 60).1 J root)∧aj (fun b=>b=I∨b=mb) w w':=by
 obtain⟨f,O,M⟩:=Ai (C:=J.map (ent 1)++dO root) (BP 0) ((gV aA J).append (iw aA root)) Y t 60;refine(rZ 0 _ _ t.s 60 _ _ f w h (by have:=xA Y J root;omega) aA R U T S O).mono ?_;rintro e w' ⟨D,E,F⟩;exact⟨D,E.perm M,F⟩
theorem TX t w(h:aW w I mb G (fH Y J root))(V:Y+J.length≤90000)(R:t.path.size≤281474976710656)(U:t.ver.size≤281474976710656)(T:t.s.size≤281474976710656)(S:G<4611686018427387904):
  zC 55 #[.pointer (some (I,0)),plc 1 t.path t.ver,t.s,.int .i64 30] w fun e w'=>e=.returned ((dw J t 30).2.1)∧aW w' I mb (G+(dw J t 30).2.2) (fH Y (dw J t 30).1 root)∧aj (fun b=>b=I∨b=mb) w w':=by
 obtain⟨f,O,M⟩:=Ai (k:=1) (A:=Y.map (ent 0)) (gV aA Y) (iw aA root) J t 30;refine(rZ 1 _ _ t.s 30 _ _ f w h (by have:=xA Y J root;omega) aA R U T S O).mono ?_;rintro e w' ⟨D,E,F⟩;exact⟨D,E.perm M,F⟩
theorem ni Y J root:fH Y J root=(Y.map (ent 0)++J.map (ent 1))++dO root:=(gX _ _ _).symm
theorem TY(p:zA)w(h:aW w I mb G (fH Y J root))(V:Y+J.length≤90000)(T:p.size≤281474976710656)(E:p.size≠0)(U:G<4611686018427387904):
  zC 55 #[.pointer (some (I,0)),plc 2 ⟨#[]⟩ ⟨#[]⟩,p,.int .i64 1] w fun e w'=>e=.returned (.int .i64 0)∧aW w' I mb (G+(if (p.toList==root.toList)=true then (root,0) else (p,1)).2) (fH Y J (if (p.toList==root.toList)=true then (root,0) else (p,1)).1)∧aj (fun b=>b=I∨b=mb) w w':=by
 have f:=xA Y J root;rw[ni] at h f;rw[ni];obtain⟨D,S,R⟩:=LV ((gV (q:=0) aA Y).append (gV (q:=1) aA J)) root p E;refine(rZ 2 _ _ p 1 _ _ D w h ae aA aA aA T U S).mono ?_;rintro e w' ⟨F,M,O⟩;exact⟨F,M.perm R,O⟩
theorem RO p v w(h:aW w I mb G (fH Y J root))(R:p.size≤281474976710656)(T:v.size≤281474976710656)(S:G<4611686018427387904):
  zC 57 #[.pointer (some (I,0)),plc 0 p v] w fun e w'=>e=.returned (.tuple #[])∧aW w' I mb (G+(bY Y p v 0).2) (fH (bY Y p v 0).1 J root)∧aj (fun b=>b=I∨b=mb) w w':=by
 obtain⟨f,O,M⟩:=Aj (C:=J.map (ent 1)++dO root) (BP 0) ((gV aA J).append (iw aA root)) Y p v;refine(xB 0 p v _ f w h aA R T S O).mono ?_;rintro e w' ⟨D,E,F⟩;exact⟨D,E.perm M,F⟩
theorem RP p v w(h:aW w I mb G (fH Y J root))(R:p.size≤281474976710656)(T:v.size≤281474976710656)(S:G<4611686018427387904):
  zC 57 #[.pointer (some (I,0)),plc 1 p v] w fun e w'=>e=.returned (.tuple #[])∧aW w' I mb (G+(bY J p v 0).2) (fH Y (bY J p v 0).1 root)∧aj (fun b=>b=I∨b=mb) w w':=by
 obtain⟨f,O,M⟩:=Aj (k:=1) (A:=Y.map (ent 0)) (gV aA Y) (iw aA root) J p v;refine(xB 1 p v _ f w h aA R T S O).mono ?_;rintro e w' ⟨D,E,F⟩;exact⟨D,E.perm M,F⟩
theorem RQ p w(h:aW w I mb G (fH Y J root))(D:p.size=0)(S:G<4611686018427387904):
  zC 57 #[.pointer (some (I,0)),plc 2 ⟨#[]⟩ ⟨#[]⟩] w fun e w'=>e=.returned (.tuple #[])∧aW w' I mb (G+(if (p.toList==root.toList)=true then (root,0) else (p,1)).2) (fH Y J (if (p.toList==root.toList)=true then (root,0) else (p,1)).1)∧aj (fun b=>b=I∨b=mb) w w':=by
 rw[ni] at h;rw[ni];obtain⟨f,R,O⟩:=Jd ((gV (q:=0) aA Y).append (gV (q:=1) aA J)) root p D;refine(xB 2 _ _ _ f w h aA aA aA S R).mono ?_;rintro e w' ⟨E,F,M⟩;exact⟨E,F.perm O,M⟩
theorem BQ(p v s:zA)w(h:aW w I mb G (fH Y J root))(hm:Ml w)(hl:Y+J.length≤90000)(hp:p.size<281474976710656)(hv:v.size≤281474976710656)(hs:s.size≤281474976710656)(hr:G<4611686018427387904):
  zC 31 #[.pointer (some (I,0)),p,v,s] w fun e w'=>e=.returned ((eI Y ⟨p,v,s⟩ 60 (aT p v)).2.1)∧aW w' I mb (G+(eI Y ⟨p,v,s⟩ 60 (aT p v)).2.2) (fH (eI Y ⟨p,v,s⟩ 60 (aT p v)).1 J root)∧aj (fun b=>b=I∨b=mb) w w':=by
 have kn:=nO p v w hm hp;have M:=fun W hb=>TW ⟨p,v,s⟩ W (h.below hb) hl ax hv hs hr
 have HS:=zH h;clear h hm;generalize aT p v=F at*;have D:Hid (eI Y ⟨p,v,s⟩ 60 F=if F=0 then _ else _):=rfl;generalize eI Y ⟨p,v,s⟩ 60 F=O at*;generalize dw Y ⟨p,v,s⟩ 60=U at*;go_enter func31,ntmps31
 go_wp2_with (go_at_call 54;fail)
 go_at_call 54;refine kn.mono ?_;rintro e w1 ⟨rfl,f⟩;clear kn;have M:=M w1 f;by_cases T:F=0
 ·subst T
  have R:Hid (O=U):=by show O=U;rw[D.out];exact ay rfl
  clear D
  go_wp2_with (go_at_call 55;fail)
  go_at_call 55;refine M.mono ?_;rintro e w2 ⟨rfl,V,ht⟩;have E:=zH V;have S:=zH ((aj.of_below f).trans ht (fun _ _ e=>e) (fun _ _ e=>e));clear M V ht f;go_wp2;go_ret;rw[R.out];exact⟨rfl,E.out,S.out⟩
 ·have R:Hid (O=(Y,F,0)):=by show O=_;rw[D.out];exact au T
  have hq:(F==0)=false:=by rw[bX];exact T
  have E:=zH (HS.out.below f);clear D M;go_wp2;go_ret;rw[R.out];exact⟨rfl,E.out,aj.of_below f⟩
theorem zx(p v:zA)w(h:aW w I mb G (fH Y J root))(hm:Ml w)(hp:p.size<281474976710656)(hv:v.size≤281474976710656)(hr:G<4611686018427387904):
  zC 34 #[.pointer (some (I,0)),p,v] w fun e w'=>e=.returned ((aT p v))∧aW w' I mb (G+(bY Y p v (aT p v)).2) (fH (bY Y p v (aT p v)).1 J root)∧aj (fun b=>b=I∨b=mb) w w':=by
 have kn:=nO p v w hm hp;have O:=fun W hb=>RO p v W (h.below hb) ae hv hr
 have HS:=zH h;clear h hm;generalize aT p v=M at*;have D:Hid (M≠0→bY Y p v M=_):=fun h=>au h
 have E:Hid (M=0→bY Y p v M=_):=fun h=>by rw[h]
 generalize bY Y p v M=PP at*;generalize bY Y p v 0=LL at*;go_enter func34,ntmps34
 go_wp2_with (go_at_call 54;fail)
 go_at_call 54;refine kn.mono ?_;rintro e w1 ⟨rfl,f⟩;clear kn;have O:=O w1 f;by_cases R:M=0
 ·have S:=zH (E.out R)
  subst R;clear D E
  go_wp2_with (go_at_call 57;fail)
  go_at_call 57;refine O.mono ?_;rintro e w2 ⟨rfl,U,V⟩;have F:=zH U;have T:=zH ((aj.of_below f).trans V (fun _ _ e=>e) (fun _ _ e=>e));clear O U V f;go_wp2;go_ret;rw[S.out];exact⟨rfl,F.out,T.out⟩
 ·have S:=zH (D.out R)
  have hq:(M==0)=false:=by rw[bX];exact R
  have F:=zH (HS.out.below f);clear D O E;go_wp2;go_ret;rw[S.out];exact⟨rfl,F.out,aj.of_below f⟩
theorem xC{p:zA}(h:Pv.aK p=false):aT p ⟨#[]⟩=2:=ay h
theorem vu{p:zA}(h:Pv.aK p=true):aT p ⟨#[]⟩=0:=by
 unfold aT;rw[au (by rw[h];decide),au (fun h=>h.1 rfl)]
theorem Je(p s:zA)w(h:aW w I mb G (fH Y J root))(hm:Ml w)(hl:Y+J.length≤90000)(hp:p.size<281474976710656)(hs:s.size≤281474976710656)(hr:G<4611686018427387904):
  zC 37 #[.pointer (some (I,0)),p,s] w fun e w'=>e=.returned ((eI J ⟨p,⟨#[]⟩,s⟩ 30 (aT p ⟨#[]⟩)).2.1)∧aW w' I mb (G+(eI J ⟨p,⟨#[]⟩,s⟩ 30 (aT p ⟨#[]⟩)).2.2) (fH Y (eI J ⟨p,⟨#[]⟩,s⟩ 30 (aT p ⟨#[]⟩)).1 root)∧aj (fun b=>b=I∨b=mb) w w':=by
 have U:=jm p w hm hp;have M:=fun W hb=>TX ⟨p,⟨#[]⟩,s⟩ W (h.below hb) hl ax (by show(0:Nat)≤_;omega) hs hr
 have V:=zH h;clear h hm;have D:Hid (Pv.aK p=false→eI J ⟨p,⟨#[]⟩,s⟩ 30 (aT p ⟨#[]⟩)=(J,2,0)):=fun h=>by rw[xC h];rfl
 have E:Hid (Pv.aK p=true→eI J ⟨p,⟨#[]⟩,s⟩ 30 (aT p ⟨#[]⟩)=dw J ⟨p,⟨#[]⟩,s⟩ 30):=fun h=>by rw[vu h];rfl
 generalize eI J ⟨p,⟨#[]⟩,s⟩ 30 (aT p ⟨#[]⟩)=PP at*;generalize dw J ⟨p,⟨#[]⟩,s⟩ 30=LL at*;generalize Pv.aK p.data.toList=a at*;go_enter func37,ntmps37
 go_wp2_with (go_at_call 58;fail)
 go_at_call 58;refine U.mono ?_;rintro e w1 ⟨rfl,f⟩;clear U;have M:=M w1 f;cases a
 ·have O:=zH (D.out rfl)
  have F:=zH (V.out.below f);clear D E M;go_wp2;go_ret;rw[O.out];exact⟨rfl,F.out,aj.of_below f⟩
 ·have O:=zH (E.out rfl)
  clear D E
  go_wp2_with (go_at_call 55;fail)
  go_at_call 55;refine M.mono ?_;rintro e w2 ⟨rfl,S,T⟩;have F:=zH S;have R:=zH ((aj.of_below f).trans T (fun _ _ e=>e) (fun _ _ e=>e));clear M S T f;go_wp2;go_ret;rw[O.out];exact⟨rfl,F.out,R.out⟩
theorem FW(p:zA)w(h:aW w I mb G (fH Y J root))(hm:Ml w)(hp:p.size<281474976710656)(hr:G<4611686018427387904):
  zC 38 #[.pointer (some (I,0)),p] w fun e w'=>e=.returned ((aT p ⟨#[]⟩))∧aW w' I mb (G+(bY J p ⟨#[]⟩ (aT p ⟨#[]⟩)).2) (fH Y (bY J p ⟨#[]⟩ (aT p ⟨#[]⟩)).1 root)∧aj (fun b=>b=I∨b=mb) w w':=by
 have U:=jm p w hm hp;have O:=fun W hb=>RP p ⟨#[]⟩ W (h.below hb) ae (by show(0:Nat)≤_;omega) hr
 have V:=zH h;clear h hm;have D:Hid (Pv.aK p=false→aT p ⟨#[]⟩=2∧bY J p ⟨#[]⟩ (aT p ⟨#[]⟩)=(J,0)):=fun h=>by rw[xC h];exact⟨rfl,rfl⟩
 have E:Hid (Pv.aK p=true→aT p ⟨#[]⟩=0∧bY J p ⟨#[]⟩ (aT p ⟨#[]⟩)=bY J p ⟨#[]⟩ 0):=fun h=>by rw[vu h];simp
 generalize bY J p ⟨#[]⟩ (aT p ⟨#[]⟩)=PP at*;generalize bY J p ⟨#[]⟩ 0=LL at*;generalize aT p ⟨#[]⟩=er at*;generalize Pv.aK p.data.toList=a at*;go_enter func38,ntmps38
 go_wp2_with (go_at_call 58;fail)
 go_at_call 58;refine U.mono ?_;rintro e w1 ⟨rfl,f⟩;clear U;have O:=O w1 f;cases a
 ·have M:Hid (_∧_):=⟨(D.out rfl).1.symm,(D.out rfl).2⟩
  have F:=zH (V.out.below f);clear D E O;go_wp2;go_ret;rw[M.out.2];exact⟨cH M.out.1,F.out,aj.of_below f⟩
 ·have M:Hid (_∧_):=⟨(E.out rfl).1.symm,(E.out rfl).2⟩
  clear D E
  go_wp2_with (go_at_call 57;fail)
  go_at_call 57;refine O.mono ?_;rintro e w2 ⟨rfl,S,T⟩;have F:=zH S;have R:=zH ((aj.of_below f).trans T (fun _ _ e=>e) (fun _ _ e=>e));clear O S T f;go_wp2;go_ret;rw[M.out.2];exact⟨cH M.out.1,F.out,R.out⟩
theorem zy{p}(h:p.size=0):fE p=0:=au (fun k=>k.1 h)
theorem FX{p:zA}(f:p.size≠0)(h:Pv.aK p=false):fE p=2:=ay ⟨f,h⟩
theorem Dz{p:zA}(h:Pv.aK p=true):fE p=0:=au (fun k=>ax)
theorem LW(p:zA)w(h:aW w I mb G (fH Y J root))(hm:Ml w)(hl:Y+J.length≤90000)(hp:p.size<281474976710656)(hr:G<4611686018427387904):
  zC 39 #[.pointer (some (I,0)),p] w fun e w'=>e=.returned ((fE p))∧aW w' I mb (G+(rootOf root p).2) (fH Y J (rootOf root p).1)∧aj (fun b=>b=I∨b=mb) w w':=by
 have kn:=jm p w hm hp;have HS:=zH h;have he:=gZ p;have f:Hid (rootOf root p=if fE p=0 then _ else _):=rfl;have kd:=fun D=>RQ p w h D hr
 have O:=fun D W hb=>TY p W (h.below hb) hl ae D hr
 clear h hm;have E0:Hid (p.size=0→_):=fun h=>(zy h).symm
 have E1:Hid (p.size≠0→_):=fun D h=>(FX D h).symm
 have E2:Hid (_→0=fE p):=fun h=>(Dz h).symm
 generalize rootOf root p=S at*;generalize (if (p.toList==root.toList)=true then (root,0) else (p,1))=LL at*;generalize fE p=er at*;generalize Pv.aK p.data.toList=a at*;go_enter func39,ntmps39;by_cases D:p.size=0
 ·have M:=zH (E0.out D)
  have T:Hid (S=LL):=by show S=LL;rw[f.out,←M.out];exact ay rfl
  have kd:=kd D;rw[bu D] at he;clear f O kn E0 E1 E2
  go_wp2_with (go_at_call 57;fail)
  go_at_call 57;refine kd.mono ?_;rintro e w2 ⟨rfl,U,V⟩;have E:=zH U;have R:=zH V;clear kd U V;go_wp2;go_ret;rw[T.out];exact⟨cH M.out,E.out,R.out⟩
 ·have O:=O D
  rw[br D] at he
  go_wp2_with (go_at_call 58;fail)
  go_at_call 58;refine kn.mono ?_;rintro e w1 ⟨rfl,F⟩;clear kn kd;have O:=O w1 F;cases a
  ·have M:=zH (E1.out D rfl)
   have T:Hid (S=(root,0)):=by show S=_;rw[f.out,←M.out];exact au aA
   have E:=zH (HS.out.below F);clear f E0 E1 E2 O;go_wp2;go_ret;rw[T.out];exact⟨cH M.out,E.out,aj.of_below F⟩
  ·have M:=zH (E2.out rfl)
   have T:Hid (S=LL):=by show S=LL;rw[f.out,←M.out];exact ay rfl
   clear f E0 E1 E2
   go_wp2_with (go_at_call 55;fail)
   go_at_call 55;refine O.mono ?_;rintro e w2 ⟨rfl,U,V⟩;have E:=zH U;have R:=zH ((aj.of_below F).trans V (fun _ _ e=>e) (fun _ _ e=>e));clear O U V F;go_wp2;go_ret;rw[T.out];exact⟨cH M.out,E.out,R.out⟩
end Ed
namespace Ed
variable{w w':zW}{I mb Z G:Nat}{Y J:List Tt}{root:zA}
theorem BR{R:zW→Prop}{r:Int}(p v s:zA)w(f:w.cell? (Z,0)=some (.pointer (some (I,0))))
  (k:zC 31 #[.pointer (some (I,0)),p,v,s] w fun e w'=>e=.returned (r)∧R w'):
  zC 13 #[.pointer (some (Z,0)),p,v,s] w fun e w'=>e=.returned (r)∧R w':=by
 go_enter func13,ntmps13
 go_wp2_with (go_at_call 31;fail)
 go_at_call 31;refine k.mono ?_;rintro e D ⟨rfl,h⟩;have H:=zH h;clear h k f;go_wp2;go_ret;exact⟨rfl,H.out⟩
theorem zD{R:zW→Prop}{r:Int}(p v:zA)w(f:w.cell? (Z,0)=some (.pointer (some (I,0))))
  (k:zC 34 #[.pointer (some (I,0)),p,v] w fun e w'=>e=.returned (r)∧R w'):
  zC 15 #[.pointer (some (Z,0)),p,v] w fun e w'=>e=.returned (r)∧R w':=by
 go_enter func15,ntmps15
 go_wp2_with (go_at_call 34;fail)
 go_at_call 34;refine k.mono ?_;rintro e D ⟨rfl,h⟩;have H:=zH h;clear h k f;go_wp2;go_ret;exact⟨rfl,H.out⟩
theorem Jf{R:zW→Prop}{r:Int}(p s:zA)w(f:w.cell? (Z,0)=some (.pointer (some (I,0))))
  (k:zC 37 #[.pointer (some (I,0)),p,s] w fun e w'=>e=.returned (r)∧R w'):
  zC 17 #[.pointer (some (Z,0)),p,s] w fun e w'=>e=.returned (r)∧R w':=by
 go_enter func17,ntmps17
 go_wp2_with (go_at_call 37;fail)
 go_at_call 37;refine k.mono ?_;rintro e D ⟨rfl,h⟩;have H:=zH h;clear h k f;go_wp2;go_ret;exact⟨rfl,H.out⟩
theorem FY{R:zW→Prop}{r:Int}(p:zA)w(f:w.cell? (Z,0)=some (.pointer (some (I,0))))
  (k:zC 38 #[.pointer (some (I,0)),p] w fun e w'=>e=.returned (r)∧R w'):
  zC 19 #[.pointer (some (Z,0)),p] w fun e w'=>e=.returned (r)∧R w':=by
 go_enter func19,ntmps19
 go_wp2_with (go_at_call 38;fail)
 go_at_call 38;refine k.mono ?_;rintro e D ⟨rfl,h⟩;have H:=zH h;clear h k f;go_wp2;go_ret;exact⟨rfl,H.out⟩
theorem LX{R:zW→Prop}{r:Int}(p:zA)w(f:w.cell? (Z,0)=some (.pointer (some (I,0))))
  (k:zC 39 #[.pointer (some (I,0)),p] w fun e w'=>e=.returned (r)∧R w'):
  zC 21 #[.pointer (some (Z,0)),p] w fun e w'=>e=.returned (r)∧R w':=by
 go_enter func21,ntmps21
 go_wp2_with (go_at_call 39;fail)
 go_at_call 39;refine k.mono ?_;rintro e D ⟨rfl,h⟩;have H:=zH h;clear h k f;go_wp2;go_ret;exact⟨rfl,H.out⟩
theorem uw{L}w(h:aW w I mb G L):
  zC 41 #[.pointer (some (I,0))] w fun e w'=>e=.returned (G)∧w'=w:=by
 have f:=h.f1.1;clear h;go_enter func41,ntmps41;go_wp2;go_ret;simp
theorem Jg{L}w(D:w.cell? (Z,0)=some (.pointer (some (I,0))))(h:aW w I mb G L):
  zC 23 #[.pointer (some (Z,0))] w fun e w'=>e=.returned (G)∧w'=w:=by
 have k:=uw w h;clear h;go_enter func23,ntmps23
 go_wp2_with (go_at_call 41;fail)
 go_at_call 41;refine k.mono ?_;intro e E f;rw[f.1,f.2];clear k f D;go_wp2;go_ret;simp
theorem dL(w:zW)f t{j}{u:zV}(h:f[j]?=u):Fd (w.alloc (.cells f t)) w j u:=by
 have D:(w.alloc (.cells f t)).heap[w.heap.size]?=some (.cells f t):=by
  show(w.heap.push _)[w.heap.size]?=_;simp
 refine⟨?_,?_⟩
 ·simp_all
 simp
theorem Vi w:
  zC 29 #[] w fun e w'=>e=.returned (.pointer (some ⟨w+1,0,none⟩))∧aW w' (w+1) w 0 []∧Below w w w':=by
 have D:=zH (Mp.made w prog 110);have E:=@run_makeMap prog;go_enter func29,ntmps29;go_wp2;go_ret;have F:(w.alloc (.map #[] 0))=w.heap.size+1:=ah;have f:=fun j u=>dL (w.alloc (.map #[] 0)) #[.map (w),.int .i64 0] 101 (j:=j) (u:=u)
 rw[F] at f;refine⟨rfl,⟨f 0 _ rfl,f 1 _ rfl,D.out.of_block (aO _ _ _ ah),fun x M=>(by cases M),ae⟩,?_⟩;exact((af _ w).alloc (ai _) _).alloc ah _
theorem Pd(c:Int)w(f:c<1):zC 10 #[c] w fun e w'=>e=.returned (.tuple #[.pointer none,.int .i64 1])∧w'=w:=by
 go_enter func10,ntmps10;go_wp2;go_ret2;simp
