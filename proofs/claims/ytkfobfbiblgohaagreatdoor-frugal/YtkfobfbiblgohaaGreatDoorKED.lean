import Derived.Test.YtkfobfbiblgohaaGreatDoorKEB
set_option linter.all false
open Go.Proofs.Tryz
set_option maxRecDepth 100000
set_option maxHeartbeats 4000000
namespace Go.Proofs.YtkfobfbiblgohaaGreatDoor
open Go.RowKit
namespace Ed
variable{w w':zW}{I mb G:Nat}{L:List (zV×zV)}
theorem oP{P:Program}{M:Array Oper}{o:Oper}{a:Act}{w:zW}{K:Act->zW->Prop}{Q:Exit->Act->zW->Prop}{E:Prop}
  (T:o.guard=none) (m x:Operand) (t k:TypeId) (O:o.op=Op.call {callee:=Callee.builtin Builtin.delete,args:=#[m,x],argTypes:=#[t,k]})
  (mb:Nat) (key:zV) (hm:a.eval m=.map (some mb)) (V:a.eval x=key) (w':zW) (F:∀ty,(Builtin.delete_ #[t,k] ty #[.map (some mb),key]).run P w=.ok (.tuple #[]) w')
  (hK:K (a.put o.dst (.tuple #[])) w'):if Region.wanted o (yielded M a.tmps)=true then Oper.wp P o a w K Q else E:=by
 have U:Region.wanted o (yielded M a.tmps)=true:=by simp[Region.wanted,T]
 rw[aj U];unfold Oper.wp;simp[execOp,O,resolve,invoke,builtin,hm,V,F,Result.andThen];exact hK
theorem Da(s:zA)(b:Bool)(W:zW):(Instr.field 129 (.agg #[tS s,.bool b]) 1).run prog W=.ok (.bool b) W:=by kernel_rfl
theorem aD.dropped{O:List (zV×zV)}{old:zA}{k:Int}{p v:zA}(h:aD w I mb G L)(U:L.Perm ((plc k p v,txt old)::O))(hk:(Lit.int .i64 k).wf=true)(hp:p.size<=maxLen)(hv:v.size<=maxLen):
  ∃w',(∀ty,(Builtin.delete_ #[108,100] ty #[.map (some mb),plc k p v]).run prog w=.ok (.tuple #[]) w')/\aD w' I mb G O/\ai (fun x=>x=mb) w w':=by
 obtain⟨kl,F⟩:=sK k p v hk hp hv;obtain⟨Y,M,ht,hm⟩:=h.map.C6 gY underlying108 F U 0;have E:∀ty,(Builtin.delete_ #[108,100] ty #[.map (some mb),plc k p v]).run prog w=.ok (.tuple #[]) Y:=fun ty=>M
 have V:=iF ht;have T:=V.block I h.f0.lt h.ne;exact⟨Y,E,⟨h.f0.of_block T,h.f1.of_block T,hm,(h.good.perm U).tail,h.ne⟩,V⟩
theorem xE(k:Int)(p v:zA)(d:Nat)(L':List (zV×zV))(w:zW)(h:aD w I mb G L)(hk:(Lit.int .i64 k).wf=true)(hp:p.size<=281474976710656)(hv:v.size<=281474976710656)(hr:G<4611686018427387904)
  (hS:iE L (plc k p v) d L'):
  zC 55 #[zP I,plc k p v] w fun e w'=>e=.returned (.tuple #[])/\aD w' I mb (G+d) L'/\ai (fun b=>b=I\/b=mb) w w':=by
 obtain⟨kl,M⟩:=sK k p v hk (by unfold maxLen;omega) (by unfold maxLen;omega);have T:Hid (zB w (w.alloc (.cells #[.int .i64 k,tS p,tS v] 100)).drew):=((ae _ _).alloc (ah _) _).drew;have a2:Hid (fR (w.alloc (.cells #[.int .i64 k,tS p,tS v] 100)).drew w.heap.size k p v):=(fR.new w k p v).of_block rfl;have E:=zH (h.below T.out);have a4:I<w.heap.size/\mb<w.heap.size:=⟨h.f0.lt,h.map.lt⟩;clear h;cases hS with
 |none hn=>
  have a3:=Da ⟨#[]⟩ false;have lk:=E.out.map.look_none false gY underlying108 (mY _) M hn;go_enter func55,ntmps55;go_upto_region 1 with fail;have c0:(w.alloc (.cells #[.int .i64 k,tS p,tS v] 100)).cell? (tD I 0)=some (.map (some mb)):=E.out.f0.1
  go_region
  all_goals
   go_wp2;exact ia (v:=.tuple #[]) (by simp[results,results55,go_sem]) rfl ⟨rfl,E.out,ai.of_below T.out⟩
 |there old L0 hL=>
  have a3:=Da old true;have lk:=E.out.map.look_some false gY underlying108 (mY _) M (hL.mem_iff.2 (bE ..));go_enter func55,ntmps55;go_upto_region 1 with fail;have c0:(w.alloc (.cells #[.int .i64 k,tS p,tS v] 100)).cell? (tD I 0)=some (.map (some mb)):=E.out.f0.1
  go_region
  all_goals
   clear lk c0;generalize (w.alloc (.cells #[.int .i64 k,tS p,tS v] 100)).drew=W1 at*;obtain⟨⟨x0,_⟩,⟨x1,_⟩,⟨x2,_⟩⟩:=a2.out;have c0:=E.out.f0.1;obtain⟨Y,O,h7,V⟩:=aD.dropped (w:=W1.drew) (E.out.of_block rfl rfl) hL hk (by unfold maxLen;omega) (by unfold maxLen;omega);have F:=zH h7;have U:Hid (ai (fun b=>b=I\/b=mb) w Y):=(ai.of_below (p:=fun b=>b=I\/b=mb) T.out.drew).trans V (fun _ _ e=>e) (fun _ _ e=>oS e);clear h7 V;go_upto_region 2 with fail
   go_region_law (refine oP rfl (.tmp 14) (.tmp 15) 108 100 rfl mb (plc k p v) rfl rfl Y O ?_)
   all_goals
    clear O x0 x1 x2 c0;have g1:=F.out.f1.1;have g2:=F.out.f1.2;have e2:IntKind.i64.wrap ((G:Int)+1)=(G:Int)+1:=by simp[IntKind.wrap,IntKind.bits,IntKind.signed];omega
    have a0:=zH F.out.bump;have a1:Hid (ai (fun b=>b=I\/b=mb) w (Y.setCell (tD I 1) (.int .i64 ((G:Int)+1)))):=U.out.set (a:=(tD I 1)) (fun _=>oE rfl) _;clear F U;go_wp2;exact ia (v:=.tuple #[]) (by simp[results,results55,go_sem]) rfl ⟨rfl,a0.out,a1.out⟩
end Ed
namespace Ed
variable{w w':zW}{I mb J G:Nat}{ms ix:List Tt}{root:zA}
theorem aD.perm{L E:List (zV×zV)}(h:aD w I mb G L)(e:L.Perm E):aD w I mb G E:=⟨h.f0,h.f1,h.map.perm e,h.good.perm e,h.ne⟩
theorem RS(t:Tt)(w:zW)(h:aD w I mb G (dL ms ix root))(hl:ms.length+ix.length<=90000)(V:t.path.size<=281474976710656)(hv:t.ver.size<=281474976710656)(hs:t.s.size<=281474976710656)(Y:G<4611686018427387904):
  zC 57 #[zP I,plc 0 t.path t.ver,tS t.s,.int .i64 60] w fun e w'=>e=.returned (.int .i64 (cK ms t 60).2.1)/\aD w' I mb (G+(cK ms t 60).2.2) (dL (cK ms t 60).1 ix root)/\ai (fun b=>b=I\/b=mb) w w':=by
 obtain⟨E,U,T⟩:=zZ (k:=0) (A:=[]) (C:=ix.map (ent 1)++dn root) (Bw 0) ((ic (by decide) ix).append (iu (by decide) root)) ms t 60;refine(Bz 0 t.path t.ver t.s 60 _ _ E w h (by have:=xD ms ix root;omega) (by decide) V hv hs Y U).mono ?_;rintro e w' ⟨F,M,O⟩;exact⟨F,M.perm T,O⟩
theorem RU(t:Tt)(w:zW)(h:aD w I mb G (dL ms ix root))(hl:ms.length+ix.length<=90000)(V:t.path.size<=281474976710656)(hv:t.ver.size<=281474976710656)(hs:t.s.size<=281474976710656)(Y:G<4611686018427387904):
  zC 57 #[zP I,plc 1 t.path t.ver,tS t.s,.int .i64 30] w fun e w'=>e=.returned (.int .i64 (cK ix t 30).2.1)/\aD w' I mb (G+(cK ix t 30).2.2) (dL ms (cK ix t 30).1 root)/\ai (fun b=>b=I\/b=mb) w w':=by
 obtain⟨E,U,T⟩:=zZ (k:=1) (A:=ms.map (ent 0)) (C:=dn root) (ic (by decide) ms) (iu (by decide) root) ix t 30;refine(Bz 1 t.path t.ver t.s 30 _ _ E w h (by have:=xD ms ix root;omega) (by decide) V hv hs Y U).mono ?_;rintro e w' ⟨F,M,O⟩;exact⟨F,M.perm T,O⟩
theorem mZ(ms ix:List Tt)(root:zA):dL ms ix root=(ms.map (ent 0)++ix.map (ent 1))++dn root:=(fB _ _ _).symm
theorem RV(p:zA)(w:zW)(h:aD w I mb G (dL ms ix root))(hl:ms.length+ix.length<=90000)(hp:p.size<=281474976710656)(M:p.size≠0)(hr:G<4611686018427387904):
  zC 57 #[zP I,plc 2 ⟨#[]⟩ ⟨#[]⟩,tS p,.int .i64 1] w fun e w'=>e=.returned (.int .i64 0)/\aD w' I mb (G+(if (p.toList==root.toList)=true then (root,0) else (p,1)).2) (dL ms ix (if (p.toList==root.toList)=true then (root,0) else (p,1)).1)/\ai (fun b=>b=I\/b=mb) w w':=by
 have E:=xD ms ix root;rw[mZ] at h E;rw[mZ];obtain⟨F,Y,V⟩:=Ku ((ic (k:=2) (q:=0) (by decide) ms).append (ic (q:=1) (by decide) ix)) root p M;refine(Bz 2 ⟨#[]⟩ ⟨#[]⟩ p 1 _ _ F w h (by omega) (by decide) (by decide) (by decide) hp hr Y).mono ?_;rintro e w' ⟨O,T,U⟩;exact⟨O,T.perm V,U⟩
theorem Qb(p v:zA)(w:zW)(h:aD w I mb G (dL ms ix root))(V:p.size<=281474976710656)(hv:v.size<=281474976710656)(Y:G<4611686018427387904):
  zC 55 #[zP I,plc 0 p v] w fun e w'=>e=.returned (.tuple #[])/\aD w' I mb (G+(dE ms p v 0).2) (dL (dE ms p v 0).1 ix root)/\ai (fun b=>b=I\/b=mb) w w':=by
 obtain⟨E,U,T⟩:=Aa (k:=0) (A:=[]) (C:=ix.map (ent 1)++dn root) (Bw 0) ((ic (by decide) ix).append (iu (by decide) root)) ms p v;refine(xE 0 p v _ E w h (by decide) V hv Y U).mono ?_;rintro e w' ⟨F,M,O⟩;exact⟨F,M.perm T,O⟩
theorem Qc(p v:zA)(w:zW)(h:aD w I mb G (dL ms ix root))(V:p.size<=281474976710656)(hv:v.size<=281474976710656)(Y:G<4611686018427387904):
  zC 55 #[zP I,plc 1 p v] w fun e w'=>e=.returned (.tuple #[])/\aD w' I mb (G+(dE ix p v 0).2) (dL ms (dE ix p v 0).1 root)/\ai (fun b=>b=I\/b=mb) w w':=by
 obtain⟨E,U,T⟩:=Aa (k:=1) (A:=ms.map (ent 0)) (C:=dn root) (ic (by decide) ms) (iu (by decide) root) ix p v;refine(xE 1 p v _ E w h (by decide) V hv Y U).mono ?_;rintro e w' ⟨F,M,O⟩;exact⟨F,M.perm T,O⟩
theorem Qd(p:zA)(w:zW)(h:aD w I mb G (dL ms ix root))(F:p.size=0)(Y:G<4611686018427387904):
  zC 55 #[zP I,plc 2 ⟨#[]⟩ ⟨#[]⟩] w fun e w'=>e=.returned (.tuple #[])/\aD w' I mb (G+(if (p.toList==root.toList)=true then (root,0) else (p,1)).2) (dL ms ix (if (p.toList==root.toList)=true then (root,0) else (p,1)).1)/\ai (fun b=>b=I\/b=mb) w w':=by
 rw[mZ] at h;rw[mZ];obtain⟨E,V,U⟩:=Ia ((ic (k:=2) (q:=0) (by decide) ms).append (ic (q:=1) (by decide) ix)) root p F;refine(xE 2 ⟨#[]⟩ ⟨#[]⟩ _ E w h (by decide) (by decide) (by decide) Y V).mono ?_;rintro e w' ⟨M,O,T⟩;exact⟨M,O.perm U,T⟩
theorem BA(p v s:zA)(w:zW)(h:aD w I mb G (dL ms ix root))(hm:Ml w)(hl:ms.length+ix.length<=90000)(hp:p.size<4294967281)(hv:v.size<=281474976710656)(hs:s.size<=281474976710656)(hr:G<4611686018427387904):
  zC 34 #[zP I,tS p,tS v,tS s] w fun e w'=>e=.returned (.int .i64 (lW ms ⟨p,v,s⟩ 60 (bH p v)).2.1)/\aD w' I mb (G+(lW ms ⟨p,v,s⟩ 60 (bH p v)).2.2) (dL (lW ms ⟨p,v,s⟩ 60 (bH p v)).1 ix root)/\ai (fun b=>b=I\/b=mb) w w':=by
 have kn:=nQ p v w hm hp;have T:∀W,zB w W->_:=fun W hb=>RS ⟨p,v,s⟩ W (h.below hb) hl (by show p.size<=_;omega) hv hs hr
 have HS:=zH h;clear h hm;generalize bH p v=O at*;have F:Hid (lW ms ⟨p,v,s⟩ 60 O=if O=0 then cK ms ⟨p,v,s⟩ 60 else (ms,O,0)):=rfl;generalize lW ms ⟨p,v,s⟩ 60 O=V at*;generalize cK ms ⟨p,v,s⟩ 60=U at*;go_enter func34,ntmps34
 go_wp2_with (go_at_call 61;fail)
 go_at_call 61;refine kn.mono ?_;rintro e w1 ⟨rfl,E⟩;clear kn;have T:=T w1 E;by_cases h0:O=0
 ·subst h0
  have Y:Hid (V=U):=by show V=U;rw[F.out];exact aj rfl
  clear F
  go_wp2_with (go_at_call 57;fail)
  go_at_call 57;refine T.mono ?_;rintro e w2 ⟨rfl,h2,ht⟩;have M:=zH h2;have a0:Hid (ai (fun b=>b=I\/b=mb) w w2):=(ai.of_below E).trans ht (fun _ _ e=>e) (fun _ _ e=>e);clear T h2 ht E;go_wp2;go_ret;rw[Y.out];exact⟨rfl,M.out,a0.out⟩
 ·have Y:Hid (V=(ms,O,0)):=by show V=_;rw[F.out];exact ag h0
  have hq:(O==0)=false:=by rw[ij];exact h0
  have M:=zH (HS.out.below E);clear F T;go_wp2;go_ret;rw[Y.out];exact⟨rfl,M.out,ai.of_below E⟩
theorem zo(p v:zA)(w:zW)(h:aD w I mb G (dL ms ix root))(hm:Ml w)(hp:p.size<4294967281)(hv:v.size<=281474976710656)(hr:G<4611686018427387904):
  zC 46 #[zP I,tS p,tS v] w fun e w'=>e=.returned (.int .i64 (bH p v))/\aD w' I mb (G+(dE ms p v (bH p v)).2) (dL (dE ms p v (bH p v)).1 ix root)/\ai (fun b=>b=I\/b=mb) w w':=by
 have kn:=nQ p v w hm hp;have U:∀W,zB w W->_:=fun W hb=>Qb (ms:=ms) (ix:=ix) (root:=root) p v W (h.below hb) (by omega) hv hr
 have HS:=zH h;clear h hm;generalize bH p v=T at*;have F:Hid (T≠0->dE ms p v T=(ms,0)):=fun h=>ag h
 have M:Hid (T=0->dE ms p v T=dE ms p v 0):=fun h=>by rw[h]
 generalize dE ms p v T=PP at*;generalize dE ms p v 0=LL at*;go_enter func46,ntmps46
 go_wp2_with (go_at_call 61;fail)
 go_at_call 61;refine kn.mono ?_;rintro e w1 ⟨rfl,E⟩;clear kn;have U:=U w1 E;by_cases V:T=0
 ·have Y:=zH (M.out V)
  subst V;clear F M
  go_wp2_with (go_at_call 55;fail)
  go_at_call 55;refine U.mono ?_;rintro e w2 ⟨rfl,h2,ht⟩;have O:=zH h2;have a0:Hid (ai (fun b=>b=I\/b=mb) w w2):=(ai.of_below E).trans ht (fun _ _ e=>e) (fun _ _ e=>e);clear U h2 ht E;go_wp2;go_ret;rw[Y.out];exact⟨rfl,O.out,a0.out⟩
 ·have Y:=zH (F.out V)
  have hq:(T==0)=false:=by rw[ij];exact V
  have O:=zH (HS.out.below E);clear F U M;go_wp2;go_ret;rw[Y.out];exact⟨rfl,O.out,ai.of_below E⟩
theorem xF{p:zA}(h:Pv.aG p.data.toList=false):bH p ⟨#[]⟩=2:=aj h
theorem iw{p:zA}(h:Pv.aG p.data.toList=true):bH p ⟨#[]⟩=0:=by
 unfold bH;rw[ag (by rw[h];decide),ag (fun h=>h.1 rfl)]
theorem Ib(p s:zA)(w:zW)(h:aD w I mb G (dL ms ix root))(hm:Ml w)(hl:ms.length+ix.length<=90000)(hp:p.size<4294967281)(hs:s.size<=281474976710656)(hr:G<4611686018427387904):
  zC 35 #[zP I,tS p,tS s] w fun e w'=>e=.returned (.int .i64 (lW ix ⟨p,⟨#[]⟩,s⟩ 30 (bH p ⟨#[]⟩)).2.1)/\aD w' I mb (G+(lW ix ⟨p,⟨#[]⟩,s⟩ 30 (bH p ⟨#[]⟩)).2.2) (dL ms (lW ix ⟨p,⟨#[]⟩,s⟩ 30 (bH p ⟨#[]⟩)).1 root)/\ai (fun b=>b=I\/b=mb) w w':=by
 have kn:=jo p w hm hp;have T:∀W,zB w W->_:=fun W hb=>RU ⟨p,⟨#[]⟩,s⟩ W (h.below hb) hl (by show p.size<=_;omega) (by show(0:Nat)<=_;omega) hs hr
 have HS:=zH h;clear h hm;have F:Hid (Pv.aG p.data.toList=false->lW ix ⟨p,⟨#[]⟩,s⟩ 30 (bH p ⟨#[]⟩)=(ix,2,0)):=fun h=>by rw[xF h];rfl
 have M:Hid (Pv.aG p.data.toList=true->lW ix ⟨p,⟨#[]⟩,s⟩ 30 (bH p ⟨#[]⟩)=cK ix ⟨p,⟨#[]⟩,s⟩ 30):=fun h=>by rw[iw h];rfl
 generalize lW ix ⟨p,⟨#[]⟩,s⟩ 30 (bH p ⟨#[]⟩)=PP at*;generalize cK ix ⟨p,⟨#[]⟩,s⟩ 30=Y at*;generalize Pv.aG p.data.toList=a at*;go_enter func35,ntmps35
 go_wp2_with (go_at_call 56;fail)
 go_at_call 56;refine kn.mono ?_;rintro e w1 ⟨rfl,E⟩;clear kn;have T:=T w1 E;cases a
 ·have U:=zH (F.out rfl)
  have O:=zH (HS.out.below E);clear F M T;go_wp2;go_ret;rw[U.out];exact⟨rfl,O.out,ai.of_below E⟩
 ·have U:=zH (M.out rfl)
  clear F M
  go_wp2_with (go_at_call 57;fail)
  go_at_call 57;refine T.mono ?_;rintro e w2 ⟨rfl,h2,ht⟩;have O:=zH h2;have V:Hid (ai (fun b=>b=I\/b=mb) w w2):=(ai.of_below E).trans ht (fun _ _ e=>e) (fun _ _ e=>e);clear T h2 ht E;go_wp2;go_ret;rw[U.out];exact⟨rfl,O.out,V.out⟩
theorem E4(p:zA)(w:zW)(h:aD w I mb G (dL ms ix root))(hm:Ml w)(hp:p.size<4294967281)(hr:G<4611686018427387904):
  zC 47 #[zP I,tS p] w fun e w'=>e=.returned (.int .i64 (bH p ⟨#[]⟩))/\aD w' I mb (G+(dE ix p ⟨#[]⟩ (bH p ⟨#[]⟩)).2) (dL ms (dE ix p ⟨#[]⟩ (bH p ⟨#[]⟩)).1 root)/\ai (fun b=>b=I\/b=mb) w w':=by
 have kn:=jo p w hm hp;have U:∀W,zB w W->_:=fun W hb=>Qc (ms:=ms) (ix:=ix) (root:=root) p ⟨#[]⟩ W (h.below hb) (by omega) (by show(0:Nat)<=_;omega) hr
 have HS:=zH h;clear h hm;have F:Hid (Pv.aG p.data.toList=false->bH p ⟨#[]⟩=2/\dE ix p ⟨#[]⟩ (bH p ⟨#[]⟩)=(ix,0)):=fun h=>by rw[xF h];exact⟨rfl,rfl⟩
 have M:Hid (Pv.aG p.data.toList=true->bH p ⟨#[]⟩=0/\dE ix p ⟨#[]⟩ (bH p ⟨#[]⟩)=dE ix p ⟨#[]⟩ 0):=fun h=>by rw[iw h];exact⟨rfl,rfl⟩
 generalize dE ix p ⟨#[]⟩ (bH p ⟨#[]⟩)=PP at*;generalize dE ix p ⟨#[]⟩ 0=Y at*;generalize bH p ⟨#[]⟩=er at*;generalize Pv.aG p.data.toList=a at*;go_enter func47,ntmps47
 go_wp2_with (go_at_call 56;fail)
 go_at_call 56;refine kn.mono ?_;rintro e w1 ⟨rfl,E⟩;clear kn;have U:=U w1 E;cases a
 ·have T:Hid (2=er/\PP=(ix,0)):=⟨(F.out rfl).1.symm,(F.out rfl).2⟩
  have O:=zH (HS.out.below E);clear F M U;go_wp2;go_ret;rw[T.out.2];exact⟨ft T.out.1,O.out,ai.of_below E⟩
 ·have T:Hid (0=er/\PP=Y):=⟨(M.out rfl).1.symm,(M.out rfl).2⟩
  clear F M
  go_wp2_with (go_at_call 55;fail)
  go_at_call 55;refine U.mono ?_;rintro e w2 ⟨rfl,h2,ht⟩;have O:=zH h2;have V:Hid (ai (fun b=>b=I\/b=mb) w w2):=(ai.of_below E).trans ht (fun _ _ e=>e) (fun _ _ e=>e);clear U h2 ht E;go_wp2;go_ret;rw[T.out.2];exact⟨ft T.out.1,O.out,V.out⟩
theorem qD{p:zA}(h:p.size=0):iD p=0:=ag (fun k=>k.1 h)
theorem E5{p:zA}(E:p.size≠0)(h:Pv.aG p.data.toList=false):iD p=2:=aj ⟨E,h⟩
theorem vA{p:zA}(h:Pv.aG p.data.toList=true):iD p=0:=ag (fun k=>by rw[h] at k;exact absurd k.2 (by decide))
theorem Kv(p:zA)(w:zW)(h:aD w I mb G (dL ms ix root))(hm:Ml w)(hl:ms.length+ix.length<=90000)(hp:p.size<4294967281)(hr:G<4611686018427387904):
  zC 31 #[zP I,tS p] w fun e w'=>e=.returned (.int .i64 (iD p))/\aD w' I mb (G+(rootOf root p).2) (dL ms ix (rootOf root p).1)/\ai (fun b=>b=I\/b=mb) w w':=by
 have kn:=jo p w hm hp;have HS:=zH h;have he:=ry p;have E:Hid (rootOf root p=if iD p=0 then (if (p.toList==root.toList)=true then (root,0) else (p,1)) else (root,0)):=rfl;have kd:p.size=0->_:=fun F=>Qd (ms:=ms) (ix:=ix) (root:=root) p w h F hr
 have V:p.size≠0->∀W,zB w W->_:=fun F W hb=>RV (ms:=ms) (ix:=ix) (root:=root) p W (h.below hb) hl (by omega) F hr
 clear h hm;have E0:Hid (p.size=0->0=iD p):=fun h=>(qD h).symm
 have E1:Hid (p.size≠0->Pv.aG p.data.toList=false->2=iD p):=fun F h=>(E5 F h).symm
 have E2:Hid (Pv.aG p.data.toList=true->0=iD p):=fun h=>(vA h).symm
 generalize rootOf root p=RR at*;generalize (if (p.toList==root.toList)=true then (root,0) else (p,1))=U at*;generalize iD p=er at*;generalize Pv.aG p.data.toList=a at*;go_enter func31,ntmps31;by_cases F:p.size=0
 ·have T:=zH (E0.out F)
  have HP:Hid (RR=U):=by show RR=U;rw[E.out,<-T.out];exact aj rfl
  have kd:=kd F;rw[bB F] at he;clear E V kn E0 E1 E2
  go_wp2_with (go_at_call 55;fail)
  go_at_call 55;refine kd.mono ?_;rintro e w2 ⟨rfl,h2,ht⟩;have M:=zH h2;have Y:=zH ht;clear kd h2 ht;go_wp2;go_ret;rw[HP.out];exact⟨ft T.out,M.out,Y.out⟩
 ·have V:=V F
  rw[bD F] at he
  go_wp2_with (go_at_call 56;fail)
  go_at_call 56;refine kn.mono ?_;rintro e w1 ⟨rfl,O⟩;clear kn kd;have V:=V w1 O;cases a
  ·have T:=zH (E1.out F rfl)
   have HP:Hid (RR=(root,0)):=by show RR=_;rw[E.out,<-T.out];exact ag (by decide)
   have M:=zH (HS.out.below O);clear E E0 E1 E2 V;go_wp2;go_ret;rw[HP.out];exact⟨ft T.out,M.out,ai.of_below O⟩
  ·have T:=zH (E2.out rfl)
   have HP:Hid (RR=U):=by show RR=U;rw[E.out,<-T.out];exact aj rfl
   clear E E0 E1 E2
   go_wp2_with (go_at_call 57;fail)
   go_at_call 57;refine V.mono ?_;rintro e w2 ⟨rfl,h2,ht⟩;have M:=zH h2;have Y:Hid (ai (fun b=>b=I\/b=mb) w w2):=(ai.of_below O).trans ht (fun _ _ e=>e) (fun _ _ e=>e);clear V h2 ht O;go_wp2;go_ret;rw[HP.out];exact⟨ft T.out,M.out,Y.out⟩
end Ed
namespace Ed
variable{w w':zW}{I mb J G:Nat}{ms ix:List Tt}{root:zA}
theorem BD{R:zW->Prop}{r:Int}(p v s:zA)(w:zW)(E:w.cell? (tD J 0)=some (zP I))
  (k:zC 34 #[zP I,tS p,tS v,tS s] w fun e w'=>e=.returned (.int .i64 r)/\R w'):
  zC 16 #[zP J,tS p,tS v,tS s] w fun e w'=>e=.returned (.int .i64 r)/\R w':=by
 go_enter func16,ntmps16
 go_wp2_with (go_at_call 34;fail)
 go_at_call 34;refine k.mono ?_;rintro e F ⟨rfl,h⟩;have H:Hid (R F):=h;clear h k E;go_wp2;go_ret;exact⟨rfl,H.out⟩
theorem zq{R:zW->Prop}{r:Int}(p v:zA)(w:zW)(E:w.cell? (tD J 0)=some (zP I))
  (k:zC 46 #[zP I,tS p,tS v] w fun e w'=>e=.returned (.int .i64 r)/\R w'):
  zC 28 #[zP J,tS p,tS v] w fun e w'=>e=.returned (.int .i64 r)/\R w':=by
 go_enter func28,ntmps28
 go_wp2_with (go_at_call 46;fail)
 go_at_call 46;refine k.mono ?_;rintro e F ⟨rfl,h⟩;have H:Hid (R F):=h;clear h k E;go_wp2;go_ret;exact⟨rfl,H.out⟩
theorem Ic{R:zW->Prop}{r:Int}(p s:zA)(w:zW)(E:w.cell? (tD J 0)=some (zP I))
  (k:zC 35 #[zP I,tS p,tS s] w fun e w'=>e=.returned (.int .i64 r)/\R w'):
  zC 17 #[zP J,tS p,tS s] w fun e w'=>e=.returned (.int .i64 r)/\R w':=by
 go_enter func17,ntmps17
 go_wp2_with (go_at_call 35;fail)
 go_at_call 35;refine k.mono ?_;rintro e F ⟨rfl,h⟩;have H:Hid (R F):=h;clear h k E;go_wp2;go_ret;exact⟨rfl,H.out⟩
theorem E6{R:zW->Prop}{r:Int}(p:zA)(w:zW)(E:w.cell? (tD J 0)=some (zP I))
  (k:zC 47 #[zP I,tS p] w fun e w'=>e=.returned (.int .i64 r)/\R w'):
  zC 29 #[zP J,tS p] w fun e w'=>e=.returned (.int .i64 r)/\R w':=by
 go_enter func29,ntmps29
 go_wp2_with (go_at_call 47;fail)
 go_at_call 47;refine k.mono ?_;rintro e F ⟨rfl,h⟩;have H:Hid (R F):=h;clear h k E;go_wp2;go_ret;exact⟨rfl,H.out⟩
theorem Kw{R:zW->Prop}{r:Int}(p:zA)(w:zW)(E:w.cell? (tD J 0)=some (zP I))
  (k:zC 31 #[zP I,tS p] w fun e w'=>e=.returned (.int .i64 r)/\R w'):
  zC 9 #[zP J,tS p] w fun e w'=>e=.returned (.int .i64 r)/\R w':=by
 go_enter func9,ntmps9
 go_wp2_with (go_at_call 31;fail)
 go_at_call 31;refine k.mono ?_;rintro e F ⟨rfl,h⟩;have H:Hid (R F):=h;clear h k E;go_wp2;go_ret;exact⟨rfl,H.out⟩
theorem uD{L:List (zV×zV)}(w:zW)(h:aD w I mb G L):
  zC 41 #[zP I] w fun e w'=>e=.returned (.int .i64 G)/\w'=w:=by
 have E:=h.f1.1;clear h;go_enter func41,ntmps41;go_wp2;go_ret;exact⟨rfl,rfl⟩
theorem Ie{L:List (zV×zV)}(w:zW)(F:w.cell? (tD J 0)=some (zP I))(h:aD w I mb G L):
  zC 24 #[zP J] w fun e w'=>e=.returned (.int .i64 G)/\w'=w:=by
 have k:=uD w h;clear h;go_enter func24,ntmps24
 go_wp2_with (go_at_call 41;fail)
 go_at_call 41;refine k.mono ?_;intro e M E;rw[E.1,E.2];clear k E F;go_wp2;go_ret;exact⟨rfl,rfl⟩
theorem eu(w:zW)(cs:Array zV)(t:TypeId){j:Nat}{u:zV}(h:cs[j]?=some u):Fd (w.alloc (.cells cs t)) w.heap.size j u:=by
 have E:(w.alloc (.cells cs t)).heap[w.heap.size]?=some (.cells cs t):=by
  show(w.heap.push _)[w.heap.size]?=_;simp
 refine⟨?_,?_⟩
 ·simp only[World.cell?,E];exact h
 ·simp only[World.frozen?,E];simp
theorem TR(w:zW):
  zC 39 #[] w fun e w'=>e=.returned (.pointer (some (tD (w.heap.size+1) 0)))/\aD w' (w.heap.size+1) w.heap.size 0 []/\zB w w':=by
 have F:=zH (Mp.made w prog 100);have M:=@run_makeMap prog;go_enter func39,ntmps39;go_wp2;go_ret;have O:(w.alloc (.map #[] 0)).heap.size=w.heap.size+1:=by simp
 have E:=fun j u=>eu (w.alloc (.map #[] 0)) #[.map (some w.heap.size),.int .i64 0] 110 (j:=j) (u:=u)
 rw[O] at E;refine⟨rfl,⟨E 0 _ rfl,E 1 _ rfl,F.out.of_block (aH _ _ _ (by simp)),fun x T=>(by cases T),by omega⟩,?_⟩;exact((ae w.heap.size w).alloc (ah _) _).alloc (by simp) _
