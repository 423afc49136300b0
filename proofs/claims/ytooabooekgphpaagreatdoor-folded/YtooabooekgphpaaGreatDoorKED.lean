import Derived.Test.YtooabooekgphpaaGreatDoorKEB
set_option linter.all false
open Go.Proofs.Tryz
set_option maxRecDepth 100000
set_option maxHeartbeats 4000000
namespace Go.Proofs.YtooabooekgphpaaGreatDoor
open Go.RowKit
namespace Ed
variable{w w':zW}{I mb G:Nat}{L:List (zV×zV)}
theorem kE{P:Program}{F:Array Oper}{o:Oper}{a:Act}{w:zW}{K:Act->zW->Prop}{Q:Exit->Act->zW->Prop}{E:Prop}
  (O:o.guard=none) (m x:Operand) (t k:TypeId) (M:o.op=Op.call {callee:=Callee.builtin Builtin.delete,args:=#[m,x],argTypes:=#[t,k]})
  (mb:Nat) (key:zV) (hm:a.eval m=.map (some mb)) (T:a.eval x=key) (w':zW) (D:∀ty,(Builtin.delete_ #[t,k] ty #[.map (some mb),key]).run P w=.ok (.tuple #[]) w')
  (hK:K (a.put o.dst (.tuple #[])) w'):if Region.wanted o (yielded F a.tmps)=true then Oper.wp P o a w K Q else E:=by
 have S:Region.wanted o (yielded F a.tmps)=true:=by simp[Region.wanted,O]
 rw[aj S];unfold Oper.wp;simp[execOp,M,resolve,invoke,builtin,hm,T,D,Result.andThen];exact hK
theorem CC(s:zA)(b:Bool)(W:zW):(Instr.field 123 (.agg #[.string s,.bool b]) 1).run prog W=.ok (.bool b) W:=by kernel_rfl
theorem aC.dropped{M:List (zV×zV)}{old:zA}{k:Int}{p v:zA}(h:aC w I mb G L)(S:L.Perm ((plc k p v,txt old)::M))(V:(Lit.int .i64 k).wf=true)(W:p.size<=maxLen)(hv:v.size<=maxLen):
  ∃w',(∀ty,(Builtin.delete_ #[69,103] ty #[.map (some mb),plc k p v]).run prog w=.ok (.tuple #[]) w')/\aC w' I mb G M/\ai (fun x=>x=mb) w w':=by
 obtain⟨kl,E⟩:=rM k p v V W hv;obtain⟨U,F,Y,hm⟩:=h.map.Cx gM underlying69 E S 0;have D:∀ty,(Builtin.delete_ #[69,103] ty #[.map (some mb),plc k p v]).run prog w=.ok (.tuple #[]) U:=fun ty=>F
 have T:=iA Y;have O:=T.block I h.f0.lt h.ne;exact⟨U,D,⟨h.f0.of_block O,h.f1.of_block O,hm,(h.good.perm S).tail,h.ne⟩,T⟩
theorem wN(k:Int)(p v:zA)(d:Nat)(L':List (zV×zV))(w:zW)(h:aC w I mb G L)(hk:(Lit.int .i64 k).wf=true)(hp:p.size<=281474976710656)(hv:v.size<=281474976710656)(hr:G<4611686018427387904)
  (hS:iz L (plc k p v) d L'):
  zC 49 #[zP I,plc k p v] w fun e w'=>e=.returned (.tuple #[])/\aC w' I mb (G+d) L'/\ai (fun b=>b=I\/b=mb) w w':=by
 obtain⟨kl,hkey⟩:=rM k p v hk (by unfold maxLen;omega) (by unfold maxLen;omega);have HB1:Hid (zB w (w.alloc (.cells #[.int .i64 k,.string p,.string v] 103)).drew):=((ae _ _).alloc (af _) _).drew;have HX1:Hid (fL (w.alloc (.cells #[.int .i64 k,.string p,.string v] 103)).drew w.heap.size k p v):=(fL.new w k p v).of_block rfl;have HS1:Hid (aC (w.alloc (.cells #[.int .i64 k,.string p,.string v] 103)).drew I mb G L):=h.below HB1.out;have hsl:I<w.heap.size/\mb<w.heap.size:=⟨h.f0.lt,h.map.lt⟩;clear h;cases hS with
 |none hn=>
  have hfl:=CC ⟨#[]⟩ false;have lk:=HS1.out.map.look_none false gM underlying69 (mH _) hkey hn;go_enter func49,ntmps49;go_upto_region 1 with fail;have c0:(w.alloc (.cells #[.int .i64 k,.string p,.string v] 103)).cell? ⟨I,0,none⟩=some (.map (some mb)):=HS1.out.f0.1
  go_region
  all_goals
   go_wp2;exact gB (v:=.tuple #[]) (by simp[results,results49,go_sem]) rfl ⟨rfl,HS1.out,ai.of_below HB1.out⟩
 |there old L0 hL=>
  have hfl:=CC old true;have lk:=HS1.out.map.look_some false gM underlying69 (mH _) hkey (hL.mem_iff.2 (bo ..));go_enter func49,ntmps49;go_upto_region 1 with fail;have c0:(w.alloc (.cells #[.int .i64 k,.string p,.string v] 103)).cell? ⟨I,0,none⟩=some (.map (some mb)):=HS1.out.f0.1
  go_region
  all_goals
   clear lk c0;generalize (w.alloc (.cells #[.int .i64 k,.string p,.string v] 103)).drew=W1 at*;obtain⟨⟨x0,_⟩,⟨x1,_⟩,⟨x2,_⟩⟩:=HX1.out;have c0:=HS1.out.f0.1;obtain⟨w7,hrun,h7,ht7⟩:=aC.dropped (w:=W1.drew) (HS1.out.of_block rfl rfl) hL hk (by unfold maxLen;omega) (by unfold maxLen;omega);have HS7:Hid (aC w7 I mb G L'):=h7;have HT7:Hid (ai (fun b=>b=I\/b=mb) w w7):=(ai.of_below (p:=fun b=>b=I\/b=mb) HB1.out.drew).trans ht7 (fun _ _ e=>e) (fun _ _ e=>Or.inr e);clear h7 ht7;go_upto_region 2 with fail
   go_region_law (refine kE rfl (.tmp 14) (.tmp 15) 69 103 rfl mb (plc k p v) rfl rfl w7 hrun ?_)
   all_goals
    clear hrun x0 x1 x2 c0;have g1:=HS7.out.f1.1;have g2:=HS7.out.f1.2;have e2:IntKind.i64.wrap ((G:Int)+1)=(G:Int)+1:=by simp[IntKind.wrap,IntKind.bits,IntKind.signed];omega
    have HS8:Hid (aC (w7.setCell ⟨I,1,none⟩ (.int .i64 ((G:Int)+1))) I mb (G+1) L'):=HS7.out.bump;have HT8:Hid (ai (fun b=>b=I\/b=mb) w (w7.setCell ⟨I,1,none⟩ (.int .i64 ((G:Int)+1)))):=HT7.out.set (a:=⟨I,1,none⟩) (fun _=>Or.inl rfl) _;clear HS7 HT7;go_wp2;exact gB (v:=.tuple #[]) (by simp[results,results49,go_sem]) rfl ⟨rfl,HS8.out,HT8.out⟩
end Ed
namespace Ed
variable{w w':zW}{I mb J G:Nat}{ms ix:List Tt}{root:zA}
theorem aC.perm{L D:List (zV×zV)}(h:aC w I mb G L)(e:L.Perm D):aC w I mb G D:=⟨h.f0,h.f1,h.map.perm e,h.good.perm e,h.ne⟩
theorem QI(t:Tt)(w:zW)(h:aC w I mb G (dJ ms ix root))(Y:ms.length+ix.length<=90000)(T:t.path.size<=281474976710656)(W:t.ver.size<=281474976710656)(V:t.s.size<=281474976710656)(U:G<4611686018427387904):
  zC 51 #[zP I,plc 0 t.path t.ver,.string t.s,.int .i64 60] w fun e w'=>e=.returned (.int .i64 (cz ms t 60).2.1)/\aC w' I mb (G+(cz ms t 60).2.2) (dJ (cz ms t 60).1 ix root)/\ai (fun b=>b=I\/b=mb) w w':=by
 obtain⟨D,S,O⟩:=zq (k:=0) (A:=[]) (C:=ix.map (ent 1)++di root) (AY 0) ((gO (by decide) ix).append (ib (by decide) root)) ms t 60;refine(AZ 0 t.path t.ver t.s 60 _ _ D w h (by have:=wL ms ix root;omega) (by decide) T W V U S).mono ?_;rintro e w' ⟨E,F,M⟩;exact⟨E,F.perm O,M⟩
theorem QJ(t:Tt)(w:zW)(h:aC w I mb G (dJ ms ix root))(Y:ms.length+ix.length<=90000)(T:t.path.size<=281474976710656)(W:t.ver.size<=281474976710656)(V:t.s.size<=281474976710656)(U:G<4611686018427387904):
  zC 51 #[zP I,plc 1 t.path t.ver,.string t.s,.int .i64 30] w fun e w'=>e=.returned (.int .i64 (cz ix t 30).2.1)/\aC w' I mb (G+(cz ix t 30).2.2) (dJ ms (cz ix t 30).1 root)/\ai (fun b=>b=I\/b=mb) w w':=by
 obtain⟨D,S,O⟩:=zq (k:=1) (A:=ms.map (ent 0)) (C:=di root) (gO (by decide) ms) (ib (by decide) root) ix t 30;refine(AZ 1 t.path t.ver t.s 30 _ _ D w h (by have:=wL ms ix root;omega) (by decide) T W V U S).mono ?_;rintro e w' ⟨E,F,M⟩;exact⟨E,F.perm O,M⟩
theorem mI(ms ix:List Tt)(root:zA):dJ ms ix root=(ms.map (ent 0)++ix.map (ent 1))++di root:=(dZ _ _ _).symm
theorem QK(p:zA)(w:zW)(h:aC w I mb G (dJ ms ix root))(Y:ms.length+ix.length<=90000)(V:p.size<=281474976710656)(F:p.size≠0)(W:G<4611686018427387904):
  zC 51 #[zP I,plc 2 ⟨#[]⟩ ⟨#[]⟩,.string p,.int .i64 1] w fun e w'=>e=.returned (.int .i64 0)/\aC w' I mb (G+(if (p.toList==root.toList)=true then (root,0) else (p,1)).2) (dJ ms ix (if (p.toList==root.toList)=true then (root,0) else (p,1)).1)/\ai (fun b=>b=I\/b=mb) w w':=by
 have D:=wL ms ix root;rw[mI] at h D;rw[mI];obtain⟨E,U,T⟩:=J0 ((gO (k:=2) (q:=0) (by decide) ms).append (gO (q:=1) (by decide) ix)) root p F;refine(AZ 2 ⟨#[]⟩ ⟨#[]⟩ p 1 _ _ E w h (by omega) (by decide) (by decide) (by decide) V W U).mono ?_;rintro e w' ⟨M,O,S⟩;exact⟨M,O.perm T,S⟩
theorem O8(p v:zA)(w:zW)(h:aC w I mb G (dJ ms ix root))(T:p.size<=281474976710656)(V:v.size<=281474976710656)(U:G<4611686018427387904):
  zC 49 #[zP I,plc 0 p v] w fun e w'=>e=.returned (.tuple #[])/\aC w' I mb (G+(dE ms p v 0).2) (dJ (dE ms p v 0).1 ix root)/\ai (fun b=>b=I\/b=mb) w w':=by
 obtain⟨D,S,O⟩:=zr (k:=0) (A:=[]) (C:=ix.map (ent 1)++di root) (AY 0) ((gO (by decide) ix).append (ib (by decide) root)) ms p v;refine(wN 0 p v _ D w h (by decide) T V U S).mono ?_;rintro e w' ⟨E,F,M⟩;exact⟨E,F.perm O,M⟩
theorem O9(p v:zA)(w:zW)(h:aC w I mb G (dJ ms ix root))(T:p.size<=281474976710656)(V:v.size<=281474976710656)(U:G<4611686018427387904):
  zC 49 #[zP I,plc 1 p v] w fun e w'=>e=.returned (.tuple #[])/\aC w' I mb (G+(dE ix p v 0).2) (dJ ms (dE ix p v 0).1 root)/\ai (fun b=>b=I\/b=mb) w w':=by
 obtain⟨D,S,O⟩:=zr (k:=1) (A:=ms.map (ent 0)) (C:=di root) (gO (by decide) ms) (ib (by decide) root) ix p v;refine(wN 1 p v _ D w h (by decide) T V U S).mono ?_;rintro e w' ⟨E,F,M⟩;exact⟨E,F.perm O,M⟩
theorem Pd(p:zA)(w:zW)(h:aC w I mb G (dJ ms ix root))(E:p.size=0)(U:G<4611686018427387904):
  zC 49 #[zP I,plc 2 ⟨#[]⟩ ⟨#[]⟩] w fun e w'=>e=.returned (.tuple #[])/\aC w' I mb (G+(if (p.toList==root.toList)=true then (root,0) else (p,1)).2) (dJ ms ix (if (p.toList==root.toList)=true then (root,0) else (p,1)).1)/\ai (fun b=>b=I\/b=mb) w w':=by
 rw[mI] at h;rw[mI];obtain⟨D,T,S⟩:=G4 ((gO (k:=2) (q:=0) (by decide) ms).append (gO (q:=1) (by decide) ix)) root p E;refine(wN 2 ⟨#[]⟩ ⟨#[]⟩ _ D w h (by decide) (by decide) (by decide) U T).mono ?_;rintro e w' ⟨F,M,O⟩;exact⟨F,M.perm S,O⟩
theorem A6(p v s:zA)(w:zW)(h:aC w I mb G (dJ ms ix root))(hm:Ml w)(hl:ms.length+ix.length<=90000)(hp:p.size<4294967281)(hv:v.size<=281474976710656)(hs:s.size<=281474976710656)(hr:G<4611686018427387904):
  zC 34 #[zP I,.string p,.string v,.string s] w fun e w'=>e=.returned (.int .i64 (lF ms ⟨p,v,s⟩ 60 (bC p v)).2.1)/\aC w' I mb (G+(lF ms ⟨p,v,s⟩ 60 (bC p v)).2.2) (dJ (lF ms ⟨p,v,s⟩ 60 (bC p v)).1 ix root)/\ai (fun b=>b=I\/b=mb) w w':=by
 have kn:=nt p v w hm hp;have O:∀W,zB w W->_:=fun W hb=>QI ⟨p,v,s⟩ W (h.below hb) hl (by show p.size<=_;omega) hv hs hr
 have HS:=zH h;clear h hm;generalize bC p v=M at*;have E:Hid (lF ms ⟨p,v,s⟩ 60 M=if M=0 then cz ms ⟨p,v,s⟩ 60 else (ms,M,0)):=rfl;generalize lF ms ⟨p,v,s⟩ 60 M=T at*;generalize cz ms ⟨p,v,s⟩ 60=S at*;go_enter func34,ntmps34
 go_wp2_with (go_at_call 52;fail)
 go_at_call 52;refine kn.mono ?_;rintro e w1 ⟨rfl,D⟩;clear kn;have O:=O w1 D;by_cases Y:M=0
 ·subst Y
  have U:Hid (T=S):=by show T=S;rw[E.out];exact aj rfl
  clear E
  go_wp2_with (go_at_call 51;fail)
  go_at_call 51;refine O.mono ?_;rintro e w2 ⟨rfl,h2,ht⟩;have F:=zH h2;have V:Hid (ai (fun b=>b=I\/b=mb) w w2):=(ai.of_below D).trans ht (fun _ _ e=>e) (fun _ _ e=>e);clear O h2 ht D;go_wp2;go_ret;rw[U.out];exact⟨rfl,F.out,V.out⟩
 ·have U:Hid (T=(ms,M,0)):=by show T=_;rw[E.out];exact ag Y
  have hq:(M==0)=false:=by rw[eI];exact Y
  have F:=zH (HS.out.below D);clear E O;go_wp2;go_ret;rw[U.out];exact⟨rfl,F.out,ai.of_below D⟩
theorem yN(p v:zA)(w:zW)(h:aC w I mb G (dJ ms ix root))(hm:Ml w)(hp:p.size<4294967281)(hv:v.size<=281474976710656)(hr:G<4611686018427387904):
  zC 36 #[zP I,.string p,.string v] w fun e w'=>e=.returned (.int .i64 (bC p v))/\aC w' I mb (G+(dE ms p v (bC p v)).2) (dJ (dE ms p v (bC p v)).1 ix root)/\ai (fun b=>b=I\/b=mb) w w':=by
 have kn:=nt p v w hm hp;have S:∀W,zB w W->_:=fun W hb=>O8 (ms:=ms) (ix:=ix) (root:=root) p v W (h.below hb) (by omega) hv hr
 have HS:=zH h;clear h hm;generalize bC p v=O at*;have E:Hid (O≠0->dE ms p v O=(ms,0)):=fun h=>ag h
 have F:Hid (O=0->dE ms p v O=dE ms p v 0):=fun h=>by rw[h]
 generalize dE ms p v O=PP at*;generalize dE ms p v 0=Y at*;go_enter func36,ntmps36
 go_wp2_with (go_at_call 52;fail)
 go_at_call 52;refine kn.mono ?_;rintro e w1 ⟨rfl,D⟩;clear kn;have S:=S w1 D;by_cases T:O=0
 ·have U:=zH (F.out T)
  subst T;clear E F
  go_wp2_with (go_at_call 49;fail)
  go_at_call 49;refine S.mono ?_;rintro e w2 ⟨rfl,h2,ht⟩;have M:=zH h2;have V:Hid (ai (fun b=>b=I\/b=mb) w w2):=(ai.of_below D).trans ht (fun _ _ e=>e) (fun _ _ e=>e);clear S h2 ht D;go_wp2;go_ret;rw[U.out];exact⟨rfl,M.out,V.out⟩
 ·have U:=zH (E.out T)
  have hq:(O==0)=false:=by rw[eI];exact T
  have M:=zH (HS.out.below D);clear E S F;go_wp2;go_ret;rw[U.out];exact⟨rfl,M.out,ai.of_below D⟩
theorem wO{p:zA}(h:Pv.aH p.data.toList=false):bC p ⟨#[]⟩=2:=aj h
theorem ic{p:zA}(h:Pv.aH p.data.toList=true):bC p ⟨#[]⟩=0:=by
 unfold bC;rw[ag (by rw[h];decide),ag (fun h=>h.1 rfl)]
theorem G5(p s:zA)(w:zW)(h:aC w I mb G (dJ ms ix root))(hm:Ml w)(hl:ms.length+ix.length<=90000)(hp:p.size<4294967281)(hs:s.size<=281474976710656)(hr:G<4611686018427387904):
  zC 35 #[zP I,.string p,.string s] w fun e w'=>e=.returned (.int .i64 (lF ix ⟨p,⟨#[]⟩,s⟩ 30 (bC p ⟨#[]⟩)).2.1)/\aC w' I mb (G+(lF ix ⟨p,⟨#[]⟩,s⟩ 30 (bC p ⟨#[]⟩)).2.2) (dJ ms (lF ix ⟨p,⟨#[]⟩,s⟩ 30 (bC p ⟨#[]⟩)).1 root)/\ai (fun b=>b=I\/b=mb) w w':=by
 have kn:=ji p w hm hp;have O:∀W,zB w W->_:=fun W hb=>QJ ⟨p,⟨#[]⟩,s⟩ W (h.below hb) hl (by show p.size<=_;omega) (by show(0:Nat)<=_;omega) hs hr
 have HS:=zH h;clear h hm;have E:Hid (Pv.aH p.data.toList=false->lF ix ⟨p,⟨#[]⟩,s⟩ 30 (bC p ⟨#[]⟩)=(ix,2,0)):=fun h=>by rw[wO h];rfl
 have F:Hid (Pv.aH p.data.toList=true->lF ix ⟨p,⟨#[]⟩,s⟩ 30 (bC p ⟨#[]⟩)=cz ix ⟨p,⟨#[]⟩,s⟩ 30):=fun h=>by rw[ic h];rfl
 generalize lF ix ⟨p,⟨#[]⟩,s⟩ 30 (bC p ⟨#[]⟩)=V at*;generalize cz ix ⟨p,⟨#[]⟩,s⟩ 30=U at*;generalize Pv.aH p.data.toList=a at*;go_enter func35,ntmps35
 go_wp2_with (go_at_call 50;fail)
 go_at_call 50;refine kn.mono ?_;rintro e w1 ⟨rfl,D⟩;clear kn;have O:=O w1 D;cases a
 ·have S:Hid (V=(ix,2,0)):=E.out rfl
  have M:=zH (HS.out.below D);clear E F O;go_wp2;go_ret;rw[S.out];exact⟨rfl,M.out,ai.of_below D⟩
 ·have S:Hid (V=U):=F.out rfl
  clear E F
  go_wp2_with (go_at_call 51;fail)
  go_at_call 51;refine O.mono ?_;rintro e w2 ⟨rfl,Y,ht⟩;have M:=zH Y;have T:Hid (ai (fun b=>b=I\/b=mb) w w2):=(ai.of_below D).trans ht (fun _ _ e=>e) (fun _ _ e=>e);clear O Y ht D;go_wp2;go_ret;rw[S.out];exact⟨rfl,M.out,T.out⟩
theorem EG(p:zA)(w:zW)(h:aC w I mb G (dJ ms ix root))(hm:Ml w)(hp:p.size<4294967281)(hr:G<4611686018427387904):
  zC 37 #[zP I,.string p] w fun e w'=>e=.returned (.int .i64 (bC p ⟨#[]⟩))/\aC w' I mb (G+(dE ix p ⟨#[]⟩ (bC p ⟨#[]⟩)).2) (dJ ms (dE ix p ⟨#[]⟩ (bC p ⟨#[]⟩)).1 root)/\ai (fun b=>b=I\/b=mb) w w':=by
 have kn:=ji p w hm hp;have S:∀W,zB w W->_:=fun W hb=>O9 (ms:=ms) (ix:=ix) (root:=root) p ⟨#[]⟩ W (h.below hb) (by omega) (by show(0:Nat)<=_;omega) hr
 have HS:=zH h;clear h hm;have E:Hid (Pv.aH p.data.toList=false->bC p ⟨#[]⟩=2/\dE ix p ⟨#[]⟩ (bC p ⟨#[]⟩)=(ix,0)):=fun h=>by rw[wO h];exact⟨rfl,rfl⟩
 have F:Hid (Pv.aH p.data.toList=true->bC p ⟨#[]⟩=0/\dE ix p ⟨#[]⟩ (bC p ⟨#[]⟩)=dE ix p ⟨#[]⟩ 0):=fun h=>by rw[ic h];exact⟨rfl,rfl⟩
 generalize dE ix p ⟨#[]⟩ (bC p ⟨#[]⟩)=V at*;generalize dE ix p ⟨#[]⟩ 0=U at*;generalize bC p ⟨#[]⟩=Y at*;generalize Pv.aH p.data.toList=a at*;go_enter func37,ntmps37
 go_wp2_with (go_at_call 50;fail)
 go_at_call 50;refine kn.mono ?_;rintro e w1 ⟨rfl,D⟩;clear kn;have S:=S w1 D;cases a
 ·have O:Hid (2=Y/\V=(ix,0)):=⟨(E.out rfl).1.symm,(E.out rfl).2⟩
  have M:=zH (HS.out.below D);clear E F S;go_wp2;go_ret;rw[O.out.2];exact⟨fp O.out.1,M.out,ai.of_below D⟩
 ·have O:Hid (0=Y/\V=U):=⟨(F.out rfl).1.symm,(F.out rfl).2⟩
  clear E F
  go_wp2_with (go_at_call 49;fail)
  go_at_call 49;refine S.mono ?_;rintro e w2 ⟨rfl,h2,ht⟩;have M:=zH h2;have T:Hid (ai (fun b=>b=I\/b=mb) w w2):=(ai.of_below D).trans ht (fun _ _ e=>e) (fun _ _ e=>e);clear S h2 ht D;go_wp2;go_ret;rw[O.out.2];exact⟨fp O.out.1,M.out,T.out⟩
theorem pQ{p:zA}(h:p.size=0):iy p=0:=ag (fun k=>k.1 h)
theorem EH{p:zA}(D:p.size≠0)(h:Pv.aH p.data.toList=false):iy p=2:=aj ⟨D,h⟩
theorem uJ{p:zA}(h:Pv.aH p.data.toList=true):iy p=0:=ag (fun k=>by rw[h] at k;exact absurd k.2 (by decide))
theorem J1(p:zA)(w:zW)(h:aC w I mb G (dJ ms ix root))(hm:Ml w)(hl:ms.length+ix.length<=90000)(hp:p.size<4294967281)(hr:G<4611686018427387904):
  zC 33 #[zP I,.string p] w fun e w'=>e=.returned (.int .i64 (iy p))/\aC w' I mb (G+(rootOf root p).2) (dJ ms ix (rootOf root p).1)/\ai (fun b=>b=I\/b=mb) w w':=by
 have kn:=ji p w hm hp;have HS:=zH h;have he:=qG p;have D:Hid (rootOf root p=if iy p=0 then (if (p.toList==root.toList)=true then (root,0) else (p,1)) else (root,0)):=rfl;have kd:p.size=0->_:=fun E=>Pd (ms:=ms) (ix:=ix) (root:=root) p w h E hr
 have T:p.size≠0->∀W,zB w W->_:=fun E W hb=>QK (ms:=ms) (ix:=ix) (root:=root) p W (h.below hb) hl (by omega) E hr
 clear h hm;have E0:Hid (p.size=0->0=iy p):=fun h=>(pQ h).symm
 have E1:Hid (p.size≠0->Pv.aH p.data.toList=false->2=iy p):=fun E h=>(EH E h).symm
 have E2:Hid (Pv.aH p.data.toList=true->0=iy p):=fun h=>(uJ h).symm
 generalize rootOf root p=V at*;generalize (if (p.toList==root.toList)=true then (root,0) else (p,1))=S at*;generalize iy p=er at*;generalize Pv.aH p.data.toList=a at*;go_enter func33,ntmps33;by_cases E:p.size=0
 ·have O:=zH (E0.out E)
  have Y:Hid (V=S):=by show V=S;rw[D.out,<-O.out];exact aj rfl
  have kd:=kd E;rw[bj E] at he;clear D T kn E0 E1 E2
  go_wp2_with (go_at_call 49;fail)
  go_at_call 49;refine kd.mono ?_;rintro e w2 ⟨rfl,h2,ht⟩;have F:=zH h2;have U:=zH ht;clear kd h2 ht;go_wp2;go_ret;rw[Y.out];exact⟨fp O.out,F.out,U.out⟩
 ·have T:=T E
  rw[aQ E] at he
  go_wp2_with (go_at_call 50;fail)
  go_at_call 50;refine kn.mono ?_;rintro e w1 ⟨rfl,M⟩;clear kn kd;have T:=T w1 M;cases a
  ·have O:Hid (2=er):=E1.out E rfl
   have Y:Hid (V=(root,0)):=by show V=_;rw[D.out,<-O.out];exact ag (by decide)
   have F:=zH (HS.out.below M);clear D E0 E1 E2 T;go_wp2;go_ret;rw[Y.out];exact⟨fp O.out,F.out,ai.of_below M⟩
  ·have O:Hid (0=er):=E2.out rfl
   have Y:Hid (V=S):=by show V=S;rw[D.out,<-O.out];exact aj rfl
   clear D E0 E1 E2
   go_wp2_with (go_at_call 51;fail)
   go_at_call 51;refine T.mono ?_;rintro e w2 ⟨rfl,h2,ht⟩;have F:=zH h2;have U:Hid (ai (fun b=>b=I\/b=mb) w w2):=(ai.of_below M).trans ht (fun _ _ e=>e) (fun _ _ e=>e);clear T h2 ht M;go_wp2;go_ret;rw[Y.out];exact⟨fp O.out,F.out,U.out⟩
end Ed
namespace Ed
variable{w w':zW}{I mb J G:Nat}{ms ix:List Tt}{root:zA}
theorem A7{R:zW->Prop}{r:Int}(p v s:zA)(w:zW)(D:w.cell? ⟨J,0,none⟩=some (zP I))
  (k:zC 34 #[zP I,.string p,.string v,.string s] w fun e w'=>e=.returned (.int .i64 r)/\R w'):
  zC 16 #[zP J,.string p,.string v,.string s] w fun e w'=>e=.returned (.int .i64 r)/\R w':=by
 go_enter func16,ntmps16
 go_wp2_with (go_at_call 34;fail)
 go_at_call 34;refine k.mono ?_;rintro e E ⟨rfl,h⟩;have H:Hid (R E):=h;clear h k D;go_wp2;go_ret;exact⟨rfl,H.out⟩
theorem yO{R:zW->Prop}{r:Int}(p v:zA)(w:zW)(D:w.cell? ⟨J,0,none⟩=some (zP I))
  (k:zC 36 #[zP I,.string p,.string v] w fun e w'=>e=.returned (.int .i64 r)/\R w'):
  zC 24 #[zP J,.string p,.string v] w fun e w'=>e=.returned (.int .i64 r)/\R w':=by
 go_enter func24,ntmps24
 go_wp2_with (go_at_call 36;fail)
 go_at_call 36;refine k.mono ?_;rintro e E ⟨rfl,h⟩;have H:Hid (R E):=h;clear h k D;go_wp2;go_ret;exact⟨rfl,H.out⟩
theorem G6{R:zW->Prop}{r:Int}(p s:zA)(w:zW)(D:w.cell? ⟨J,0,none⟩=some (zP I))
  (k:zC 35 #[zP I,.string p,.string s] w fun e w'=>e=.returned (.int .i64 r)/\R w'):
  zC 17 #[zP J,.string p,.string s] w fun e w'=>e=.returned (.int .i64 r)/\R w':=by
 go_enter func17,ntmps17
 go_wp2_with (go_at_call 35;fail)
 go_at_call 35;refine k.mono ?_;rintro e E ⟨rfl,h⟩;have H:Hid (R E):=h;clear h k D;go_wp2;go_ret;exact⟨rfl,H.out⟩
theorem EI{R:zW->Prop}{r:Int}(p:zA)(w:zW)(D:w.cell? ⟨J,0,none⟩=some (zP I))
  (k:zC 37 #[zP I,.string p] w fun e w'=>e=.returned (.int .i64 r)/\R w'):
  zC 25 #[zP J,.string p] w fun e w'=>e=.returned (.int .i64 r)/\R w':=by
 go_enter func25,ntmps25
 go_wp2_with (go_at_call 37;fail)
 go_at_call 37;refine k.mono ?_;rintro e E ⟨rfl,h⟩;have H:Hid (R E):=h;clear h k D;go_wp2;go_ret;exact⟨rfl,H.out⟩
theorem J2{R:zW->Prop}{r:Int}(p:zA)(w:zW)(D:w.cell? ⟨J,0,none⟩=some (zP I))
  (k:zC 33 #[zP I,.string p] w fun e w'=>e=.returned (.int .i64 r)/\R w'):
  zC 15 #[zP J,.string p] w fun e w'=>e=.returned (.int .i64 r)/\R w':=by
 go_enter func15,ntmps15
 go_wp2_with (go_at_call 33;fail)
 go_at_call 33;refine k.mono ?_;rintro e E ⟨rfl,h⟩;have H:Hid (R E):=h;clear h k D;go_wp2;go_ret;exact⟨rfl,H.out⟩
theorem tK{L:List (zV×zV)}(w:zW)(h:aC w I mb G L):
  zC 32 #[zP I] w fun e w'=>e=.returned (.int .i64 G)/\w'=w:=by
 have D:=h.f1.1;clear h;go_enter func32,ntmps32;go_wp2;go_ret;exact⟨rfl,rfl⟩
theorem G7{L:List (zV×zV)}(w:zW)(E:w.cell? ⟨J,0,none⟩=some (zP I))(h:aC w I mb G L):
  zC 14 #[zP J] w fun e w'=>e=.returned (.int .i64 G)/\w'=w:=by
 have k:=tK w h;clear h;go_enter func14,ntmps14
 go_wp2_with (go_at_call 32;fail)
 go_at_call 32;refine k.mono ?_;intro e F D;rw[D.1,D.2];clear k D E;go_wp2;go_ret;exact⟨rfl,rfl⟩
theorem dy(w:zW)(D:Array zV)(t:TypeId){j:Nat}{u:zV}(h:D[j]?=some u):Fd (w.alloc (.cells D t)) w.heap.size j u:=by
 have E:(w.alloc (.cells D t)).heap[w.heap.size]?=some (.cells D t):=by
  show(w.heap.push _)[w.heap.size]?=_;simp
 refine⟨?_,?_⟩
 ·simp only[World.cell?,E];exact h
 ·simp only[World.frozen?,E];simp
theorem R4(w:zW):
  zC 18 #[] w fun e w'=>e=.returned (.pointer (some ⟨w.heap.size+1,0,none⟩))/\aC w' (w.heap.size+1) w.heap.size 0 []/\zB w w':=by
 have E:=zH (Mp.made w prog 103);have F:=@run_makeMap prog;go_enter func18,ntmps18;go_wp2;go_ret;have M:(w.alloc (.map #[] 0)).heap.size=w.heap.size+1:=by simp
 have D:=fun j u=>dy (w.alloc (.map #[] 0)) #[.map (some w.heap.size),.int .i64 0] 71 (j:=j) (u:=u)
 rw[M] at D;refine⟨rfl,⟨D 0 _ rfl,D 1 _ rfl,E.out.of_block (aG _ _ _ (by simp)),fun x O=>(by cases O),by omega⟩,?_⟩;exact((ae w.heap.size w).alloc (af _) _).alloc (by simp) _
