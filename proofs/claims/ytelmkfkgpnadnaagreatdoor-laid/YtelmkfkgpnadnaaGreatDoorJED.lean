import Derived.Test.YtelmkfkgpnadnaaGreatDoorJEB
set_option linter.all false
open Go.Proofs.Tryz
set_option maxRecDepth 100000
set_option maxHeartbeats 4000000
namespace Go.Proofs.YtelmkfkgpnadnaaGreatDoor
open Go.RowKit
namespace Ed
variable{w w':zW}{sb mb rev:Nat}{L:List (zV×zV)}
theorem px{P:Program}{ops:Array Oper}{o:Oper}{a:Act}{w:zW}{K:Act→zW→Prop}{Q:Exit→Act→zW→Prop}{E:Prop}
  (hg:o.guard=none) (m x:Operand) (t k:TypeId) (hop:o.op=Op.call {callee:=Callee.builtin Builtin.delete,args:=#[m,x],argTypes:=#[t,k]})
  (mb:Nat) (key:zV) (hm:a.eval m=.map (some mb)) (hx:a.eval x=key) (w':zW) (hrun:∀ty,(Builtin.delete_ #[t,k] ty #[.map (some mb),key]).run P w=.ok (.tuple #[]) w')
  (hK:K (a.put o.dst (.tuple #[])) w'):if Region.wanted o (yielded ops a.tmps)=true then Oper.wp P o a w K Q else E:=by
 have hw:Region.wanted o (yielded ops a.tmps)=true:=by simp[Region.wanted,hg]
 rw[ah hw];unfold Oper.wp;simp[execOp,hop,resolve,invoke,builtin,hm,hx,hrun,Result.andThen];exact hK
theorem C2(s:zA)(b:Bool)(W:zW):(Instr.field 255 (.agg #[.string s,.bool b]) 1).run prog W=.ok (.bool b) W:=by kernel_rfl
theorem aF.dropped{L0:List (zV×zV)}{old:zA}{k:Int}{p v:zA}(h:aF w sb mb rev L)(hL:L.Perm ((plc k p v,txt old)::L0))(hk:(Lit.int .i64 k).wf=true)(hp:p.size≤maxLen)(hv:v.size≤maxLen):
  ∃w',(∀ty,(Builtin.delete_ #[189,188] ty #[.map (some mb),plc k p v]).run prog w=.ok (.tuple #[]) w')∧aF w' sb mb rev L0∧aj (fun x=>x=mb) w w':=by
 obtain⟨kl,hkey⟩:=sL k p v hk hp hv;obtain⟨w1,hrun,ht,hm⟩:=h.map.CY gP underlying189 hkey hL 0;have hall:∀ty,(Builtin.delete_ #[189,188] ty #[.map (some mb),plc k p v]).run prog w=.ok (.tuple #[]) w1:=fun ty=>hrun
 have tb:=iy ht;have e1:=tb.block sb h.f0.lt h.ne;exact⟨w1,hall,⟨h.f0.of_block e1,h.f1.of_block e1,hm,(h.good.perm hL).tail,h.ne⟩,tb⟩
theorem Ke(k:Int)(p v:zA)(d:Nat)(L':List (zV×zV))(w:zW)(h:aF w sb mb rev L)(hk:(Lit.int .i64 k).wf=true)(hp:p.size≤281474976710656)(hv:v.size≤281474976710656)(hr:rev<4611686018427387904)
  (hS:mq L (plc k p v) d L'):
  zC 146 #[zP sb,plc k p v] w fun e w'=>e=.returned (.tuple #[])∧aF w' sb mb (rev+d) L'∧aj (fun b=>b=sb∨b=mb) w w':=by
 obtain⟨kl,hkey⟩:=sL k p v hk (by unfold maxLen;omega) (by unfold maxLen;omega);have HB1:Hid (zB w (w.alloc (.cells #[.int .i64 k,.string p,.string v] 188)).drew):=((ae _ _).alloc (ag _) _).drew;have HX1:Hid (fI (w.alloc (.cells #[.int .i64 k,.string p,.string v] 188)).drew w.heap.size k p v):=(fI.new w k p v).of_block rfl;have HS1:Hid (aF (w.alloc (.cells #[.int .i64 k,.string p,.string v] 188)).drew sb mb rev L):=h.below HB1.out;have hsl:sb<w.heap.size∧mb<w.heap.size:=⟨h.f0.lt,h.map.lt⟩;clear h;cases hS with
 |none hn=>
  have hfl:=C2 ⟨#[]⟩ false;have lk:=HS1.out.map.look_none false gP underlying189 (nE _) hkey hn;go_enter func146,ntmps146;go_upto_region 1 with fail;have c0:(w.alloc (.cells #[.int .i64 k,.string p,.string v] 188)).cell? ⟨sb,0,none⟩=some (.map (some mb)):=HS1.out.f0.1
  go_region
  all_goals
   go_wp2;exact im (v:=.tuple #[]) (by simp[results,results146,go_sem]) rfl ⟨rfl,HS1.out,aj.of_below HB1.out⟩
 |there old L0 hL=>
  have hfl:=C2 old true;have lk:=HS1.out.map.look_some false gP underlying189 (nE _) hkey (hL.mem_iff.2 (bz ..));go_enter func146,ntmps146;go_upto_region 1 with fail;have c0:(w.alloc (.cells #[.int .i64 k,.string p,.string v] 188)).cell? ⟨sb,0,none⟩=some (.map (some mb)):=HS1.out.f0.1
  go_region
  all_goals
   clear lk c0;generalize (w.alloc (.cells #[.int .i64 k,.string p,.string v] 188)).drew=W1 at*;obtain⟨⟨x0,_⟩,⟨x1,_⟩,⟨x2,_⟩⟩:=HX1.out;have c0:=HS1.out.f0.1;obtain⟨w7,hrun,h7,ht7⟩:=aF.dropped (w:=W1.drew) (HS1.out.of_block rfl rfl) hL hk (by unfold maxLen;omega) (by unfold maxLen;omega);have HS7:Hid (aF w7 sb mb rev L'):=h7;have HT7:Hid (aj (fun b=>b=sb∨b=mb) w w7):=(aj.of_below (p:=fun b=>b=sb∨b=mb) HB1.out.drew).trans ht7 (fun _ _ e=>e) (fun _ _ e=>Or.inr e);clear h7 ht7;go_upto_region 2 with fail
   go_region_law (refine px rfl (.tmp 14) (.tmp 15) 189 188 rfl mb (plc k p v) rfl rfl w7 hrun ?_)
   all_goals
    clear hrun x0 x1 x2 c0;have g1:=HS7.out.f1.1;have g2:=HS7.out.f1.2;have e2:IntKind.i64.wrap ((rev:Int)+1)=(rev:Int)+1:=by simp[IntKind.wrap,IntKind.bits,IntKind.signed];omega
    have HS8:Hid (aF (w7.setCell ⟨sb,1,none⟩ (.int .i64 ((rev:Int)+1))) sb mb (rev+1) L'):=HS7.out.bump;have HT8:Hid (aj (fun b=>b=sb∨b=mb) w (w7.setCell ⟨sb,1,none⟩ (.int .i64 ((rev:Int)+1)))):=HT7.out.set (a:=⟨sb,1,none⟩) (fun _=>Or.inl rfl) _;clear HS7 HT7;go_wp2;exact im (v:=.tuple #[]) (by simp[results,results146,go_sem]) rfl ⟨rfl,HS8.out,HT8.out⟩
end Ed
namespace Ed
variable{w w':zW}{sb mb pb rev:Nat}{ms ix:List Tt}{root:zA}
theorem aF.perm{L L':List (zV×zV)}(h:aF w sb mb rev L)(e:L.Perm L'):aF w sb mb rev L':=⟨h.f0,h.f1,h.map.perm e,h.good.perm e,h.ne⟩
theorem QJ(t:Tt)(w:zW)(h:aF w sb mb rev (fN ms ix root))(hl:ms.length+ix.length≤90000)(hp:t.path.size≤281474976710656)(hv:t.ver.size≤281474976710656)(hs:t.s.size≤281474976710656)(hr:rev<4611686018427387904):
  zC 110 #[zP sb,plc 0 t.path t.ver,.string t.s,.int .i64 60] w fun e w'=>e=.returned (.int .i64 (cC ms t 60).2.1)∧aF w' sb mb (rev+(cC ms t 60).2.2) (fN (cC ms t 60).1 ix root)∧aj (fun b=>b=sb∨b=mb) w w':=by
 obtain⟨L',hS,hP⟩:=zT (k:=0) (A:=[]) (C:=ix.map (ent 1)++dD root) (Ga 0) ((iV (by decide) ix).append (lf (by decide) root)) ms t 60;refine(Br 0 t.path t.ver t.s 60 _ _ L' w h (by have:=xJ ms ix root;omega) (by decide) hp hv hs hr hS).mono ?_;rintro e w' ⟨h1,h2,h3⟩;exact⟨h1,h2.perm hP,h3⟩
theorem QK(t:Tt)(w:zW)(h:aF w sb mb rev (fN ms ix root))(hl:ms.length+ix.length≤90000)(hp:t.path.size≤281474976710656)(hv:t.ver.size≤281474976710656)(hs:t.s.size≤281474976710656)(hr:rev<4611686018427387904):
  zC 110 #[zP sb,plc 1 t.path t.ver,.string t.s,.int .i64 30] w fun e w'=>e=.returned (.int .i64 (cC ix t 30).2.1)∧aF w' sb mb (rev+(cC ix t 30).2.2) (fN ms (cC ix t 30).1 root)∧aj (fun b=>b=sb∨b=mb) w w':=by
 obtain⟨L',hS,hP⟩:=zT (k:=1) (A:=ms.map (ent 0)) (C:=dD root) (iV (by decide) ms) (lf (by decide) root) ix t 30;refine(Br 1 t.path t.ver t.s 30 _ _ L' w h (by have:=xJ ms ix root;omega) (by decide) hp hv hs hr hS).mono ?_;rintro e w' ⟨h1,h2,h3⟩;exact⟨h1,h2.perm hP,h3⟩
theorem nG(ms ix:List Tt)(root:zA):fN ms ix root=(ms.map (ent 0)++ix.map (ent 1))++dD root:=(eP _ _ _).symm
theorem QL(p:zA)(w:zW)(h:aF w sb mb rev (fN ms ix root))(hl:ms.length+ix.length≤90000)(hp:p.size≤281474976710656)(h0:p.size≠0)(hr:rev<4611686018427387904):
  zC 110 #[zP sb,plc 2 ⟨#[]⟩ ⟨#[]⟩,.string p,.int .i64 1] w fun e w'=>e=.returned (.int .i64 0)∧aF w' sb mb (rev+(if (p.toList==root.toList)=true then (root,0) else (p,1)).2) (fN ms ix (if (p.toList==root.toList)=true then (root,0) else (p,1)).1)∧aj (fun b=>b=sb∨b=mb) w w':=by
 have hlen:=xJ ms ix root;rw[nG] at h hlen;rw[nG];obtain⟨L',hS,hP⟩:=Kd ((iV (k:=2) (q:=0) (by decide) ms).append (iV (q:=1) (by decide) ix)) root p h0;refine(Br 2 ⟨#[]⟩ ⟨#[]⟩ p 1 _ _ L' w h (by omega) (by decide) (by decide) (by decide) hp hr hS).mono ?_;rintro e w' ⟨h1,h2,h3⟩;exact⟨h1,h2.perm hP,h3⟩
theorem PG(p:zA)(w:zW)(h:aF w sb mb rev (fN ms ix root))(h0:p.size=0)(hr:rev<4611686018427387904):
  zC 146 #[zP sb,plc 2 ⟨#[]⟩ ⟨#[]⟩] w fun e w'=>e=.returned (.tuple #[])∧aF w' sb mb (rev+(if (p.toList==root.toList)=true then (root,0) else (p,1)).2) (fN ms ix (if (p.toList==root.toList)=true then (root,0) else (p,1)).1)∧aj (fun b=>b=sb∨b=mb) w w':=by
 rw[nG] at h;rw[nG];obtain⟨L',hS,hP⟩:=Hm ((iV (k:=2) (q:=0) (by decide) ms).append (iV (q:=1) (by decide) ix)) root p h0;refine(Ke 2 ⟨#[]⟩ ⟨#[]⟩ _ L' w h (by decide) (by decide) (by decide) hr hS).mono ?_;rintro e w' ⟨h1,h2,h3⟩;exact⟨h1,h2.perm hP,h3⟩
theorem Bt(p v s:zA)(w:zW)(h:aF w sb mb rev (fN ms ix root))(hm:Ml w)(hl:ms.length+ix.length≤90000)(hp:p.size<4294967281)(hv:v.size≤281474976710656)(hs:s.size≤281474976710656)(hr:rev<4611686018427387904):
  zC 62 #[zP sb,.string p,.string v,.string s] w fun e w'=>e=.returned (.int .i64 (mo ms ⟨p,v,s⟩ 60 (dC p v)).2.1)∧aF w' sb mb (rev+(mo ms ⟨p,v,s⟩ 60 (dC p v)).2.2) (fN (mo ms ⟨p,v,s⟩ 60 (dC p v)).1 ix root)∧aj (fun b=>b=sb∨b=mb) w w':=by
 have kn:=vX p v w hm hp;have kp:∀W,zB w W→_:=fun W hb=>QJ ⟨p,v,s⟩ W (h.below hb) hl (by show p.size≤_;omega) hv hs hr
 have HS:Hid (aF w sb mb rev (fN ms ix root)):=h;clear h hm;generalize dC p v=er at*;have HPP:Hid (mo ms ⟨p,v,s⟩ 60 er=if er=0 then cC ms ⟨p,v,s⟩ 60 else (ms,er,0)):=rfl;generalize mo ms ⟨p,v,s⟩ 60 er=PP at*;generalize cC ms ⟨p,v,s⟩ 60=LL at*;go_enter func62,ntmps62
 go_wp2_with (go_at_call 109;fail)
 go_at_call 109;refine kn.mono ?_;rintro e w1 ⟨rfl,hb1⟩;clear kn;have kp:=kp w1 hb1;by_cases h0:er=0
 ·subst h0
  have HP:Hid (PP=LL):=by show PP=LL;rw[HPP.out];exact ah rfl
  clear HPP
  go_wp2_with (go_at_call 110;fail)
  go_at_call 110;refine kp.mono ?_;rintro e w2 ⟨rfl,h2,ht⟩;have HS2:Hid (aF w2 sb mb (rev+LL.2.2) (fN LL.1 ix root)):=h2;have HT2:Hid (aj (fun b=>b=sb∨b=mb) w w2):=(aj.of_below hb1).trans ht (fun _ _ e=>e) (fun _ _ e=>e);clear kp h2 ht hb1;go_wp2;go_ret;rw[HP.out];exact⟨rfl,HS2.out,HT2.out⟩
 ·have HP:Hid (PP=(ms,er,0)):=by show PP=_;rw[HPP.out];exact af h0
  have hq:(er==0)=false:=by rw[eH];exact h0
  have HS2:Hid (aF w1 sb mb rev (fN ms ix root)):=HS.out.below hb1;clear HPP kp;go_wp2;go_ret;rw[HP.out];exact⟨rfl,HS2.out,aj.of_below hb1⟩
theorem EP{p:zA}(h:Pv.aH p.data.toList=false):dC p ⟨#[]⟩=2:=ah h
theorem py{p:zA}(h:Pv.aH p.data.toList=true):dC p ⟨#[]⟩=0:=by
 unfold dC;rw[af (by rw[h];decide),af (fun h=>h.1 rfl)]
theorem Hn(p s:zA)(w:zW)(h:aF w sb mb rev (fN ms ix root))(hm:Ml w)(hl:ms.length+ix.length≤90000)(hp:p.size<4294967281)(hs:s.size≤281474976710656)(hr:rev<4611686018427387904):
  zC 101 #[zP sb,.string p,.string s] w fun e w'=>e=.returned (.int .i64 (mo ix ⟨p,⟨#[]⟩,s⟩ 30 (dC p ⟨#[]⟩)).2.1)∧aF w' sb mb (rev+(mo ix ⟨p,⟨#[]⟩,s⟩ 30 (dC p ⟨#[]⟩)).2.2) (fN ms (mo ix ⟨p,⟨#[]⟩,s⟩ 30 (dC p ⟨#[]⟩)).1 root)∧aj (fun b=>b=sb∨b=mb) w w':=by
 have kn:=kX p w hm hp;have kp:∀W,zB w W→_:=fun W hb=>QK ⟨p,⟨#[]⟩,s⟩ W (h.below hb) hl (by show p.size≤_;omega) (by show(0:Nat)≤_;omega) hs hr
 have HS:Hid (aF w sb mb rev (fN ms ix root)):=h;clear h hm;have HN0:Hid (Pv.aH p.data.toList=false→mo ix ⟨p,⟨#[]⟩,s⟩ 30 (dC p ⟨#[]⟩)=(ix,2,0)):=fun h=>by rw[EP h];rfl
 have HN1:Hid (Pv.aH p.data.toList=true→mo ix ⟨p,⟨#[]⟩,s⟩ 30 (dC p ⟨#[]⟩)=cC ix ⟨p,⟨#[]⟩,s⟩ 30):=fun h=>by rw[py h];rfl
 generalize mo ix ⟨p,⟨#[]⟩,s⟩ 30 (dC p ⟨#[]⟩)=PP at*;generalize cC ix ⟨p,⟨#[]⟩,s⟩ 30=LL at*;generalize Pv.aH p.data.toList=a at*;go_enter func101,ntmps101
 go_wp2_with (go_at_call 147;fail)
 go_at_call 147;refine kn.mono ?_;rintro e w1 ⟨rfl,hb1⟩;clear kn;have kp:=kp w1 hb1;cases a
 ·have HP:Hid (PP=(ix,2,0)):=HN0.out rfl
  have HS2:Hid (aF w1 sb mb rev (fN ms ix root)):=HS.out.below hb1;clear HN0 HN1 kp;go_wp2;go_ret;rw[HP.out];exact⟨rfl,HS2.out,aj.of_below hb1⟩
 ·have HP:Hid (PP=LL):=HN1.out rfl
  clear HN0 HN1
  go_wp2_with (go_at_call 110;fail)
  go_at_call 110;refine kp.mono ?_;rintro e w2 ⟨rfl,h2,ht⟩;have HS2:Hid (aF w2 sb mb (rev+LL.2.2) (fN ms LL.1 root)):=h2;have HT2:Hid (aj (fun b=>b=sb∨b=mb) w w2):=(aj.of_below hb1).trans ht (fun _ _ e=>e) (fun _ _ e=>e);clear kp h2 ht hb1;go_wp2;go_ret;rw[HP.out];exact⟨rfl,HS2.out,HT2.out⟩
theorem qE{p:zA}(h:p.size=0):iu p=0:=af (fun k=>k.1 h)
theorem ER{p:zA}(h0:p.size≠0)(h:Pv.aH p.data.toList=false):iu p=2:=ah ⟨h0,h⟩
theorem vd{p:zA}(h:Pv.aH p.data.toList=true):iu p=0:=af (fun k=>by rw[h] at k;exact absurd k.2 (by decide))
theorem Kf(p:zA)(w:zW)(h:aF w sb mb rev (fN ms ix root))(hm:Ml w)(hl:ms.length+ix.length≤90000)(hp:p.size<4294967281)(hr:rev<4611686018427387904):
  zC 100 #[zP sb,.string p] w fun e w'=>e=.returned (.int .i64 (iu p))∧aF w' sb mb (rev+(rootOf root p).2) (fN ms ix (rootOf root p).1)∧aj (fun b=>b=sb∨b=mb) w w':=by
 have kn:=kX p w hm hp;have HS:Hid (aF w sb mb rev (fN ms ix root)):=h;have he:=rD p;have HRR:Hid (rootOf root p=if iu p=0 then (if (p.toList==root.toList)=true then (root,0) else (p,1)) else (root,0)):=rfl;have kd:p.size=0→_:=fun h0=>PG (ms:=ms) (ix:=ix) (root:=root) p w h h0 hr
 have kp:p.size≠0→∀W,zB w W→_:=fun h0 W hb=>QL (ms:=ms) (ix:=ix) (root:=root) p W (h.below hb) hl (by omega) h0 hr
 clear h hm;have E0:Hid (p.size=0→0=iu p):=fun h=>(qE h).symm
 have E1:Hid (p.size≠0→Pv.aH p.data.toList=false→2=iu p):=fun h0 h=>(ER h0 h).symm
 have E2:Hid (Pv.aH p.data.toList=true→0=iu p):=fun h=>(vd h).symm
 generalize rootOf root p=RR at*;generalize (if (p.toList==root.toList)=true then (root,0) else (p,1))=LL at*;generalize iu p=er at*;generalize Pv.aH p.data.toList=a at*;go_enter func100,ntmps100;by_cases h0:p.size=0
 ·have HE:Hid (0=er):=E0.out h0
  have HP:Hid (RR=LL):=by show RR=LL;rw[HRR.out,←HE.out];exact ah rfl
  have kd:=kd h0;rw[cT h0] at he;clear HRR kp kn E0 E1 E2
  go_wp2_with (go_at_call 146;fail)
  go_at_call 146;refine kd.mono ?_;rintro e w2 ⟨rfl,h2,ht⟩;have HS2:Hid (aF w2 sb mb (rev+LL.2) (fN ms ix LL.1)):=h2;have HT2:Hid (aj (fun b=>b=sb∨b=mb) w w2):=ht;clear kd h2 ht;go_wp2;go_ret;rw[HP.out];exact⟨gh HE.out,HS2.out,HT2.out⟩
 ·have kp:=kp h0
  rw[bK h0] at he
  go_wp2_with (go_at_call 147;fail)
  go_at_call 147;refine kn.mono ?_;rintro e w1 ⟨rfl,hb1⟩;clear kn kd;have kp:=kp w1 hb1;cases a
  ·have HE:Hid (2=er):=E1.out h0 rfl
   have HP:Hid (RR=(root,0)):=by show RR=_;rw[HRR.out,←HE.out];exact af (by decide)
   have HS2:Hid (aF w1 sb mb rev (fN ms ix root)):=HS.out.below hb1;clear HRR E0 E1 E2 kp;go_wp2;go_ret;rw[HP.out];exact⟨gh HE.out,HS2.out,aj.of_below hb1⟩
  ·have HE:Hid (0=er):=E2.out rfl
   have HP:Hid (RR=LL):=by show RR=LL;rw[HRR.out,←HE.out];exact ah rfl
   clear HRR E0 E1 E2
   go_wp2_with (go_at_call 110;fail)
   go_at_call 110;refine kp.mono ?_;rintro e w2 ⟨rfl,h2,ht⟩;have HS2:Hid (aF w2 sb mb (rev+LL.2) (fN ms ix LL.1)):=h2;have HT2:Hid (aj (fun b=>b=sb∨b=mb) w w2):=(aj.of_below hb1).trans ht (fun _ _ e=>e) (fun _ _ e=>e);clear kp h2 ht hb1;go_wp2;go_ret;rw[HP.out];exact⟨gh HE.out,HS2.out,HT2.out⟩
end Ed
namespace Ed
variable{w w':zW}{sb mb pb rev:Nat}{ms ix:List Tt}{root:zA}
theorem Bu{R:zW→Prop}{r:Int}(p v s:zA)(w:zW)(hc:w.cell? ⟨pb,0,none⟩=some (zP sb))
  (k:zC 62 #[zP sb,.string p,.string v,.string s] w fun e w'=>e=.returned (.int .i64 r)∧R w'):
  zC 32 #[zP pb,.string p,.string v,.string s] w fun e w'=>e=.returned (.int .i64 r)∧R w':=by
 go_enter func32,ntmps32
 go_wp2_with (go_at_call 62;fail)
 go_at_call 62;refine k.mono ?_;rintro e w1 ⟨rfl,h⟩;have H:Hid (R w1):=h;clear h k hc;go_wp2;go_ret;exact⟨rfl,H.out⟩
theorem Ho{R:zW→Prop}{r:Int}(p s:zA)(w:zW)(hc:w.cell? ⟨pb,0,none⟩=some (zP sb))
  (k:zC 101 #[zP sb,.string p,.string s] w fun e w'=>e=.returned (.int .i64 r)∧R w'):
  zC 57 #[zP pb,.string p,.string s] w fun e w'=>e=.returned (.int .i64 r)∧R w':=by
 go_enter func57,ntmps57
 go_wp2_with (go_at_call 101;fail)
 go_at_call 101;refine k.mono ?_;rintro e w1 ⟨rfl,h⟩;have H:Hid (R w1):=h;clear h k hc;go_wp2;go_ret;exact⟨rfl,H.out⟩
theorem Kg{R:zW→Prop}{r:Int}(p:zA)(w:zW)(hc:w.cell? ⟨pb,0,none⟩=some (zP sb))
  (k:zC 100 #[zP sb,.string p] w fun e w'=>e=.returned (.int .i64 r)∧R w'):
  zC 56 #[zP pb,.string p] w fun e w'=>e=.returned (.int .i64 r)∧R w':=by
 go_enter func56,ntmps56
 go_wp2_with (go_at_call 100;fail)
 go_at_call 100;refine k.mono ?_;rintro e w1 ⟨rfl,h⟩;have H:Hid (R w1):=h;clear h k hc;go_wp2;go_ret;exact⟨rfl,H.out⟩
theorem uv{L:List (zV×zV)}(w:zW)(h:aF w sb mb rev L):
  zC 71 #[zP sb] w fun e w'=>e=.returned (.int .i64 rev)∧w'=w:=by
 have c1:=h.f1.1;clear h;go_enter func71,ntmps71;go_wp2;go_ret;exact⟨rfl,rfl⟩
theorem Hp{L:List (zV×zV)}(w:zW)(hc:w.cell? ⟨pb,0,none⟩=some (zP sb))(h:aF w sb mb rev L):
  zC 43 #[zP pb] w fun e w'=>e=.returned (.int .i64 rev)∧w'=w:=by
 have k:=uv w h;clear h;go_enter func43,ntmps43
 go_wp2_with (go_at_call 71;fail)
 go_at_call 71;refine k.mono ?_;intro e w1 h1;rw[h1.1,h1.2];clear k h1 hc;go_wp2;go_ret;exact⟨rfl,rfl⟩
theorem fO(w:zW)(cs:Array zV)(t:TypeId){j:Nat}{u:zV}(h:cs[j]?=some u):Fd (w.alloc (.cells cs t)) w.heap.size j u:=by
 have b0:(w.alloc (.cells cs t)).heap[w.heap.size]?=some (.cells cs t):=by
  show(w.heap.push _)[w.heap.size]?=_;simp
 refine⟨?_,?_⟩
 ·simp only[World.cell?,b0];exact h
 ·simp only[World.frozen?,b0];simp
theorem R7(w:zW):
  zC 63 #[] w fun e w'=>e=.returned (.pointer (some ⟨w.heap.size+1,0,none⟩))∧aF w' (w.heap.size+1) w.heap.size 0 []∧zB w w':=by
 have HM:Hid (Mp.MapAt prog 188 (w.alloc (.map #[] 0)) w.heap.size []):=Mp.made w prog 188;have hmm:=@run_makeMap prog;go_enter func63,ntmps63;go_wp2;go_ret;have hs:(w.alloc (.map #[] 0)).heap.size=w.heap.size+1:=by simp
 have hf:=fun j u=>fO (w.alloc (.map #[] 0)) #[.map (some w.heap.size),.int .i64 0] 191 (j:=j) (u:=u)
 rw[hs] at hf;refine⟨rfl,⟨hf 0 _ rfl,hf 1 _ rfl,HM.out.of_block (aG _ _ _ (by simp)),fun x hx=>(by cases hx),by omega⟩,?_⟩;exact((ae w.heap.size w).alloc (ag _) _).alloc (by simp) _
