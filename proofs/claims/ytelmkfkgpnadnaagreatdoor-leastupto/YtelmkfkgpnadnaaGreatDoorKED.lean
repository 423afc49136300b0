import Derived.Test.YtelmkfkgpnadnaaGreatDoorKEB
set_option linter.unusedSimpArgs false
open Go.Proofs.Tryz
set_option maxRecDepth 100000
set_option maxHeartbeats 4000000
namespace Go.Proofs.YtelmkfkgpnadnaaGreatDoor
open Go.RowKit
namespace Ed
variable{w w':World}{sb mb rev:Nat}{L:List (Value×Value)}
theorem nU{P:Program}{ops:Array Oper}{o:Oper}{a:Act}{w:World}{K:Act→World→Prop}{Q:Exit→Act→World→Prop}{E:Prop}
  (hg:o.guard=none) (m x:Operand) (t k:TypeId) (hop:o.op=Op.call {callee:=Callee.builtin Builtin.delete,args:=#[m,x],argTypes:=#[t,k]})
  (mb:Nat) (key:Value) (hm:a.eval m=.map (some mb)) (hx:a.eval x=key) (w':World) (hrun:∀ty,(Builtin.delete_ #[t,k] ty #[.map (some mb),key]).run P w=.ok (.tuple #[]) w')
  (hK:K (a.put o.dst (.tuple #[])) w'):if Region.wanted o (yielded ops a.tmps)=true then Oper.wp P o a w K Q else E:=by
 have hw:Region.wanted o (yielded ops a.tmps)=true:=by simp[Region.wanted,hg]
 rw[ai hw];unfold Oper.wp;simp[execOp,hop,resolve,invoke,builtin,hm,hx,hrun,Result.andThen];exact hK
theorem A6(s:ByteArray)(b:Bool)(W:World):(Instr.field 255 (.agg #[.string s,.bool b]) 1).run prog W=.ok (.bool b) W:=by kernel_rfl
theorem aF.dropped{L0:List (Value×Value)}{old:ByteArray}{k:Int}{p v:ByteArray}(h:aF w sb mb rev L)(hL:L.Perm ((plc k p v,txt old)::L0))(hk:(Lit.int .i64 k).wf=true)(hp:p.size≤maxLen)(hv:v.size≤maxLen):
  ∃w',(∀ty,(Builtin.delete_ #[189,188] ty #[.map (some mb),plc k p v]).run prog w=.ok (.tuple #[]) w')∧aF w' sb mb rev L0∧aj (fun x=>x=mb) w w':=by
 obtain⟨kl,hkey⟩:=rz k p v hk hp hv;obtain⟨w1,hrun,ht,hm⟩:=h.map.AX gh underlying189 hkey hL 0;have hall:∀ty,(Builtin.delete_ #[189,188] ty #[.map (some mb),plc k p v]).run prog w=.ok (.tuple #[]) w1:=fun ty=>hrun
 have tb:=gU ht;have e1:=tb.block sb h.f0.lt h.ne;exact⟨w1,hall,⟨h.f0.of_block e1,h.f1.of_block e1,hm,(h.good.perm hL).tail,h.ne⟩,tb⟩
theorem Ih(k:Int)(p v:ByteArray)(d:Nat)(L':List (Value×Value))(w:World)(h:aF w sb mb rev L)(hk:(Lit.int .i64 k).wf=true)(hp:p.size≤281474976710656)(hv:v.size≤281474976710656)(hr:rev<4611686018427387904)
  (hS:kW L (plc k p v) d L'):
  Calls prog 146 #[.pointer (some ⟨sb,0,none⟩),plc k p v] w fun e w'=>e=.returned (.tuple #[])∧aF w' sb mb (rev+d) L'∧aj (fun b=>b=sb∨b=mb) w w':=by
 obtain⟨kl,hkey⟩:=rz k p v hk (by unfold maxLen;omega) (by unfold maxLen;omega);have HB1:Hid (Below w.heap.size w (w.alloc (.cells #[.int .i64 k,.string p,.string v] 188)).drew):=((ae _ _).alloc (ag _) _).drew;have HX1:Hid (e9 (w.alloc (.cells #[.int .i64 k,.string p,.string v] 188)).drew w.heap.size k p v):=(e9.new w k p v).of_block rfl;have HS1:Hid (aF (w.alloc (.cells #[.int .i64 k,.string p,.string v] 188)).drew sb mb rev L):=h.below HB1.out;have hsl:sb<w.heap.size∧mb<w.heap.size:=⟨h.f0.lt,h.map.lt⟩;clear h;cases hS with
 |none hn=>
  have hfl:=A6 ⟨#[]⟩ false;have lk:=HS1.out.map.oO false gh underlying189 (lW _) hkey hn;go_enter func146,ntmps146;go_upto_region 1 with fail;have c0:(w.alloc (.cells #[.int .i64 k,.string p,.string v] 188)).cell? ⟨sb,0,none⟩=some (.map (some mb)):=HS1.out.f0.1
  go_region
  all_goals
   go_wp2;exact gO (v:=.tuple #[]) (by simp[results,results146,go_sem]) rfl ⟨rfl,HS1.out,aj.of_below HB1.out⟩
 |there old L0 hL=>
  have hfl:=A6 old true;have lk:=HS1.out.map.oP false gh underlying189 (lW _) hkey (hL.mem_iff.2 (bQ ..));go_enter func146,ntmps146;go_upto_region 1 with fail;have c0:(w.alloc (.cells #[.int .i64 k,.string p,.string v] 188)).cell? ⟨sb,0,none⟩=some (.map (some mb)):=HS1.out.f0.1
  go_region
  all_goals
   clear lk c0;generalize (w.alloc (.cells #[.int .i64 k,.string p,.string v] 188)).drew=W1 at*;obtain⟨⟨x0,_⟩,⟨x1,_⟩,⟨x2,_⟩⟩:=HX1.out;have c0:=HS1.out.f0.1;obtain⟨w7,hrun,h7,ht7⟩:=aF.dropped (w:=W1.drew) (HS1.out.of_block rfl rfl) hL hk (by unfold maxLen;omega) (by unfold maxLen;omega);have HS7:Hid (aF w7 sb mb rev L'):=h7;have HT7:Hid (aj (fun b=>b=sb∨b=mb) w w7):=(aj.of_below (p:=fun b=>b=sb∨b=mb) HB1.out.drew).trans ht7 (fun _ _ e=>e) (fun _ _ e=>Or.inr e);clear h7 ht7;go_upto_region 2 with fail
   go_region_law (refine nU rfl (.tmp 14) (.tmp 15) 189 188 rfl mb (plc k p v) rfl rfl w7 hrun ?_)
   all_goals
    clear hrun x0 x1 x2 c0;have g1:=HS7.out.f1.1;have g2:=HS7.out.f1.2;have e2:IntKind.i64.wrap ((rev:Int)+1)=(rev:Int)+1:=by simp[IntKind.wrap,IntKind.bits,IntKind.signed];omega
    have HS8:Hid (aF (w7.setCell ⟨sb,1,none⟩ (.int .i64 ((rev:Int)+1))) sb mb (rev+1) L'):=HS7.out.bump;have HT8:Hid (aj (fun b=>b=sb∨b=mb) w (w7.setCell ⟨sb,1,none⟩ (.int .i64 ((rev:Int)+1)))):=HT7.out.set (a:=⟨sb,1,none⟩) (fun _=>Or.inl rfl) _;clear HS7 HT7;go_wp2;exact gO (v:=.tuple #[]) (by simp[results,results146,go_sem]) rfl ⟨rfl,HS8.out,HT8.out⟩
end Ed
namespace Ed
variable{w w':World}{sb mb pb rev:Nat}{ms ix:List Tt}{root:ByteArray}
theorem aF.perm{L L':List (Value×Value)}(h:aF w sb mb rev L)(e:L.Perm L'):aF w sb mb rev L':=⟨h.f0,h.f1,h.map.perm e,h.good.perm e,h.ne⟩
theorem Pg(t:Tt)(w:World)(h:aF w sb mb rev (fe ms ix root))(hl:ms.length+ix.length≤90000)(hp:t.path.size≤281474976710656)(hv:t.ver.size≤281474976710656)(hs:t.s.size≤281474976710656)(hr:rev<4611686018427387904):
  Calls prog 110 #[.pointer (some ⟨sb,0,none⟩),plc 0 t.path t.ver,.string t.s,.int .i64 60] w fun e w'=>e=.returned (.int .i64 (cq ms t 60).2.1)∧aF w' sb mb (rev+(cq ms t 60).2.2) (fe (cq ms t 60).1 ix root)∧aj (fun b=>b=sb∨b=mb) w w':=by
 obtain⟨L',hS,hP⟩:=ym (k:=0) (A:=[]) (C:=ix.map (ent 1)++dv root) (Ew 0) ((iD (by decide) ix).append (jS (by decide) root)) ms t 60;refine(zw 0 t.path t.ver t.s 60 _ _ L' w h (by have:=vO ms ix root;omega) (by decide) hp hv hs hr hS).mono ?_;rintro e w' ⟨h1,h2,h3⟩;exact⟨h1,h2.perm hP,h3⟩
theorem Ph(t:Tt)(w:World)(h:aF w sb mb rev (fe ms ix root))(hl:ms.length+ix.length≤90000)(hp:t.path.size≤281474976710656)(hv:t.ver.size≤281474976710656)(hs:t.s.size≤281474976710656)(hr:rev<4611686018427387904):
  Calls prog 110 #[.pointer (some ⟨sb,0,none⟩),plc 1 t.path t.ver,.string t.s,.int .i64 30] w fun e w'=>e=.returned (.int .i64 (cq ix t 30).2.1)∧aF w' sb mb (rev+(cq ix t 30).2.2) (fe ms (cq ix t 30).1 root)∧aj (fun b=>b=sb∨b=mb) w w':=by
 obtain⟨L',hS,hP⟩:=ym (k:=1) (A:=ms.map (ent 0)) (C:=dv root) (iD (by decide) ms) (jS (by decide) root) ix t 30;refine(zw 1 t.path t.ver t.s 30 _ _ L' w h (by have:=vO ms ix root;omega) (by decide) hp hv hs hr hS).mono ?_;rintro e w' ⟨h1,h2,h3⟩;exact⟨h1,h2.perm hP,h3⟩
theorem lY(ms ix:List Tt)(root:ByteArray):fe ms ix root=(ms.map (ent 0)++ix.map (ent 1))++dv root:=(eD _ _ _).symm
theorem Pj(p:ByteArray)(w:World)(h:aF w sb mb rev (fe ms ix root))(hl:ms.length+ix.length≤90000)(hp:p.size≤281474976710656)(h0:p.size≠0)(hr:rev<4611686018427387904):
  Calls prog 110 #[.pointer (some ⟨sb,0,none⟩),plc 2 ⟨#[]⟩ ⟨#[]⟩,.string p,.int .i64 1] w fun e w'=>e=.returned (.int .i64 0)∧aF w' sb mb (rev+(if (p.toList==root.toList)=true then (root,0) else (p,1)).2) (fe ms ix (if (p.toList==root.toList)=true then (root,0) else (p,1)).1)∧aj (fun b=>b=sb∨b=mb) w w':=by
 have hlen:=vO ms ix root;rw[lY] at h hlen;rw[lY];obtain⟨L',hS,hP⟩:=Ig ((iD (k:=2) (q:=0) (by decide) ms).append (iD (q:=1) (by decide) ix)) root p h0;refine(zw 2 ⟨#[]⟩ ⟨#[]⟩ p 1 _ _ L' w h (by omega) (by decide) (by decide) (by decide) hp hr hS).mono ?_;rintro e w' ⟨h1,h2,h3⟩;exact⟨h1,h2.perm hP,h3⟩
theorem NN(p:ByteArray)(w:World)(h:aF w sb mb rev (fe ms ix root))(h0:p.size=0)(hr:rev<4611686018427387904):
  Calls prog 146 #[.pointer (some ⟨sb,0,none⟩),plc 2 ⟨#[]⟩ ⟨#[]⟩] w fun e w'=>e=.returned (.tuple #[])∧aF w' sb mb (rev+(if (p.toList==root.toList)=true then (root,0) else (p,1)).2) (fe ms ix (if (p.toList==root.toList)=true then (root,0) else (p,1)).1)∧aj (fun b=>b=sb∨b=mb) w w':=by
 rw[lY] at h;rw[lY];obtain⟨L',hS,hP⟩:=FJ ((iD (k:=2) (q:=0) (by decide) ms).append (iD (q:=1) (by decide) ix)) root p h0;refine(Ih 2 ⟨#[]⟩ ⟨#[]⟩ _ L' w h (by decide) (by decide) (by decide) hr hS).mono ?_;rintro e w' ⟨h1,h2,h3⟩;exact⟨h1,h2.perm hP,h3⟩
theorem zx(p v s:ByteArray)(w:World)(h:aF w sb mb rev (fe ms ix root))(hm:Ml w)(hl:ms.length+ix.length≤90000)(hp:p.size<4294967281)(hv:v.size≤281474976710656)(hs:s.size≤281474976710656)(hr:rev<4611686018427387904):
  Calls prog 62 #[.pointer (some ⟨sb,0,none⟩),.string p,.string v,.string s] w fun e w'=>e=.returned (.int .i64 (kV ms ⟨p,v,s⟩ 60 (dt p v)).2.1)∧aF w' sb mb (rev+(kV ms ⟨p,v,s⟩ 60 (dt p v)).2.2) (fe (kV ms ⟨p,v,s⟩ 60 (dt p v)).1 ix root)∧aj (fun b=>b=sb∨b=mb) w w':=by
 have kn:=uF p v w hm hp;have kp:∀W,Below w.heap.size w W→_:=fun W hb=>Pg ⟨p,v,s⟩ W (h.below hb) hl (by show p.size≤_;omega) hv hs hr
 have HS:Hid (aF w sb mb rev (fe ms ix root)):=h;clear h hm;generalize dt p v=er at*;have HPP:Hid (kV ms ⟨p,v,s⟩ 60 er=if er=0 then cq ms ⟨p,v,s⟩ 60 else (ms,er,0)):=rfl;generalize kV ms ⟨p,v,s⟩ 60 er=PP at*;generalize cq ms ⟨p,v,s⟩ 60=LL at*;go_enter func62,ntmps62
 go_wp2_with (go_at_call 109;fail)
 go_at_call 109;refine kn.mono ?_;rintro e w1 ⟨rfl,hb1⟩;clear kn;have kp:=kp w1 hb1;by_cases h0:er=0
 ·subst h0
  have HP:Hid (PP=LL):=by show PP=LL;rw[HPP.out];exact ai rfl
  clear HPP
  go_wp2_with (go_at_call 110;fail)
  go_at_call 110;refine kp.mono ?_;rintro e w2 ⟨rfl,h2,ht⟩;have HS2:Hid (aF w2 sb mb (rev+LL.2.2) (fe LL.1 ix root)):=h2;have HT2:Hid (aj (fun b=>b=sb∨b=mb) w w2):=(aj.of_below hb1).trans ht (fun _ _ e=>e) (fun _ _ e=>e);clear kp h2 ht hb1;go_wp2;go_ret;rw[HP.out];exact⟨rfl,HS2.out,HT2.out⟩
 ·have HP:Hid (PP=(ms,er,0)):=by show PP=_;rw[HPP.out];exact af h0
  have hq:(er==0)=false:=by rw[gJ];exact h0
  have HS2:Hid (aF w1 sb mb rev (fe ms ix root)):=HS.out.below hb1;clear HPP kp;go_wp2;go_ret;rw[HP.out];exact⟨rfl,HS2.out,aj.of_below hb1⟩
theorem C8{p:ByteArray}(h:Pv.aH p.data.toList=false):dt p ⟨#[]⟩=2:=ai h
theorem nV{p:ByteArray}(h:Pv.aH p.data.toList=true):dt p ⟨#[]⟩=0:=by
 unfold dt;rw[af (by rw[h];decide),af (fun h=>h.1 rfl)]
theorem FK(p s:ByteArray)(w:World)(h:aF w sb mb rev (fe ms ix root))(hm:Ml w)(hl:ms.length+ix.length≤90000)(hp:p.size<4294967281)(hs:s.size≤281474976710656)(hr:rev<4611686018427387904):
  Calls prog 101 #[.pointer (some ⟨sb,0,none⟩),.string p,.string s] w fun e w'=>e=.returned (.int .i64 (kV ix ⟨p,⟨#[]⟩,s⟩ 30 (dt p ⟨#[]⟩)).2.1)∧aF w' sb mb (rev+(kV ix ⟨p,⟨#[]⟩,s⟩ 30 (dt p ⟨#[]⟩)).2.2) (fe ms (kV ix ⟨p,⟨#[]⟩,s⟩ 30 (dt p ⟨#[]⟩)).1 root)∧aj (fun b=>b=sb∨b=mb) w w':=by
 have kn:=jP p w hm hp;have kp:∀W,Below w.heap.size w W→_:=fun W hb=>Ph ⟨p,⟨#[]⟩,s⟩ W (h.below hb) hl (by show p.size≤_;omega) (by show(0:Nat)≤_;omega) hs hr
 have HS:Hid (aF w sb mb rev (fe ms ix root)):=h;clear h hm;have HN0:Hid (Pv.aH p.data.toList=false→kV ix ⟨p,⟨#[]⟩,s⟩ 30 (dt p ⟨#[]⟩)=(ix,2,0)):=fun h=>by rw[C8 h];rfl
 have HN1:Hid (Pv.aH p.data.toList=true→kV ix ⟨p,⟨#[]⟩,s⟩ 30 (dt p ⟨#[]⟩)=cq ix ⟨p,⟨#[]⟩,s⟩ 30):=fun h=>by rw[nV h];rfl
 generalize kV ix ⟨p,⟨#[]⟩,s⟩ 30 (dt p ⟨#[]⟩)=PP at*;generalize cq ix ⟨p,⟨#[]⟩,s⟩ 30=LL at*;generalize Pv.aH p.data.toList=a at*;go_enter func101,ntmps101
 go_wp2_with (go_at_call 147;fail)
 go_at_call 147;refine kn.mono ?_;rintro e w1 ⟨rfl,hb1⟩;clear kn;have kp:=kp w1 hb1;cases a
 ·have HP:Hid (PP=(ix,2,0)):=HN0.out rfl
  have HS2:Hid (aF w1 sb mb rev (fe ms ix root)):=HS.out.below hb1;clear HN0 HN1 kp;go_wp2;go_ret;rw[HP.out];exact⟨rfl,HS2.out,aj.of_below hb1⟩
 ·have HP:Hid (PP=LL):=HN1.out rfl
  clear HN0 HN1
  go_wp2_with (go_at_call 110;fail)
  go_at_call 110;refine kp.mono ?_;rintro e w2 ⟨rfl,h2,ht⟩;have HS2:Hid (aF w2 sb mb (rev+LL.2.2) (fe ms LL.1 root)):=h2;have HT2:Hid (aj (fun b=>b=sb∨b=mb) w w2):=(aj.of_below hb1).trans ht (fun _ _ e=>e) (fun _ _ e=>e);clear kp h2 ht hb1;go_wp2;go_ret;rw[HP.out];exact⟨rfl,HS2.out,HT2.out⟩
theorem pA{p:ByteArray}(h:p.size=0):gR p=0:=af (fun k=>k.1 h)
theorem C9{p:ByteArray}(h0:p.size≠0)(h:Pv.aH p.data.toList=false):gR p=2:=ai ⟨h0,h⟩
theorem tT{p:ByteArray}(h:Pv.aH p.data.toList=true):gR p=0:=af (fun k=>by rw[h] at k;exact absurd k.2 (by decide))
theorem Ii(p:ByteArray)(w:World)(h:aF w sb mb rev (fe ms ix root))(hm:Ml w)(hl:ms.length+ix.length≤90000)(hp:p.size<4294967281)(hr:rev<4611686018427387904):
  Calls prog 100 #[.pointer (some ⟨sb,0,none⟩),.string p] w fun e w'=>e=.returned (.int .i64 (gR p))∧aF w' sb mb (rev+(rootOf root p).2) (fe ms ix (rootOf root p).1)∧aj (fun b=>b=sb∨b=mb) w w':=by
 have kn:=jP p w hm hp;have HS:Hid (aF w sb mb rev (fe ms ix root)):=h;have he:=qg p;have HRR:Hid (rootOf root p=if gR p=0 then (if (p.toList==root.toList)=true then (root,0) else (p,1)) else (root,0)):=rfl;have kd:p.size=0→_:=fun h0=>NN (ms:=ms) (ix:=ix) (root:=root) p w h h0 hr
 have kp:p.size≠0→∀W,Below w.heap.size w W→_:=fun h0 W hb=>Pj (ms:=ms) (ix:=ix) (root:=root) p W (h.below hb) hl (by omega) h0 hr
 clear h hm;have E0:Hid (p.size=0→0=gR p):=fun h=>(pA h).symm
 have E1:Hid (p.size≠0→Pv.aH p.data.toList=false→2=gR p):=fun h0 h=>(C9 h0 h).symm
 have E2:Hid (Pv.aH p.data.toList=true→0=gR p):=fun h=>(tT h).symm
 generalize rootOf root p=RR at*;generalize (if (p.toList==root.toList)=true then (root,0) else (p,1))=LL at*;generalize gR p=er at*;generalize Pv.aH p.data.toList=a at*;go_enter func100,ntmps100;by_cases h0:p.size=0
 ·have HE:Hid (0=er):=E0.out h0
  have HP:Hid (RR=LL):=by show RR=LL;rw[HRR.out,←HE.out];exact ai rfl
  have kd:=kd h0;rw[cY h0] at he;clear HRR kp kn E0 E1 E2
  go_wp2_with (go_at_call 146;fail)
  go_at_call 146;refine kd.mono ?_;rintro e w2 ⟨rfl,h2,ht⟩;have HS2:Hid (aF w2 sb mb (rev+LL.2) (fe ms ix LL.1)):=h2;have HT2:Hid (aj (fun b=>b=sb∨b=mb) w w2):=ht;clear kd h2 ht;go_wp2;go_ret;rw[HP.out];exact⟨fF HE.out,HS2.out,HT2.out⟩
 ·have kp:=kp h0
  rw[bI h0] at he
  go_wp2_with (go_at_call 147;fail)
  go_at_call 147;refine kn.mono ?_;rintro e w1 ⟨rfl,hb1⟩;clear kn kd;have kp:=kp w1 hb1;cases a
  ·have HE:Hid (2=er):=E1.out h0 rfl
   have HP:Hid (RR=(root,0)):=by show RR=_;rw[HRR.out,←HE.out];exact af (by decide)
   have HS2:Hid (aF w1 sb mb rev (fe ms ix root)):=HS.out.below hb1;clear HRR E0 E1 E2 kp;go_wp2;go_ret;rw[HP.out];exact⟨fF HE.out,HS2.out,aj.of_below hb1⟩
  ·have HE:Hid (0=er):=E2.out rfl
   have HP:Hid (RR=LL):=by show RR=LL;rw[HRR.out,←HE.out];exact ai rfl
   clear HRR E0 E1 E2
   go_wp2_with (go_at_call 110;fail)
   go_at_call 110;refine kp.mono ?_;rintro e w2 ⟨rfl,h2,ht⟩;have HS2:Hid (aF w2 sb mb (rev+LL.2) (fe ms ix LL.1)):=h2;have HT2:Hid (aj (fun b=>b=sb∨b=mb) w w2):=(aj.of_below hb1).trans ht (fun _ _ e=>e) (fun _ _ e=>e);clear kp h2 ht hb1;go_wp2;go_ret;rw[HP.out];exact⟨fF HE.out,HS2.out,HT2.out⟩
end Ed
namespace Ed
variable{w w':World}{sb mb pb rev:Nat}{ms ix:List Tt}{root:ByteArray}
theorem zy{R:World→Prop}{r:Int}(p v s:ByteArray)(w:World)(hc:w.cell? ⟨pb,0,none⟩=some (.pointer (some ⟨sb,0,none⟩)))
  (k:Calls prog 62 #[.pointer (some ⟨sb,0,none⟩),.string p,.string v,.string s] w fun e w'=>e=.returned (.int .i64 r)∧R w'):
  Calls prog 32 #[.pointer (some ⟨pb,0,none⟩),.string p,.string v,.string s] w fun e w'=>e=.returned (.int .i64 r)∧R w':=by
 go_enter func32,ntmps32
 go_wp2_with (go_at_call 62;fail)
 go_at_call 62;refine k.mono ?_;rintro e w1 ⟨rfl,h⟩;have H:Hid (R w1):=h;clear h k hc;go_wp2;go_ret;exact⟨rfl,H.out⟩
theorem FL{R:World→Prop}{r:Int}(p s:ByteArray)(w:World)(hc:w.cell? ⟨pb,0,none⟩=some (.pointer (some ⟨sb,0,none⟩)))
  (k:Calls prog 101 #[.pointer (some ⟨sb,0,none⟩),.string p,.string s] w fun e w'=>e=.returned (.int .i64 r)∧R w'):
  Calls prog 57 #[.pointer (some ⟨pb,0,none⟩),.string p,.string s] w fun e w'=>e=.returned (.int .i64 r)∧R w':=by
 go_enter func57,ntmps57
 go_wp2_with (go_at_call 101;fail)
 go_at_call 101;refine k.mono ?_;rintro e w1 ⟨rfl,h⟩;have H:Hid (R w1):=h;clear h k hc;go_wp2;go_ret;exact⟨rfl,H.out⟩
theorem Ij{R:World→Prop}{r:Int}(p:ByteArray)(w:World)(hc:w.cell? ⟨pb,0,none⟩=some (.pointer (some ⟨sb,0,none⟩)))
  (k:Calls prog 100 #[.pointer (some ⟨sb,0,none⟩),.string p] w fun e w'=>e=.returned (.int .i64 r)∧R w'):
  Calls prog 56 #[.pointer (some ⟨pb,0,none⟩),.string p] w fun e w'=>e=.returned (.int .i64 r)∧R w':=by
 go_enter func56,ntmps56
 go_wp2_with (go_at_call 100;fail)
 go_at_call 100;refine k.mono ?_;rintro e w1 ⟨rfl,h⟩;have H:Hid (R w1):=h;clear h k hc;go_wp2;go_ret;exact⟨rfl,H.out⟩
theorem sQ{L:List (Value×Value)}(w:World)(h:aF w sb mb rev L):
  Calls prog 71 #[.pointer (some ⟨sb,0,none⟩)] w fun e w'=>e=.returned (.int .i64 rev)∧w'=w:=by
 have c1:=h.f1.1;clear h;go_enter func71,ntmps71;go_wp2;go_ret;exact⟨rfl,rfl⟩
theorem FM{L:List (Value×Value)}(w:World)(hc:w.cell? ⟨pb,0,none⟩=some (.pointer (some ⟨sb,0,none⟩)))(h:aF w sb mb rev L):
  Calls prog 43 #[.pointer (some ⟨pb,0,none⟩)] w fun e w'=>e=.returned (.int .i64 rev)∧w'=w:=by
 have k:=sQ w h;clear h;go_enter func43,ntmps43
 go_wp2_with (go_at_call 71;fail)
 go_at_call 71;refine k.mono ?_;intro e w1 h1;rw[h1.1,h1.2];clear k h1 hc;go_wp2;go_ret;exact⟨rfl,rfl⟩
theorem fg(w:World)(cs:Array Value)(t:TypeId){j:Nat}{u:Value}(h:cs[j]?=some u):Fd (w.alloc (.cells cs t)) w.heap.size j u:=by
 have b0:(w.alloc (.cells cs t)).heap[w.heap.size]?=some (.cells cs t):=by
  show(w.heap.push _)[w.heap.size]?=_;simp
 refine⟨?_,?_⟩
 ·simp only[World.cell?,b0];exact h
 ·simp only[World.frozen?,b0];simp
theorem QP(w:World):
  Calls prog 63 #[] w fun e w'=>e=.returned (.pointer (some ⟨w.heap.size+1,0,none⟩))∧aF w' (w.heap.size+1) w.heap.size 0 []∧Below w.heap.size w w':=by
 have HM:Hid (Mp.MapAt prog 188 (w.alloc (.map #[] 0)) w.heap.size []):=Mp.made w prog 188;have hmm:=@run_makeMap prog;go_enter func63,ntmps63;go_wp2;go_ret;have hs:(w.alloc (.map #[] 0)).heap.size=w.heap.size+1:=by simp
 have hf:=fun j u=>fg (w.alloc (.map #[] 0)) #[.map (some w.heap.size),.int .i64 0] 191 (j:=j) (u:=u)
 rw[hs] at hf;refine⟨rfl,⟨hf 0 _ rfl,hf 1 _ rfl,HM.out.of_block (aI _ _ _ (by simp)),fun x hx=>(by cases hx),by omega⟩,?_⟩;exact((ae w.heap.size w).alloc (ag _) _).alloc (by simp) _
